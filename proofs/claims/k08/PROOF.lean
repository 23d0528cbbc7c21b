import PyProof.Rows.All
import Wide.All
import OpenK.AllK
import Wide.FinOn
import HandS.ForMost
import HandS.WideBits
import HandS.Wide
import HandS.IsInst
import HandS.Property
import HandS.MakeKwOnly
import HandS.Defaults
import HandS.OwnEq
import HandS.Steps
import HandS.TupLe
import KE.GoesMore
import HandS.TupSets
import HandS.SetFor
import HandS.Strs
import PyProof.Rows.SortShellAny
import HandS.Words
import HandS.Style
import HandS.WordsDict
import HandS.More
import PyProof.Rows.RegStrFacts
import HandS.RaiseMore
import HandS.Text
import HandS.StrMore
import HandS.FStr
import KE.KCallOwn
import PyProof.EqKinds
import PyProof.Raises
import HandS.ClsMeth
import HandS.CallLocal
import HandS.Walk
import HandS.Iter
import KE.KOpsOwn
import PyProof.TwoTypes
import HandS.TupAny
import HandS.Star
import HandS.Zip
import KE.KTupSum
import HandS.SetBool
import KE.GoesNew
import HandS.DictComp
import HandS.ExcInit
import HandS.ExcIs
import HandS.ExcField
import HandS.TryMany
import HandS.WordsExc
import HandS.CallSlots
import KE.KExcIs
import KE.KExcInit
import HandS.HotCalls
import HandS.Lambda
import HandS.EndTab
import KE.KExcLine
import PySem.Challenge.RW_ringvotes_k08_sums_of_names
set_option Elab.async false
set_option maxRecDepth 100000
set_option maxHeartbeats 8000000
/-! What every law of this program shares: the well from which it draws, what is known of the heap, the end. -/
namespace RV
open PySem L2

/-! ### what is known of the heap -/
/-- a list of three ints from which numbers are drawn, at a; at most n draws so far -/
def WellAt (H : Hp) (a : Addr) (n : Nat) : Prop :=
  ∃ x y z : Int, H a = some (.lst [.int x, .int y, .int z]) ∧ (0 ≤ x ∧ x < 2147483629) ∧ 0 ≤ y ∧ (0 ≤ z ∧ z ≤ n)
/-- all but the well stands as it stood -/
def Grow (a : Addr) (H H' : Hp) : Prop := ∀ b o, b ≠ a → H b = some o → H' b = some o
theorem Grow.refl (a : Addr) (H : Hp) : Grow a H H := fun _ _ _ h => h
theorem Grow.trans {a : Addr} {H H1 H2 : Hp} (g : Grow a H H1) (k : Grow a H1 H2) : Grow a H H2 := fun b o n h => k b o n (g b o n h)
theorem Grow.new {a p : Addr} {H : Hp} {o : HO} (np : H p = none) : Grow a H (upd H p o) := fun b u _ h => by
  rw [upd_ne (ne_of_none h np)]
  exact h
/-- from the heap H0 on all but the well at a is kept; the well; things that stand elsewhere -/
structure Has (H0 : Hp) (a : Addr) (n : Nat) (L : List (Addr × HO)) (H : Hp) : Prop where
  gr : Grow a H0 H
  well : WellAt H a n
  here : ∀ p ∈ L, p.1 ≠ a ∧ H p.1 = some p.2
section
variable {a p : Addr} {n m : Nat} {L : List (Addr × HO)} {H0 H H' : Hp} {o : HO}
theorem Has.start (w : WellAt H a n) : Has H a n [] H := ⟨Grow.refl a H, w, fun _ hp => nomatch hp⟩
theorem Has.grow (h : Has H0 a n L H) (g : Grow a H H') (w : WellAt H' a m) : Has H0 a m L H' := ⟨h.gr.trans g, w, fun p hp => ⟨(h.here p hp).1, g _ _ (h.here p hp).1 (h.here p hp).2⟩⟩
theorem Has.new (h : Has H0 a n L H) (np : H p = none) : Has H0 a n ((p, o) :: L) (upd H p o) := by
  obtain ⟨g, ⟨x, y, z, e, r⟩, k⟩ := h
  refine ⟨g.trans (Grow.new np), ⟨x, y, z, by rw [upd_ne (ne_of_none e np)]; exact e, r⟩, fun q hq => ?_⟩
  rcases List.mem_cons.mp hq with rfl | hq
  · refine ⟨?_, upd_same⟩
    intro w
    have w' : p = a := w
    rw [w', e] at np
    cases np
  · exact ⟨(k q hq).1, by rw [upd_ne (ne_of_none (k q hq).2 np)]; exact (k q hq).2⟩
theorem Has.at (h : Has H0 a n L H) (hp : (p, o) ∈ L) : H p = some o := (h.here _ hp).2
theorem Has.sub {L' : List (Addr × HO)} (h : Has H0 a n L H) (s : ∀ p ∈ L', p ∈ L) : Has H0 a n L' H := ⟨h.gr, h.well, fun p hp => h.here p (s p hp)⟩
end

/-! ### the end -/
def spLaw (K : PySem.W.Frag) : Sp := fun vs H Q _ => ∃ (a : Addr) (ns : List Int), vs = [.ref a] ∧ SqL K H a (ns.map V.int) ∧ ns.length ≤ 63 ∧ ∀ H', Q (.bl true) H'
end RV
namespace RV
open PySem L2
section
variable {σ : L2.St} {H : Hp} {t : TT} {ta tb : TE} {Q : VK} {b : Bool}
/-- an int on either way: what follows is shown once -/
theorem tif_int (ht : Ans t σ H b) (ha : b = true → ∃ z : Int, Val ta σ H (.int z)) (hb : b = false → ∃ z : Int, Val tb σ H (.int z)) (k : ∀ z : Int, Q (.int z) H) : tIf t ta tb σ H Q := by
  refine ht _ ?_
  cases b with
  | true => exact iteT (let ⟨z, h⟩ := ha rfl; h _ (k z))
  | false => exact iteF (let ⟨z, h⟩ := hb rfl; h _ (k z))
end
/-- a function of the module, as its callers see it -/
def Fn (P : Program) (w : World) (K : PySem.W.Frag) (mg : Str → Option Value) (base : Heap) (x : Str) (k : Nat) (ps : List Str) (sp : Sp) : Prop :=
  ∃ f fd, mg x = some (.ref f) ∧ PySem.W.keepIn K (.ref f) = true ∧ Binds K fd ps [] ∧ FnOk P w K mg base CX0 k f fd ps sp
section
variable {X : Cx} {x : Str} {k : Nat} {ps : List Str} {sp : Sp} {e : Expr} {es : List Expr} {t : TA} {p pos : Pos}
theorem pe_fn (h : Fn X.prog X.w X.K X.mg X.base x k ps sp) (hr : Room k X.A) (ha : PA X (e :: es) t) (hg : Gl X x := by rfl) (hdb : (x == ("__debug__" : Str)) = false := by decide)
    (he : starEach (e :: es) X.env = (false, eval e X.env) :: starEach es X.env := by rfl) (hpl : (backTo pos (starEach es X.env)).any (·.1) = false := by rfl) :
    PE X (.Call (.Name x p) (e :: es) [] pos) (tCall sp [] E0 t) := by
  obtain ⟨f, fd, hm, hk, hb, F⟩ := h
  exact pe_call F hr hg hm hk hb .nil pass0 ha hdb he hpl
/-- a text, an int of the module's top -/
theorem pe_gS {z : Str} (h : ∃ u, X.mg x = some u ∧ RelV (.str z) u) (hg : Gl X x := by rfl) (hd : (x == ("__debug__" : Str)) = false := by decide) : PE X (.Name x pos) (tC (.str z)) := by
  obtain ⟨u, hm, r⟩ := h
  exact pe_glob hg hm r hd
theorem pe_gI {z : Int} (h : ∃ u, X.mg x = some u ∧ RelV (.int z) u) (hg : Gl X x := by rfl) (hd : (x == ("__debug__" : Str)) = false := by decide) : PE X (.Name x pos) (tC (.int z)) := by
  obtain ⟨u, hm, r⟩ := h
  exact pe_glob hg hm r hd
theorem pe_gC {C : Addr} (hm : X.mg x = some (.ref C)) (hg : Gl X x := by rfl) (hd : (x == ("__debug__" : Str)) = false := by decide) : PE X (.Name x pos) (tC (.ref C)) := pe_glob hg hm rfl hd
end
end RV
namespace RV
open PySem L2
/-! the same rules where the written part is a letter (within a comprehension's block) -/
section
variable {X : Cx} {K : PySem.W.Frag}
theorem op_notInK (h : X.K = K := by rfl) : OpR X (compareOp .NotIn) (rIn K true) := h ▸ op_notIn_seq
theorem call_isiK (h : X.K = K := by rfl) : CallR X (.builtin "isinstance") (rIsi K) := h ▸ call_isi
def rLenQ (K : PySem.W.Frag) : List V → Hp → VK → Prop := fun xs H Q => ∃ p ys, xs = [.ref p] ∧ (SqL K H p ys ∨ SqT K H p ys) ∧ Q (.int ys.length) H
end
end RV
/-! Names: what they are, by their signs. -/
namespace RV
open PySem L2
def lowC (c : Nat) : Bool := decide (97 ≤ c) && decide (c ≤ 122)
def digC (c : Nat) : Bool := decide (48 ≤ c) && decide (c ≤ 57)
def tailC (c : Nat) : Bool := lowC c || digC c
/-- one to eight signs, letters and digits, a letter first -/
def isNm : List Nat → Bool
  | [] => false
  | c :: r => lowC c && r.all tailC && decide (r.length ≤ 7)
def IsNm (x : Str) : Prop := isNm x.cps.toList = true
abbrev cd (x : Str) : List Nat := x.cps.toList
theorem cd_inj {x y : Str} (h : cd x = cd y) : x = y := PyProof.Rows.ext_toList h
theorem cd_app (x y : Str) : cd (x ++ y) = cd x ++ cd y := by
  show (x ++ y).cps.toList = _
  exact Array.toList_append
theorem cd_len (x : Str) : x.length = (cd x).length := by
  show x.cps.size = x.cps.toList.length
  rw [Array.length_toList]
theorem cd_one (c : Nat) : cd ⟨#[c]⟩ = [c] := rfl
theorem isNm_iff {l : List Nat} : isNm l = true ↔ ∃ c r, l = c :: r ∧ lowC c = true ∧ r.all tailC = true ∧ r.length ≤ 7 := by
  cases l with
  | nil => simp [isNm]
  | cons c r =>
    constructor
    · intro h
      simp only [isNm, Bool.and_eq_true, decide_eq_true_eq] at h
      exact ⟨c, r, rfl, h.1.1, h.1.2, h.2⟩
    · rintro ⟨c', r', e, h1, h2, h3⟩
      cases e
      simp [isNm, h1, h2, h3]
theorem isNm_len {l : List Nat} (h : isNm l = true) : 1 ≤ l.length ∧ l.length ≤ 8 := by
  obtain ⟨c, r, rfl, _, _, h3⟩ := isNm_iff.mp h
  simp
  omega
theorem isNm_snoc {l : List Nat} {c : Nat} (h : isNm l = true) (hl : l.length ≤ 7) (hc : tailC c = true) : isNm (l ++ [c]) = true := by
  obtain ⟨d, r, rfl, h1, h2, _⟩ := isNm_iff.mp h
  refine isNm_iff.mpr ⟨d, r ++ [c], rfl, h1, ?_, ?_⟩
  · rw [List.all_append, h2]
    simp [hc]
  · simp at hl ⊢
    omega
theorem tail_of_low {c : Nat} (h : lowC c = true) : tailC c = true := by simp [tailC, h]
theorem isNm_all {l : List Nat} (h : isNm l = true) : l.all tailC = true := by
  obtain ⟨d, r, rfl, h1, h2, _⟩ := isNm_iff.mp h
  simp only [List.all_cons, tail_of_low h1, h2, Bool.and_self]
def signs : Str := "abcdefghijklmnopqrstuvwxyz0123456789"
theorem cd_signs : cd signs = [97, 98, 99, 100, 101, 102, 103, 104, 105, 106, 107, 108, 109, 110, 111, 112, 113, 114, 115, 116, 117, 118, 119, 120, 121, 122, 48, 49, 50, 51, 52, 53, 54, 55, 56, 57] := by decide +kernel
theorem sign_low : ∀ i : Fin 26, ∃ c, (cd signs)[i.val]? = some c ∧ lowC c = true := by
  rw [cd_signs]
  intro i
  have h : ∀ i : Fin 26, (match ([97, 98, 99, 100, 101, 102, 103, 104, 105, 106, 107, 108, 109, 110, 111, 112, 113, 114, 115, 116, 117, 118, 119, 120, 121, 122, 48, 49, 50, 51, 52, 53, 54, 55, 56, 57] : List Nat)[i.val]? with | some c => lowC c | none => false) = true := by decide
  have hi := h i
  split at hi
  · rename_i c e
    exact ⟨c, e, hi⟩
  · cases hi
theorem sign_tail : ∀ i : Fin 36, ∃ c, (cd signs)[i.val]? = some c ∧ tailC c = true := by
  rw [cd_signs]
  intro i
  have h : ∀ i : Fin 36, (match ([97, 98, 99, 100, 101, 102, 103, 104, 105, 106, 107, 108, 109, 110, 111, 112, 113, 114, 115, 116, 117, 118, 119, 120, 121, 122, 48, 49, 50, 51, 52, 53, 54, 55, 56, 57] : List Nat)[i.val]? with | some c => tailC c | none => false) = true := by decide
  have hi := h i
  split at hi
  · rename_i c e
    exact ⟨c, e, hi⟩
  · cases hi
theorem at_low {r : Int} (h0 : 0 ≤ r) (h : r < 26) : ∃ c, atI (cd signs) r = some c ∧ lowC c = true := by
  obtain ⟨n, rfl⟩ := Int.eq_ofNat_of_zero_le h0
  obtain ⟨c, e, hc⟩ := sign_low ⟨n, by omega⟩
  exact ⟨c, atI_nat e, hc⟩
theorem at_tail {r : Int} (h0 : 0 ≤ r) (h : r < 36) : ∃ c, atI (cd signs) r = some c ∧ tailC c = true := by
  obtain ⟨n, rfl⟩ := Int.eq_ofNat_of_zero_le h0
  obtain ⟨c, e, hc⟩ := sign_tail ⟨n, by omega⟩
  exact ⟨c, atI_nat e, hc⟩
theorem at_of_list {α : Type} {l : List α} {P : α → Prop} (h : ∀ x ∈ l, P x) {r : Int} (h0 : 0 ≤ r) (h1 : r < l.length) : ∃ c, atI l r = some c ∧ P c ∧ c ∈ l := by
  obtain ⟨n, rfl⟩ := Int.eq_ofNat_of_zero_le h0
  have hn : n < l.length := by omega
  exact ⟨l[n], atI_nat (List.getElem?_eq_getElem hn), h _ (List.getElem_mem hn), List.getElem_mem hn⟩
/-! slices of texts -/
theorem cd_cutS (z : Str) (lo hi : Option Int) : cd (cutS z lo hi) = ((cd z).drop (HT.sIx z.length 0 lo)).take (HT.sIx z.length z.length hi - HT.sIx z.length 0 lo) := by
  show (((z.cps.toList.drop _).take _).toArray).toList = _
  rfl
theorem sIx_some (n d : Nat) (k : Nat) : HT.sIx n d (some (k : Int)) = min k n := by
  unfold HT.sIx
  simp
  omega
theorem sIx_none (n d : Nat) : HT.sIx n d none = d := rfl
theorem cd_pre (z : Str) (k : Nat) : cd (cutS z none (some (k : Int))) = (cd z).take k := by
  rw [cd_cutS, sIx_none, sIx_some, List.drop_zero, Nat.sub_zero, cd_len]
  rw [← List.take_take, List.take_length]
theorem inV_str (x : Str) (xs : List Str) : inV (.str x) (xs.map V.str) = decide (x ∈ xs) := by
  induction xs with
  | nil => rfl
  | cons y ys ih =>
    show (eqV (.str y) (.str x) || inV (.str x) (ys.map V.str)) = _
    rw [ih]
    show ((y == x) || decide (x ∈ ys)) = _
    by_cases e : y = x
    · subst e
      simp
    · have e' : ¬ x = y := fun h => e h.symm
      simp [e, e']
theorem flat_str (xs : List Str) : (xs.map V.str).all flatV = true := by
  rw [List.all_eq_true]
  intro v hv
  obtain ⟨x, _, rfl⟩ := List.mem_map.mp hv
  rfl
/-- of more different things than a list has one is not in it -/
theorem one_free {α : Type} [DecidableEq α] : ∀ {ys xs : List α}, ys.Nodup → xs.length < ys.length → ∃ y ∈ ys, y ∉ xs
  | [], xs, _, h => by simp at h
  | y :: ys, xs, hn, h => by
    by_cases hy : y ∈ xs
    · obtain ⟨hy', hn'⟩ := List.nodup_cons.mp hn
      have hl : (xs.erase y).length < ys.length := by
        rw [List.length_erase_of_mem hy]
        have : 0 < xs.length := List.length_pos_of_mem hy
        simp at h
        omega
      obtain ⟨z, hz, hzx⟩ := one_free hn' hl
      refine ⟨z, List.mem_cons_of_mem _ hz, fun q => hzx ?_⟩
      have hne : z ≠ y := fun e => hy' (e ▸ hz)
      exact (List.mem_erase_of_ne hne).mpr q
    · exact ⟨y, List.mem_cons_self, hy⟩
/-! walks over any thing that is walked in order -/
theorem lc_it {J : It} {n : Nat} {g : TG} {tt : TT} {te : TE} {vs : List Nat} {σ : L2.St} {H1 : Hp} {D : Addr} {Qd : Hp → Prop} (Pv : Nat → Hp → Prop)
    (hgo : ∀ i H, i < n → Pv i H → J.go i H) (hst : ∀ H, Pv n H → J.stop n H) (h0 : Pv 0 (upd H1 D (.lst [])))
    (hs : ∀ i x H H', i < n → Pv i H → J.yld i H x H' → g x (wipe σ vs) H' fun σ2 H2 => wipe σ2 vs = wipe σ vs ∧ tt σ2 H2 fun b H3 =>
      if b = true then te σ2 H3 fun y H4 => ∃ acc, H4 D = some (.lst acc) ∧ acc.length < sizeLine ∧ Pv (i + 1) (upd H4 D (.lst (acc ++ [y]))) else Pv (i + 1) H3) (hd : ∀ H, Pv n H → Qd H) :
    ∃ W : Nat → Nat → Hp → Prop, (∃ m, W 0 m (upd H1 D (.lst []))) ∧ ∀ i m H, W i m H →
      (J.stop i H ∧ Qd H) ∨ (J.go i H ∧ ∃ Nx : Hp → Prop, (∀ H', Nx H' → ∃ m', m' < m ∧ W (i + 1) m' H') ∧ ∀ x H', J.yld i H x H' → g x (wipe σ vs) H' fun σ2 H2 => wipe σ2 vs = wipe σ vs ∧ tt σ2 H2 fun b H3 =>
        if b = true then te σ2 H3 fun y H4 => ∃ acc, H4 D = some (.lst acc) ∧ acc.length < sizeLine ∧ Nx (upd H4 D (.lst (acc ++ [y]))) else Nx H3) := by
  refine ⟨fun i m H => m = n - i ∧ i ≤ n ∧ Pv i H, ⟨n, by simp, Nat.zero_le _, h0⟩, ?_⟩
  rintro i m H ⟨rfl, hi, p⟩
  by_cases hlt : i < n
  · refine .inr ⟨hgo i H hlt p, Pv (i + 1), fun H' p' => ⟨n - (i + 1), by omega, rfl, hlt, p'⟩, fun x H' y => ?_⟩
    exact hs i x H H' hlt p y
  · have e : i = n := by omega
    subst e
    exact .inl ⟨hst H p, hd H p⟩
theorem lc_str {z : Str} {g : TG} {tt : TT} {te : TE} {vs : List Nat} {σ : L2.St} {H1 : Hp} {D : Addr} {Qd : Hp → Prop} (Pv : Nat → Hp → Prop) (h0 : Pv 0 (upd H1 D (.lst [])))
    (hs : ∀ i c H, (cd z)[i]? = some c → Pv i H → g (.str ⟨#[c]⟩) (wipe σ vs) H fun σ2 H2 => wipe σ2 vs = wipe σ vs ∧ tt σ2 H2 fun b H3 =>
      if b = true then te σ2 H3 fun y H4 => ∃ acc, H4 D = some (.lst acc) ∧ acc.length < sizeLine ∧ Pv (i + 1) (upd H4 D (.lst (acc ++ [y]))) else Pv (i + 1) H3) (hd : ∀ H, Pv (cd z).length H → Qd H) :
    ∃ W : Nat → Nat → Hp → Prop, (∃ m, W 0 m (upd H1 D (.lst []))) ∧ ∀ i m H, W i m H →
      ((Its z).stop i H ∧ Qd H) ∨ ((Its z).go i H ∧ ∃ Nx : Hp → Prop, (∀ H', Nx H' → ∃ m', m' < m ∧ W (i + 1) m' H') ∧ ∀ x H', (Its z).yld i H x H' → g x (wipe σ vs) H' fun σ2 H2 => wipe σ2 vs = wipe σ vs ∧ tt σ2 H2 fun b H3 =>
        if b = true then te σ2 H3 fun y H4 => ∃ acc, H4 D = some (.lst acc) ∧ acc.length < sizeLine ∧ Nx (upd H4 D (.lst (acc ++ [y]))) else Nx H3) :=
  lc_it (J := Its z) (n := (cd z).length) Pv (fun i _ h _ => by
    show i < z.cps.size
    rwa [← Array.length_toList]) (fun _ _ => by
    show z.cps.size ≤ (cd z).length
    rw [← Array.length_toList]
    exact Nat.le_refl _) h0 (fun i x H H' hi p y => by
    obtain ⟨e, c, hc, ex⟩ := y
    subst e ex
    exact hs i c H' (by rw [← hc]; exact Array.getElem?_toList ..) p) hd
end RV
namespace RV
open PySem L2
/-- what follows a statement is shown once, from what the statement leaves -/
theorem seq_of {t R : TS} {D : Ends} {σ : L2.St} {H : Hp} (mid : L2.St → Hp → Prop) (h2 : ∀ σ' H', mid σ' H' → R D σ' H') (h1 : ∀ N : L2.St → Hp → Prop, (∀ σ' H', mid σ' H' → N σ' H') → t { D with nx := N } σ H) : tSeq t R D σ H := h1 (R D) h2
theorem szn {n : Nat} (h : n ≤ 1000) : n ≤ sizeLine := Nat.le_trans h (by decide)
theorem strOk_nm {x : Str} (h : IsNm x) : PyData.strOk x = true := by
  have h1 := List.all_eq_true.mp (isNm_all h)
  unfold PyData.strOk
  rw [← Array.all_toList, List.all_eq_true]
  intro c hc
  have q := h1 c hc
  simp only [tailC, lowC, digC, Bool.or_eq_true, Bool.and_eq_true, decide_eq_true_eq] at q
  exact decide_eq_true (by omega)
end RV
/-! Rules for own classes: ==, !=, truth; repr of data. -/
namespace PySem.W
open PySem PySem.Calls PyProof.Rows Builtin
section
variable {prog : Program} {w : World} {A : Around} {E : Value → Shared → Prop} {s : Shared} {K : Frag} {x C L f : Addr} {h₀ : Heap} {m : Str → Option Value} {ox : Obj} {od : Option Obj} {b tb : Value}
/-- the default !=, by the class's own == that gives a bool -/
theorem rv_ne_K {Q : Value → Shared → Prop} (hu : A.units + 1 < cLine) (F : Fr h₀ L s.heap m) (X₀ : K.In h₀) (I : InstAt s.heap x ox C od) (hb : Looks (model prog w) s.heap (typeOf b) tb) (hn : notFirst K C tb = true)
    (hs : findIn K (.ref C) "__eq__" = some (some (.ref f))) (hf : isFn K (.ref f) = true) (hne : findIn K (.ref C) "__ne__" = some (some (.builtin "object.__ne__"))) (hob : subIn K (.ref C) (.type "object") = some true)
    (h : wpAny (model prog w) A.in1 (call (.ref f) [.ref x, b]) (fun v s' => ∃ c, v = .bool c ∧ Q (.bool (!c)) s') E s) : wpAny (model prog w) A (richCompare .NotEq (.ref x) b) Q E s := by
  have X := X₀.keeps F.keep
  have entry : wpAny (model prog w) A.in1 (Builtin.«object.__ne__» ⟨[.ref x, b], []⟩) (fun fin s' => ∃ v, fin = .done (.ret v) ∧ ∃ c, v = .bool (!c) ∧ Q (.bool (!c)) s') E s := by
    unfold Builtin.«object.__ne__»
    refine wpAny_bind (m := slotArgs "__ne__" 1 _) (wpAny_pure ?_)
    refine wpAny_bind (wpAny_cRoomFor (show A.units + 1 < cLine from hu) ?_)
    refine wpAny_bind (m := callSpecialIfBound? (.ref x) (Str.ofString "__eq__") [b]) (ifBound_K X I hs hf (wpAny_mono h (fun v s' hv => ?_) fun _ _ e => e))
    obtain ⟨c, rfl, hq⟩ := hv
    refine wpAny_bind (m := truthy (.bool c)) (wpAny_truthy_bool ?_)
    exact wpAny_pure ⟨_, rfl, c, rfl, hq⟩
  have chk : wpAny (model prog w) A.in1 (checkBuiltinCall "object.__ne__" ⟨[.ref x, b], []⟩) (fun _ s1 => s1 = s) E s := by
    simp only [checkBuiltinCall, PySem.F.cmpKind_ne, PySem.F.cmpSplit_ne]
    refine wpAny_bind ?_
    unfold isInstance
    refine wpAny_bind (I.type.here ?_)
    refine (looks_subIn X hob).here ?_
    have ha : argsOk "object.__ne__" ⟨[.ref x, b], []⟩ := PySem.F.cmpArgs_ne _ _
    cases hsig : Manifest.signature? "object.__ne__" with
    | none => exact wpAny_pure rfl
    | some sig =>
      simp only [argsOk, hsig] at ha
      have h2 : Bind.checkArgs "object.__ne__" sig ⟨[.ref x, b], []⟩ = pure () := ha
      show wpAny _ A.in1 (Bind.checkArgs "object.__ne__" sig ⟨[.ref x, b], []⟩) _ E _
      rw [h2]
      exact wpAny_pure rfl
  have callne : wpAny (model prog w) A (call (.builtin "object.__ne__") [.ref x, b]) (fun v s' => ∃ c, v = .bool (!c) ∧ Q (.bool (!c)) s') E s := by
    refine wpAny_call (codeAny_call_builtin PySem.F.slot_object_ne.plain PySem.F.cmpEntry_ne (wpAny_mono chk (fun _ s1 e => ?_) fun _ _ e => e))
    subst e
    refine wpAny_mono entry (fun fin s' hq => ?_) fun _ _ e => e
    obtain ⟨v, rfl, c, rfl, q⟩ := hq
    exact ⟨c, rfl, q⟩
  have one : wpAny (model prog w) A (tryCompare (.ref x) "__ne__" b) (fun r s' => ∃ v, r = some v ∧ Q v s') E s := by
    unfold tryCompare
    refine wpAny_bind (m := callSpecialIfBound? (.ref x) (Str.ofString "__ne__") [b]) ?_
    simp only [callSpecialIfBound?, bindSpecialIfBound?]
    refine wpAny_holding (wpAny_bind (wpAny_bind (wpAny_bind (I.type.here ((looks_findIn X hne).here ?_)))))
    simp only [PySem.F.slot_object_ne.bind]
    refine wpAny_bind (wpAny_askSetting (wpAny_ite ?_))
    have fin : ∀ R : Option Value → Shared → Prop, (∀ (c : Bool) s', Q (.bool (!c)) s' → R (some (.bool (!c))) s') → wpAny (model prog w) A (call (.builtin "object.__ne__") ([.ref x] ++ [b]) >>= fun v => pure (some v)) R E s := by
      intro R hR
      refine wpAny_bind (wpAny_mono callne (fun v s' hq => ?_) fun _ _ e => e)
      obtain ⟨c, rfl, q⟩ := hq
      exact wpAny_pure (hR c s' q)
    split
    · exact wpAny_bind (wpAny_pure (wpAny_pure (fin _ fun c s' q => wpAny_pure ⟨_, rfl, q⟩)))
    · exact wpAny_tryCatch (wpAny_bind (wpAny_pure (wpAny_pure (fin _ fun c s' q => wpAny_pure ⟨_, rfl, q⟩))))
  unfold richCompare
  simp only [oneThing_ref]
  refine wpAny_holding (wpAny_bind (wpAny_cRoomFor (Nat.lt_of_succ_lt hu) ?_))
  rw [cmpInfo_NotEq]
  dsimp only
  refine wpAny_bind (I.type.here (wpAny_bind (hb.here ?_)))
  split
  · rename_i q
    have e : subIn K tb (.ref C) = some false := by
      rcases Bool.or_eq_true_iff.mp hn with e | e
      · rw [beq_iff_eq.mp e] at q; simp at q
      · exact beq_iff_eq.mp e
    refine wpAny_bind ((looks_subIn X e).here ?_)
    simp only [Bool.false_eq_true, if_false]
    refine wpAny_bind (wpAny_mono one (fun r s' z => ?_) fun _ _ e => e)
    obtain ⟨v, rfl, hq⟩ := z
    exact wpAny_pure hq
  · refine wpAny_bind (wpAny_pure ?_)
    simp only [Bool.false_eq_true, if_false]
    refine wpAny_bind (wpAny_mono one (fun r s' z => ?_) fun _ _ e => e)
    obtain ⟨v, rfl, hq⟩ := z
    exact wpAny_pure hq
end
end PySem.W

namespace RV
open PySem L2
/-- the kind of a value, for a comparison -/
inductive TyL (H : Hp) : V → Value → Prop where
  | non : TyL H .non (.type "NoneType")
  | bl (b : Bool) : TyL H (.bl b) (.type "bool")
  | int (i : Int) : TyL H (.int i) (.type "int")
  | str (x : Str) : TyL H (.str x) (.type "str")
  | lst {a : Addr} {xs : List V} (e : H a = some (.lst xs)) : TyL H (.ref a) (.type "list")
  | tup {a : Addr} {xs : List V} (e : H a = some (.tup xs)) : TyL H (.ref a) (.type "tuple")
  | dK {a : Addr} {kvs : List (Key × V)} (e : H a = some (.dK kvs)) : TyL H (.ref a) (.type "dict")
  | ins {a C dx : Addr} {fs : List (Str × V)} (e : H a = some (.ins C dx fs)) : TyL H (.ref a) (.ref C)
section
variable {X : Cx} {pins : List (Addr × Obj)} {σ : L2.St} {H : Hp} {s : Shared}
theorem looks_obj {M : Model} {h : Heap} {a : Addr} {o : Obj} {t : Value} (e : h.get? a = some o) (c : o.cls = t) : PySem.W.Looks M h (typeOf (.ref a)) t := by
  intro A Q E s k q
  exact wpAny_typeOf_ref (k _ _ e) (c ▸ q)
theorem TyL.looks (I : Inv X pins σ H s) {v : V} {u t : Value} (r : RelV v u) (ty : TyL H v t) : PySem.W.Looks (model X.prog X.w) s.heap (typeOf u) t := by
  cases ty with
  | non => cases r; exact PySem.W.Looks.of_pure rfl
  | bl b => cases r; exact PySem.W.Looks.of_pure rfl
  | int i => obtain ⟨_, rfl⟩ := r; exact PySem.W.Looks.of_pure rfl
  | str x => obtain ⟨_, rfl⟩ := r; exact PySem.W.Looks.of_pure rfl
  | lst e => cases r; obtain ⟨_, _, _, _, g⟩ := I.hok _ _ e; exact looks_obj g rfl
  | tup e => cases r; obtain ⟨_, _, _, o, g, c, _⟩ := I.hok _ _ e; exact looks_obj g c
  | dK e => cases r; obtain ⟨_, _, _, _, o, es, ep, g, c, _⟩ := I.hok _ _ e; exact looks_obj g c.1
  | ins e => cases r; obtain ⟨mA, J, _⟩ := ins_get I.hok e; obtain ⟨od, J, _⟩ := J.look; exact J.type

/-- the class C has an own == that promises sp, and no own != -/
structure OwnEq (P : Program) (w : World) (K : PySem.W.Frag) (mg : Str → Option Value) (base : Heap) (C : Addr) (k : Nat) (sp : Sp) : Prop where
  fn : ∃ f fd ps, PySem.W.findIn K (.ref C) "__eq__" = some (some (.ref f)) ∧ PySem.W.isFn K (.ref f) = true ∧ Binds K fd ps [] ∧ FnOk P w K mg base CX0 k f fd ps sp
  ne : PySem.W.findIn K (.ref C) "__ne__" = some (some (.builtin "object.__ne__"))
  ob : PySem.W.subIn K (.ref C) (.type "object") = some true
@[irreducible] def rEqO (neg : Bool) (K : PySem.W.Frag) (C : Addr) (sp : Sp) : R2 := fun x y H Q => ∃ a dx fs t, x = .ref a ∧ H a = some (.ins C dx fs) ∧ TyL H y t ∧ PySem.W.notFirst K C t = true ∧
  sp [x, y] H (fun v H' => ∃ b, v = .bl b ∧ Q (.bl (if neg then !b else b)) H') E0
variable {P : Program} {w : World} {K : PySem.W.Frag} {mg : Str → Option Value} {base : Heap} {C : Addr} {k : Nat} {sp : Sp}
theorem call_own {A : Around} {f : Addr} {fd : FuncData} {ps : List Str} {Q : VK} {x y : V} {u v : Value} (F : FnOk X.prog X.w X.K X.mg X.base CX0 k f fd ps sp) (hb : Binds X.K fd ps []) (hr : Room k A) (hf : A.frames = X.A.frames)
    (I : Inv X pins σ H s) (rx : RelV x u) (ry : RelV y v) (hsp : sp [x, y] H Q E0) : wpAny (model X.prog X.w) A (call (.ref f) [u, v]) (EP X pins σ Q) X.xe s := by
  have e0 : Env0 X.prog X.w X.K X.mg X.base A X.stack s H := by
    have e := I.env0
    exact ⟨by rw [hf]; exact e.frames, e.mod, e.bs, e.bsz, e.funs, e.frf, e.hok, e.bare⟩
  have hl := F.len _ _ _ _ hsp
  have r2 : Vals [x, y] [u, v] := .cons rx (.cons ry .nil)
  refine wpAny_call (codeAny_mono (F.run A X.stack s H ⟨[u, v], []⟩ [u, v] [x, y] _ E0 hr e0 (by
    have := hb s [u, v] I.kIn (by simpa using hl)
    simpa using this) r2 hsp) fun r s' hq => ?_)
  cases r with
  | error e => exact (hq : False).elim
  | ok fl =>
    cases fl with
    | ret w => exact I.after hq
    | next => exact False.elim hq
    | brk => exact False.elim hq
    | cont => exact False.elim hq
theorem op_eqO (h : OwnEq X.prog X.w X.K X.mg X.base C k sp) (hr : Room k X.A) : OpR X (compareOp .Eq) (rEqO false X.K C sp) := by
  intro pins s σ H x y v u Q I rx ry hq
  unfold rEqO at hq
  obtain ⟨a, dx, fs, t, rfl, ha, ty, hn, hsp⟩ := hq
  obtain ⟨f, fd, ps, hs, hf, hb, F⟩ := h.fn
  have rx' := rx
  cases rx
  have lb := ty.looks I ry
  obtain ⟨mA, J, _⟩ := ins_get I.hok ha
  obtain ⟨od, J, _⟩ := J.look
  obtain ⟨m, hF⟩ := I.fr
  show wpAny (model X.prog X.w) X.A (richCompare .Eq (.ref a) u) (EP X pins σ Q) X.xe s
  refine PySem.W.cmp_K (op := .Eq) (tb := t) hr.units0 hF I.ok.mod.kin J lb hn hs hf ?_
  refine wpAny_mono (call_own F hb hr rfl I rx' ry hsp) (fun r s' z => ?_) fun _ _ x => x
  obtain ⟨v, H', I', rv, b, ev, q⟩ := z
  subst ev
  cases rv
  exact ⟨.bl b, H', I', rfl, q⟩
theorem op_eqOK (h : OwnEq P w K mg base C k sp) (hr : Room k X.A) (e : X.prog = P ∧ X.w = w ∧ X.K = K ∧ X.mg = mg ∧ X.base = base := by exact ⟨rfl, rfl, rfl, rfl, rfl⟩) : OpR X (compareOp .Eq) (rEqO false K C sp) := by
  obtain ⟨rfl, rfl, rfl, rfl, rfl⟩ := e
  exact op_eqO h hr
/-- an instance of a class without a truth or a length of its own is true -/
def rTrO (C : Addr) : V → Hp → (Bool → Hp → Prop) → Prop := fun x H Q => ∃ a dx fs, x = .ref a ∧ H a = some (.ins C dx fs) ∧ Q true H
/-! ### repr -/
mutual
theorem Dp.noDict {K : PySem.W.Frag} {H : Hp} : ∀ {v : V} {d : PyData}, Dp K H v d → d.hasDict = false
  | _, _, .non => by simp [PyData.hasDict]
  | _, _, .bl _ => by simp [PyData.hasDict]
  | _, _, .int _ => by simp [PyData.hasDict]
  | _, _, .str _ => by simp [PyData.hasDict]
  | _, _, .lst _ h => by simp [PyData.hasDict, DpAll.noDict h]
  | _, _, .tup _ h => by simp [PyData.hasDict, DpAll.noDict h]
theorem DpAll.noDict {K : PySem.W.Frag} {H : Hp} : ∀ {vs : List V} {ds : List PyData}, DpAll K H vs ds → PyData.hasDictAll ds = false
  | _, _, .nil => by simp [PyData.hasDictAll]
  | _, _, .cons h t => by simp [PyData.hasDictAll, Dp.noDict h, DpAll.noDict t]
end
@[irreducible] def rRepr (K : PySem.W.Frag) : List V → Hp → VK → Prop := fun xs H Q => ∃ a d, xs = [.ref a] ∧ Dp K H (.ref a) d ∧ d.showable = true ∧ d.depth ≤ 60 ∧ d.shown.length ≤ sizeLine ∧ Q (.str d.shown) H
theorem call_reprD (hu : X.A.units + 64 < cLine) (hg : X.A.guards = some []) : CallR X (.builtin "repr") (rRepr X.K) := by
  intro pins s σ H xs us Q I r h
  unfold rRepr at h
  obtain ⟨a, d, rfl, hd, hs, hdp, hsz, q⟩ := h
  obtain ⟨as, rd⟩ := Dp.reads I d _ _ hd (rfl : RelV (.ref a) (.ref a))
  have eu : us = [.ref a] := by
    cases r with
    | cons r1 r2 => cases r2; cases r1; rfl
  subst eu
  have nod : d.hasDict = true → sysModules ∉ as := fun hh => by
    rw [Dp.noDict hd] at hh
    cases hh
  refine repr_of_reads' rd hs nod hg (by omega) (fun _ _ e => e) (fun h' u tk hk => ⟨.str d.shown, H, I.kept hk, ⟨u, rfl⟩, q⟩) hsz
end
end RV
/-! Defs that must not run within a repr: as FnOk, but only where no repr is under way. -/
namespace RV
open PySem L2 PyProof.Rows
section
variable {P : Program} {w : World} {K : PySem.W.Frag} {mg : Str → Option Value} {base : Heap}
structure FnG (P : Program) (w : World) (K : PySem.W.Frag) (mg : Str → Option Value) (base : Heap) (k : Nat) (f : Addr) (fd : FuncData) (ps : List Str) (sp : Sp) : Prop where
  len : ∀ vs H Q E, sp vs H Q E → vs.length = ps.length
  run : ∀ (A : Around) (outer : List Env) (s : Shared) (H : Hp) (args : Args) (us : List Value) (vs : List V) (Q : VK) (E : XK), A.guards = some [] → Room k A → Env0 P w K mg base A outer s H → BindsTo s fd args (ps.zip us) → Vals vs us → sp vs H Q E →
    codeAny (model P w) A (.call (.ref f) args) (CR CX0 outer P w H s Q E) s
theorem gFun {x qual : Str} {st : Stmt} {f : Addr} {fd : FuncData} {N ps : List Str} {k : Nat} {sp : Sp} (F : Fun K x qual st f fd) (S : FnScope N ps (defScope st)) (len : ∀ vs H Q E, sp vs H Q E → vs.length = ps.length)
    (hbody : ∀ (cdv : Value) (A : Around) (outer : List Env) (s : Shared) (H : Hp) (vs : List V) (Q : VK) (E : XK), (A.deeper (envOfC qual (defScope st) s.heap.objs.size f cdv)).guards = some [] → Room k (A.deeper (envOfC qual (defScope st) s.heap.objs.size f cdv)) → sp vs H Q E →
      ∃ t, PSs (cxOf CX0 P w K mg base N qual (defScope st) f cdv A outer s H E).nox (defBody st) t ∧ t { nx := fun _ H' => Q .non H', rt := Q } (start N vs) H) : FnG P w K mg base (k + 1) f fd ps sp := by
  refine ⟨len, fun A outer s H args us vs Q E gs hr e0 hb r hsp => ?_⟩


  obtain ⟨oc, od, kV, doc, pm, an, cdv, ct, osl, rfl, lk, hcd⟩ := F.ex
  have hl := len _ _ _ _ hsp
  have KX : K.In s.heap := e0.mod.kin.keeps fun b o e => (e0.bs b o e).1
  have lim := e0.mod.nolimit.keeps fun b o e => (e0.bs b o e).1
  refine codeAny_call_function hr.depth (KX _ _ lk) rfl S.co S.gen rfl (PySem.W.codeRec_of KX hcd) (hb _ _ _ _ ?_)
  refine wpAny_newFunctionEnv_cells S.kind (fun y hy => ?_) fun env he s1 x => ?_
  · have hin : y.1 ∈ ps := by
      obtain ⟨n, v⟩ := y
      exact (List.of_mem_zip hy).1
    exact (S.par _ hin).imp id fun q => ⟨q, PySem.W.cellsFrom_some _ _ _ (.inl q)⟩
  subst he
  refine ⟨lim.keeps x.toInCall.keep, codeAny_func ?_⟩
  obtain ⟨t, ht, hq⟩ := hbody cdv A outer s H vs Q E gs (hr.deeper _) hsp
  have I := inv_start (CX := CX0) (cd := cdv) (E := E) S hr.hd e0 hl r x
  refine wpAny_mono (ht.nox.run [] s1 (start N vs) H _ I hq) (fun fl s' hs => ?_) fun _ _ hs => hs
  match fl, hs with
  | .ret u, ⟨v, _, H', J, rv, q⟩ => exact ⟨v, H', J.os, J.bare, J.base, J.hok, rv, q⟩
  | .next, ⟨_, H', J, q⟩ => exact ⟨V.non, H', J.os, J.bare, J.base, J.hok, rfl, q⟩
  | .brk, ⟨_, _, _, q⟩ => exact q.elim
  | .cont, ⟨_, _, _, q⟩ => exact q.elim
/-- such a function of the module, as its callers see it -/
def FnGd (P : Program) (w : World) (K : PySem.W.Frag) (mg : Str → Option Value) (base : Heap) (x : Str) (k : Nat) (ps : List Str) (sp : Sp) : Prop :=
  ∃ f fd, mg x = some (.ref f) ∧ PySem.W.keepIn K (.ref f) = true ∧ Binds K fd ps [] ∧ FnG P w K mg base k f fd ps sp
end
section
variable {X : Cx} {x : Str} {k : Nat} {ps : List Str} {sp : Sp} {e : Expr} {es : List Expr} {t : TA} {p pos : Pos}
theorem pe_fnG (h : FnGd X.prog X.w X.K X.mg X.base x k ps sp) (gs : X.A.guards = some []) (hr : Room k X.A) (ha : PA X (e :: es) t) (hg : Gl X x := by rfl) (hdb : (x == ("__debug__" : Str)) = false := by decide)
    (he : starEach (e :: es) X.env = (false, eval e X.env) :: starEach es X.env := by rfl) (hpl : (backTo pos (starEach es X.env)).any (·.1) = false := by rfl) :
    PE X (.Call (.Name x p) (e :: es) [] pos) (tCall sp [] E0 t) := by
  obtain ⟨f, fd, hm, hk, hb, F⟩ := h
  refine ⟨fun pins s σ H Q I h => wpAny_Call_Name_kw (ld_glob I hg hm ?_ hdb)⟩
  refine PySem.W.callWith_K (h₀ := X.base) I.ok.mod.kin hk (thn (ha.run pos pins s σ H _ I h) fun us s1 ⟨vs, H1, I1, r, q⟩ => ⟨I1.kIn, ?_⟩) he hpl
  have q' : sp vs H1 Q E0 := by rw [← List.append_nil vs]; exact q
  have hl : us.length = ps.length := r.length ▸ F.len _ _ _ _ q'
  have hbb : BindsTo s1 fd ⟨us, []⟩ (ps.zip us) := by
    have z := hb s1 us I1.kIn (by rw [List.append_nil]; exact hl)
    rwa [List.append_nil] at z
  refine wpAny_call (codeAny_mono (F.run X.A X.stack s1 H1 ⟨us, []⟩ us vs Q E0 gs hr I1.env0 hbb r q') fun res s' hq => ?_)
  match res, hq with
  | .ok (.ret u), hq => exact I1.after hq
  | .ok .next, hq => exact False.elim hq
  | .ok .brk, hq => exact False.elim hq
  | .ok .cont, hq => exact False.elim hq
  | .error e, hq => exact False.elim hq
end
/-- the law's own call: nothing is tracked but the script -/
theorem callG {P : Program} {w : World} {K : PySem.W.Frag} {mg mb : Str → Option Value} {k : Nat} {fa a : Addr} {fd : FuncData} {x : Str} {sp : Sp} {s₁ : Shared} {vs : List Value} {ns : List Int}
    (KX : K.In s₁.heap) (hns : s₁.heap.Ns mainGlobals mg) (hb : s₁.heap.Ns builtinsNs mb) (hbb : ∀ x : Str, x ≠ "__name__" → mb x = bootBuiltins x) (hlim : s₁.heap.NoLimit) (hg : s₁.gens = #[])
    (ha : s₁.heap.get? a = some { cls := .type "list", data := .seq vs.toArray }) (hi : IntsAre vs ns) (hl : ns.length ≤ sizeLine) (hr : Room k callerA)
    (F : ∀ base : Heap, K.In base → base.Ns mainGlobals mg → FnG P w K mg base k fa fd [x] sp) (hbind : ∀ (s : Shared) (u : Value), BindsTo s fd ⟨[u], []⟩ [(x, u)])
    (hsp : ∀ H : Hp, SqL K H a (ns.map V.int) → sp [.ref a] H (fun v _ => v = .bl true) E0) :
    codeAny (model P w) callerA (.call (.ref fa) ⟨[.ref a], []⟩) (fun r s' => r = .ok (.ret (.bool true)) ∧ OldK s₁.heap s'.heap ∧ s'.os = s₁.os ∧ AllBare s'.gens) s₁ := by
  have rv := vals_ints hi
  let scr : Obj := { cls := .type "list", data := .seq vs.toArray }
  -- H tracks at most the script, locked
  have core : ∀ H : Hp, (∀ b u, H b = some u → b = a ∧ u = .frz scr (.lst (ns.map V.int)) ∧ K.lookup a = none) → SqL K H a (ns.map V.int) →
      codeAny (model P w) callerA (.call (.ref fa) ⟨[.ref a], []⟩) (fun r s' => r = .ok (.ret (.bool true)) ∧ OldK s₁.heap s'.heap ∧ s'.os = s₁.os ∧ AllBare s'.gens) s₁ := by
    intro H hO hS
    have hok : HOk P w H s₁.heap := fun b u e => by
      obtain ⟨rfl, rfl, _⟩ := hO b u e
      exact ⟨ha, by rw [List.length_map]; exact hl, vs, _, rv, ha⟩
    have other : ∀ {b : Addr} {o : Obj}, s₁.heap.get? b = some o → o ≠ scr → H b = none := fun {b o} e d => by
      cases q : H b with
      | none => rfl
      | some u =>
        obtain ⟨rfl, _, _⟩ := hO b u q
        rw [ha] at e
        exact absurd (Option.some.inj e).symm d
    have spaces : ∀ {b : Addr} {m : Str → Option Value}, s₁.heap.Ns b m → (hidT s₁.heap H).Ns b m := fun {b m} z => by
      obtain ⟨o, es, ep, e, d, r⟩ := z
      refine ⟨o, es, ep, hidT_get e (other e fun q => ?_), d, r⟩
      subst q
      obtain ⟨_, d'⟩ := d
    have kin : K.In (hidT s₁.heap H) := fun b o e => hidT_get (KX b o e) (by
      cases q : H b with
      | none => rfl
      | some u =>
        obtain ⟨rfl, _, z⟩ := hO b u q
        rw [z] at e
        cases e)
    obtain ⟨mc, l1, l2⟩ := hlim
    have e0 : Env0 P w K mg (hidT s₁.heap H) callerA [] s₁ H :=
      { frames := rfl, mod := ⟨kin, spaces hns, ⟨mb, spaces hb, hbb⟩, ⟨mc, spaces l1, l2⟩⟩, bs := fun _ _ e => of_hidT e, bsz := Nat.le_of_eq (hidT_size _ _), funs := trivial, frf := fun _ hb => (nomatch hb), hok := hok, bare := .of_eq hg }
    refine codeAny_mono ((F _ kin (spaces hns)).run callerA [] s₁ H ⟨[.ref a], []⟩ [.ref a] [.ref a] _ _ rfl hr e0 (hbind s₁ (.ref a)) (.cons rfl .nil) (hsp H hS)) fun res s' z => ?_
    match res, z with
    | .ok (.ret u), ⟨v, H', os, bare, un, hok', rel, ev⟩ =>
      have ev' : v = .bl true := ev
      subst ev'
      have eu : u = Value.bool true := rel
      subst eu
      refine ⟨rfl, OldK.of_keep fun b o e => ?_, os, bare⟩
      cases q : H b with
      | none => exact un.keep b o e q (fun z => nomatch z) (fun z => nomatch z)
      | some u =>
        obtain ⟨rfl, rfl, _⟩ := hO b u q
        have z1 := (hok' b _ (un.frzs b _ _ q)).1
        rw [ha] at e
        rw [← e]
        exact z1
    | .ok .next, z => exact False.elim z
    | .ok .brk, z => exact False.elim z
    | .ok .cont, z => exact False.elim z
    | .error e, z => exact False.elim z
  cases hk : K.lookup a with
  | some o =>
    have e := KX a o hk
    rw [ha] at e
    cases e
    exact core (fun _ => none) (fun _ _ z => nomatch z) (.inr ⟨_, vs.toArray, _, hk, rfl, rfl, rfl, by rw [List.size_toArray, hi.length]; exact hl, by simpa using rv⟩)
  | none =>
    refine core (fun b => if b = a then some (.frz scr (.lst (ns.map V.int))) else none) (fun b u z => ?_) (.inl (.inr ⟨scr, if_pos rfl⟩))
    by_cases hb : b = a
    · rw [if_pos hb] at z
      exact ⟨hb, (Option.some.inj z).symm, hk⟩
    · rw [if_neg hb] at z
      cases z
theorem walkG (k : Nat) {l : PySem.W.OpenLaw} {q : Program} {loose : List Str} {XP : (Str → Option Value) → Heap → Prop} {YP : World → Heap → Prop} {d : DefRec} {K : Params → PySem.W.Frag} (hr : Room k callerA) (hn : l.most = some 63) (hdf : d.params.defaults = [])
    (hY : ∀ (w : World) (h : Heap), YP w h → (K w.params).In h)
    (F : ∀ (w : World) (mg : Str → Option Value) (fa : Addr) (h : Heap), (K w.params).In h → h.Ns mainGlobals mg → mg d.name = some (.ref fa) →
      ∃ fd : FuncData, (∀ (s : Shared) (u : Value), BindsTo s fd ⟨[u], []⟩ [("_law_cells", u)]) ∧ ∀ base : Heap, (K w.params).In base → base.Ns mainGlobals mg → FnG l.prog w (K w.params) mg base k fa fd ["_law_cells"] (spLaw (K w.params))) :
    PySem.W.WalkO q loose XP YP l.row.toRowW d [] (fun f vs => PySem.call f vs) := by
  refine Att.attach_call hn hdf fun w s₀ s₁ mg mb fa o pm cd doc a vs ns G Y ho hd hcd hmg hobj hints hlen hg => ?_
  obtain ⟨fd, hb, hF⟩ := F w mg fa _ (hY w _ Y) G.T.g hmg
  exact callG (hY w _ Y) G.T.g G.T.b G.T.builtins G.T.nolimit hg hobj hints (Nat.le_trans hlen (by decide)) hr hF hb fun H hS => ⟨a, ns, rfl, hS, hlen, fun _ => rfl⟩
end RV
/-! Classes of the text, as their callers see them. -/
namespace RV
open PySem L2 PyProof.Rows
/-- the class x of the module stands at C; C(..) of positional values, the defaults dvs behind them -/
def Mkr (P : Program) (w : World) (K : PySem.W.Frag) (mg : Str → Option Value) (base : Heap) (x : Str) (C : Addr) (k : Nat) (sp : Sp) (dvs : List V) : Prop :=
  mg x = some (.ref C) ∧ ∃ f fd ps ds, Mk K C f ∧ Binds K fd ps ds ∧ Vals dvs ds ∧ FnOk P w K mg base CX0 k f fd ps sp
def MkrK (P : Program) (w : World) (K : PySem.W.Frag) (mg : Str → Option Value) (base : Heap) (x : Str) (C : Addr) (k n : Nat) (ks : List Str) (sp : Sp) (gV : List V → List V → List V) : Prop :=
  mg x = some (.ref C) ∧ ∃ f fd ps g, Mk K C f ∧ KBn K fd ps (n + 1) ks g gV ∧ FnOk P w K mg base CX0 k f fd ps sp
/-- what isinstance asks of a class of the text -/
structure ClsX (K : PySem.W.Frag) (C : Addr) : Prop where
  cl : Cls K C
  ha : PySem.W.findIn K (.ref C) "__class__" = some (some (.builtin "object.__class__"))
  hn : PySem.W.specialIn K (.builtin "object.__class__") "__get__" = some (some (.builtin "getset_descriptor.__get__"))
  htk : PySem.W.takesIn K (.builtin "object.__class__") = some true
  hm : PySem.W.mroIn K C (.type "object") = some true
theorem ClsX.ty {K : PySem.W.Frag} {C a dx : Addr} {H : Hp} {fs : List (Str × V)} (c : ClsX K C) (e : H a = some (.ins C dx fs)) : TyX K H (.ref a) (.ref C) := .base (.ins e c.cl c.ha c.hn c.htk c.hm)
/-- a property -/
def Prp (P : Program) (w : World) (K : PySem.W.Frag) (mg : Str → Option Value) (base : Heap) (C : Addr) (f : Str) (k : Nat) (sp : Sp) : Prop :=
  Cls K C ∧ ∃ p g fd ps, PropOf K C f p g ∧ Binds K fd ps [] ∧ FnOk P w K mg base CX0 k g fd ps sp
section
variable {X : Cx} {x f : Str} {C : Addr} {k n : Nat} {ks : List Str} {sp : Sp} {dvs : List V} {gV : List V → List V → List V} {e : Expr} {es : List Expr} {kws : List Keyword} {t tk : TA} {ta : TE} {p pos : Pos}
theorem pe_mk (h : Mkr X.prog X.w X.K X.mg X.base x C k sp dvs) (hr : Room (k + 1) X.A) (ha : PA X (e :: es) t) (hg : Gl X x := by rfl) (hdb : (x == ("__debug__" : Str)) = false := by decide)
    (he : starEach (e :: es) X.env = (false, eval e X.env) :: starEach es X.env := by rfl) (hpl : (backTo pos (starEach es X.env)).any (·.1) = false := by rfl) : PE X (.Call (.Name x p) (e :: es) [] pos) (tMake C sp dvs E0 t) := by
  obtain ⟨hm, f, fd, ps, ds, M, hb, hd, F⟩ := h
  exact pe_make M F hr hg hm hb hd pass0 ha hdb he hpl
theorem pe_propN (h : Prp X.prog X.w X.K X.mg X.base C f k sp) (hr : Room (k + 1) X.A) (he : PE X e ta) (hab : attributeBase e f X.env (eval e X.env) = eval e X.env := by rfl) : PE X (.Attribute e f pos) (tProp C sp [] E0 ta) := by
  obtain ⟨c, q, g, fd, ps, hp, hb, F⟩ := h
  exact pe_prop he c hp F hr hb .nil pass0 hab
end
end RV
/-! What is known of the heap, step by step; repr of lists of short things. -/
namespace RV
open PySem L2 PyProof.Rows
/-- the built-in names that the text uses are still the built-ins -/
structure Blt (mg : Str → Option Value) : Prop where
  b_len : mg "len" = none
  b_int : mg "int" = none
  b_abs : mg "abs" = none
  b_max : mg "max" = none
  b_min : mg "min" = none
  b_all : mg "all" = none
  b_any : mg "any" = none
  b_repr : mg "repr" = none
  b_range : mg "range" = none
  b_divmod : mg "divmod" = none
  b_isinstance : mg "isinstance" = none
  b_str : mg "str" = none

/-! ### the well -/
def sp_well (K : PySem.W.Frag) : Sp := fun vs H Q _ => ∃ (c : Addr) (ns : List Int) (k : Nat), vs = [.ref c, .int k] ∧ SqL K H c (ns.map V.int) ∧ ns.length ≤ 63 ∧ k ≤ 100 ∧
  ∀ a H', H a = none → Same H H' → WellAt H' a 0 → Q (.ref a) H'
def sp_dip : Sp := fun vs H Q _ => ∃ (a : Addr) (m : Int) (n : Nat), vs = [.ref a, .int m] ∧ WellAt H a n ∧ n < 1000000 ∧ 0 < m ∧ m ≤ 10 ^ 60 ∧
  ∀ (r : Int) H', 0 ≤ r → r < m → Grow a H H' → WellAt H' a (n + 1) → Q (.int r) H'
theorem WellAt.mono {H : Hp} {a : Addr} {n m : Nat} (w : WellAt H a n) (h : n ≤ m) : WellAt H a m := by
  obtain ⟨x, y, z, e, hx, hy, hz⟩ := w
  exact ⟨x, y, z, e, hx, hy, by omega, by omega⟩
theorem WellAt.new {H : Hp} {a p : Addr} {n : Nat} {o : HO} (w : WellAt H a n) (np : H p = none) : WellAt (upd H p o) a n := by
  obtain ⟨x, y, z, e, hx, hy, hz⟩ := w
  exact ⟨x, y, z, by rw [upd_ne (ne_of_none e np)]; exact e, hx, hy, hz⟩
theorem WellAt.ne {H : Hp} {a p : Addr} {n : Nat} (w : WellAt H a n) (np : H p = none) : a ≠ p := by
  obtain ⟨x, y, z, e, _⟩ := w
  exact ne_of_none e np
def sp_name : Sp := fun vs H Q _ => ∃ (a : Addr) (n : Nat), vs = [.ref a] ∧ WellAt H a n ∧ n < 900000 ∧
  ∀ (x : Str) H', IsNm x → Grow a H H' → WellAt H' a (n + 10) → Q (.str x) H'
def sp_fresh : Sp := fun vs H Q _ => ∃ (a t : Addr) (n : Nat) (xs : List Str), vs = [.ref a, .ref t] ∧ WellAt H a n ∧ n < 800000 ∧ H t = some (.lst (xs.map V.str)) ∧ t ≠ a ∧ (∀ x ∈ xs, IsNm x) ∧ xs.length ≤ 35 ∧
  ∀ (x : Str) H', IsNm x → x ∉ xs → Grow a H H' → WellAt H' a (n + 13) → Q (.str x) H'
/-- the names that differ from x in their last sign alone -/
def cands (x : Str) : List Str := (cd signs).map fun c => cutS x none (some 7) ++ ⟨#[c]⟩
theorem cand_cd (x : Str) (c : Nat) : cd (cutS x none (some 7) ++ ⟨#[c]⟩) = (cd x).take 7 ++ [c] := by
  rw [cd_app, cd_one]
  exact congrArg (· ++ [c]) (cd_pre x 7)
theorem nodup_map {α β : Type} {f : α → β} (hf : ∀ a b, f a = f b → a = b) : ∀ {l : List α}, l.Nodup → (l.map f).Nodup
  | [], _ => List.nodup_nil
  | a :: l, h => by
    obtain ⟨h1, h2⟩ := List.nodup_cons.mp h
    rw [List.map_cons, List.nodup_cons]
    refine ⟨fun hm => ?_, nodup_map hf h2⟩
    obtain ⟨b, hb, e⟩ := List.mem_map.mp hm
    exact h1 (hf _ _ e ▸ hb)
theorem cands_nodup (x : Str) : (cands x).Nodup := by
  refine nodup_map (fun a b e => ?_) (by rw [cd_signs]; decide)
  have e2 := congrArg cd e
  rw [cand_cd, cand_cd] at e2
  have e3 := List.append_cancel_left e2
  exact (List.cons.inj e3).1
theorem cands_len (x : Str) : (cands x).length = 36 := by
  unfold cands
  rw [List.length_map, cd_signs]
  rfl
/-- what is_name says of any value whose kind is known -/
def sp_is_name (K : PySem.W.Frag) : Sp := fun vs H Q _ => ∃ v, vs = [v] ∧ ((∃ x : Str, v = .str x ∧ x.length ≤ sizeLine ∧ ∀ H', Same H H' → Q (.bl (isNm (cd x))) H') ∨
  (∃ t, TyX K H v t ∧ PySem.W.kitOne K t (.type "str") = some false ∧ Q (.bl false) H))
structure Cst (mg : Str → Option Value) : Prop where
  c__LETTERS : ∃ u, mg "_LETTERS" = some u ∧ RelV (.str "abcdefghijklmnopqrstuvwxyz") u
  c__DIGITS : ∃ u, mg "_DIGITS" = some u ∧ RelV (.str "0123456789") u
  c__LONGEST_NAME : ∃ u, mg "_LONGEST_NAME" = some u ∧ RelV (.int 8) u
theorem cd_letters : cd "abcdefghijklmnopqrstuvwxyz" = [97, 98, 99, 100, 101, 102, 103, 104, 105, 106, 107, 108, 109, 110, 111, 112, 113, 114, 115, 116, 117, 118, 119, 120, 121, 122] := by decide +kernel
theorem cd_digits : cd "0123456789" = [48, 49, 50, 51, 52, 53, 54, 55, 56, 57] := by decide +kernel
theorem low_in (c : Nat) : decide (c ∈ cd "abcdefghijklmnopqrstuvwxyz") = lowC c := by
  rw [cd_letters]
  simp only [lowC]
  by_cases h : 97 ≤ c ∧ c ≤ 122
  · have : c = 97 ∨ c = 98 ∨ c = 99 ∨ c = 100 ∨ c = 101 ∨ c = 102 ∨ c = 103 ∨ c = 104 ∨ c = 105 ∨ c = 106 ∨ c = 107 ∨ c = 108 ∨ c = 109 ∨ c = 110 ∨ c = 111 ∨ c = 112 ∨ c = 113 ∨ c = 114 ∨ c = 115 ∨ c = 116 ∨ c = 117 ∨ c = 118 ∨ c = 119 ∨ c = 120 ∨ c = 121 ∨ c = 122 := by omega
    rcases this with e | e | e | e | e | e | e | e | e | e | e | e | e | e | e | e | e | e | e | e | e | e | e | e | e | e <;> subst e <;> decide
  · have h1 : (decide (97 ≤ c) && decide (c ≤ 122)) = false := by
      simp only [Bool.and_eq_false_iff, decide_eq_false_iff_not]
      omega
    rw [h1]
    simp only [decide_eq_false_iff_not, List.mem_cons, List.not_mem_nil, or_false]
    omega
theorem tail_in (c : Nat) : decide (c ∈ cd (("abcdefghijklmnopqrstuvwxyz" : Str) ++ ("0123456789" : Str))) = tailC c := by
  rw [cd_app]
  have h2 : decide (c ∈ cd "0123456789") = digC c := by
    rw [cd_digits]
    simp only [digC]
    by_cases h : 48 ≤ c ∧ c ≤ 57
    · have : c = 48 ∨ c = 49 ∨ c = 50 ∨ c = 51 ∨ c = 52 ∨ c = 53 ∨ c = 54 ∨ c = 55 ∨ c = 56 ∨ c = 57 := by omega
      rcases this with e | e | e | e | e | e | e | e | e | e <;> subst e <;> decide
    · have h1 : (decide (48 ≤ c) && decide (c ≤ 57)) = false := by
        simp only [Bool.and_eq_false_iff, decide_eq_false_iff_not]
        omega
      rw [h1]
      simp only [decide_eq_false_iff_not, List.mem_cons, List.not_mem_nil, or_false]
      omega
  rw [tailC, ← low_in, ← h2]
  by_cases a : c ∈ cd "abcdefghijklmnopqrstuvwxyz" <;> by_cases b : c ∈ cd "0123456789" <;> simp [a, b]
/-- a promise that the unifier does not open -/
@[irreducible] def Irr (sp : Sp) : Sp := sp
theorem irr {sp : Sp} {vs : List V} {H : Hp} {Q : VK} {E : XK} (h : sp vs H Q E) : Irr sp vs H Q E := by unfold Irr; exact h
theorem irr_of {sp : Sp} {vs : List V} {H : Hp} {Q : VK} {E : XK} (h : Irr sp vs H Q E) : sp vs H Q E := by unfold Irr at h; exact h
theorem Fn.irr {P : Program} {w : World} {K : PySem.W.Frag} {mg : Str → Option Value} {base : Heap} {x : Str} {k : Nat} {ps : List Str} {sp : Sp} (h : Fn P w K mg base x k ps sp) : Fn P w K mg base x k ps (Irr sp) := by
  obtain ⟨f, fd, a, b, c, F⟩ := h
  exact ⟨f, fd, a, b, c, F.imp fun _ _ _ _ z => irr_of z⟩
theorem Mkr.irr {P : Program} {w : World} {K : PySem.W.Frag} {mg : Str → Option Value} {base : Heap} {x : Str} {C : Addr} {k : Nat} {sp : Sp} {dvs : List V} (h : Mkr P w K mg base x C k sp dvs) : Mkr P w K mg base x C k (Irr sp) dvs := by
  obtain ⟨m, f, fd, ps, ds, a, b, c, F⟩ := h
  exact ⟨m, f, fd, ps, ds, a, b, c, F.imp fun _ _ _ _ z => irr_of z⟩
section
variable {a p x : Addr} {n m : Nat} {L : List (Addr × HO)} {H0 H : Hp} {o : HO} {Q : VK} {E : XK}
theorem Has.ne (h : Has H0 a n L H) (np : H p = none) : p ≠ a := (h.well.ne np).symm
theorem Has.none0 (h : Has H0 a n L H) (np : H p = none) : H0 p = none := by
  cases e : H0 p with
  | none => rfl
  | some o =>
    rw [h.gr p o (h.ne np) e] at np
    cases np
/-- a thing that is not among them changes -/
theorem Has.put (h : Has H0 a n L H) (h0 : H0 p = none) (hp : ∀ q ∈ L, q.1 ≠ p) (pa : p ≠ a) : Has H0 a n L (upd H p o) := by
  obtain ⟨g, ⟨x, y, z, e, r⟩, k⟩ := h
  refine ⟨fun b u hb eb => ?_, ⟨x, y, z, by rw [upd_ne pa.symm]; exact e, r⟩, fun q hq => ⟨(k q hq).1, by rw [upd_ne (hp q hq)]; exact (k q hq).2⟩⟩
  rw [upd_ne (ne_of_none eb h0)]
  exact g b u hb eb
theorem Has.same (h : Has H0 a n L H) {H' : Hp} (g : Same H H') : Has H0 a n L H' := by
  obtain ⟨g0, ⟨x, y, z, e, r⟩, k⟩ := h
  exact ⟨fun b u hb eb => g _ _ (g0 b u hb eb), ⟨x, y, z, g _ _ e, r⟩, fun q hq => ⟨(k q hq).1, g _ _ (k q hq).2⟩⟩
theorem dip_step {q : Int} (h : Has H0 a n L H) (hn : n < 1000000) (h0 : 0 < q) (h1 : q ≤ 10 ^ 60) (k : ∀ (r : Int) H', 0 ≤ r → r < q → Has H0 a (n + 1) L H' → Q (.int r) H') : Irr sp_dip [.ref a, .int q] H Q E :=
  irr ⟨a, q, n, rfl, h.well, hn, h0, h1, fun r H' r0 r1 g w => k r H' r0 r1 (h.grow g w)⟩
end
/-! ### short data -/
structure Short (d : PyData) : Prop where
  sh : d.showable = true
  dp : d.depth = 0
  ln : d.shown.length ≤ 100
theorem short_nm {x : Str} (h : IsNm x) : Short (.str x) := by
  refine ⟨by simp [PyData.showable], by simp [PyData.depth], ?_⟩
  have h1 := StrLaws.reprText_len x (fun c hc => by
    have q := List.all_eq_true.mp (isNm_all h) c hc
    simp only [tailC, lowC, digC, Bool.or_eq_true, Bool.and_eq_true, decide_eq_true_eq] at q
    omega)
  have h2 := isNm_len h
  rw [← cd_len] at h2
  have : (PyData.str x).shown = reprText x := by simp only [PyData.shown]
  rw [this]
  omega
end RV
/-! for i, x in enumerate(t), t a tuple. -/
namespace PySem
open AutoSeq1 (wpAny_loadPart')
set_option maxHeartbeats 4000000 in
theorem rv_meets_enum_tuple (l : Addr) (items : Array Value) (n : Nat) (dct : Option Addr) (sl : Array (Option Value)) :
    Meets (Builtin.«enumerate.__new__» ⟨[.type "enumerate", .ref l], []⟩) (fun _ R s => s.heap.get? l = some { cls := .type "tuple", dict := dct, data := .seq items n, slots := sl } ∧
      R (.ok (.ret (.ref (s.heap.push { cls := .type "tuple_iterator", data := .fields #[.ref l, .int 0 0] }).objs.size)))
        { s with heap := (s.heap.push { cls := .type "tuple_iterator", data := .fields #[.ref l, .int 0 0] }).push { cls := .type "enumerate", data := .fields #[.none, .bool false, .ref s.heap.objs.size, rawInt 0, .none, .none] } }) :=
  .of_wp fun prog w A R s h => by
    obtain ⟨hp, g, d, tk, os⟩ := s
    obtain ⟨hl, h⟩ := h
    have q := sub_enumerate
    have hT : Heap.IsTuple (Shared.heap ⟨hp, g, d, tk, os⟩) l items := ⟨_, hl, rfl, n, rfl⟩
    wp_walk using wpAny_loadPart' hl
    refine wpAny_stack_any fun st => wpAny_pure ?_
    split
    · rename_i c _ _ _ _ _
      cases (c == Value.type "enumerate") <;> (wp_walk using wpAny_loadPart' hl, wpAny_pyIter_tuple hT; exact ⟨_, rfl, h⟩)
    · wp_walk using wpAny_loadPart' hl, wpAny_pyIter_tuple hT
      exact ⟨_, rfl, h⟩
section
variable {prog : Program} {w : World} {A : Around} {E : Value → Shared → Prop} {s : Shared}
theorem rv_call_enum_tuple {l : Addr} {items : Array Value} {Q : Value → Shared → Prop} (hT : s.heap.IsTuple l items)
    (h : ∀ h', IsEnum h' (s.heap.objs.size + 1) s.heap.objs.size 0 .none → h'.IsTupleIter s.heap.objs.size l 0 → h'.objs.size = s.heap.objs.size + 2 → (∀ b o, s.heap.get? b = some o → h'.get? b = some o) → Q (.ref (s.heap.objs.size + 1)) { s with heap := h' }) :
    wpAny (model prog w) A (call (.type "enumerate") [.ref l]) Q E s := by
  obtain ⟨⟨c, dct, dt, sl⟩, hl, hc, n, hd⟩ := hT
  obtain rfl : c = .type "tuple" := hc
  obtain rfl : dt = .seq items n := hd
  refine callType_new F.called_enumerate (by decide) (F.typeCall_enumerate_1 _) (F.newCall_enumerate_1 _) (fun obj => F.args_object_init_2 obj _) F.entry_enumerate_new (rv_meets_enum_tuple l items n dct sl) ⟨hl, ?_⟩
  let h1 := s.heap.push { cls := .type "tuple_iterator", data := .fields #[.ref l, .int 0 0] }
  have z1 : h1.objs.size = s.heap.objs.size + 1 := Heap.size_push ..
  show _ ∧ _
  rw [show (s.heap.push { cls := .type "tuple_iterator", data := .fields #[.ref l, .int 0 0] }).objs.size = s.heap.objs.size + 1 from z1]
  have he : IsEnum (h1.push { cls := .type "enumerate", data := .fields #[.none, .bool false, .ref s.heap.objs.size, rawInt 0, .none, .none] }) (s.heap.objs.size + 1) s.heap.objs.size 0 .none := by
    have t := Heap.get?_push_size h1 (o := { cls := .type "enumerate", data := .fields #[.none, .bool false, .ref s.heap.objs.size, rawInt 0, .none, .none] }) rfl
    rw [z1] at t
    exact t
  exact ⟨⟨_, he, rfl⟩, h _ he ⟨_, Heap.get?_push_of_some _ (Heap.get?_push_size _ rfl), rfl, rfl⟩ (by rw [Heap.size_push, z1]) fun b o x => Heap.get?_push_of_some _ (Heap.get?_push_of_some _ x)⟩
end
end PySem
namespace RV
open PySem L2 PyProof.Rows
/-- the tuple at a, each item in a new pair with its number -/
def Iet (K : PySem.W.Frag) (a : Addr) : It :=
  ⟨fun i H => ∃ (xs : List V) (x : V), SqT K H a xs ∧ xs[i]? = some x, fun i H v H' => ∃ T x, v = .ref T ∧ H T = none ∧ H' = upd H T (.tup [.int (i : Nat), x]) ∧ ∀ xs, SqT K H a xs → xs[i]? = some x, fun i H => ∃ xs : List V, SqT K H a xs ∧ xs.length = i⟩
theorem turn_enumT {P : Program} {w : World} {K : PySem.W.Frag} {elts : List Expr} {kk : Nat} {tpos : Pos} (a e it : Addr) :
    Turn P w K (.Tuple elts kk tpos) (Iet K a) [e, it] e (fun i h => (∃ old, IsEnum h e it ((i : Nat) : Int) old) ∧ h.IsTupleIter it a i ∧ e ≠ it) where
  mem := List.Mem.head _
  obj := fun i h st b hb => by
    obtain ⟨⟨old, he⟩, ⟨o, ho, hc, hd⟩, _⟩ := st
    rcases (by simpa using hb : b = e ∨ b = it) with rfl | rfl
    · exact ⟨_, he, fun v q => nomatch q⟩
    · exact ⟨o, ho, fun v q => by rw [hd] at q; cases q⟩
  keep := fun i h h' st k => by
    obtain ⟨⟨old, he⟩, hi, hne⟩ := st
    exact ⟨⟨old, k e (List.Mem.head _) _ he⟩, hi.at fun o q => k it (.tail _ (.head _)) o q, hne⟩
  item := by
    intro X hP hw hK hc i pins s σ H E I hf st hg
    subst hP hw hK
    obtain ⟨⟨old, he⟩, hit, hne⟩ := st
    obtain ⟨xs, x, hq, hx⟩ := hg
    obtain ⟨its, rv, p, hz⟩ := I.tuple hq
    obtain ⟨u, hu, ru⟩ := rv.get hx
    have hel : e < s.heap.objs.size := Heap.lt_size he
    have hil : it < s.heap.objs.size := by obtain ⟨_, q, _⟩ := hit; exact Heap.lt_size q
    have pt : s.heap.IsTuple a its.toArray := p
    have ait : a ≠ it := fun z => by
      obtain ⟨o, ho, hc, _⟩ := hit
      obtain ⟨o', ho', hc', _⟩ := pt
      rw [z, ho] at ho'
      cases ho'
      rw [hc] at hc'
      injection hc' with q
      exact absurd q (by decide)
    have ae : a ≠ e := fun z => by
      obtain ⟨o', ho', hc', _⟩ := pt
      rw [z, he] at ho'
      cases ho'
      injection hc' with q
      exact absurd q (by decide)
    have lt : i < its.toArray.size := by
      have := (List.getElem?_eq_some_iff.mp hu).1
      simpa using this
    refine wpAny_pyNext_enum_itemD (Draws.tuple (A := X.A.in1) (I.ok.hd hc) it a ait its.toArray) he ⟨hit, pt⟩ lt hne (by simp [hne, ae.symm]) fun y h' tk hy ho hst hT hsz hk => ?_
    have ey : y = u := by
      have e1 : its.toArray[i]? = some u := by simpa using hu
      rw [e1] at hy
      exact (Option.some.inj hy).symm
    subst ey
    refine ⟨_, rfl, wpAny_letOwnedTupleGo_enum (s := { s with heap := h', toks := tk + 1 }) ho fun h'' he' sb => ?_⟩
    have hT2 : h''.get? s.heap.objs.size = some { cls := .type "tuple", data := .seq #[.int i tk, y] } := (sb.2 _ (Nat.ne_of_gt hel)).trans hT
    have new : ObjOk X.prog X.w (upd H s.heap.objs.size (.tup [.int (i : Nat), x])) h'' s.heap.objs.size (.tup [.int (i : Nat), x]) :=
      ⟨by show 2 ≤ sizeLine; decide, [.int i tk, y], .cons ⟨_, rfl⟩ (.cons ru .nil), ⟨_, hT2, rfl, _, rfl⟩⟩
    have I1 : Inv X pins σ (upd H s.heap.objs.size (.tup [.int (i : Nat), x])) { s with heap := h'', toks := tk + 1 } :=
      I.turnedNew (ch := [e, it]) (fun b ob hb q => (sb.2 b (fun z => hb (by simp [z]))).trans (hk b ob (fun z => hb (by simp [z])) (fun z => hb (by simp [z])) q)) hf (Nat.le_refl _) new
    refine ⟨.ref s.heap.objs.size, _, I1, rfl, ⟨_, x, rfl, I.hok.fresh (Nat.le_refl _), rfl, fun ys hy => by rw [I.tuple_inj hy hq]; exact hx⟩, ⟨⟨y, ?_⟩, hst.1.at fun o q => (sb.2 it (Ne.symm hne)).trans q, hne⟩, fun b hb => ?_⟩
    · rw [show ((i + 1 : Nat) : Int) = (i : Int) + 1 by omega]
      exact he'
    · have hb' : b < s.heap.objs.size := by
        rcases (by simpa using hb : b = e ∨ b = it) with rfl | rfl
        · exact hel
        · exact hil
      rw [upd_ne (Nat.ne_of_lt hb')]
      exact (hf b hb).1
  done := by
    intro X hP hw hK hc i pins s σ H E I hf st hg
    subst hP hw hK
    obtain ⟨⟨old, he⟩, hit, hne⟩ := st
    obtain ⟨xs, hq, hx⟩ := hg
    obtain ⟨its, rv, p, hz⟩ := I.tuple hq
    obtain ⟨f0, f1, f2, f3, f4, f5⟩ := hf it (by simp)
    have pt : s.heap.IsTuple a its.toArray := p
    have ait : a ≠ it := fun z => by
      obtain ⟨o, ho, hc, _⟩ := hit
      obtain ⟨o', ho', hc', _⟩ := pt
      rw [z, ho] at ho'
      cases ho'
      rw [hc] at hc'
      injection hc' with q
      exact absurd q (by decide)
    have en : i = its.toArray.size := by
      rw [List.size_toArray, ← rv.length]
      exact hx.symm
    subst en
    exact wpAny_pyNext_enum_endD (Draws.tuple (A := X.A.in1) (I.ok.hd hc) it a ait its.toArray) he ⟨hit, pt⟩ fun h' eb => ⟨rfl, I.turned (t' := s.toks) (fun b o hb q => eb b o hb q) f0 f1 f3 f4 f5⟩
  self := fun A i s Q E st h => let ⟨⟨_, he⟩, _⟩ := st; wpAny_pyIter_enum he h
def iEnumT (K : PySem.W.Frag) (ta : TA) : TI := fun σ H R => ta σ H fun vs H1 => ∃ a xs, vs = [.ref a] ∧ SqT K H1 a xs ∧ R (Iet K a) H1
theorem pi_enumT {X : Cx} {e : Expr} {ta : TA} {p pos tpos : Pos} {elts : List Expr} {kk : Nat} (hg : Gl X "enumerate") (hm : X.mg "enumerate" = none) (ha : PA X [e] ta) (hs : starEach [e] X.env = [(false, eval e X.env)] := by rfl) :
    PI X (.Tuple elts kk tpos) (.Call (.Name "enumerate" p) [e] [] pos) (iEnumT X.K ta) := by
  refine ⟨fun pins s σ H R I h => ?_⟩
  refine Call_ (ld_blt I hg hm boot_enumerate (PyProof.Rows.callWith_type1 (thn (ha.run pos pins s σ H _ I h) fun us s1 ⟨vs, H1, I1, r1, q1⟩ => ?_) hs rfl))
  obtain ⟨a, xs, ex, hq, q⟩ := q1
  subst ex
  have eu : us = [.ref a] := by
    cases r1 with
    | cons r2 r3 => cases r3; cases r2; rfl
  subst eu
  obtain ⟨its, rv, p', hz⟩ := I1.tuple hq
  refine rv_call_enum_tuple (show s1.heap.IsTuple a its.toArray from p') fun h' he hit hsz hk => wpAny_pyIter_enum he ?_
  have I2 : Inv X pins σ H1 { s1 with heap := h' } := I1.kept (t' := s1.toks) hk
  refine ⟨s1.heap.objs.size + 1, [s1.heap.objs.size + 1, s1.heap.objs.size], _, _, H1, rfl, I2, turn_enumT a (s1.heap.objs.size + 1) s1.heap.objs.size, ⟨⟨.none, he⟩, hit, Nat.succ_ne_self _⟩, fun b hb => ?_, q⟩
  have hle : s1.heap.objs.size ≤ b := by
    rcases (by simpa using hb : b = s1.heap.objs.size + 1 ∨ b = s1.heap.objs.size) with rfl | rfl
    · exact Nat.le_succ _
    · exact Nat.le_refl _
  exact I1.fpOk hle (I1.hok.fresh hle)
/-- a loop over the numbered items of a tuple that stands still -/
theorem for_enumT {K : PySem.W.Frag} {a : Addr} {xs : List V} {g : TG} {tb : TS} {D : Ends} {σ : L2.St} {H : Hp} (Pv : Nat → L2.St → Hp → Prop) (h0 : Pv 0 σ H) (hl : ∀ i σ H, i ≤ xs.length → Pv i σ H → SqT K H a xs)
    (hs : ∀ i x σ H T, xs[i]? = some x → Pv i σ H → H T = none → g (.ref T) σ (upd H T (.tup [.int (i : Nat), x])) fun σ2 H2 => tb { D with nx := Pv (i + 1), ct := Pv (i + 1), bk := D.nx } σ2 H2) (hd : ∀ σ H, Pv xs.length σ H → D.nx σ H) :
    ∃ W : Nat → Nat → L2.St → Hp → Prop, (∃ m, W 0 m σ H) ∧ ∀ i m σ H, W i m σ H →
      ((Iet K a).stop i H ∧ D.nx σ H) ∨ ((Iet K a).go i H ∧ ∃ N : L2.St → Hp → Prop, (∀ σ' H', N σ' H' → ∃ m', m' < m ∧ W (i + 1) m' σ' H') ∧ ∀ x H', (Iet K a).yld i H x H' → g x σ H' fun σ2 H2 => tb { D with nx := N, ct := N, bk := D.nx } σ2 H2) := by
  refine ⟨fun i m σ H => m = xs.length - i ∧ i ≤ xs.length ∧ Pv i σ H, ⟨xs.length, by simp, Nat.zero_le _, h0⟩, ?_⟩
  rintro i m σ H ⟨rfl, hi, p⟩
  have q := hl i σ H hi p
  by_cases hlt : i < xs.length
  · refine .inr ⟨⟨xs, xs[i], q, List.getElem?_eq_getElem hlt⟩, Pv (i + 1), fun σ' H' p' => ⟨xs.length - (i + 1), by omega, rfl, hlt, p'⟩, fun x H' y => ?_⟩
    obtain ⟨T, y, rfl, hT, rfl, hy⟩ := y
    exact hs i y σ H T (hy xs q) p hT
  · have e : i = xs.length := by omega
    subst e
    exact .inl ⟨⟨xs, q, rfl⟩, hd σ H p⟩
end RV
set_option linter.all false
/-! Sets of keys of one kind that can be walked and sorted: set(list of texts), sorted(set of texts). -/
namespace RV
open PySem L2 PySem.Spec PyProof.Rows
section
variable {P : Program} {w : World} {κ : Type} [DecidableEq κ] {knd : KeyKind P w κ}
/-- no two of them are the same key -/
def Apart (knd : KeyKind P w κ) (l : List (Int × Value)) : Prop := l.Pairwise fun e f => ∀ k, ¬ (knd.is k e.2 = true ∧ knd.is k f.2 = true)
/-- a set at a with the members S, n of them, whose table rises -/
def SetX (knd : KeyKind P w κ) (h : Heap) (a : Addr) (S : κ → Bool) (n : Nat) : Prop :=
  ∃ o es ep t, (h.get? a = some o ∧ o.ExactSet ∧ o.data = .set es ep t) ∧ (ElemsOf knd es.toList ∧ Apart knd es.toList ∧ ∀ k, S k = true ↔ ∃ e ∈ es.toList, knd.is k e.2 = true) ∧
    es.size < scanBound ∧ t.fits es.size = true ∧ es.size = n ∧ Ris t.place.toList ∧ (w.params.followText "set-order" = true ∨ t.led = true)
theorem Apart.perm {l l' : List (Int × Value)} (h : Apart knd l) (p : l'.Perm l) : Apart knd l' :=
  (p.pairwise_iff (fun {_ _} z k q => z k ⟨q.2, q.1⟩)).mpr h
theorem SetX.at {h h' : Heap} {a : Addr} {S : κ → Bool} {n : Nat} (R : SetX knd h a S n) (k : ∀ o, h.get? a = some o → h'.get? a = some o) : SetX knd h' a S n := by
  obtain ⟨o, es, ep, t, ⟨ho, r1⟩, r⟩ := R
  exact ⟨o, es, ep, t, ⟨k o ho, r1⟩, r⟩
theorem SetX.congr {h : Heap} {a : Addr} {S S' : κ → Bool} {n : Nat} (R : SetX knd h a S n) (e : ∀ k, S' k = S k) : SetX knd h a S' n := by
  rw [show S' = S from funext e]
  exact R
theorem SetX.fresh {h : Heap} {a : Addr} (ho : h.get? a = some { cls := .type "set", dict := none, data := .set #[] 0 (.fresh 0 0 (!w.params.followText "set-order")) }) : SetX knd h a (fun _ => false) 0 := by
  refine ⟨_, #[], 0, _, ⟨ho, ⟨rfl, rfl, rfl⟩, rfl⟩, ⟨fun e he => (by simp at he), List.Pairwise.nil, fun k => (by simp)⟩, by decide, rfl, rfl, List.Pairwise.nil, ?_⟩
  show _ ∨ (!w.params.followText "set-order") = true
  cases w.params.followText "set-order" <;> simp
variable {A : Around} {E : Value → Shared → Prop} {s : Shared} {a : Addr}
/-- what is stored once the new entry has its place -/
theorem setX_store {g : Bool → Sem Unit} (hg : ∀ (b : Bool) (s₁ : Shared) (Q' : Unit → Shared → Prop), Q' () s₁ → wpAny (model P w) A (g b) Q' E s₁)
    {o : Obj} {es es1 : Array (Int × Value)} {ep : Nat} {t t1 : SetTable} {S' : κ → Bool} (ho : s.heap.get? a = some o ∧ o.ExactSet ∧ o.data = .set es ep t)
    (hm : ElemsOf knd es1.toList ∧ Apart knd es1.toList ∧ ∀ k, S' k = true ↔ ∃ e ∈ es1.toList, knd.is k e.2 = true) (hb : es1.size < scanBound) (hf : t1.fits es1.size = true)
    (hr : Ris t1.place.toList) (hl : w.params.followText "set-order" = true ∨ t1.led = true) {wasDummy : Bool} {R : Option Bool → Shared → Prop}
    (hR : ∀ h', Heap.SameBut a s.heap h' → SetX knd h' a S' es1.size → R (some true) { s with heap := h' }) :
    wpAny (model P w) A (do
        storeSet a es1 t1
        if (!wasDummy && t1.tooFull) = true then do
            g (relayAll t1 es1 (SetTable.grown es1.size)).2.2
            storeSet a (relayAll t1 es1 (SetTable.grown es1.size)).1 (relayAll t1 es1 (SetTable.grown es1.size)).2.1
            pure (some true)
          else pure (some true)) R E s := by
  obtain ⟨ho, hex, hd⟩ := ho
  obtain ⟨hel, hap, hmem⟩ := hm
  have same := Heap.SameBut.update s.heap a (Obj.putSet es1 t1)
  have o1 := store_at (es' := es1) (t' := t1) ho hd
  refine wpAny_bind (wpAny_storeSet_of ho hd ?_ (fits_of_scanBound hb))
  split
  · obtain ⟨p, f, r, l⟩ := (⟨relayAll_perm t1 es1 (SetTable.grown es1.size), relayAll_fits t1 es1 (SetTable.grown es1.size), relayAll_ris t1 es1 (SetTable.grown es1.size), relayAll_led t1 es1 (SetTable.grown es1.size)⟩ : _ ∧ _ ∧ _ ∧ _)
    generalize relayAll t1 es1 (SetTable.grown es1.size) = Z at p f r l ⊢
    obtain ⟨es2, t2, gv⟩ := Z
    dsimp only at p f r l ⊢
    have sz : es2.size = es1.size := by rw [← Array.length_toList, p.length_eq, Array.length_toList]
    have hb2 : es2.size < scanBound := by omega
    refine wpAny_bind (hg _ _ _ (wpAny_bind (wpAny_storeSet_of o1 rfl ?_ (fits_of_scanBound hb2))))
    refine wpAny_pure (hR _ (same.trans (Heap.SameBut.update _ a _)) ⟨_, es2, _, t2, ⟨store_at o1 rfl, hex, rfl⟩, ⟨hel.perm p, hap.perm p, fun k => (hmem k).trans ?_⟩, hb2, f, sz, r, hl.imp id fun z => by rw [l]; exact z⟩)
    exact ⟨fun ⟨e, he, q⟩ => ⟨e, p.mem_iff.mpr he, q⟩, fun ⟨e, he, q⟩ => ⟨e, p.mem_iff.mp he, q⟩⟩
  · exact wpAny_pure (hR _ same ⟨_, es1, _, t1, ⟨o1, hex, rfl⟩, ⟨hel, hap, hmem⟩, hb, hf, rfl, hr, hl⟩)
theorem setX_add {S : κ → Bool} {n : Nat} {k : κ} {x : Value} {Q : Bool → Shared → Prop} (hk : knd.is k x = true) (hs : x.scannable = true) (R : SetX knd s.heap a S n) (room : n + 1 < scanBound)
    (hQ : ∀ h', Heap.SameBut a s.heap h' → SetX knd h' a (fun j => S j || decide (j = k)) (if S k = true then n else n + 1) → Q (!S k) { s with heap := h' }) :
    wpAny (model P w) A (setAddHashed a x (knd.hash k)) Q E s := by
  obtain ⟨o, es, ep, t, ⟨ho, hex, hd⟩, ⟨hel, hap, hmem⟩, hb, hf, hn, hr, hl⟩ := R
  unfold setAddHashed setAddHashedIn
  refine wpAny_holding (wpAny_bind (wpAny_setState_of ho hd hf ?_))
  dsimp only
  rw [byScan_of hs hb hel]
  simp only [↓reduceIte]
  unfold setAddByScan
  refine wpAny_bind (wpAny_bind (wpAny_rule (wpAny_bind (wpAny_setScan_of hk ho hd hf hel ?_))))
  cases hfi : List.findIdx? (fun e => knd.is k e.2) es.toList with
  | some j =>
    dsimp only
    obtain ⟨hj, pj, _⟩ := List.findIdx?_eq_some_iff_getElem.mp hfi
    have hSk : S k = true := (hmem k).2 ⟨_, List.getElem_mem hj, pj⟩
    have q := hQ s.heap (Heap.SameBut.refl a s.heap)
    rw [if_pos hSk, hSk] at q
    refine wpAny_pure (wpAny_pure (q ⟨o, es, ep, t, ⟨ho, hex, hd⟩, ⟨hel, hap, fun i => ?_⟩, hb, hf, hn, hr, hl⟩))
    rw [← hmem i, Bool.or_eq_true, decide_eq_true_eq]
    exact ⟨fun z => z.elim id fun e => e ▸ hSk, .inl⟩
  | none =>
    dsimp only
    have out : ∀ e ∈ es.toList, knd.is k e.2 = false := fun e he => by
      have := List.findIdx?_eq_none_iff.mp hfi e he
      simpa using this
    have hSk : S k = false := by
      cases q : S k with
      | false => rfl
      | true =>
        obtain ⟨e, he, z⟩ := (hmem k).1 q
        rw [out e he] at z
        cases z
    have gw : ∀ (b : Bool) {s₁ : Shared} {Q' : Unit → Shared → Prop}, Q' () s₁ → wpAny (model P w) A (match b with | true => rule "set.scan.the-table-gave-way" | false => pure ()) Q' E s₁ := fun b _ _ q => by
      cases b <;> first | exact wpAny_pure q | exact wpAny_rule q
    obtain ⟨p, f, r, l⟩ := (⟨layNew_perm t es (knd.hash k) x, layNew_fits t es (knd.hash k) x, layNew_ris t es (knd.hash k) x hr, layNew_led t es (knd.hash k) x⟩ : _ ∧ _ ∧ _ ∧ _)
    generalize layNew t es (knd.hash k) x = Z at p f r l ⊢
    obtain ⟨es1, t1, wasDummy, gv⟩ := Z
    dsimp only at p f r l ⊢
    rw [Array.toList_push] at p
    have pc : es1.toList.Perm ((knd.hash k, x) :: es.toList) := p.trans (List.perm_append_singleton _ _)
    have hm1 : ElemsOf knd es1.toList ∧ Apart knd es1.toList ∧ ∀ i, (S i || decide (i = k)) = true ↔ ∃ e ∈ es1.toList, knd.is i e.2 = true := by
      refine ⟨(hel.push hk hs).perm p, Apart.perm (List.pairwise_cons.mpr ⟨fun e he i z => ?_, hap⟩) pc, mem_push_iff hk hmem p⟩
      have ei : i = k := knd.inj x i k z.1 hk
      have q := z.2
      rw [ei, out e he] at q
      cases q
    have sz : es1.size = n + 1 := by rw [← Array.length_toList, pc.length_eq, List.length_cons, Array.length_toList, hn]
    have fin : ∀ h', Heap.SameBut a s.heap h' → SetX knd h' a (fun j => S j || decide (j = k)) es1.size → Q true { s with heap := h' } := fun h' sb r => by
      have q := hQ h' sb
      rw [hSk, if_neg (by decide)] at q
      exact q (sz ▸ r)
    have hl1 : w.params.followText "set-order" = true ∨ t1.led = true := hl.imp id fun z => by rw [l]; exact z
    refine wpAny_bind (gw _ ?_)
    split
    · refine wpAny_bind ?_
      rw [hashByValue_scannable 8 hs]
      refine wpAny_pure (setX_store (fun b s₁ Q' q => ?_) ⟨ho, hex, hd⟩ hm1 (by omega) ?_ ?_ ?_ fun h' sb r => ?_)
      · cases b <;> first | exact wpAny_pure q | exact wpAny_rule q
      · first | (split <;> first | exact f | exact SetTable.fits_plain_off f) | exact f
      · first | (split <;> exact r) | exact r
      · first | (split <;> exact hl1) | exact hl1
      · dsimp only
        exact wpAny_pure (fin h' sb r)
    · refine wpAny_bind (wpAny_pure ?_)
      simp only [↓reduceIte]
      refine setX_store (fun b s₁ Q' q => ?_) ⟨ho, hex, hd⟩ hm1 (by omega) f r hl1 fun h' sb r => ?_
      · cases b <;> first | exact wpAny_pure q | exact wpAny_rule q
      · dsimp only
        exact wpAny_pure (fin h' sb r)
end
end RV
set_option linter.all false
/-! set(list of texts), sorted(set of texts). -/
namespace RV
open PySem L2 PySem.Spec PyProof.Rows
section
variable {P : Program} {w : World} {A : Around} {E : Value → Shared → Prop} {s : Shared}
abbrev SetS (P : Program) (w : World) (h : Heap) (a : Addr) (S : Str → Bool) (n : Nat) : Prop := SetX (PySem.strKind P w) h a S n
theorem fill_loop {I : Addr} {fp wr : List Addr} {G : Array GenState → Array GenState → Prop} {n : Nat} {Pv : Nat → Value → Prop} {St : Nat → Shared → Prop} {R : Result → Shared → Prop}
    (W : WalksS P w A.in1 I fp wr G n Pv St) (S : Addr) (off : S ∉ fp) (xs : List Str) (hn : n = xs.length) (room : xs.length + 1 < scanBound) (hval : ∀ i v, Pv i v → ∃ x t, xs[i]? = some x ∧ v = .str x t) :
    ∀ (k i : Nat) (s : Shared), n - i = k → i ≤ n → St i s → (∃ c, c ≤ i ∧ SetS P w s.heap S (fun x => decide (x ∈ xs.take i)) c) →
      (∀ s' c, Moved (S :: wr) G s s' → c ≤ n → SetS P w s'.heap S (fun x => decide (x ∈ xs)) c → R (.ok (.ret .none)) s') →
      codeAny (model P w) A (.builtin "set.update.loop" ⟨[.ref S, .ref I], []⟩) R s := by
  have offw : S ∉ wr := fun z => off (W.sub _ z)
  have more : ∀ b ∈ wr, b ∈ S :: wr := fun b hb => List.mem_cons_of_mem _ hb
  intro k
  induction k with
  | zero =>
    rintro i s hk hi st ⟨c, hc, x⟩ hR
    obtain rfl : i = n := by omega
    refine codeAny_builtin F.entry_set_update_loop ?_
    rw [Around.under_plainId F.plain_set_update_loop _]
    show wpAny _ A.in1 (pyNext (.ref I) >>= _) _ _ s
    refine wpAny_bind (W.done s _ _ st fun s' m => ?_)
    show wpAny _ A.in1 (ret Value.none) _ _ s'
    rw [List.take_of_length_le (by omega)] at x
    exact wpAny_pure (hR s' c (m.mono more) hc (x.at fun o e => m.heap S o offw e))
  | succ k ih =>
    rintro i s hk hi st ⟨c, hc, x⟩ hR
    have hlt : i < n := by omega
    refine codeAny_builtin F.entry_set_update_loop ?_
    rw [Around.under_plainId F.plain_set_update_loop _]
    show wpAny _ A.in1 (pyNext (.ref I) >>= _) _ _ s
    refine wpAny_bind (W.item i s _ _ hlt st fun v s' pv st' m => ?_)
    obtain ⟨y, t, hy, rfl⟩ := hval i v pv
    have x' := x.at (h' := s'.heap) fun o e => m.heap S o offw e
    show wpAny _ A.in1 (holding [Value.str y t] (setAdd S (.str y t)) >>= _) _ _ s'
    refine wpAny_bind (wpAny_holding ?_)
    unfold setAdd
    refine wpAny_holding (wpAny_bind ((PySem.strKind P w).pyHash (k := y) (strKind_is _ _ _ _) ?_))
    refine setX_add (knd := PySem.strKind P w) (s := { s' with toks := s'.toks + 1 }) (strKind_is _ _ _ _) rfl x' (by omega) fun h' sb x2 => ?_
    refine wpAny_pure ⟨plainId_quiet F.plain_set_update_loop _, ih (i + 1) _ (by omega) hlt (W.frame _ s' _ _ st' (Nat.le_succ _) fun b hb o e => ?_) ⟨_, ?_, x2.congr fun j => ?_⟩ fun s2 c2 m2 hc2 x3 => ?_⟩
    · rw [sb.2 b (fun z => off (z ▸ hb))]
      exact e
    · split <;> omega
    · rw [List.take_add_one, hy]
      simp [List.mem_append]
    · refine hR s2 c2 (Moved.trans W.gtrans ((m.mono more).then_heap (Nat.le_succ _) fun b o hb e => ?_) m2) hc2 x3
      rw [sb.2 b (fun z => hb (by rw [z]; exact List.mem_cons_self))]
      exact e
abbrev emptySet (w : World) : Obj := { cls := .type "set", dict := none, data := .set #[] 0 (.fresh 0 0 (!w.params.followText "set-order")) }
set_option maxHeartbeats 8000000 in
/-- set(xs), xs a list of texts -/
theorem set_of_strs {l : Addr} {items : Array Value} (xs : List Str) {Q : Value → Shared → Prop} (hh : A.handled = none) (hl : s.heap.IsList l items) (hit : StrsAre items.toList xs) (room : xs.length + 1 < scanBound)
    (h : ∀ (h' : Heap) (tk c : Nat), SetS P w h' s.heap.objs.size (fun x => decide (x ∈ xs)) c → c ≤ xs.length → (∀ b o, s.heap.get? b = some o → h'.get? b = some o) → Q (.ref s.heap.objs.size) { s with heap := h', toks := tk }) :
    wpAny (model P w) A (call (.type "set") [.ref l]) Q E s := by
  have hlen : items.size = xs.length := by rw [← Array.length_toList]; exact hit.len_eq
  obtain ⟨c, tl, hmro⟩ := F.called_set.mro
  have hmade := F.called_set.made
  have hsub := F.called_set.sub
  refine wpAny_call (codeAny_of_tree ?_)
  show wpAny _ _ (callAny (.type "set") _) _ _ _
  refine wpAny_pure ⟨Code.quiet_builtin _ (by decide +kernel), codeAny_builtin F.entry_type_call ?_⟩
  rw [Around.under_plain (weight_type_call_type "set" [.ref l] []) rfl]
  have n1 := F.called_set.notType
  have n2 := F.called_set.canCreate
  have n3 := F.typeCall_set_1 (.ref l)
  repeat (any_goals (first | assumption | wp_step))
  refine codeAny_mono (code_set_led1 (.ref l) (E := E) (Q₁ := fun obj s₁ => obj = .ref s.heap.objs.size ∧ s₁ = { s with heap := s.heap.push (emptySet w) }) ⟨rfl, rfl⟩) fun r s₁ hr => ?_
  cases r with
  | error e => exact hr
  | ok fl =>
    cases fl with
    | ret obj =>
      obtain ⟨rfl, rfl⟩ := hr
      have hS : (s.heap.push (emptySet w)).get? s.heap.objs.size = some (emptySet w) := Heap.get?_push_size _ rfl
      have hT : Shared.TypeIs { s with heap := s.heap.push (emptySet w) } (.ref s.heap.objs.size) "set" := ⟨_, hS, rfl⟩
      have hli := F.called_set.init.lookup
      have hbi := F.called_set.init.bind (.ref s.heap.objs.size)
      repeat (any_goals (first | assumption | wp_step))
      refine codeAny_mono (codeAny_call_builtin (R := wants (fun r s₂ => r = .none ∧ ∃ h' tk c, s₂ = { s with heap := h', toks := tk } ∧ SetS P w h' s.heap.objs.size (fun x => decide (x ∈ xs)) c ∧ c ≤ xs.length ∧
          (∀ b o, s.heap.get? b = some o → h'.get? b = some o)) E) F.called_set.init.plain F.entry_set_init (check_set_init_1 hT ?_)) fun r₂ s₂ hr₂ => ?_
      · obtain ⟨ol, hol, hcl, nl, hdl⟩ := hl
        obtain ⟨ocls, odict, odata, oslots⟩ := ol
        simp only at hcl hdl
        subst hcl; subst hdl
        have hol' : (s.heap.push (emptySet w)).get? l = some { cls := .type "list", dict := odict, data := .seq items nl, slots := oslots } := Heap.get?_push_of_some _ hol
        have u1 := F.sub_list_set
        have u2 := F.sub_list_frozenset
        have u3 : (Value.type "list" == Value.type "dict") = false := by decide
        have hl1 : (s.heap.push (emptySet w)).IsList l items := ⟨_, hol', rfl, nl, rfl⟩
        unfold Builtin.«set.__init__» noKeywords Builtin.Frozenset.updateFrom
        generalize hPI : pyIter = PI
        wp_walk
        subst hPI
        refine wpAny_pyIter_list hl1 (wpAny_bind (wpAny_runValue ?_))
        have hlS : l < s.heap.objs.size := Heap.lt_size hol
        have off : s.heap.objs.size ∉ [(s.heap.push (emptySet w)).objs.size, l] := by
          rw [Heap.size_push]
          simp only [List.mem_cons, List.mem_singleton, List.not_mem_nil, or_false, not_or]
          exact ⟨Nat.ne_of_lt (Nat.lt_succ_self _), Nat.ne_of_gt hlS⟩
        have nI : l ≠ (s.heap.push (emptySet w)).objs.size := by
          rw [Heap.size_push]
          exact Nat.ne_of_lt (Nat.lt_succ_of_lt hlS)
        have h3 : A.in1.in1.in1.handled = none := by simp [hh]
        refine fill_loop ((Walks.list h3 _ l nI items).toS) s.heap.objs.size off xs hlen room (fun i v hv => ?_) (items.size - 0) 0 _ (by omega) (Nat.zero_le _)
          ⟨⟨_, Heap.get?_push_size _ rfl, rfl, rfl⟩, (hl1.push _)⟩ ⟨0, Nat.le_refl _, ?_⟩ fun s' c m hc x => ?_
        · have q : items.toList[i]? = some v := by rw [Array.getElem?_toList]; exact hv
          obtain ⟨t, e⟩ := SS.strs_at hit i v q
          have hi : i < xs.length := by
            have := (List.getElem?_eq_some_iff.mp q).1
            rw [hit.len_eq] at this
            exact this
          refine ⟨_, t, List.getElem?_eq_getElem hi, ?_⟩
          rw [e, List.getD_eq_getElem?_getD, List.getElem?_eq_getElem hi]
          rfl
        · refine (SetX.fresh (knd := PySem.strKind P w) ?_).congr fun k => by simp
          exact Heap.get?_push_of_some _ hS
        · obtain ⟨h', g2, d', tk', os'⟩ := s'
          obtain rfl : g2 = s.gens := m.gens
          obtain rfl : d' = s.drawn := m.drawn
          obtain rfl : os' = s.os := m.os
          show wpAny _ _ _ _ _ _
          refine wpAny_pure ?_
          show wpAny _ _ (ret Value.none) _ _ _
          refine wpAny_pure ⟨rfl, h', tk', c, rfl, x, by omega, fun b o e => ?_⟩
          have hb : b < s.heap.objs.size := Heap.lt_size e
          refine m.heap b o ?_ (Heap.get?_push_of_some _ (Heap.get?_push_of_some _ e))
          rw [Heap.size_push]
          simp only [List.mem_cons, List.mem_singleton, List.not_mem_nil, or_false, not_or]
          exact ⟨Nat.ne_of_lt hb, Nat.ne_of_lt (Nat.lt_succ_of_lt hb)⟩
      · cases r₂ with
        | error e => exact hr₂
        | ok fl₂ =>
          cases fl₂ with
          | ret r =>
            obtain ⟨rfl, h', tk, c, rfl, x, hc, hk⟩ := hr₂
            repeat (any_goals (first | assumption | wp_step))
            exact h _ _ _ x hc hk
          | _ => exact hr₂.elim
    | _ => exact hr.elim
end
end RV
set_option linter.all false
/-! the rules: set(list of texts), sorted(set of texts) -/
namespace RV
open PySem L2 PySem.Spec PyProof.Rows
section
variable {P : Program} {w : World} {A : Around} {E : Value → Shared → Prop} {s : Shared}
theorem str_of_is {k : Str} {v : Value} (h : (PySem.strKind P w).is k v = true) : ∃ t, v = .str k t := by
  cases v <;> simp [PySem.strKind, Value.isStrOf] at h
  subst h
  exact ⟨_, rfl⟩
theorem strsAre_of : ∀ {vs : List Value}, (∀ v ∈ vs, ∃ k t, v = Value.str k t) → ∃ xs, StrsAre vs xs
  | [], _ => ⟨[], .nil⟩
  | v :: vs, h => by
    obtain ⟨k, t, rfl⟩ := h v List.mem_cons_self
    obtain ⟨xs, r⟩ := strsAre_of fun u hu => h u (List.mem_cons_of_mem _ hu)
    exact ⟨k :: xs, .cons k t r⟩
theorem strsAre_mem : ∀ {vs : List Value} {xs : List Str}, StrsAre vs xs → ∀ x, x ∈ xs ↔ ∃ t, Value.str x t ∈ vs
  | _, _, .nil, x => by simp
  | _, _, .cons k t r, x => by
    rw [List.mem_cons, strsAre_mem r x]
    constructor
    · rintro (rfl | ⟨t', h⟩)
      · exact ⟨t, List.mem_cons_self⟩
      · exact ⟨t', List.mem_cons_of_mem _ h⟩
    · rintro ⟨t', h⟩
      rcases List.mem_cons.mp h with e | h
      · injection e with e1 e2
        exact .inl e1
      · exact .inr ⟨t', h⟩
theorem strsAre_nodup : ∀ {vs : List Value} {xs : List Str}, StrsAre vs xs → vs.Pairwise (fun u v => ∀ k t t', ¬ (u = Value.str k t ∧ v = Value.str k t')) → xs.Nodup
  | _, _, .nil, _ => List.nodup_nil
  | _, _, .cons k t r, h => by
    obtain ⟨h1, h2⟩ := List.pairwise_cons.mp h
    refine List.nodup_cons.mpr ⟨fun hm => ?_, strsAre_nodup r h2⟩
    obtain ⟨t', ht⟩ := (strsAre_mem r k).mp hm
    exact h1 _ ht k t t' ⟨rfl, rfl⟩
theorem sorted_of_set {a : Addr} {S : Str → Bool} {n : Nat} {Q : Value → Shared → Prop} (R : SetS P w s.heap a S n) (hh : A.handled = none)
    (hQ : ∀ s' p (out : Array Value) (c : Nat) (xs : List Str), (∀ b o, s.heap.get? b = some o → s'.heap.get? b = some o) → s'.gens = s.gens → s'.os = s.os → s.heap.objs.size ≤ p →
      s'.heap.get? p = some (seqObj "list" out c) → StrsAre out.toList xs → sortedS xs = true → xs.Nodup → (∀ k, k ∈ xs ↔ S k = true) → xs.length = n → Q (.ref p) s') :
    wpAny (model P w) A (call (.builtin "sorted") [.ref a]) Q E s := by
  obtain ⟨o, es, ep, t, ⟨ho, hex, hd⟩, ⟨hel, hap, hmem⟩, hb, hf, hn, hr, hl⟩ := R
  refine Calls.call_function_entry kind_sorted plain_sorted entry_sorted (args_sorted1 _) ?_
  unfold Builtin.«sorted»
  refine wpAny_bind (m := checkCount "sorted" 1 1 _) (wpAny_pure ?_)
  refine wpAny_bind (collect_set (A := A.in1) hh ⟨o, ho, hex.1, hd⟩ hf hb hr hl fun s1 vs k1 hz g1 o1 pm => ?_)
  have hvl : vs.length = n := by rw [pm.length_eq, List.length_map, Array.length_toList]; exact hn
  have hsz : vs.length ≤ sizeLine := by rw [hvl, ← hn]; exact fits_of_scanBound hb
  obtain ⟨xs, hS⟩ := strsAre_of (vs := vs) fun v hv => by
    obtain ⟨e, he, q⟩ := List.mem_map.mp (pm.mem_iff.mp hv)
    obtain ⟨⟨k, hk, _⟩, _⟩ := hel e he
    obtain ⟨tk, ek⟩ := str_of_is hk
    exact ⟨k, tk, by rw [← q]; exact ek⟩
  have hnd : xs.Nodup := by
    refine strsAre_nodup hS ((pm.pairwise_iff (fun {_ _} z k t t' q => z k t' t ⟨q.2, q.1⟩)).mpr ?_)
    rw [List.pairwise_map]
    refine hap.imp fun z k t t' q => z k ?_
    rw [q.1, q.2]
    exact ⟨strKind_is _ _ _ _, strKind_is _ _ _ _⟩
  have hin : ∀ k, k ∈ xs ↔ S k = true := fun k => by
    rw [strsAre_mem hS k, hmem k]
    constructor
    · rintro ⟨t', h⟩
      obtain ⟨e, he, q⟩ := List.mem_map.mp (pm.mem_iff.mp h)
      exact ⟨e, he, by rw [q]; exact strKind_is _ _ _ _⟩
    · rintro ⟨e, he, q⟩
      obtain ⟨t', et⟩ := str_of_is q
      exact ⟨t', pm.mem_iff.mpr (List.mem_map.mpr ⟨e, he, et⟩)⟩
  refine wpAny_bind (wpAny_newList ?_ hsz)
  have hoL : (s1.heap.push (seqObj "list" vs.toArray 0)).get? s1.heap.objs.size = some (seqObj "list" vs.toArray 0) := Heap.get?_push_size _ rfl
  refine wpAny_bind (wpAny_holding (wpAny_call_entry slot_list_sort ⟨_, hoL, rfl⟩ entry_list_sort (list_sort_treeKAny PyProof.Rows.strKind_oneLt hoL hS.keysOf (fun v₁ v₂ rest e => keyKind_strs (by rw [← e]; exact hS)) hsz fun st' hp hs => ⟨_, rfl, ?_⟩) (args_list_sort _)))
  obtain ⟨ys, q1, q2, q3⟩ := sorted_out_str hS hp hs
  obtain ⟨c, hc⟩ := sortedHeap_at (vs := vs) (out := (arrOf st').map (·.2)) hoL
  refine wpAny_pure ⟨_, rfl, hQ _ s1.heap.objs.size _ c ys (fun b u e => ?_) g1 o1 hz hc q1 q3 (q2.nodup_iff.mpr hnd) (fun k => q2.mem_iff.trans (hin k)) ?_⟩
  · have q := k1 b u e
    have hlt := Heap.lt_size q
    show (sortedHeap (s1.heap.push (seqObj "list" vs.toArray 0)) s1.heap.objs.size vs _).get? b = some u
    rw [sortedHeap_old (Nat.ne_of_lt hlt) (by rw [size_push']; exact Nat.lt_succ_of_lt hlt)]
    exact Heap.get?_push_of_some _ q
  · rw [q2.length_eq, ← hS.len_eq]
    exact hvl
end
/-- a set of texts in the ledger -/
def SetT (P : Program) (w : World) (a : Addr) (S : Str → Bool) (n : Nat) : HO := .ext fun h => SetS P w h a S n
section
variable {X : Cx}
theorem setT_new {w : World} {P : Program} {H : Hp} {h : Heap} {a : Addr} {S : Str → Bool} {n : Nat} (R : SetS P w h a S n) : ObjOk P w H h a (SetT P w a S n) := by
  obtain ⟨o, es, ep, t, ⟨ho, _⟩, _⟩ := id R
  exact ⟨R, ⟨o, ho⟩, fun h1 h2 p k => p.at k⟩
theorem vals_strsAre : ∀ {xs : List Str} {us : List Value}, StrsAre us xs → Vals (xs.map V.str) us
  | _, _, .nil => .nil
  | _, _, .cons k t r => .cons ⟨t, rfl⟩ (vals_strsAre r)
theorem strsAre_vals : ∀ {xs : List Str} {us : List Value}, Vals (xs.map V.str) us → StrsAre us xs
  | [], _, .nil => .nil
  | x :: xs, _, .cons r q => by
    obtain ⟨t, rfl⟩ := r
    exact .cons x t (strsAre_vals q)
def rSetS (K : PySem.W.Frag) (P : Program) (w : World) : List V → Hp → VK → Prop := fun vs H Q => ∃ (l : Addr) (xs : List Str), vs = [V.ref l] ∧ SqL K H l (xs.map V.str) ∧ xs.length < 4000 ∧
  ∀ a n, H a = none → n ≤ xs.length → Q (.ref a) (upd H a (SetT P w a (fun x => decide (x ∈ xs)) n))
theorem cr_setS (hc : X.calm = true) : CallR X (.type "set") (rSetS X.K X.prog X.w) := by
  intro pins s σ H vs us Q I r h
  obtain ⟨l, xs, rfl, hl, hf, q⟩ := h
  rw [Vals.ref1 r]
  obtain ⟨its, rv, pl, hz⟩ := I.list hl
  have hn : H s.heap.objs.size = none := I.hok.fresh (Nat.le_refl _)
  refine set_of_strs (P := X.prog) (w := X.w) xs (I.ok.hd hc) pl.isList (by simpa using strsAre_vals rv) (by unfold scanBound; omega) fun h' tk c R hcl k => ?_
  exact ⟨.ref s.heap.objs.size, upd H s.heap.objs.size (SetT X.prog X.w s.heap.objs.size _ c), I.laid (t' := tk) k (Nat.le_refl _) (setT_new R), rfl, q _ c hn hcl⟩
def rSortS (P : Program) (w : World) : List V → Hp → VK → Prop := fun vs H Q => ∃ (a : Addr) (S : Str → Bool) (n : Nat), vs = [V.ref a] ∧ H a = some (SetT P w a S n) ∧
  ∀ (xs : List Str) (p : Addr), sortedS xs = true → xs.Nodup → (∀ k, k ∈ xs ↔ S k = true) → xs.length = n → H p = none → Q (.ref p) (upd H p (.lst (xs.map V.str)))
theorem cr_sortS (hc : X.calm = true) : CallR X (.builtin "sorted") (rSortS X.prog X.w) := by
  intro pins s σ H vs us Q I r h
  obtain ⟨a, S, n, rfl, ha, q⟩ := h
  have R : SetS X.prog X.w s.heap a S n := (I.hok a _ ha).1
  rw [Vals.ref1 r]
  have hb : n ≤ sizeLine := by
    obtain ⟨o, es, ep, t, _, _, hb, _, hn, _⟩ := id R
    rw [← hn]
    exact fits_of_scanBound hb
  refine sorted_of_set R (I.ok.hd hc) fun s' p out c xs k g o hp hg hS h1 h2 h3 h4 => ?_
  have hn : H p = none := I.hok.fresh hp
  have J : Inv X pins σ (upd H p (.lst (xs.map V.str))) { s with heap := s'.heap, gens := s'.gens, drawn := s'.drawn, toks := s'.toks } :=
    I.call (ch := []) (Un.laid k hp hn) (I.hok.laid k hp ⟨by rw [List.length_map, h4]; exact hb, out.toList, c, vals_strsAre hS, hg⟩) (by rw [g]; exact I.bare) (fun _ z => nomatch z)
  have e : s' = { s with heap := s'.heap, gens := s'.gens, drawn := s'.drawn, toks := s'.toks } := by
    cases s'
    cases s
    cases o
    rfl
  rw [e]
  exact ⟨.ref p, _, J, rfl, q xs p h1 h2 h3 h4 hn⟩
end
end RV
/-! promises of the laws about sums; pairs of a name and an integer -/
namespace RV
open PySem L2
structure Blt2 (mg : Str → Option Value) : Prop where
  b_sum : mg "sum" = none
  b_sorted : mg "sorted" = none
  b_set : mg "set" = none
  b_tuple : mg "tuple" = none
  b_enumerate : mg "enumerate" = none
  b_bool : mg "bool" = none
def big : Int := 10 ^ 30
def sp_number : Sp := fun vs H Q _ => ∃ (a : Addr) (n : Nat), vs = [.ref a] ∧ WellAt H a n ∧ n < 900000 ∧
  ∀ (z : Int) H', -big < z → z < big → Grow a H H' → WellAt H' a (n + 5) → Q (.int z) H'
theorem pg_tupK {X : Cx} {K : PySem.W.Frag} {es : List Expr} {k : Nat} {t : TGs} {n : Nat} {pos : Pos} (hc : X.calm = true) (h : PGs X es t)
    (hn : (assignEach es X.env).length = n := by rfl) (hst : (assignEach es X.env).findIdx? (·.1) = none := by rfl) (hK : X.K = K := by rfl) : PG X (.Tuple es k pos) (gTup K n t) := hK ▸ pg_tup hc h hn hst
/-! ### lists of pairs of a text and an integer, each at its address -/
abbrev TP := Addr × Str × Int
def vP (us : List TP) : List V := us.map fun u => .ref u.1
def prs (us : List TP) : List (Str × Int) := us.map (·.2)
def oP (q : Str × Int) : HO := .tup [.str q.1, .int q.2]
def lP (us : List TP) : List (Addr × HO) := us.map fun u => (u.1, oP u.2)
def TPs (K : PySem.W.Frag) (H : Hp) (us : List TP) : Prop := ∀ u ∈ us, SqT K H u.1 [.str u.2.1, .int u.2.2]
theorem TPs.ext {K : PySem.W.Frag} {H H' : Hp} {us : List TP} (h : TPs K H us) (e : Same H H') : TPs K H' us := fun u hu => (h u hu).ext e
theorem vP_app (us vs : List TP) : vP (us ++ vs) = vP us ++ vP vs := List.map_append
theorem prs_app (us vs : List TP) : prs (us ++ vs) = prs us ++ prs vs := List.map_append
theorem lP_app (us vs : List TP) : lP (us ++ vs) = lP us ++ lP vs := List.map_append
theorem vP_len (us : List TP) : (vP us).length = us.length := List.length_map _
theorem prs_len (us : List TP) : (prs us).length = us.length := List.length_map _
abbrev gPr (K : PySem.W.Frag) (i j : Nat) : TG := gTup K 2 (gCons (gName i) (gCons (gName j) gNil))
theorem gPr_at {K : PySem.W.Frag} {i j : Nat} {u : TP} {σ : L2.St} {H : Hp} {R : L2.St → Hp → Prop} (ht : SqT K H u.1 [.str u.2.1, .int u.2.2]) (h : R ((σ.set i (some (.str u.2.1))).set j (some (.int u.2.2))) H) : gPr K i j (.ref u.1) σ H R :=
  ⟨u.1, _, rfl, ht, rfl, _, _, rfl, _, _, rfl, ⟨rfl, h⟩⟩
/-! ### how great they are -/
def tot (qs : List (Str × Int)) : Nat := (qs.map fun q => q.2.natAbs).sum
theorem tot_mem {q : Str × Int} : ∀ {qs : List (Str × Int)}, q ∈ qs → q.2.natAbs ≤ tot qs
  | r :: qs, h => by
    have e : tot (r :: qs) = r.2.natAbs + tot qs := rfl
    rcases List.mem_cons.mp h with rfl | h
    · omega
    · have := tot_mem h
      omega
theorem sum_le (p : Str × Int → Bool) : ∀ qs : List (Str × Int), (((qs.filter p).map (fun q : Str × Int => q.2)).sum).natAbs ≤ tot qs
  | [] => Nat.le_refl 0
  | q :: qs => by
    have ih := sum_le p qs
    have e : tot (q :: qs) = q.2.natAbs + tot qs := rfl
    by_cases h : p q = true
    · rw [List.filter_cons_of_pos h, List.map_cons, List.sum_cons]
      omega
    · rw [List.filter_cons_of_neg h]
      omega
end RV
/-! drawn pairs -/
namespace RV
open PySem L2
structure Pairs (us : List TP) (m : Nat) : Prop where
  nm : ∀ q ∈ prs us, IsNm q.1
  gr : (tot (prs us) : Int) ≤ big * 2 ^ m
  ln : us.length ≤ m
/-- drawn pairs; at most ten -/
def sp_pairs : Sp := fun vs H Q _ => ∃ (a : Addr) (n m : Nat), vs = [.ref a, .int m] ∧ WellAt H a n ∧ n < 700000 ∧ m ≤ 20 ∧
  ∀ (us : List TP) (l : Addr) H', Pairs us m → (∀ p ∈ (l, HO.lst (vP us)) :: lP us, p.1 ≠ a ∧ H' p.1 = some p.2) → H l = none → Grow a H H' → WellAt H' a (n + 1000) → Q (.ref l) H'
end RV
namespace RV
open PySem L2
end RV
/-! the order of texts; sums as ascending pairs; things made by a function that keeps all that stood -/
namespace RV
open PySem L2
open PySem.Spec (ltCps)
open PyProof.Rows (sortedS risingS)
theorem lt_irr : ∀ a : List Nat, ltCps a a = false
  | [] => rfl
  | c :: r => by simp [ltCps, lt_irr r]
theorem lt_tr : ∀ {a b c : List Nat}, ltCps a b = true → ltCps b c = true → ltCps a c = true
  | [], [], _, h, _ => by simp [ltCps] at h
  | [], _ :: _, [], _, h => by simp [ltCps] at h
  | [], _ :: _, _ :: _, _, _ => rfl
  | _ :: _, [], _, h, _ => by simp [ltCps] at h
  | _ :: _, _ :: _, [], _, h => by simp [ltCps] at h
  | x :: a, y :: b, z :: c, h, k => by
    simp only [ltCps, Bool.or_eq_true, decide_eq_true_eq, Bool.and_eq_true, beq_iff_eq] at h k ⊢
    rcases h with h | ⟨h, h'⟩ <;> rcases k with k | ⟨k, k'⟩
    · exact .inl (by omega)
    · exact .inl (by omega)
    · exact .inl (by omega)
    · exact .inr ⟨by omega, lt_tr h' k'⟩
theorem lt_tri : ∀ {a b : List Nat}, ltCps a b = false → ltCps b a = false → a = b
  | [], [], _, _ => rfl
  | [], _ :: _, h, _ => by simp [ltCps] at h
  | _ :: _, [], _, h => by simp [ltCps] at h
  | x :: a, y :: b, h, k => by
    simp only [ltCps, Bool.or_eq_false_iff, decide_eq_false_iff_not, Bool.and_eq_false_iff, beq_eq_false_iff_ne] at h k
    have e : x = y := by omega
    subst e
    rw [lt_tri (h.2.resolve_left fun z => z rfl) (k.2.resolve_left fun z => z rfl)]
def Lt (a b : Str) : Prop := ltCps (cd a) (cd b) = true
theorem Lt.irr (a : Str) : ¬ Lt a a := fun h => by rw [Lt, lt_irr] at h; cases h
theorem Lt.tr {a b c : Str} (h : Lt a b) (k : Lt b c) : Lt a c := lt_tr h k
theorem asc_of : ∀ {xs : List Str}, sortedS xs = true → xs.Nodup → xs.Pairwise Lt
  | [], _, _ => .nil
  | [x], _, _ => List.pairwise_cons.mpr ⟨fun _ h => (nomatch h), .nil⟩
  | x :: y :: r, h, d => by
    have h' : (!ltCps (cd y) (cd x) && risingS y r) = true := h
    rw [Bool.and_eq_true] at h'
    obtain ⟨d1, d2⟩ := List.nodup_cons.mp d
    have ih := asc_of (xs := y :: r) h'.2 d2
    have lt : Lt x y := by
      cases e : ltCps (cd x) (cd y) with
      | true => exact e
      | false =>
        have e2 : ltCps (cd y) (cd x) = false := by simpa using h'.1
        exact absurd (cd_inj (lt_tri e e2) ▸ List.mem_cons_self) d1
    refine List.pairwise_cons.mpr ⟨fun z hz => ?_, ih⟩
    rcases List.mem_cons.mp hz with rfl | hz
    · exact lt
    · exact lt.tr ((List.pairwise_cons.mp ih).1 z hz)
theorem asc_uniq {α : Type} {R : α → α → Prop} (irr : ∀ a, ¬ R a a) (tr : ∀ {a b c}, R a b → R b c → R a c) : ∀ {l m : List α}, l.Pairwise R → m.Pairwise R → (∀ x, x ∈ l ↔ x ∈ m) → l = m
  | [], [], _, _, _ => rfl
  | [], y :: m, _, _, h => nomatch (h y).2 List.mem_cons_self
  | x :: l, [], _, _, h => nomatch (h x).1 List.mem_cons_self
  | x :: l, y :: m, hl, hm, h => by
    obtain ⟨a1, a2⟩ := List.pairwise_cons.mp hl
    obtain ⟨b1, b2⟩ := List.pairwise_cons.mp hm
    have e : x = y := by
      rcases List.mem_cons.mp ((h x).1 List.mem_cons_self) with e | hx
      · exact e
      rcases List.mem_cons.mp ((h y).2 List.mem_cons_self) with e | hy
      · exact e.symm
      exact absurd (tr (a1 y hy) (b1 x hx)) (irr x)
    subst e
    have : l = m := asc_uniq irr tr a2 b2 fun z => by
      constructor
      · intro hz
        rcases List.mem_cons.mp ((h z).1 (List.mem_cons_of_mem _ hz)) with e | h'
        · exact absurd (e ▸ a1 z hz) (irr x)
        · exact h'
      · intro hz
        rcases List.mem_cons.mp ((h z).2 (List.mem_cons_of_mem _ hz)) with e | h'
        · exact absurd (e ▸ b1 z hz) (irr x)
        · exact h'
    rw [this]
/-! ### the coefficient of a name -/
def co (qs : List (Str × Int)) (x : Str) : Int := ((qs.filter fun q => decide (q.1 = x)).map fun q => q.2).sum
theorem co_nil (x : Str) : co [] x = 0 := rfl
theorem co_cons (q : Str × Int) (qs : List (Str × Int)) (x : Str) : co (q :: qs) x = (if q.1 = x then q.2 else 0) + co qs x := by
  unfold co
  by_cases h : q.1 = x <;> simp [List.filter_cons, h]
theorem co_app (a b : List (Str × Int)) (x : Str) : co (a ++ b) x = co a x + co b x := by
  unfold co
  rw [List.filter_append, List.map_append, List.sum_append]
theorem co_none {qs : List (Str × Int)} {x : Str} (h : ∀ q ∈ qs, q.1 ≠ x) : co qs x = 0 := by
  unfold co
  rw [List.filter_eq_nil_iff.mpr fun q hq => by simpa using h q hq]
  rfl
theorem co_le (qs : List (Str × Int)) (x : Str) : (co qs x).natAbs ≤ tot qs := sum_le (fun q => decide (q.1 = x)) qs
/-- ascending pairs, none with 0 -/
structure Nrm (rs : List (Str × Int)) : Prop where
  asc : (rs.map (·.1)).Pairwise Lt
  no0 : ∀ q ∈ rs, q.2 ≠ 0
theorem co_asc {q : Str × Int} : ∀ {rs : List (Str × Int)}, (rs.map (·.1)).Pairwise Lt → q ∈ rs → co rs q.1 = q.2
  | [], _, hq => nomatch hq
  | r :: rs, ha, hq => by
    rw [List.map_cons, List.pairwise_cons] at ha
    rw [co_cons]
    rcases List.mem_cons.mp hq with e | hq
    · subst e
      rw [if_pos rfl, co_none (fun r hr e => ?_), Int.add_zero]
      have := ha.1 r.1 (List.mem_map.mpr ⟨r, hr, rfl⟩)
      rw [e] at this
      exact Lt.irr _ this
    · rw [if_neg (fun e => ?_), co_asc ha.2 hq, Int.zero_add]
      have := ha.1 q.1 (List.mem_map.mpr ⟨q, hq, rfl⟩)
      rw [e] at this
      exact Lt.irr _ this
theorem Nrm.co {rs : List (Str × Int)} (h : Nrm rs) {q : Str × Int} (hq : q ∈ rs) : co rs q.1 = q.2 := co_asc h.asc hq
theorem Nrm.mem {rs : List (Str × Int)} (h : Nrm rs) (x : Str) : x ∈ rs.map (·.1) ↔ RV.co rs x ≠ 0 := by
  constructor
  · intro hx
    obtain ⟨q, hq, rfl⟩ := List.mem_map.mp hx
    rw [h.co hq]
    exact h.no0 q hq
  · intro hx
    refine Classical.byContradiction fun hn => hx (co_none fun q hq e => hn (List.mem_map.mpr ⟨q, hq, e⟩))
theorem Nrm.uniq {rs ss : List (Str × Int)} (h : Nrm rs) (k : Nrm ss) (e : ∀ x, RV.co rs x = RV.co ss x) : rs = ss := by
  have e1 : rs.map (·.1) = ss.map (·.1) := asc_uniq Lt.irr Lt.tr h.asc k.asc fun x => by rw [h.mem, k.mem, e]
  have back : ∀ {ts : List (Str × Int)}, Nrm ts → ts = (ts.map (·.1)).map fun x => (x, RV.co ts x) := fun {ts} n => by
    rw [List.map_map]
    refine (List.map_id ts).symm.trans (List.map_congr_left fun q hq => ?_)
    show q = (q.1, RV.co ts q.1)
    rw [n.co hq]
  rw [back h, back k, e1]
  exact List.map_congr_left fun x _ => by rw [e]
theorem nrm_of {xs : List Str} {c : Str → Int} (ha : xs.Pairwise Lt) : Nrm ((xs.map fun x => (x, c x)).filter fun q => !decide (q.2 = 0)) := by
  refine ⟨?_, fun q hq => by simpa using (List.mem_filter.mp hq).2⟩
  refine List.Pairwise.sublist ((List.filter_sublist).map _) ?_
  rw [List.map_map]
  have : xs.map ((fun q : Str × Int => q.1) ∘ fun x => (x, c x)) = xs := (List.map_congr_left fun _ _ => rfl).trans (List.map_id xs)
  rw [this]
  exact ha
theorem nrm_co {xs : List Str} {c : Str → Int} (ha : xs.Pairwise Lt) (hc : ∀ x, x ∉ xs → c x = 0) (x : Str) : RV.co ((xs.map fun x => (x, c x)).filter fun q => !decide (q.2 = 0)) x = c x := by
  have n := nrm_of (c := c) ha
  by_cases h : x ∈ xs ∧ c x ≠ 0
  · exact n.co (q := (x, c x)) (List.mem_filter.mpr ⟨List.mem_map.mpr ⟨x, h.1, rfl⟩, by simpa using h.2⟩)
  · have c0 : c x = 0 := by
      by_cases hx : x ∈ xs
      · exact Classical.byContradiction fun k => h ⟨hx, k⟩
      · exact hc x hx
    rw [c0]
    refine co_none fun q hq e => ?_
    obtain ⟨h1, h2⟩ := List.mem_filter.mp hq
    obtain ⟨y, _, rfl⟩ := List.mem_map.mp h1
    have e' : y = x := e
    subst e'
    simp [c0] at h2
/-! ### what a function that keeps all that stood leaves -/
structure Kp (H0 : Hp) (L : List (Addr × HO)) (H : Hp) : Prop where
  sm : Same H0 H
  nw : ∀ p ∈ L, H0 p.1 = none ∧ H p.1 = some p.2
section
variable {H0 H H' : Hp} {L L' : List (Addr × HO)} {p q a : Addr} {o o' : HO} {n : Nat}
theorem Kp.start (H : Hp) : Kp H [] H := ⟨fun _ _ e => e, fun _ h => nomatch h⟩
theorem Kp.next (h : Kp H0 L H) (g : Same H H') : Kp H0 L H' := ⟨fun b o e => g b o (h.sm b o e), fun p hp => ⟨(h.nw p hp).1, g _ _ (h.nw p hp).2⟩⟩
theorem Kp.none0 (h : Kp H0 L H) (np : H p = none) : H0 p = none := by
  cases e : H0 p with
  | none => rfl
  | some o => rw [h.sm p o e] at np; cases np
theorem Kp.new (h : Kp H0 L H) (np : H p = none) : Kp H0 ((p, o) :: L) (upd H p o) := by
  have g : Same H (upd H p o) := fun b u e => by rw [upd_ne (ne_of_none e np)]; exact e
  refine ⟨fun b u e => g b u (h.sm b u e), fun r hr => ?_⟩
  rcases List.mem_cons.mp hr with rfl | hr
  · exact ⟨h.none0 np, upd_same⟩
  · exact ⟨(h.nw r hr).1, g _ _ (h.nw r hr).2⟩
theorem Kp.sub (h : Kp H0 L H) (s : ∀ p ∈ L', p ∈ L) : Kp H0 L' H := ⟨h.sm, fun p hp => h.nw p (s p hp)⟩
theorem Kp.at (h : Kp H0 L H) (hp : (p, o) ∈ L) : H p = some o := (h.nw _ hp).2
theorem Kp.apart (h : Kp H0 L H) (hp : (p, o) ∈ L) (hq : (q, o') ∈ L) (d : o ≠ o') : p ≠ q := fun e => by
  have h1 := h.at hp
  rw [e, h.at hq] at h1
  exact d (Option.some.inj h1).symm
theorem Kp.reset (h : Kp H0 ((p, o) :: L) H) (hp : ∀ q ∈ L, q.1 ≠ p) : Kp H0 ((p, o') :: L) (upd H p o') := by
  have p0 := (h.nw (p, o) List.mem_cons_self).1
  refine ⟨fun b u e => by rw [upd_ne (ne_of_none e p0)]; exact h.sm b u e, fun r hr => ?_⟩
  rcases List.mem_cons.mp hr with rfl | hr
  · exact ⟨p0, upd_same⟩
  · exact ⟨(h.nw r (List.mem_cons_of_mem _ hr)).1, by rw [upd_ne (hp r hr)]; exact (h.nw r (List.mem_cons_of_mem _ hr)).2⟩
end
/-! ### merged -/
def sp_merged (K : PySem.W.Frag) : Sp := fun vs H Q _ => ∃ (l : Addr) (us : List TP), vs = [.ref l] ∧ SqL K H l (vP us) ∧ TPs K H us ∧ us.length ≤ 120 ∧
  ∀ (ds : List TP) (m : Addr) H', Nrm (prs ds) → (∀ x, co (prs ds) x = co (prs us) x) → (∀ q ∈ prs ds, q.1 ∈ (prs us).map (·.1)) → ds.length ≤ us.length → Kp H ((m, .lst (vP ds)) :: lP ds) H' → Q (.ref m) H'
end RV
/-! numbers, terms, what a sum makes of its terms -/
namespace RV
open PySem L2
theorem tyx_tup {K : PySem.W.Frag} {H : Hp} {a : Addr} {xs : List V} (h : SqT K H a xs) : TyX K H (.ref a) (.type "tuple") := by
  rcases h with (h | ⟨o, h⟩) | ⟨o, its, n, h, hc, _⟩
  · exact .base (.tup h)
  · exact .fTuple h
  · exact .kTuple h hc
def sp_is_number (K : PySem.W.Frag) : Sp := fun vs H Q _ => ∃ v, vs = [v] ∧ ((∃ z : Int, v = .int z ∧ Q (.bl true) H) ∨ (∃ b : Bool, v = .bl b ∧ Q (.bl false) H) ∨
  (∃ t, TyX K H v t ∧ PySem.W.kitOne K t (.type "int") = some false ∧ Q (.bl false) H))
/-- a pair of a name and an integer -/
def sp_is_term (K : PySem.W.Frag) : Sp := fun vs H Q _ => ∃ (t : Addr) (x : Str) (z : Int), vs = [.ref t] ∧ SqT K H t [.str x, .int z] ∧ IsNm x ∧ ∀ H', Same H H' → Q (.bl true) H'
/-- a tuple of such pairs -/
def sp_check_terms (K : PySem.W.Frag) : Sp := fun vs H Q _ => ∃ (t : Addr) (us : List TP), vs = [.ref t] ∧ SqT K H t (vP us) ∧ TPs K H us ∧ (∀ q ∈ prs us, IsNm q.1) ∧ us.length ≤ 120 ∧ ∀ H', Same H H' → Q .non H'
/-- at most 120, with at most 60 different names -/
def Few (qs : List (Str × Int)) : Prop := qs.length ≤ 120 ∧ ∃ pool : List Str, pool.length ≤ 60 ∧ ∀ q ∈ qs, q.1 ∈ pool
theorem Few.of {qs : List (Str × Int)} (h : qs.length ≤ 60) : Few qs := ⟨Nat.le_trans h (by decide), qs.map (·.1), by rw [List.length_map]; exact h, fun q hq => List.mem_map.mpr ⟨q, hq, rfl⟩⟩
theorem nodup_len : ∀ {xs ys : List Str}, xs.Nodup → (∀ x ∈ xs, x ∈ ys) → xs.length ≤ ys.length
  | [], _, _, _ => Nat.zero_le _
  | x :: xs, ys, h, s => by
    rw [List.nodup_cons] at h
    have hx := s x List.mem_cons_self
    have := nodup_len (ys := ys.erase x) h.2 fun y hy => (List.mem_erase_of_ne (fun e => h.1 (by rw [← e]; exact hy))).mpr (s y (List.mem_cons_of_mem _ hy))
    rw [List.length_erase_of_mem hx] at this
    have := List.length_pos_of_mem hx
    rw [List.length_cons]
    omega
def sp_collected (K : PySem.W.Frag) : Sp := fun vs H Q _ => ∃ (t : Addr) (us : List TP), vs = [.ref t] ∧ SqT K H t (vP us) ∧ TPs K H us ∧ Few (prs us) ∧
  ∀ (ds : List TP) (m : Addr) H', Nrm (prs ds) → (∀ x, co (prs ds) x = co (prs us) x) → (∀ q ∈ prs ds, q.1 ∈ (prs us).map (·.1)) → ds.length ≤ us.length → Kp H ((m, .tup (vP ds)) :: lP ds) H' → Q (.ref m) H'
end RV
/-! a dict that counts -/
namespace RV
open PySem L2
structure Dct (kvs : List (Key × V)) (qs : List (Str × Int)) (ks : List Str) : Prop where
  keys : kvs.map (·.1) = ks.map Sum.inr
  nd : ks.Nodup
  mem : ∀ x, x ∈ ks ↔ x ∈ qs.map (·.1)
  val : ∀ x, valV kvs (.inr x) = if x ∈ ks then some (.int (co qs x)) else none
  ln : ks.length ≤ qs.length
theorem Dct.nil : Dct [] [] [] := ⟨rfl, .nil, fun _ => Iff.rfl, fun _ => rfl, Nat.le_refl _⟩
theorem putK_keys {κ : Type} [DecidableEq κ] {kvs : List (κ × V)} {k : κ} {v : V} (h : (valV kvs k).isSome = true) : (putK kvs k v).map (·.1) = kvs.map (·.1) := by
  unfold putK
  rw [valV_any, if_pos h, List.map_map]
  refine List.map_congr_left fun kv _ => ?_
  show (if kv.1 = k then (kv.1, v) else kv).1 = kv.1
  split <;> rfl
theorem Dct.get {kvs : List (Key × V)} {qs : List (Str × Int)} {ks : List Str} (h : Dct kvs qs ks) (x : Str) : (valV kvs (.inr x)).getD (.int 0) = .int (co qs x) := by
  rw [h.val]
  split
  · rfl
  · rename_i hn
    rw [co_none fun q hq e => hn ((h.mem x).2 (List.mem_map.mpr ⟨q, hq, e⟩))]
    rfl
theorem Dct.put {kvs : List (Key × V)} {qs : List (Str × Int)} {ks : List Str} (h : Dct kvs qs ks) (x : Str) (z : Int) : ∃ ks', Dct (putK kvs (.inr x) (.int (co qs x + z))) (qs ++ [(x, z)]) ks' := by
  have cx : ∀ y, co (qs ++ [(x, z)]) y = co qs y + if x = y then z else 0 := fun y => by
    rw [co_app, co_cons, co_nil, Int.add_zero]
  by_cases hx : x ∈ ks
  · have hs : valV kvs (.inr x) = some (.int (co qs x)) := by rw [h.val, if_pos hx]
    refine ⟨ks, ⟨by rw [putK_keys (by rw [hs]; rfl)]; exact h.keys, h.nd, fun y => ?_, fun y => ?_, by rw [List.length_append]; exact Nat.le_succ_of_le h.ln⟩⟩
    · rw [h.mem, List.map_append, List.mem_append]
      refine ⟨.inl, fun z => z.elim id fun e => ?_⟩
      rw [List.mem_singleton.mp e]
      exact (h.mem x).1 hx
    · rw [valV_put, h.val, cx]
      by_cases e : y = x
      · subst e
        simp [hx]
      · have e' : ¬ x = y := fun z => e z.symm
        simp [e, e']
  · have hs : valV kvs (.inr x) = none := by rw [h.val, if_neg hx]
    refine ⟨ks ++ [x], ⟨?_, ?_, fun y => ?_, fun y => ?_, by rw [List.length_append, List.length_append]; exact Nat.succ_le_succ h.ln⟩⟩
    · rw [putK_new _ hs, List.map_append, List.map_append, h.keys]
      rfl
    · rw [List.nodup_append]
      refine ⟨h.nd, by simp, fun a ha b hb e => ?_⟩
      rw [List.mem_singleton.mp hb] at e
      exact hx (e ▸ ha)
    · rw [List.mem_append, h.mem, List.map_append, List.mem_append]
      rfl
    · rw [valV_put, h.val, cx]
      by_cases e : y = x
      · subst e
        simp
      · have e' : ¬ x = y := fun z => e z.symm
        simp [e, e']
end RV
/-! what an own class says of len, x in o, o[x], truth -/
namespace RV
open PySem L2 PyProof.Rows
/-- the class C has an own method m that promises sp -/
def OwnM (P : Program) (w : World) (K : PySem.W.Frag) (mg : Str → Option Value) (base : Heap) (C : Addr) (m : String) (k : Nat) (sp : Sp) : Prop :=
  ∃ f fd ps, PySem.W.findIn K (.ref C) m = some (some (.ref f)) ∧ PySem.W.isFn K (.ref f) = true ∧ PySem.W.fnIn K f = true ∧ Binds K fd ps [] ∧ FnOk P w K mg base CX0 k f fd ps sp
section
variable {X : Cx} {pins : List (Addr × Obj)} {σ : L2.St} {H : Hp} {s : Shared} {C : Addr} {k : Nat} {sp : Sp}
theorem call_owns {A : Around} {f : Addr} {fd : FuncData} {ps : List Str} {Q : VK} {xs : List V} {us : List Value} (F : FnOk X.prog X.w X.K X.mg X.base CX0 k f fd ps sp) (hb : Binds X.K fd ps []) (hr : Room k A) (hf : A.frames = X.A.frames)
    (I : Inv X pins σ H s) (rx : Vals xs us) (hsp : sp xs H Q E0) : wpAny (model X.prog X.w) A (call (.ref f) us) (EP X pins σ Q) X.xe s := by
  have e0 : Env0 X.prog X.w X.K X.mg X.base A X.stack s H := by
    have e := I.env0
    exact ⟨by rw [hf]; exact e.frames, e.mod, e.bs, e.bsz, e.funs, e.frf, e.hok, e.bare⟩
  have hl := F.len _ _ _ _ hsp
  refine wpAny_call (codeAny_mono (F.run A X.stack s H ⟨us, []⟩ us xs _ E0 hr e0 (by
    have := hb s us I.kIn (by rw [List.append_nil, ← rx.length]; exact hl)
    simpa using this) rx hsp) fun r s' hq => ?_)
  cases r with
  | error e => exact (hq : False).elim
  | ok fl =>
    cases fl with
    | ret w => exact I.after hq
    | next => exact False.elim hq
    | brk => exact False.elim hq
    | cont => exact False.elim hq
def rLenO (C : Addr) (sp : Sp) : List V → Hp → VK → Prop := fun xs H Q => ∃ a dx fs, xs = [.ref a] ∧ H a = some (.ins C dx fs) ∧ sp [.ref a] H (fun v H' => ∃ n : Nat, v = .int n ∧ n < 100000 ∧ Q (.int n) H') E0
def rInO (neg : Bool) (C : Addr) (sp : Sp) : R2 := fun x y H Q => ∃ a dx fs, y = .ref a ∧ H a = some (.ins C dx fs) ∧ sp [.ref a, x] H (fun v H' => ∃ b, v = .bl b ∧ Q (.bl (if neg then !b else b)) H') E0
/-- truth by the class's own __bool__ -/
def rTrM (C : Addr) (sp : Sp) : V → Hp → (Bool → Hp → Prop) → Prop := fun x H Q => ∃ a dx fs, x = .ref a ∧ H a = some (.ins C dx fs) ∧ sp [.ref a] H (fun v H' => ∃ b, v = .bl b ∧ Q b H') E0
def rIxO (C : Addr) (sp : Sp) : R2 := fun x y H Q => ∃ a dx fs, x = .ref a ∧ H a = some (.ins C dx fs) ∧ sp [.ref a, y] H Q E0
/-- o[i], o of an own class with its own __getitem__ -/
theorem pe_ixO {a b : Expr} {ta tb : TE} {pos : Pos} (h : OwnM X.prog X.w X.K X.mg X.base C "__getitem__" k sp) (hr : Room (k + 1) X.A) (ha : PE X a ta) (hb : PE X b tb)
    (hsl : ∀ v u, subscripted b true v u = runValue (.builtin "lifetime.subscript" ⟨[v, u], []⟩) := by intro _ _; with_unfolding_all rfl) : PE X (.Subscript a b pos) (tOp (rIxO C sp) ta tb) := by
  refine ⟨fun pins s σ H Q I h' => ?_⟩
  refine Subscript_ (binT ha hb I h' fun v u s2 x y H2 I2 rx ry q => ?_)
  obtain ⟨o, dx, fs, rfl, ho, hsp⟩ := q
  obtain ⟨f, fd, ps, hs, hf, hfn, hb', F⟩ := h
  have rx' := rx
  cases rx
  obtain ⟨mA, J, _⟩ := ins_get I2.hok ho
  obtain ⟨od, J, _⟩ := J.look
  obtain ⟨m, hF⟩ := I2.fr
  exact PySem.W.sub_K hF I2.ok.mod.kin J hs hfn hf (call_owns (A := X.A.in1) F hb' hr.in1 rfl I2 (.cons rx' (.cons ry .nil)) hsp) (hsl _ _)
end
end RV
/-! sums as they stand in the heap, and what their methods promise -/
namespace RV
open PySem L2
/-- the things of a sum at a whose terms are the tuple at t -/
def lS (C a dx t : Addr) (us : List TP) : List (Addr × HO) := (a, .ins C dx [("_terms", .ref t)]) :: (t, .tup (vP us)) :: lP us
def SumR (C : Addr) (H : Hp) (a : Addr) (qs : List (Str × Int)) : Prop := ∃ dx t us, prs us = qs ∧ ∀ p ∈ lS C a dx t us, H p.1 = some p.2
theorem SumR.ext {C a : Addr} {H H' : Hp} {qs : List (Str × Int)} (h : SumR C H a qs) (g : Same H H') : SumR C H' a qs := by
  obtain ⟨dx, t, us, e, k⟩ := h
  exact ⟨dx, t, us, e, fun p hp => g _ _ (k p hp)⟩
structure SClass (K : PySem.W.Frag) (mg : Str → Option Value) (C : Addr) : Prop where
  x : ClsX K C
  k : mg "Sum" = some (.ref C)
  n1 : NoAttr K C "_terms"
  me : PySem.W.kitOne K (.ref C) (.ref C) = some true
/-- terms that may be given -/
structure Trm (K : PySem.W.Frag) (H : Hp) (t : Addr) (us : List TP) : Prop where
  tp : SqT K H t (vP us)
  ps : TPs K H us
  nm : ∀ q ∈ prs us, IsNm q.1
  ln : us.length ≤ 60
structure TrmF (K : PySem.W.Frag) (H : Hp) (t : Addr) (us : List TP) : Prop where
  tp : SqT K H t (vP us)
  ps : TPs K H us
  nm : ∀ q ∈ prs us, IsNm q.1
  ln : Few (prs us)
theorem Trm.few {K : PySem.W.Frag} {H : Hp} {t : Addr} {us : List TP} (h : Trm K H t us) : TrmF K H t us := ⟨h.tp, h.ps, h.nm, Few.of (by rw [prs_len]; exact h.ln)⟩
/-- what a sum of these terms is -/
structure Mad (qs rs : List (Str × Int)) : Prop where
  nr : Nrm rs
  co : ∀ x, co rs x = co qs x
  nm : ∀ q ∈ rs, q.1 ∈ qs.map (·.1)
  ln : rs.length ≤ qs.length
def sp_Sum (K : PySem.W.Frag) (C : Addr) : Sp := fun vs H Q _ => ∃ (x dx t : Addr) (us : List TP), vs = [.ref x, .ref t] ∧ H x = some (.ins C dx []) ∧ TrmF K H t us ∧
  ∀ (ds : List TP) (m dx' : Addr) H', Mad (prs us) (prs ds) → (∀ b o, b ≠ x → H b = some o → H' b = some o) → (∀ p ∈ (m, HO.tup (vP ds)) :: lP ds, H p.1 = none) → (∀ p ∈ lS C x dx' m ds, H' p.1 = some p.2) → Q .non H'
def sp_len (C : Addr) : Sp := fun vs H Q _ => ∃ (a : Addr) (qs : List (Str × Int)), vs = [.ref a] ∧ SumR C H a qs ∧ Q (.int (qs.length : Nat)) H
def sp_yes : Sp := fun vs H Q _ => ∃ (a : Addr), vs = [.ref a] ∧ Q (.bl true) H
def sp_terms (C : Addr) : Sp := fun vs H Q _ => ∃ (a dx t : Addr) (us : List TP), vs = [.ref a] ∧ (∀ p ∈ lS C a dx t us, H p.1 = some p.2) ∧ Q (.ref t) H
def sp_get (C : Addr) : Sp := fun vs H Q _ => ∃ (a : Addr) (x : Str) (qs : List (Str × Int)), vs = [.ref a, .str x] ∧ IsNm x ∧ SumR C H a qs ∧ Nrm qs ∧ ∀ H', Same H H' → Q (.int (co qs x)) H'
def sp_has (C : Addr) : Sp := fun vs H Q _ => ∃ (a : Addr) (x : Str) (qs : List (Str × Int)), vs = [.ref a, .str x] ∧ IsNm x ∧ SumR C H a qs ∧ Nrm qs ∧ ∀ H', Same H H' → Q (.bl (!decide (co qs x = 0))) H'
end RV
/-! pairs as data -/
namespace RV
open PySem L2
def dq (q : Str × Int) : PyData := .tuple [.str q.1, .int q.2]
def dQ (qs : List (Str × Int)) : PyData := .tuple (qs.map dq)
theorem shaped_pairs {qs : List (Str × Int)} (h : ∀ q ∈ qs, IsNm q.1) : SeqAt.shaped (dQ qs) = true := by
  have h1 : ∀ qs : List (Str × Int), (∀ q ∈ qs, IsNm q.1) → PyData.canLayAll0 (qs.map dq) = true ∧ PyData.depthAll (qs.map dq) ≤ 1 := by
    intro qs
    induction qs with
    | nil => intro _; simp [PyData.canLayAll0, PyData.depthAll]
    | cons q qs ih =>
      intro h
      obtain ⟨a, b⟩ := ih fun r hr => h r (List.mem_cons_of_mem _ hr)
      have c := strOk_nm (h q List.mem_cons_self)
      refine ⟨by simp [PyData.canLayAll0, PyData.canLay0, dq, a, c], ?_⟩
      simp only [List.map_cons, PyData.depthAll, dq, PyData.depth]
      omega
  obtain ⟨a, b⟩ := h1 qs h
  simp only [SeqAt.shaped, dQ, PyData.canLay0, PyData.depth, a, Bool.true_and, decide_eq_true_eq]
  omega
theorem eqv_dq (q r : Str × Int) : PyData.eqv (dq q) (dq r) = decide (q = r) := by
  obtain ⟨x, i⟩ := q
  obtain ⟨y, j⟩ := r
  simp only [dq, PyData.eqv, PyData.eqvAll, Bool.and_true]
  by_cases h1 : x = y <;> by_cases h2 : i = j <;> simp [h1, h2]
theorem eqv_pairs (qs rs : List (Str × Int)) : PyData.eqv (dQ qs) (dQ rs) = decide (qs = rs) := by
  have h : ∀ qs rs : List (Str × Int), PyData.eqvAll (qs.map dq) (rs.map dq) = decide (qs = rs) := by
    intro qs
    induction qs with
    | nil => intro rs; cases rs <;> simp [PyData.eqvAll]
    | cons q qs ih =>
      intro rs
      cases rs with
      | nil => simp [PyData.eqvAll]
      | cons r rs =>
        simp only [List.map_cons, PyData.eqvAll, eqv_dq, ih]
        by_cases h1 : q = r <;> by_cases h2 : qs = rs <;> simp [h1, h2]
  simp only [dQ, PyData.eqv]
  exact h qs rs
theorem dpAll_pairs {K : PySem.W.Frag} {H : Hp} : ∀ {us : List TP}, TPs K H us → DpAll K H (vP us) ((prs us).map dq)
  | [], _ => .nil
  | u :: us, h => .cons (.tup (h u List.mem_cons_self) (.cons (.str _) (.cons (.int _) .nil))) (dpAll_pairs fun r hr => h r (List.mem_cons_of_mem _ hr))
theorem dp_pairs {K : PySem.W.Frag} {H : Hp} {t : Addr} {us : List TP} (ht : SqT K H t (vP us)) (h : TPs K H us) : Dp K H (.ref t) (dQ (prs us)) := .tup ht (dpAll_pairs h)
def sp_eqS (K : PySem.W.Frag) (C : Addr) : Sp := fun vs H Q _ => ∃ (a : Addr) (y : V) (qs : List (Str × Int)), vs = [.ref a, y] ∧ SumR C H a qs ∧ (∀ q ∈ qs, IsNm q.1) ∧
  ((∃ b rs, y = .ref b ∧ SumR C H b rs ∧ (∀ q ∈ rs, IsNm q.1) ∧ Q (.bl (decide (qs = rs))) H) ∨ (∃ t, TyX K H y t ∧ PySem.W.kitOne K t (.ref C) = some false ∧ Q (.bl false) H))
end RV
/-! the same pairs in another order, some in two parts -/
namespace RV
open PySem L2
theorem cutV_suf (us : List TP) (k : Nat) : cutV (vP us) (some (k : Int)) none = vP (us.drop k) := by
  unfold cutV
  rw [sIx_none, sIx_some, vP_len, List.take_of_length_le (by rw [List.length_drop, vP_len]; omega), vP, vP, List.map_drop]
  by_cases h : k ≤ us.length
  · rw [Nat.min_eq_left h]
  · rw [List.drop_eq_nil_of_le (by rw [List.length_map]; omega), List.drop_eq_nil_of_le (by rw [List.length_map]; omega)]
structure Oth (us vs : List TP) : Prop where
  co : ∀ x, co (prs vs) x = co (prs us) x
  nm : ∀ q ∈ prs vs, q.1 ∈ (prs us).map (·.1)
  ln : vs.length ≤ 2 * us.length
def sp_parted : Sp := fun vs H Q _ => ∃ (a l : Addr) (n : Nat) (us : List TP), vs = [.ref a, .ref l] ∧ WellAt H a n ∧ n < 600000 ∧ us.length ≤ 20 ∧ (∀ p ∈ (l, HO.lst (vP us)) :: lP us, p.1 ≠ a ∧ H p.1 = some p.2) ∧
  ∀ (vs : List TP) (m : Addr) H', Oth us vs → H m = none → Has H a (n + 1000) ((m, .lst (vP vs)) :: lP vs) H' → Q (.ref m) H'
end RV
/-! texts of pairs -/
namespace RV
open PySem L2 PyProof.Rows
theorem log_small {z : Int} (h : z.natAbs ≤ 10 ^ 45) : z.natAbs.log2 < 1920 := by
  have q := PySem.Flt.log2_lt_of (n := z.natAbs) (k := 200) (by decide) (by omega)
  omega
theorem short_str {x : Str} (h : IsNm x) : (PyData.str x).shown.length ≤ 100 := (short_nm h).ln
theorem shown_pair {q : Str × Int} (h : IsNm q.1) (hz : q.2.natAbs ≤ 10 ^ 45) : (dq q).showable = true ∧ (dq q).depth ≤ 1 ∧ (dq q).shown.length ≤ 2100 := by
  have hl := log_small hz
  refine ⟨by simp [dq, PyData.showable, PyData.showableAll, hl], by simp [dq, PyData.depth, PyData.depthAll], ?_⟩
  have e : (dq q).shown = tupleText [(PyData.str q.1).shown, (PyData.int q.2).shown] := by simp only [dq, PyData.shown, PyData.shownAll]
  rw [e]
  have h1 := tupleText_len_le [(PyData.str q.1).shown, (PyData.int q.2).shown]
  have h2 := short_str h
  have h3 : (PyData.int q.2).shown.length ≤ 1921 := by
    have := int_text_len_1921 hl
    simp only [PyData.shown]
    exact this
  simp only [List.map_cons, List.map_nil, List.sum_cons, List.sum_nil, List.length_cons, List.length_nil] at h1
  omega
theorem show_pairs {qs : List (Str × Int)} (hn : ∀ q ∈ qs, IsNm q.1) (ht : tot qs ≤ 10 ^ 45) (hl : qs.length ≤ 100) : (dQ qs).showable = true ∧ (dQ qs).depth ≤ 60 ∧ (dQ qs).shown.length ≤ sizeLine := by
  have h1 : ∀ qs : List (Str × Int), (∀ q ∈ qs, IsNm q.1 ∧ q.2.natAbs ≤ 10 ^ 45) → PyData.showableAll (qs.map dq) = true ∧ PyData.depthAll (qs.map dq) ≤ 1 ∧ ((PyData.shownAll (qs.map dq)).map (·.length)).sum ≤ 2100 * qs.length ∧ (PyData.shownAll (qs.map dq)).length = qs.length := by
    intro qs
    induction qs with
    | nil => intro _; simp [PyData.showableAll, PyData.depthAll, PyData.shownAll]
    | cons q qs ih =>
      intro h
      obtain ⟨a1, a2, a3⟩ := shown_pair (h q List.mem_cons_self).1 (h q List.mem_cons_self).2
      obtain ⟨b1, b2, b3, b4⟩ := ih fun r hr => h r (List.mem_cons_of_mem _ hr)
      refine ⟨by simp [PyData.showableAll, a1, b1], ?_, ?_, by simp [PyData.shownAll, b4]⟩
      · simp only [List.map_cons, PyData.depthAll]
        omega
      · simp only [List.map_cons, PyData.shownAll, List.sum_cons, List.length_cons]
        omega
  obtain ⟨a1, a2, a3, a4⟩ := h1 qs fun q hq => ⟨hn q hq, Nat.le_trans (tot_mem hq) ht⟩
  refine ⟨by simp only [dQ, PyData.showable, a1], by simp only [dQ, PyData.depth]; omega, ?_⟩
  have e : (dQ qs).shown = tupleText (PyData.shownAll (qs.map dq)) := by simp only [dQ, PyData.shown]
  rw [e]
  have := tupleText_len_le (PyData.shownAll (qs.map dq))
  exact Nat.le_trans (show _ ≤ 300000 by omega) (by decide)
theorem repr_pairs {K : PySem.W.Frag} {t : Addr} {us : List TP} {H : Hp} {Q : VK} (ht : SqT K H t (vP us)) (hp : TPs K H us) (hn : ∀ q ∈ prs us, IsNm q.1) (hz : tot (prs us) ≤ 10 ^ 45) (hl : us.length ≤ 100) (k : Q (.str (dQ (prs us)).shown) H) : rRepr K [.ref t] H Q := by
  obtain ⟨h1, h2, h3⟩ := show_pairs hn hz (by rw [prs_len]; exact hl)
  unfold rRepr
  exact ⟨t, dQ (prs us), rfl, dp_pairs ht hp, h1, h2, h3, k⟩
/-- a sum shows these pairs, a list of them -/
def sp_shows (K : PySem.W.Frag) (C : Addr) : Sp := fun vs H Q _ => ∃ (a l : Addr) (ds : List TP), vs = [.ref a, .ref l] ∧ SumR C H a (prs ds) ∧ SqL K H l (vP ds) ∧ TPs K H ds ∧ Nrm (prs ds) ∧ (∀ q ∈ prs ds, IsNm q.1) ∧ tot (prs ds) ≤ 10 ^ 45 ∧ ds.length ≤ 60 ∧
  ∀ H', Same H H' → Q (.bl true) H'
/-- names that are much like a name -/
def nearL (x : Str) : List Str := [cutS x none (some (-1)), cutS (x ++ "a") none (some 8), cutS (x ++ "0") none (some 8), ("z" : Str) ++ cutS x (some 1) none]
theorem cd_rest (x : Str) : cd (cutS x (some 1) none) = (cd x).drop 1 := by
  rw [cd_cutS, sIx_none, show (some (1 : Int)) = some ((1 : Nat) : Int) from rfl, sIx_some, cd_len]
  by_cases h : 1 ≤ (cd x).length
  · rw [Nat.min_eq_left h]
    exact List.take_of_length_le (by rw [List.length_drop]; omega)
  · have e : cd x = [] := List.eq_nil_of_length_eq_zero (by omega)
    rw [e]
    rfl
end RV
/-! written numbers and terms -/
namespace RV
open PySem L2
structure Cst2 (mg : Str → Option Value) : Prop where
  worth : ∃ u, mg "_PIECE_WORTH" = some u ∧ RelV (.int (10 ^ 64)) u
  piece : ∃ u, mg "_PIECE" = some u ∧ RelV (.int 64) u
def num (z : Int) : Str := Str.ofString (toString z)
/-- a written number of at most 64 digits -/
def sp_written : Sp := fun vs H Q _ => ∃ z : Int, vs = [.int z] ∧ 0 ≤ z ∧ z < 10 ^ 64 ∧ ∀ H', Same H H' → Q (.str (num z)) H'
theorem join_one (a x : Str) : Txt.join a [x] = x := by
  first | rfl | simp [Txt.join] | (unfold Txt.join; rfl)
def ab (z : Int) : Int := if z < 0 then -z else z
/-- a term without its sign -/
def wo (x : Str) (z : Int) : Str := if ab z = 1 then x else ((Str.empty ++ num (ab z)) ++ ("*" : Str)) ++ x
/-- a term that is not the first -/
def fu (q : Str × Int) : Str := (((Str.empty ++ (" " : Str)) ++ (if q.2 < 0 then ("-" : Str) else "+")) ++ (" " : Str)) ++ wo q.1 q.2
def fi (q : Str × Int) : Str := (if q.2 < 0 then ("-" : Str) else "") ++ wo q.1 q.2
def pieces : List (Str × Int) → List Str
  | [] => ["0"]
  | q :: qs => fi q :: qs.map fu
/-- the text of a sum -/
def txt (qs : List (Str × Int)) : Str := Txt.join "" (pieces qs)
theorem sl_app (a b : Str) : (a ++ b).length = a.length + b.length := by rw [cd_len, cd_app, List.length_append, ← cd_len, ← cd_len]
theorem ab_lt {z : Int} (h : z.natAbs < 10 ^ 64) : 0 ≤ ab z ∧ ab z < 10 ^ 64 := by
  unfold ab
  split <;> omega
theorem num_len {z : Int} (h : 0 ≤ z ∧ z < 10 ^ 64) : (num z).length ≤ 1921 := by
  refine PyProof.Rows.int_text_len_1921 ?_
  have q := PySem.Flt.log2_lt_of (n := z.natAbs) (k := 300) (by decide) (by omega)
  omega
theorem wo_len {x : Str} {z : Int} (hx : IsNm x) (hz : z.natAbs < 10 ^ 64) : (wo x z).length ≤ 2000 := by
  have lx : 1 ≤ (cd x).length ∧ (cd x).length ≤ 8 := isNm_len hx
  rw [← cd_len] at lx
  unfold wo
  split
  · omega
  · have h1 := num_len (ab_lt hz)
    have h2 : Str.length "*" = 1 := by decide +kernel
    have h3 : Str.length Str.empty = 0 := by decide +kernel
    rw [sl_app, sl_app, sl_app, h2, h3]
    omega
theorem sg_len (z : Int) : (if z < 0 then ("-" : Str) else "+").length ≤ 1 ∧ (if z < 0 then ("-" : Str) else "").length ≤ 1 := by
  have h1 : Str.length "-" = 1 := by decide +kernel
  have h2 : Str.length "+" = 1 := by decide +kernel
  have h3 : Str.length "" = 0 := by decide +kernel
  constructor <;> split <;> omega
theorem fu_len {q : Str × Int} (hx : IsNm q.1) (hz : q.2.natAbs < 10 ^ 64) : (fu q).length ≤ 2010 := by
  have h1 := wo_len hx hz
  have h2 : Str.length " " = 1 := by decide +kernel
  have h3 : Str.length Str.empty = 0 := by decide +kernel
  have h4 := (sg_len q.2).1
  unfold fu
  rw [sl_app, sl_app, sl_app, sl_app, h2, h3]
  omega
def sp_without : Sp := fun vs H Q _ => ∃ (x : Str) (z : Int), vs = [.str x, .int z] ∧ IsNm x ∧ z.natAbs < 10 ^ 64 ∧ ∀ H', Same H H' → Q (.str (wo x z)) H'
def sp_further : Sp := fun vs H Q _ => ∃ (q : Str × Int), vs = [.str q.1, .int q.2] ∧ IsNm q.1 ∧ q.2.natAbs < 10 ^ 64 ∧ ∀ H', Same H H' → Q (.str (fu q)) H'
def sp_wterms (K : PySem.W.Frag) : Sp := fun vs H Q _ => ∃ (t : Addr) (us : List TP), vs = [.ref t] ∧ SqT K H t (vP us) ∧ TPs K H us ∧ (∀ q ∈ prs us, IsNm q.1 ∧ q.2.natAbs < 10 ^ 64) ∧ us.length ≤ 100 ∧
  ∀ m H', Kp H [(m, .lst ((pieces (prs us)).map V.str))] H' → Q (.ref m) H'
def sp_text (C : Addr) : Sp := fun vs H Q _ => ∃ (a : Addr) (qs : List (Str × Int)), vs = [.ref a] ∧ SumR C H a qs ∧ (∀ q ∈ qs, IsNm q.1 ∧ q.2.natAbs < 10 ^ 64) ∧ qs.length ≤ 100 ∧ ∀ H', Same H H' → Q (.str (txt qs)) H'
/-- [f(x, z) for x, z in t], t a tuple of pairs; f may make things -/
theorem lc_pairsT {K : PySem.W.Frag} {a : Addr} {us : List TP} {i j : Nat} {te : TE} {vs : List Nat} {σ : L2.St} {H1 : Hp} {D : Addr} {Qd : Hp → Prop} (f : Str × Int → V)
    (hl : SqT K H1 a (vP us)) (ht : TPs K H1 us) (nD : H1 D = none) (len : us.length ≤ 1000) (hw : ∀ x y, wipe (((wipe σ vs).set i x).set j y) vs = wipe σ vs)
    (h : ∀ q ∈ prs us, ∀ H2, Same H1 H2 → ∀ R : VK, (∀ H3, Same H2 H3 → R (f q) H3) → te (((wipe σ vs).set i (some (.str q.1))).set j (some (.int q.2))) H2 R)
    (k : ∀ H', Same H1 H' → H' D = some (.lst ((prs us).map f)) → Qd H') :
    ∃ W : Nat → Nat → Hp → Prop, (∃ m, W 0 m (upd H1 D (.lst []))) ∧ ∀ i' m H, W i' m H →
      ((Itt K a).stop i' H ∧ Qd H) ∨ ((Itt K a).go i' H ∧ ∃ Nx : Hp → Prop, (∀ H', Nx H' → ∃ m', m' < m ∧ W (i' + 1) m' H') ∧ ∀ x H', (Itt K a).yld i' H x H' → gPr K i j x (wipe σ vs) H' fun σ2 H2 => wipe σ2 vs = wipe σ vs ∧ tYes σ2 H2 fun b H3 =>
        if b = true then te σ2 H3 fun y H4 => ∃ acc, H4 D = some (.lst acc) ∧ acc.length < sizeLine ∧ Nx (upd H4 D (.lst (acc ++ [y]))) else Nx H3) := by
  refine lc_tup (xs := vP us) (fun i' H => Same H1 H ∧ H D = some (.lst (((prs us).take i').map f))) ⟨fun b o e => by rw [upd_ne (ne_of_none e nD)]; exact e, upd_same⟩ (fun _ H _ z => hl.ext z.1) ?_ ?_
  · rintro i' x H hx ⟨sm, hD⟩
    rw [vP, List.getElem?_map] at hx
    cases hu : us[i']? with
    | none => rw [hu] at hx; cases hx
    | some u =>
      rw [hu] at hx
      obtain rfl : V.ref u.1 = x := Option.some.inj hx
      have hm : u ∈ us := List.mem_of_getElem? hu
      have et : (prs us).take (i' + 1) = (prs us).take i' ++ [u.2] := by
        rw [List.take_add_one, prs, List.getElem?_map, hu]
        rfl
      refine gPr_at ((ht u hm).ext sm) ⟨hw _ _, ?_⟩
      have e0 : ∀ (σ : L2.St) (H : Hp) (R : Bool → Hp → Prop), R true H → tYes σ H R := fun _ _ _ r => r
      refine e0 _ _ _ ?_
      simp only [↓reduceIte]
      refine h u.2 (List.mem_map.mpr ⟨u, hm, rfl⟩) H sm _ fun H3 s3 => ⟨_, s3 _ _ hD, ?_, fun b o e => ?_, ?_⟩
      · have l3 := List.length_take_le' i' (prs us)
        rw [prs_len] at l3
        rw [List.length_map]
        exact Nat.lt_of_le_of_lt l3 (Nat.lt_of_le_of_lt len (by decide))
      · rw [upd_ne (ne_of_none e nD)]
        exact s3 b o (sm b o e)
      · rw [upd_same, et, List.map_append]
        rfl
  · rintro H ⟨sm, hD⟩
    rw [vP_len, ← prs_len, List.take_length] at hD
    exact k H sm hD
end RV
/-! str(o) of an own class -/
namespace RV
open PySem L2 PyProof.Rows
section
variable {X : Cx} {C : Addr} {k : Nat} {sp : Sp}
def rStrO (C : Addr) (sp : Sp) : List V → Hp → VK → Prop := fun xs H Q => ∃ a dx fs, xs = [.ref a] ∧ H a = some (.ins C dx fs) ∧ sp [.ref a] H (fun v H' => ∃ y : Str, v = .str y ∧ Q (.str y) H') E0
theorem call_strO (h : OwnM X.prog X.w X.K X.mg X.base C "__str__" k sp) (hr : Room (k + 2) X.A) : CallR X (.type "str") (rStrO C sp) := by
  intro pins s σ H xs us Q I rx hq
  obtain ⟨a, dx, fs, rfl, ha, hsp⟩ := hq
  obtain ⟨f, fd, ps, hs, hf, _, hb, F⟩ := h
  obtain rfl : us = [.ref a] := Vals.ref1 rx
  obtain ⟨mA, J, _⟩ := ins_get I.hok ha
  obtain ⟨od, J, _⟩ := J.look
  refine PySem.W.kso_call (hr.in1.in1.units0) I.kIn J hs hf (wpAny_mono (call_owns (A := X.A.in1.in1) F hb hr.in1.in1 rfl I rx hsp) (fun r s' z => ?_) fun _ _ x => x)
  obtain ⟨v, H', I', rv, y, rfl, q⟩ := z
  obtain ⟨t, rfl⟩ := rv
  exact ⟨.str y, H', I', ⟨_, rfl⟩, q⟩
end
theorem pieces_sum {qs : List (Str × Int)} (h : ∀ q ∈ qs, IsNm q.1 ∧ q.2.natAbs < 10 ^ 64) : ((pieces qs).map (·.length)).sum ≤ 2010 * (qs.length + 1) := by
  have h1 : ∀ qs : List (Str × Int), (∀ q ∈ qs, IsNm q.1 ∧ q.2.natAbs < 10 ^ 64) → ((qs.map fu).map (·.length)).sum ≤ 2010 * qs.length := by
    intro qs
    induction qs with
    | nil => intro _; exact Nat.le_refl _
    | cons q qs ih =>
      intro h
      have a := fu_len (h q List.mem_cons_self).1 (h q List.mem_cons_self).2
      have b := ih fun r hr => h r (List.mem_cons_of_mem _ hr)
      simp only [List.map_cons, List.sum_cons, List.length_cons]
      omega
  cases qs with
  | nil => decide +kernel
  | cons q qs =>
    have a := wo_len (h q List.mem_cons_self).1 (h q List.mem_cons_self).2
    have b := h1 qs fun r hr => h r (List.mem_cons_of_mem _ hr)
    have c := (sg_len q.2).2
    simp only [pieces, List.map_cons, List.sum_cons, List.length_cons, fi, sl_app]
    omega
theorem pieces_length (qs : List (Str × Int)) : (pieces qs).length ≤ qs.length + 1 := by
  cases qs <;> simp [pieces]
end RV
/-! sums made -/
namespace RV
open PySem L2
theorem sum_make {K : PySem.W.Frag} {C x dx t : Addr} {us : List TP} {H1 : Hp} {Q : VK} {E : XK} (ht : TrmF K H1 t us) (nx : H1 x = none) (nd : H1 dx = none) (_ne : dx ≠ x)
    (k : ∀ (ds : List TP) (m dx' : Addr) H2, Mad (prs us) (prs ds) → Kp H1 (lS C x dx' m ds) H2 → Q (.ref x) H2) :
    Irr (sp_Sum K C) [.ref x, .ref t] (upd (upd H1 dx (.own x)) x (.ins C dx [])) (fun v H2 => v = .non ∧ Q (.ref x) H2) E := by
  have sm : Same H1 (upd (upd H1 dx (.own x)) x (.ins C dx [])) := fun b o e => by
    rw [upd_ne (ne_of_none e nx), upd_ne (ne_of_none e nd)]
    exact e
  refine irr ⟨x, dx, t, us, rfl, upd_same, ⟨ht.tp.ext sm, ht.ps.ext sm, ht.nm, ht.ln⟩, fun ds m dx' H2 md keep new here => ⟨rfl, k ds m dx' H2 md ⟨fun b o e => keep b o (ne_of_none e nx) (sm b o e), fun p hp => ⟨?_, here p hp⟩⟩⟩⟩
  rcases List.mem_cons.mp hp with rfl | hp
  · exact nx
  · have q := new p hp
    have h1 : p.1 ≠ x := fun e => by rw [e, upd_same] at q; cases q
    rw [upd_ne h1] at q
    have h2 : p.1 ≠ dx := fun e => by rw [e, upd_same] at q; cases q
    rwa [upd_ne h2] at q
theorem SumR.of {C x dx t : Addr} {us : List TP} {H : Hp} (h : ∀ p ∈ lS C x dx t us, H p.1 = some p.2) : SumR C H x (prs us) := ⟨dx, t, us, rfl, h⟩
/-- of two sums of terms with the same coefficients the pairs are the same -/
theorem Mad.same {qs qs' rs rs' : List (Str × Int)} (h : Mad qs rs) (h' : Mad qs' rs') (e : ∀ x, RV.co qs x = RV.co qs' x) : rs = rs' := h.nr.uniq h'.nr fun x => by rw [h.co, h'.co, e]
theorem Mad.tot {qs rs : List (Str × Int)} (h : Mad qs rs) {b : Nat} (hb : RV.tot qs ≤ b) : RV.tot rs ≤ 60 * b ∨ 60 < rs.length := by
  by_cases hl : rs.length ≤ 60
  · left
    have h1 : ∀ ts : List (Str × Int), (∀ q ∈ ts, q.2.natAbs ≤ b) → RV.tot ts ≤ ts.length * b := by
      intro ts
      induction ts with
      | nil => intro _; exact Nat.zero_le _
      | cons t ts ih =>
        intro h
        have a := h t List.mem_cons_self
        have c := ih fun r hr => h r (List.mem_cons_of_mem _ hr)
        have e : RV.tot (t :: ts) = t.2.natAbs + RV.tot ts := rfl
        rw [e, List.length_cons, Nat.succ_mul]
        omega
    refine Nat.le_trans (h1 rs fun q hq => ?_) (Nat.mul_le_mul_right b hl)
    have := h.nr.co hq
    rw [← this, h.co]
    exact Nat.le_trans (co_le qs q.1) hb
  · right
    omega
end RV
/-! an int == an own object: the class's own == answers -/
namespace PySem
open AutoSeq1 (wpAny_loadPart')
set_option maxHeartbeats 4000000 in
theorem rv_int_eq_inst (b : Int) (u : Tok) (l C dx : Addr) :
    Meets (Builtin.«int.__eq__» ⟨[.int b u, .ref l], []⟩) (fun _ R s => s.heap.get? l = some (PySem.W.instObj C dx) ∧ R (.ok (.ret .notImplemented)) s) :=
  .of_wp fun prog w A R s h => by
    obtain ⟨hp, g, d, tk, os⟩ := s
    obtain ⟨hl, h⟩ := h
    unfold PySem.W.instObj at hl
    wp_walk using wpAny_loadPart' hl, wpAny_load hl
    exact ⟨_, rfl, h⟩
end PySem
namespace RV
open PySem L2 PyProof.Rows
section
variable {prog : Program} {w : World} {A : Around} {E : Value → Shared → Prop} {s : Shared} {K : PySem.W.Frag} {x C dx L f : Addr} {h₀ : Heap} {m : Str → Option Value} {od : Option Obj} {i : Int} {t : Tok}
open PySem.W in
end
section
variable {X : Cx} {C : Addr} {k : Nat} {sp : Sp}
/-- i == o -/
def rEqI (C : Addr) (sp : Sp) : R2 := fun x y H Q => ∃ (i : Int) (a dx : Addr) (fs : List (Str × V)), x = .int i ∧ y = .ref a ∧ H a = some (.ins C dx fs) ∧ sp [.ref a, .int i] H (fun v H' => ∃ b, v = .bl b ∧ Q (.bl b) H') E0
end
end RV
namespace RV
open PySem L2
def sp_rightS : Sp := fun vs H Q _ => ∃ (a : Addr) (n : Nat), vs = [.ref a] ∧ WellAt H a n ∧ n < 500000 ∧ ∀ H', Grow a H H' → WellAt H' a (n + 3000) → Q (.bl true) H'
def gS (vs zs : List V) : List V := match vs, zs with
  | [x], [t] => [x, t]
  | _, _ => []
/-- what sums and other values are to each other -/
structure SKinds (K : PySem.W.Frag) (C : Addr) : Prop where
  sI : PySem.W.subIn K (.ref C) (.type "int") = some false
  nS : PySem.W.notFirst K C (.ref C) = true
  nT : PySem.W.notFirst K C (.type "tuple") = true
  nX : PySem.W.notFirst K C (.type "str") = true
  nN : PySem.W.notFirst K C (.type "NoneType") = true
  kT : PySem.W.kitOne K (.type "tuple") (.ref C) = some false
  kX : PySem.W.kitOne K (.type "str") (.ref C) = some false
  kN : PySem.W.kitOne K (.type "NoneType") (.ref C) = some false
  kI : PySem.W.kitOne K (.type "int") (.ref C) = some false
section
variable {K : PySem.W.Frag} {C a : Addr} {H : Hp} {Q : VK} {neg : Bool} {qs rs : List (Str × Int)} {y : V} {t : Value}
theorem SumR.ins (h : SumR C H a qs) : ∃ dx fs, H a = some (.ins C dx fs) := by
  obtain ⟨dx, t, us, _, k⟩ := h
  exact ⟨dx, _, k _ List.mem_cons_self⟩
/-- == and != of two sums -/
theorem eqS_sum {b : Addr} (ha : SumR C H a qs) (hb : SumR C H b rs) (na : ∀ q ∈ qs, IsNm q.1) (nb : ∀ q ∈ rs, IsNm q.1) (SK : SKinds K C) (r : Bool) (hr : decide (qs = rs) = r) (q : Q (.bl (if neg then !r else r)) H) : rEqO neg K C (sp_eqS K C) (.ref a) (.ref b) H Q := by
  obtain ⟨dx, fs, ea⟩ := ha.ins
  obtain ⟨dy, gs, eb⟩ := hb.ins
  unfold rEqO
  exact ⟨a, dx, fs, .ref C, rfl, ea, .ins eb, SK.nS, a, .ref b, qs, rfl, ha, na, .inl ⟨b, rs, rfl, hb, nb, _, rfl, by rw [hr]; exact q⟩⟩
end
end RV
/-! a ledger in parts; steps of the sums' own methods over it -/
namespace RV
open PySem L2
abbrev lT (l : Addr) (us : List TP) : List (Addr × HO) := (l, .lst (vP us)) :: lP us
/-- pairs that a sum shows -/
structure Due (qs : List (Str × Int)) : Prop where
  nr : Nrm qs
  nm : ∀ q ∈ qs, IsNm q.1
  tt : tot qs ≤ 10 ^ 45
  ln : qs.length ≤ 60
section
variable {K : PySem.W.Frag} {C a l x dx m t : Addr} {n n' : Nat} {L L' L2 : List (Addr × HO)} {H0 H H' : Hp} {us ds : List TP} {Q : VK} {E : XK}
theorem Sum_kp {R : Hp → Prop} (ht : Trm K H t us) (nx : H x = none) (nd : H dx = none) (ne : dx ≠ x)
    (k : ∀ (ds : List TP) (m dx' : Addr) H2, Mad (prs us) (prs ds) → Kp H (lS C x dx' m ds) H2 → R H2) :
    Irr (sp_Sum K C) [.ref x, .ref t] (upd (upd H dx (.own x)) x (.ins C dx [])) (fun v H2 => v = .non ∧ R H2) E := sum_make (Q := fun _ => R) ht.few nx nd ne k
theorem Sum_kpF {R : Hp → Prop} (ht : TrmF K H t us) (nx : H x = none) (nd : H dx = none) (ne : dx ≠ x)
    (k : ∀ (ds : List TP) (m dx' : Addr) H2, Mad (prs us) (prs ds) → Kp H (lS C x dx' m ds) H2 → R H2) :
    Irr (sp_Sum K C) [.ref x, .ref t] (upd (upd H dx (.own x)) x (.ins C dx [])) (fun v H2 => v = .non ∧ R H2) E := sum_make (Q := fun _ => R) ht nx nd ne k
theorem Mad.due {qs rs : List (Str × Int)} (h : Mad qs rs) (hn : ∀ q ∈ qs, IsNm q.1) (hl : qs.length ≤ 60) (ht : RV.tot qs ≤ 10 ^ 42) : Due rs := by
  refine ⟨h.nr, fun q hq => ?_, ?_, Nat.le_trans h.ln hl⟩
  · obtain ⟨r, hr, e⟩ := List.mem_map.mp (h.nm q hq)
    exact e ▸ hn r hr
  · rcases h.tot ht with z | z
    · exact Nat.le_trans z (by decide)
    · exact absurd (Nat.le_trans h.ln hl) (by omega)
end
/-- C() without arguments -/
theorem pe_mkZ {X : Cx} {x : Str} {C : Addr} {k : Nat} {sp : Sp} {dvs : List V} {p pos : Pos} (h : Mkr X.prog X.w X.K X.mg X.base x C k sp dvs) (hr : Room (k + 1) X.A) (hg : Gl X x := by rfl) (hdb : (x == ("__debug__" : Str)) = false := by decide) : PE X (.Call (.Name x p) [] [] pos) (tMake C sp dvs E0 tNil) := by
  obtain ⟨hm, f, fd, ps, ds, M, hb, hd, F⟩ := h
  exact pe_make0 M F hr hg hm hb hd pass0 hdb
theorem FnG.imp {P : Program} {w : World} {K : PySem.W.Frag} {mg : Str → Option Value} {base : Heap} {k : Nat} {f : Addr} {fd : FuncData} {ps : List Str} {sp sp' : Sp} (F : FnG P w K mg base k f fd ps sp) (h : ∀ vs H Q E, sp' vs H Q E → sp vs H Q E) : FnG P w K mg base k f fd ps sp' :=
  ⟨fun vs H Q E z => F.len vs H Q E (h _ _ _ _ z), fun A o s H args us vs Q E gs hr e0 hb r z => F.run A o s H args us vs Q E gs hr e0 hb r (h _ _ _ _ z)⟩
theorem FnGd.irr {P : Program} {w : World} {K : PySem.W.Frag} {mg : Str → Option Value} {base : Heap} {x : Str} {k : Nat} {ps : List Str} {sp : Sp} (h : FnGd P w K mg base x k ps sp) : FnGd P w K mg base x k ps (Irr sp) := by
  obtain ⟨f, fd, a, b, c, F⟩ := h
  exact ⟨f, fd, a, b, c, F.imp fun _ _ _ _ z => irr_of z⟩
theorem OwnM.irr {P : Program} {w : World} {K : PySem.W.Frag} {mg : Str → Option Value} {base : Heap} {C : Addr} {m : String} {k : Nat} {sp : Sp} (h : OwnM P w K mg base C m k sp) : OwnM P w K mg base C m k (Irr sp) := by
  obtain ⟨f, fd, ps, a, b, c, d, F⟩ := h
  exact ⟨f, fd, ps, a, b, c, d, F.imp fun _ _ _ _ z => irr_of z⟩
theorem Prp.irr {P : Program} {w : World} {K : PySem.W.Frag} {mg : Str → Option Value} {base : Heap} {C : Addr} {m : Str} {k : Nat} {sp : Sp} (h : Prp P w K mg base C m k sp) : Prp P w K mg base C m k (Irr sp) := by
  obtain ⟨c, p, g, fd, ps, a, b, F⟩ := h
  exact ⟨c, p, g, fd, ps, a, b, F.imp fun _ _ _ _ z => irr_of z⟩
theorem nf_self (K : PySem.W.Frag) (C : Addr) : PySem.W.notFirst K C (.ref C) = true := by simp [PySem.W.notFirst]
theorem kit_self (K : PySem.W.Frag) (C : Addr) : PySem.W.kitOne K (.ref C) (.ref C) = some true := by
  unfold PySem.W.kitOne
  rw [if_pos (by simp)]
theorem kit_sub {K : PySem.W.Frag} {C : Addr} {t : Value} (hd : PySem.W.hasDictIn K C = true) (ty : PySem.W.typeIn K (.ref C) = some (.type "type")) (self : PySem.W.subIn K (.ref C) (.ref C) = some true) (hs : PySem.W.subIn K t (.ref C) = some false) : PySem.W.kitOne K t (.ref C) = some false := by
  obtain ⟨cd, hc, _⟩ := PySem.W.any_some hd
  have hne : ¬ (t == Value.ref C) = true := fun e => by
    rw [beq_iff_eq.mp e, self] at hs
    cases hs
  unfold PySem.W.kitOne
  rw [if_neg hne]
  show (if ((PySem.W.clsIn K C).isSome && PySem.W.typeIn K (Value.ref C) == some (Value.type "type")) = true then PySem.W.subIn K t (Value.ref C) else none) = some false
  rw [if_pos (by rw [hc, ty]; simp)]
  exact hs
end RV
/-! rpartition; xs[i::2]; a class in a slot, called; class methods -/
namespace RV
open PySem L2 PyProof.Rows Builtin TL
section
variable {X : Cx} {pins : List (Addr × Obj)} {σ : L2.St} {H : Hp} {s : Shared}
theorem mt_rpartition : MtR X "str.rpartition" (fun x xs H Q => ∃ a b, x = .str a ∧ xs = [.str b] ∧ (b.length == 0) = false ∧ a.length ≤ sizeLine ∧
    ∀ p, H p = none → Q (.ref p) (upd H p (.tup [.str (Txt.rpartition a b).1, .str (Txt.rpartition a b).2.1, .str (Txt.rpartition a b).2.2]))) := by
  intro pins s σ H x xs v us Q I rx rs h
  obtain ⟨a, b, rfl, rfl, hb, hz, h⟩ := h
  obtain ⟨t, rfl⟩ := rx
  cases rs with
  | cons r1 rs =>
    cases rs
    obtain ⟨u, rfl⟩ := r1
    refine call_meets PySem.F.slot_str_rpartition (typeIs_str _ _ _) PySem.F.entry_str_rpartition (PySem.F.args_str_rpartition_2 _ _) (meets_str_rpartition a b t u hb hz) ?_
    unfold Txt.rpartition at h
    revert h
    cases Builtin.Str.lastOccurrence a b 0 a.length with
    | none => intro h; exact laid_parts I h
    | some i => intro h; exact laid_parts I h
theorem pe_rpartition {o e : Expr} {to te : TE} {apos pos : Pos} (ho : PE X o to) (he : PE X e te) (hs : starEach [e] X.env = [(false, eval e X.env)] := by rfl) (hbase : attributeBase o "rpartition" X.env (eval o X.env) = eval o X.env := by rfl) (hline : (apos.endLine == pos.line) = true := by rfl) :
    PE X (.Call (.Attribute o "rpartition" apos) [e] [] pos) (tM1 (fun x xs H Q => ∃ a b, x = .str a ∧ xs = [.str b] ∧ (b.length == 0) = false ∧ a.length ≤ sizeLine ∧
      ∀ p, H p = none → Q (.ref p) (upd H p (.tup [.str (Txt.rpartition a b).1, .str (Txt.rpartition a b).2.1, .str (Txt.rpartition a b).2.2]))) to te) :=
  pe_m1 PySem.F.slot_str_rpartition PySem.F.type_str_rpartition mt_rpartition ho he hs hbase hline
/-- a text cut at its last separator -/
theorem rpart_app {y : Str} {s : Nat} (ey : tl y = [s]) {a b : Str} (h : s ∉ tl b) : Txt.rpartition (a ++ y ++ b) y = (a, y, b) := by
  have hy : tl y ≠ [] := by rw [ey]; simp
  have el : y.length = 1 := by rw [len_tl, ey]; rfl
  have ex : tl (a ++ y ++ b) = tl a ++ (s :: tl b) := by rw [tl_append, tl_append, ey, List.append_assoc]; rfl
  have xl : (a ++ y ++ b).length = (tl a).length + (1 + (tl b).length) := by rw [len_tl, ex, List.length_append, List.length_cons]; omega
  have atA : StrLaws.At (a ++ y ++ b) y (a ++ y ++ b).length (tl a).length := (at_iff hy _).mpr (by
    rw [ex, List.drop_left, ey]
    simp [pre])
  have notB : ∀ k, (tl a).length < k → ¬ StrLaws.At (a ++ y ++ b) y (a ++ y ++ b).length k := fun k hk z => by
    have q := (at_iff hy k).mp z
    obtain ⟨j, rfl⟩ : ∃ j, k = (tl a).length + (j + 1) := ⟨k - (tl a).length - 1, by omega⟩
    rw [ex, List.drop_append, List.drop_eq_nil_of_le (by omega), List.nil_append, show (tl a).length + (j + 1) - (tl a).length = j + 1 by omega, List.drop_succ_cons, ey] at q
    cases e : (tl b).drop j with
    | nil => rw [e] at q; simp [pre] at q
    | cons c r =>
      rw [e] at q
      simp only [pre] at q
      have hc : c = s := by simpa using q
      subst hc
      exact h (List.mem_of_mem_drop (i := j) (by rw [e]; exact List.mem_cons_self))
  rcases StrLaws.last_spec (a ++ y ++ b) y with ⟨_, n⟩ | ⟨i, e, h1, h2⟩
  · exact absurd atA (n _)
  · have hi : i = (tl a).length := by
      rcases Nat.lt_trichotomy i (tl a).length with q | q | q
      · exact absurd atA (h2 _ q)
      · exact q
      · exact absurd h1 (notB _ q)
    subst hi
    unfold Txt.rpartition
    rw [e]
    dsimp only
    refine Prod.ext (cd_inj ?_) (Prod.ext rfl (cd_inj ?_))
    · show tl (Builtin.Str.strSub _ _ _) = tl a
      rw [tl_strSub, ex, List.drop_zero, Nat.sub_zero, List.take_left]
    · show tl (Builtin.Str.strSub _ _ _) = tl b
      rw [tl_strSub_end, ex, el, List.drop_append, List.drop_eq_nil_of_le (by omega), List.nil_append, show (tl a).length + 1 - (tl a).length = 1 by omega, List.drop_succ_cons, List.drop_zero]
theorem rpart_none {y : Str} {s : Nat} (ey : tl y = [s]) {a : Str} (h : s ∉ tl a) : Txt.rpartition a y = (Str.empty, Str.empty, a) := by
  have hy : tl y ≠ [] := by rw [ey]; simp
  rcases StrLaws.last_spec a y with ⟨e, _⟩ | ⟨i, e, h1, _⟩
  · unfold Txt.rpartition
    rw [e]
  · have q := (at_iff hy i).mp h1
    rw [ey] at q
    cases e2 : (tl a).drop i with
    | nil => rw [e2] at q; simp [pre] at q
    | cons c r =>
      rw [e2] at q
      simp only [pre] at q
      have hc : c = s := by simpa using q
      subst hc
      exact absurd (List.mem_of_mem_drop (i := i) (by rw [e2]; exact List.mem_cons_self)) h
end
/-! ### every other item of a list -/
def step2 {α : Type} (i : Nat) (xs : List α) : List α := (sliceRange (min i xs.length : Nat) xs.length 2).filterMap (xs[·]?)
theorem vals_at : ∀ {xs : List V} {us : List Value}, Vals xs us → ∀ j : Nat, (xs[j]? = none ∧ us[j]? = none) ∨ ∃ x u, xs[j]? = some x ∧ us[j]? = some u ∧ RelV x u
  | _, _, .nil, j => .inl ⟨rfl, rfl⟩
  | _, _, .cons a r, 0 => .inr ⟨_, _, rfl, rfl, a⟩
  | _, _, .cons a r, j + 1 => by simpa using vals_at r j
theorem vals_pick {xs : List V} {us : List Value} (r : Vals xs us) : ∀ js : List Nat, Vals (js.filterMap (xs[·]?)) (js.filterMap (us[·]?))
  | [] => .nil
  | j :: js => by
    rcases vals_at r j with ⟨e1, e2⟩ | ⟨x, u, e1, e2, a⟩
    · rw [List.filterMap_cons_none e1, List.filterMap_cons_none e2]
      exact vals_pick r js
    · rw [List.filterMap_cons_some e1, List.filterMap_cons_some e2]
      exact .cons a (vals_pick r js)
def tSl2 (K : PySem.W.Frag) (i : Nat) (te : TE) : TE := fun σ H Q => te σ H fun x H1 => ∃ a xs, x = .ref a ∧ SqL K H1 a xs ∧ ∀ p, H1 p = none → Q (.ref p) (upd H1 p (.lst (step2 i xs)))
theorem pe_sl2 {X : Cx} {e : Expr} {te : TE} {i k1 k2 : Nat} {p1 p2 p3 pos : Pos} (he : PE X e te) : PE X (.Subscript e (.Slice (some (.Constant (.int (i : Nat)) k1 p1)) none (some (.Constant (.int 2) k2 p2)) p3) pos) (tSl2 X.K i te) := by
  refine ⟨fun pins s σ H Q I h => ?_⟩
  refine Subscript_ (thn (he.run pins s σ H _ I h) fun v s1 ⟨x, H1, I1, r1, q1⟩ => ?_)
  obtain ⟨a, xs, ex, hx, q⟩ := q1
  subst ex
  cases r1
  have hlo : PO X (some (.Constant (.int (i : Nat)) k1 p1)) (tPart (tC (.int (i : Nat)))) := po_some pe_int
  have hst : PO X (some (.Constant (.int 2) k2 p2)) (tPart (tC (.int 2))) := po_some pe_int
  refine wpAny_Slice (thn (hlo.run pins s1 σ H1 (fun o H2 => o = some (i : Int) ∧ H2 = H1) I1 ⟨_, rfl, rfl, rfl⟩) fun vl s2 ⟨l, H2, I2, pl, el, e2⟩ => ?_)
  subst el e2
  refine thn (po_none.run pins s2 σ H2 (fun o H3 => o = none ∧ H3 = H2) I2 ⟨rfl, rfl⟩) fun vu s3 ⟨u, H3, I3, pu, eu, e3⟩ => ?_
  subst eu e3
  refine thn (hst.run pins s3 σ H3 (fun o H4 => o = some 2 ∧ H4 = H3) I3 ⟨_, rfl, rfl, rfl⟩) fun vs s4 ⟨o, H4, I4, ps, eo, e4⟩ => ?_
  subst eo e4
  have I5 : Inv X pins σ H4 { s4 with heap := s4.heap.push { cls := .type "slice", data := .fields #[vl, vu, vs] } } := I4.kept (t' := s4.toks) fun b ob q => Heap.get?_push_of_some _ q
  obtain ⟨its, r, ht, hz⟩ := I5.list hx
  have hlen := r.length
  show wpAny (model X.prog X.w) X.A (subscriptTail e (.Slice (some (.Constant (.int (i : Nat)) k1 p1)) none (some (.Constant (.int 2) k2 p2)) p3) (.ref a) (.ref s4.heap.objs.size)) (EP X pins σ Q) X.xe { s4 with heap := s4.heap.push { cls := .type "slice", data := .fields #[vl, vu, vs] } }
  refine tail_any (ops := [.ref a, .ref s4.heap.objs.size]) ht.isList.typeIs (PySem.slot_list_getitem.lookup) ?_ (by with_unfolding_all rfl)
  refine wpAny_getItem_list_slice ht.isList (Heap.IsSliceOf.new _ vl vu vs) pl pu ps (by decide) ?_ (by rw [List.size_toArray]; omega)
  have e : slicePick its.toArray (some (i : Int)) none (some 2) = (step2 i its).toArray := by
    unfold slicePick step2
    have b : sliceBounds (some (i : Int)) none (some 2) its.toArray.size = (((min i its.length : Nat) : Int), (its.length : Int), 2) := by
      simp only [sliceBounds, Option.getD_some, List.size_toArray]
      have h0 : ¬ (i : Int) < 0 := by omega
      simp only [h0, if_false, show (2 : Int) > 0 by decide, if_true]
      congr 1
      omega
    rw [b]
    simp
  rw [e]
  have hl2 : (step2 i xs).length ≤ sizeLine := by
    refine Nat.le_trans (List.length_filterMap_le _ _) ?_
    unfold sliceRange
    rw [List.length_map, List.length_range]
    simp only [show (2 : Int) > 0 by decide, if_true]
    split <;> omega
  refine ⟨.ref _, _, I5.laid (t' := s4.toks) (o := .lst (step2 i xs)) (fun b ob q => Heap.get?_push_of_some _ q) (Nat.le_refl _) ?_, rfl, q _ (I5.hok.fresh (Nat.le_refl _))⟩
  refine ⟨hl2, _, 0, ?_, Heap.get?_push_size _ rfl⟩
  unfold step2
  rw [hlen]
  exact vals_pick r _
/-! ### a class in a slot -/
theorem pe_mkL {X : Cx} {C : Addr} {k i : Nat} {sp : Sp} {dvs : List V} {x y : Str} {p pos : Pos} {e : Expr} {es : List Expr} {t : TA} (h : Mkr X.prog X.w X.K X.mg X.base y C k sp dvs) (hr : Room (k + 1) X.A) (hN : X.N[i]? = some x) (hv : Vis X.env.scope x) (ha : PA X (e :: es) t)
    (hdb : (x == ("__debug__" : Str)) = false := by decide) (hcd : (x == ("__classdict__" : Str)) = false := by decide)
    (he : starEach (e :: es) X.env = (false, eval e X.env) :: starEach es X.env := by rfl) (hpl : (backTo pos (starEach es X.env)).any (·.1) = false := by rfl) : PE X (.Call (.Name x p) (e :: es) [] pos) (fun σ H Q => σ[i]? = some (some (.ref C)) ∧ tMake C sp dvs E0 t σ H Q) := by
  obtain ⟨_, f, fd, ps, ds, M, hb, hd, F⟩ := h
  refine ⟨fun pins s σ H Q I h => ?_⟩
  obtain ⟨hs, ht⟩ := h
  refine wpAny_Call_Name_kw (thn ((pe_var (pos := p) hN hv hdb hcd).run pins s σ H (fun v H1 => v = .ref C ∧ H1 = H) I ⟨.ref C, hs, rfl, rfl⟩) fun u s1 ⟨v, H1, I1, r1, q1⟩ => ?_)
  obtain ⟨rfl, rfl⟩ := q1
  cases r1
  refine PySem.W.callWith_K (h₀ := X.base) I.ok.mod.kin M.kp (thn (ha.run pos pins s1 σ _ _ I1 ht) fun us s2 ⟨vs, H2, I2, r, q⟩ => ⟨I2.kIn, ?_⟩) he hpl
  exact run_make M F hr hb hd pass0 I2 r q
end RV
/-! class methods; repr of a text; texts of sums, cut again -/
namespace RV
open PySem L2 PyProof.Rows ClX
/-- the class C has a class method m that promises sp -/
def ClsM (P : Program) (w : World) (K : PySem.W.Frag) (mg : Str → Option Value) (base : Heap) (C : Addr) (m : Str) (k : Nat) (ps : List Str) (sp : Sp) : Prop :=
  ∃ mc p g fd, CRead K C mc ∧ CMet K C mc m p g ∧ Binds K fd ps [] ∧ FnOk P w K mg base CX0 k g fd ps sp
/-- .. called by keywords -/
def ClsMK (P : Program) (w : World) (K : PySem.W.Frag) (mg : Str → Option Value) (base : Heap) (C : Addr) (m : Str) (k : Nat) (ks : List Str) (sp : Sp) (gV : List V → List V → List V) : Prop :=
  ∃ mc p g fd ps gg, CRead K C mc ∧ CMet K C mc m p g ∧ KBn K fd ps 1 ks gg gV ∧ FnOk P w K mg base CX0 k g fd ps sp
theorem ClsM.irr {P : Program} {w : World} {K : PySem.W.Frag} {mg : Str → Option Value} {base : Heap} {C : Addr} {m : Str} {k : Nat} {ps : List Str} {sp : Sp} (h : ClsM P w K mg base C m k ps sp) : ClsM P w K mg base C m k ps (Irr sp) := by
  obtain ⟨mc, p, g, fd, a, b, c, F⟩ := h
  exact ⟨mc, p, g, fd, a, b, c, F.imp fun _ _ _ _ z => irr_of z⟩
section
variable {X : Cx} {C : Addr} {k : Nat} {m : Str} {ps ks : List Str} {sp : Sp} {gV : List V → List V → List V} {o e : Expr} {es : List Expr} {kws : List Keyword} {t tk : TA} {ta : TE} {pos apos : Pos} {pl : Sem Bool}
theorem pe_cm (h : ClsM X.prog X.w X.K X.mg X.base C m k ps sp) (hr : Room k X.A) (he : PE X o ta) (ha : PA X (e :: es) t)
    (hst : starEach (e :: es) X.env = (false, eval e X.env) :: starEach es X.env := by rfl) (hpl : (backTo pos (starEach es X.env)).any (·.1) = false := by rfl)
    (ht : eval (.Call (.Attribute o m apos) (e :: es) [] pos) X.env = (do
      let ov ← eval o X.env
      standAt apos.atName
      let (f, first) ← holding [ov] (getMethod ov m pl)
      callWith pos f first (backTo pos (starEach (e :: es) X.env)) (backToKw pos (keywordEach [] X.env))) := by rfl) :
    PE X (.Call (.Attribute o m apos) (e :: es) [] pos) (tCMeth C sp E0 ta t) := by
  obtain ⟨mc, p, g, fd, r, c, hb, F⟩ := h
  exact pe_cmeth he r c ((FnOk.raw F hb .nil).imp fun vs H Q E z => by rw [List.append_nil]; exact z) hr pass0 ha hst hpl ht
def tCMethK (C : Addr) (n : Nat) (sp : Sp) (gV : List V → List V → List V) (ta : TE) (tk : TA) : TE := fun σ H Q => ta σ H fun x H1 => x = .ref C ∧ tk σ H1 fun zs H2 => zs.length = n ∧ sp (gV [.ref C] zs) H2 Q E0
@[irreducible] def rReprS : List V → Hp → VK → Prop := fun xs H Q => ∃ x : Str, xs = [.str x] ∧ (reprText x).length ≤ sizeLine ∧ Q (.str (reprText x)) H
end
end RV
/-! the text of a sum, cut into its words -/
namespace RV
open PySem L2 PyProof.Rows TL
def sgn (q : Str × Int) : Str := if q.2 < 0 then "-" else "+"
def parts (qs : List (Str × Int)) : List Str := qs.flatMap fun q => [sgn q, wo q.1 q.2]
def partsZ (qs : List (Str × Int)) : List Str := if qs = [] then ["+", "0"] else parts qs
def apart (z : Str) : Str := if Txt.startswith z "-" then ("- " : Str) ++ cutS z (some 1) none else ("+ " : Str) ++ z
theorem cd_em : cd Str.empty = [] := by decide +kernel
theorem cd_sp : cd " " = [32] := by decide +kernel
theorem cd_mi : cd "-" = [45] := by decide +kernel
theorem cd_pl : cd "+" = [43] := by decide +kernel
theorem cd_st : cd "*" = [42] := by decide +kernel
theorem cd_no : cd "" = [] := by decide +kernel
theorem cd_ze : cd "0" = [48] := by decide +kernel
theorem joinL_nil : ∀ l : List (List Nat), joinL [] l = l.flatten
  | [] => rfl
  | [p] => by simp [joinL]
  | p :: q :: r => by
    show p ++ ([] ++ joinL [] (q :: r)) = _
    rw [joinL_nil (q :: r), List.nil_append]
    rfl
theorem cd_fu (q : Str × Int) : cd (fu q) = 32 :: (cd (sgn q) ++ (32 :: cd (wo q.1 q.2))) := by
  unfold fu sgn
  rw [cd_app, cd_app, cd_app, cd_app, cd_em, cd_sp]
  simp
theorem cd_txt (q : Str × Int) (qs : List (Str × Int)) : cd (txt (q :: qs)) = cd (fi q) ++ (qs.map fun r => cd (fu r)).flatten := by
  unfold txt
  rw [join_eq]
  show tl _ = _
  rw [tl_join, show tl "" = [] from cd_no, joinL_nil]
  show ((fi q :: qs.map fu).map tl).flatten = _
  rw [List.map_cons, List.flatten_cons, List.map_map]
  rfl
theorem join_parts : ∀ (q : Str × Int) (qs : List (Str × Int)), joinL [32] ((parts (q :: qs)).map tl) = cd (sgn q) ++ (32 :: (cd (wo q.1 q.2) ++ (qs.map fun r => cd (fu r)).flatten))
  | q, [] => by simp [parts, joinL]
  | q, r :: qs => by
    have ih := join_parts r qs
    show tl (sgn q) ++ ([32] ++ (tl (wo q.1 q.2) ++ ([32] ++ joinL [32] ((parts (r :: qs)).map tl)))) = _
    rw [ih, List.map_cons, List.flatten_cons, cd_fu]
    simp
/-! the signs of words -/
def okC (c : Nat) : Bool := tailC c || c == 42
theorem okC_of {c : Nat} (h : tailC c = true) : okC c = true := by unfold okC; rw [h]; rfl
theorem num_cd {z : Int} (h : 0 ≤ z) : cd (num z) = numL z.toNat := by
  have := tl_num z.toNat
  rwa [Int.toNat_of_nonneg h] at this
theorem num_dig {z : Int} (h : 0 ≤ z) : ∀ c ∈ cd (num z), digC c = true := by
  rw [num_cd h]
  intro c hc
  have := numL_digits z.toNat c hc
  simp only [digC, Bool.and_eq_true, decide_eq_true_eq]
  omega
theorem ab_nn (z : Int) : 0 ≤ ab z := by unfold ab; split <;> omega
theorem wo_ok {x : Str} {z : Int} (hx : IsNm x) : ∀ c ∈ cd (wo x z), okC c = true := by
  have h1 : ∀ c ∈ cd x, okC c = true := fun c hc => okC_of (List.all_eq_true.mp (isNm_all hx) c hc)
  unfold wo
  split
  · exact h1
  · intro c hc
    rw [cd_app, cd_app, cd_app, cd_em, cd_st, List.nil_append] at hc
    rcases List.mem_append.mp hc with hc | hc
    · rcases List.mem_append.mp hc with hc | hc
      · exact okC_of (by rw [tailC, num_dig (ab_nn z) c hc, Bool.or_true])
      · rw [List.mem_singleton.mp hc]
        rfl
    · exact h1 c hc
theorem okC_32 {c : Nat} (h : okC c = true) : c ≠ 32 ∧ c ≠ 45 ∧ c < 127 ∧ 42 ≤ c := by
  simp only [okC, tailC, lowC, digC, Bool.or_eq_true, Bool.and_eq_true, decide_eq_true_eq, beq_iff_eq] at h
  omega
theorem wo_ne {x : Str} {z : Int} (hx : IsNm x) : ∃ c r, cd (wo x z) = c :: r := by
  cases e : cd (wo x z) with
  | cons c r => exact ⟨c, r, rfl⟩
  | nil =>
    exfalso
    unfold wo at e
    split at e
    · have := (isNm_len hx).1
      rw [show x.cps.toList = [] from e] at this
      exact absurd this (by decide)
    · rw [cd_app, cd_app, cd_st] at e
      simp at e
theorem pre_one (s c : Nat) (r : List Nat) : pre [s] (c :: r) = (c == s) := by simp [pre]
theorem sw_cons {z : Str} {c : Nat} {r : List Nat} (h : cd z = c :: r) : Txt.startswith z "-" = (c == 45) := by
  have hy : tl "-" ≠ [] := by rw [show tl "-" = [45] from cd_mi]; simp
  have i := at_iff (x := z) hy 0
  rw [List.drop_zero, show tl z = c :: r from h, show tl "-" = [45] from cd_mi, pre_one] at i
  have e : Txt.startswith z "-" = true ↔ StrLaws.At z "-" z.length 0 := by
    unfold Txt.startswith StrLaws.At
    rw [Bool.and_eq_true, decide_eq_true_eq]
  cases hb : (c == 45) with
  | true => exact e.mpr (i.mpr hb)
  | false =>
    cases hs : Txt.startswith z "-" with
    | false => rfl
    | true => rw [i.mp (e.mp hs)] at hb; cases hb
theorem apart_txt {qs : List (Str × Int)} (h : ∀ q ∈ qs, IsNm q.1) : apart (txt qs) = Txt.join " " (partsZ qs) := by
  refine cd_inj ?_
  rw [join_eq]
  show _ = tl _
  rw [tl_join, show tl " " = [32] from cd_sp]
  cases qs with
  | nil => decide +kernel
  | cons q qs =>
    have e : partsZ (q :: qs) = parts (q :: qs) := if_neg (by simp)
    rw [e, join_parts]
    obtain ⟨c, r, hc⟩ := wo_ne (z := q.2) (h q List.mem_cons_self)
    have c45 := (okC_32 (wo_ok (z := q.2) (h q List.mem_cons_self) c (by rw [hc]; exact List.mem_cons_self))).2.1
    have ct := cd_txt q qs
    unfold apart sgn
    unfold fi at ct
    by_cases hz : q.2 < 0
    · rw [if_pos hz, cd_app, cd_mi] at ct
      rw [if_pos hz, sw_cons (c := 45) (by rw [ct]; rfl), if_pos (by rfl), cd_app, cd_rest, ct, cd_mi]
      have : cd ("- " : Str) = [45, 32] := by decide +kernel
      rw [this]
      simp
    · rw [if_neg hz, cd_app, cd_no, List.nil_append] at ct
      rw [if_neg hz, sw_cons (c := c) (by rw [ct, hc]; rfl), if_neg (by simp [c45]), cd_app, ct, cd_pl]
      have : cd ("+ " : Str) = [43, 32] := by decide +kernel
      rw [this]
      simp
theorem parts_free {qs : List (Str × Int)} (h : ∀ q ∈ qs, IsNm q.1) : ∀ p ∈ partsZ qs, 32 ∉ tl p := by
  unfold partsZ
  split
  · decide +kernel
  · intro p hp
    obtain ⟨q, hq, hp⟩ := List.mem_flatMap.mp hp
    simp only [List.mem_cons, List.not_mem_nil, or_false] at hp
    rcases hp with rfl | rfl
    · unfold sgn
      split <;> decide +kernel
    · intro hc
      exact (okC_32 (wo_ok (h q hq) 32 hc)).1 rfl
theorem split_apart {qs : List (Str × Int)} (h : ∀ q ∈ qs, IsNm q.1) : Txt.split (Txt.join " " (partsZ qs)) " " = partsZ qs := by
  refine split_join (s := 32) (S := []) cd_sp (by decide +kernel) (fun e => ?_) (parts_free h)
  unfold partsZ at e
  split at e
  · cases e
  · rename_i hn
    cases qs with
    | nil => exact hn rfl
    | cons q qs => simp [parts] at e
/-! a word, cut at its star -/
theorem star_one {x : Str} {z : Int} (hx : IsNm x) (h1 : ab z = 1) : Txt.rpartition (wo x z) "*" = (Str.empty, Str.empty, x) := by
  unfold wo
  rw [if_pos h1]
  refine rpart_none (s := 42) cd_st fun hc => ?_
  have := List.all_eq_true.mp (isNm_all hx) 42 hc
  exact absurd this (by decide)
theorem star_two {x : Str} {z : Int} (hx : IsNm x) (h1 : ¬ ab z = 1) : Txt.rpartition (wo x z) "*" = (num (ab z), ("*" : Str), x) := by
  unfold wo
  rw [if_neg h1]
  have e : Str.empty ++ num (ab z) = num (ab z) := cd_inj (by rw [cd_app, cd_em, List.nil_append])
  rw [e]
  refine rpart_app (s := 42) cd_st fun hc => ?_
  have := List.all_eq_true.mp (isNm_all hx) 42 hc
  exact absurd this (by decide)
theorem star_zero : Txt.rpartition "0" "*" = (Str.empty, Str.empty, ("0" : Str)) := rpart_none (s := 42) (a := "0") cd_st (by decide +kernel)
/-! every other of the words -/
theorem range_map {α β : Type} (f : α → β) (l : List α) : (List.range l.length).filterMap (fun j => (l[j]?).map f) = l.map f := by
  induction l with
  | nil => rfl
  | cons a l ih =>
    rw [List.length_cons, List.range_succ_eq_map]
    have e : (List.filterMap (fun j => ((a :: l)[j]?).map f) (0 :: (List.range l.length).map Nat.succ)) = f a :: List.filterMap (fun j => ((a :: l)[j]?).map f) ((List.range l.length).map Nat.succ) := List.filterMap_cons_some rfl
    rw [e, List.filterMap_map, List.map_cons, ← ih]
    rfl
theorem flat_even {α : Type} (f g : α → V) : ∀ (l : List α) (j : Nat), (l.flatMap fun q => [f q, g q])[2 * j]? = (l[j]?).map f ∧ (l.flatMap fun q => [f q, g q])[2 * j + 1]? = (l[j]?).map g
  | [], j => by simp
  | q :: l, 0 => by simp
  | q :: l, j + 1 => by
    obtain ⟨a, b⟩ := flat_even f g l j
    have e : (q :: l).flatMap (fun q => [f q, g q]) = f q :: g q :: l.flatMap fun q => [f q, g q] := rfl
    rw [e, show 2 * (j + 1) = 2 * j + 1 + 1 by omega, show 2 * j + 1 + 1 + 1 = (2 * j + 1) + 1 + 1 by omega]
    simp only [List.getElem?_cons_succ]
    exact ⟨a, b⟩
theorem flat_len {α : Type} (f g : α → V) (l : List α) : (l.flatMap fun q => [f q, g q]).length = 2 * l.length := by
  induction l with
  | nil => rfl
  | cons q l ih =>
    show (f q :: g q :: l.flatMap fun q => [f q, g q]).length = _
    rw [List.length_cons, List.length_cons, ih, List.length_cons]
    omega
theorem step2_even {α : Type} (f g : α → V) (l : List α) : step2 0 (l.flatMap fun q => [f q, g q]) = l.map f := by
  unfold step2
  rw [flat_len, Nat.zero_min, ← range_map f l]
  unfold sliceRange
  have hc : (if (2 : Int) > 0 then (if ((0 : Nat) : Int) < ((2 * l.length : Nat) : Int) then (((2 * l.length : Nat) : Int) - ((0 : Nat) : Int) + 2 - 1) / 2 else 0) else (if ((0 : Nat) : Int) > ((2 * l.length : Nat) : Int) then (((0 : Nat) : Int) - ((2 * l.length : Nat) : Int) - 2 - 1) / (-2) else 0)).toNat = l.length := by
    simp only [show (2 : Int) > 0 by decide, if_true]
    split <;> omega
  simp only [hc]
  rw [List.filterMap_map]
  congr 1
  funext j
  show (l.flatMap fun q => [f q, g q])[(((0 : Nat) : Int) + 2 * (j : Int)).toNat]? = _
  rw [show (((0 : Nat) : Int) + 2 * (j : Int)).toNat = 2 * j by omega]
  exact (flat_even f g l j).1
theorem step2_odd {α : Type} (f g : α → V) (l : List α) : step2 1 (l.flatMap fun q => [f q, g q]) = l.map g := by
  cases l with
  | nil => rfl
  | cons q0 l0 =>
    generalize hl : q0 :: l0 = l
    have h1 : 1 ≤ l.length := by rw [← hl, List.length_cons]; omega
    unfold step2
    rw [flat_len, Nat.min_eq_left (by omega), ← range_map g l]
    unfold sliceRange
    have hc : (if (2 : Int) > 0 then (if ((1 : Nat) : Int) < ((2 * l.length : Nat) : Int) then (((2 * l.length : Nat) : Int) - ((1 : Nat) : Int) + 2 - 1) / 2 else 0) else (if ((1 : Nat) : Int) > ((2 * l.length : Nat) : Int) then (((1 : Nat) : Int) - ((2 * l.length : Nat) : Int) - 2 - 1) / (-2) else 0)).toNat = l.length := by
      simp only [show (2 : Int) > 0 by decide, if_true]
      split <;> omega
    simp only [hc]
    rw [List.filterMap_map]
    congr 1
    funext j
    show (l.flatMap fun q => [f q, g q])[(((1 : Nat) : Int) + 2 * (j : Int)).toNat]? = _
    rw [show (((1 : Nat) : Int) + 2 * (j : Int)).toNat = 2 * j + 1 by omega]
    exact (flat_even f g l j).2
end RV
/-! what reading a text promises -/
namespace RV
open PySem L2 PyProof.Rows TL
def sp_digits : Sp := fun vs H Q _ => ∃ z : Int, vs = [.str (num z)] ∧ 0 ≤ z ∧ Q (.bl true) H
def sp_readnum : Sp := fun vs H Q _ => ∃ z : Int, vs = [.str (num z)] ∧ 0 ≤ z ∧ z < 10 ^ 60 ∧ Q (.int z) H
def sp_apart : Sp := fun vs H Q _ => ∃ z : Str, vs = [.str z] ∧ z.length ≤ 1000000 ∧ Q (.str (apart z)) H
/-- a word of a sum's text -/
def sp_rterm (_K : PySem.W.Frag) : Sp := fun vs H Q _ => (∃ q : Str × Int, vs = [.str (sgn q), .str (wo q.1 q.2)] ∧ IsNm q.1 ∧ q.2.natAbs < 10 ^ 60 ∧ ∀ t H', Kp H [(t, oP q)] H' → Q (.ref t) H') ∨
  (vs = [.str "+", .str "0"] ∧ ∀ H', Same H H' → Q .non H')
def sp_termsin (_K : PySem.W.Frag) : Sp := fun vs H Q _ => ∃ qs : List (Str × Int), vs = [.str (txt qs)] ∧ Due qs ∧ ∀ (us : List TP) (m : Addr) H', prs us = qs → Kp H ((m, .tup (vP us)) :: lP us) H' → Q (.ref m) H'
def sp_read (C : Addr) : Sp := fun vs H Q _ => ∃ qs : List (Str × Int), vs = [.ref C, .str (txt qs)] ∧ Due qs ∧ ∀ (x dx m : Addr) (us : List TP) H', prs us = qs → Kp H (lS C x dx m us) H' → Q (.ref x) H'
theorem all_cps {p : Nat → Bool} {x : Str} (h : ∀ c ∈ cd x, p c = true) : x.cps.all p = true := by
  rw [← Array.all_toList]
  exact List.all_eq_true.mpr h
theorem num_ascii {z : Int} (h : 0 ≤ z) : Txt.isascii (num z) = true := all_cps fun c hc => by
  have := num_dig h c hc
  simp only [digC, Bool.and_eq_true, decide_eq_true_eq] at this ⊢
  omega
theorem dig_uni {c : Nat} (h : digC c = true) : Unicode.isDigit c = true := by
  simp only [digC, Bool.and_eq_true, decide_eq_true_eq] at h
  have : c = 48 ∨ c = 49 ∨ c = 50 ∨ c = 51 ∨ c = 52 ∨ c = 53 ∨ c = 54 ∨ c = 55 ∨ c = 56 ∨ c = 57 := by omega
  rcases this with e | e | e | e | e | e | e | e | e | e <;> subst e <;> decide +kernel
theorem num_len0 {z : Int} (h : 0 ≤ z) : 1 ≤ (num z).length := by
  rw [cd_len, num_cd h]
  exact List.length_pos_iff.mpr (numL_ne _)
theorem num_digit {z : Int} (h : 0 ≤ z) : Txt.isdigit (num z) = true := by
  unfold Txt.isdigit
  rw [Bool.and_eq_true, decide_eq_true_eq]
  exact ⟨num_len0 h, all_cps fun c hc => dig_uni (num_dig h c hc)⟩
theorem num_len60 {z : Int} (h : 0 ≤ z) (h1 : z < 10 ^ 60) : (num z).length ≤ 60 := by
  rw [cd_len, num_cd h]
  refine numL_len (by decide) ?_
  have : ((z.toNat : Nat) : Int) < ((10 ^ 60 : Nat) : Int) := by
    rw [Int.toNat_of_nonneg h]
    exact h1
  exact Int.ofNat_lt.mp this
/-- int of a 0 and the digits -/
theorem int_back {z : Int} (h : 0 ≤ z) (h1 : z < 10 ^ 60) : intText? (("0" : Str) ++ num z) = some z := by
  have e : cd (("0" : Str) ++ num z) = 48 :: numL z.toNat := by rw [cd_app, cd_ze, num_cd h]; rfl
  have l := num_len60 h h1
  rw [cd_len, num_cd h] at l
  have r := intText_digits (x := ("0" : Str) ++ num z) (by
    rw [show (("0" : Str) ++ num z).cps.toList = 48 :: numL z.toNat from e]
    intro c hc
    rcases List.mem_cons.mp hc with rfl | hc
    · decide
    · exact numL_digits _ c hc) (by rw [show (("0" : Str) ++ num z).cps.toList = 48 :: numL z.toNat from e]; simp) (by
    rw [cd_len, e, List.length_cons]
    omega)
  rw [r, show (("0" : Str) ++ num z).cps.toList = 48 :: numL z.toNat from e]
  have v : NumText.digitsVal (48 :: numL z.toNat) = NumText.digitsVal (numL z.toNat) := rfl
  rw [v, numL_val, Int.toNat_of_nonneg h]
theorem txt_len {qs : List (Str × Int)} (d : Due qs) : (txt qs).length ≤ 200000 := by
  have h : ∀ q ∈ qs, IsNm q.1 ∧ q.2.natAbs < 10 ^ 64 := fun q hq => ⟨d.nm q hq, Nat.lt_of_le_of_lt (tot_mem hq) (Nat.lt_of_le_of_lt d.tt (by decide))⟩
  have e : (txt qs).length = ((pieces qs).map (·.length)).sum := by
    unfold txt
    rw [join_eq, len_tl, tl_join, show tl "" = [] from cd_no, joinL_nil, List.length_flatten, List.map_map]
    exact congrArg List.sum (List.map_congr_left fun x _ => (len_tl x).symm)
  have h1 := pieces_sum h
  have h2 := d.ln
  rw [e]
  omega
theorem Kp.thn {H0 H H' : Hp} {L L' : List (Addr × HO)} (h : Kp H0 L H) (k : Kp H L' H') : Kp H0 (L' ++ L) H' := ⟨fun b o e => k.sm b o (h.sm b o e), fun p hp => (List.mem_append.mp hp).elim (fun z => ⟨h.none0 (k.nw p z).1, (k.nw p z).2⟩) fun z => ⟨(h.nw p z).1, k.sm _ _ (h.nw p z).2⟩⟩
theorem Kp.put {H0 H : Hp} {L : List (Addr × HO)} {D : Addr} {o : HO} (h : Kp H0 L H) (h0 : H0 D = none) (hp : ∀ p ∈ L, p.1 ≠ D) : Kp H0 L (upd H D o) :=
  ⟨fun b u e => by rw [upd_ne (ne_of_none e h0)]; exact h.sm b u e, fun p hq => ⟨(h.nw p hq).1, by rw [upd_ne (hp p hq)]; exact (h.nw p hq).2⟩⟩
theorem Kp.off {H0 H : Hp} {us : List TP} {D : Addr} {xs : List V} (h : Kp H0 (lP us) H) (e : H D = some (.lst xs)) : ∀ p ∈ lP us, p.1 ≠ D := fun p hp z => by
  have q := (h.nw p hp).2
  rw [z, e] at q
  obtain ⟨u, _, rfl⟩ := List.mem_map.mp hp
  cases Option.some.inj q
/-- [f(s, w) for s, w in zip(xs, ys)]: f may make things -/
theorem cutS_all (z : Str) (k : Nat) (h : z.length ≤ k) : cutS z none (some (k : Int)) = z := cd_inj (by rw [cd_pre, List.take_of_length_le (by rw [← cd_len]; exact h)])
end RV
/-! the text of a sum, term by term -/
namespace RV
open PySem L2 PyProof.Rows TL
/-- the line behind some terms -/
def line (qs : List (Str × Int)) : Str := if qs = [] then "" else txt qs
theorem line_ne {q : Str × Int} {qs : List (Str × Int)} (h : IsNm q.1) : ¬ line (q :: qs) = "" := fun e => by
  have e2 := congrArg cd e
  rw [line, if_neg (by simp), cd_txt, cd_no] at e2
  obtain ⟨c, r, hc⟩ := wo_ne (z := q.2) h
  unfold fi at e2
  rw [cd_app, hc] at e2
  simp at e2
theorem wo_law (x : Str) (z : Int) (h : ¬ ab z = 1) : (num (ab z) ++ ("*" : Str)) ++ x = wo x z := cd_inj (by
  unfold wo
  rw [if_neg h, cd_app, cd_app, cd_app, cd_app, cd_app, cd_em, List.nil_append])
theorem line_one (q : Str × Int) : (if q.2 < 0 then ("-" : Str) ++ wo q.1 q.2 else wo q.1 q.2) = line [q] := cd_inj (by
  rw [show line [q] = txt [q] from if_neg (by simp), cd_txt]
  unfold fi
  split
  · rw [cd_app]; simp
  · rw [cd_app, cd_no]; simp)
theorem line_more (q r : Str × Int) (qs : List (Str × Int)) : (line (q :: qs) ++ (if r.2 < 0 then (" - " : Str) else " + ")) ++ wo r.1 r.2 = line (q :: qs ++ [r]) := cd_inj (by
  rw [show line (q :: qs ++ [r]) = txt (q :: (qs ++ [r])) from if_neg (by simp), show line (q :: qs) = txt (q :: qs) from if_neg (by simp), cd_txt, List.map_append, List.flatten_append, cd_app, cd_app, cd_txt]
  have e : (List.map (fun r => cd (fu r)) [r]).flatten = cd (fu r) := by simp
  rw [e, cd_fu]
  have h1 : cd " - " = [32, 45, 32] := by decide +kernel
  have h2 : cd " + " = [32, 43, 32] := by decide +kernel
  unfold sgn
  split
  · rw [h1, cd_mi]; simp
  · rw [h2, cd_pl]; simp)
theorem line_len {qs : List (Str × Int)} (h : ∀ q ∈ qs, IsNm q.1 ∧ q.2.natAbs < 10 ^ 64) (hl : qs.length ≤ 60) : (line qs).length ≤ 200000 := by
  unfold line
  split
  · decide +kernel
  · have e : (txt qs).length = ((pieces qs).map (·.length)).sum := by
      unfold txt
      rw [join_eq, len_tl, tl_join, show tl "" = [] from cd_no, joinL_nil, List.length_flatten, List.map_map]
      exact congrArg List.sum (List.map_congr_left fun x _ => (len_tl x).symm)
    have h1 := pieces_sum h
    rw [e]
    omega
def sp_sumtext (K : PySem.W.Frag) : Sp := fun vs H Q _ => ∃ (l : Addr) (ds : List TP), vs = [.ref l] ∧ SqL K H l (vP ds) ∧ TPs K H ds ∧ Due (prs ds) ∧ Q (.str (txt (prs ds))) H
end RV
/-! steps over a ledger: sums read, texts shown -/
namespace RV
open PySem L2 PyProof.Rows TL
def gR (vs zs : List V) : List V := match vs, zs with
  | [x], [t] => [x, t]
  | _, _ => []
theorem txt_ch {qs : List (Str × Int)} (h : ∀ q ∈ qs, IsNm q.1) : ∀ c ∈ cd (txt qs), c < 127 := by
  cases qs with
  | nil => decide +kernel
  | cons q qs =>
    have hw : ∀ r ∈ q :: qs, ∀ c ∈ cd (wo r.1 r.2), c < 127 := fun r hr c hc => (okC_32 (wo_ok (h r hr) c hc)).2.2.1
    intro c hc
    rw [cd_txt] at hc
    rcases List.mem_append.mp hc with hc | hc
    · unfold fi at hc
      rw [cd_app] at hc
      rcases List.mem_append.mp hc with hc | hc
      · split at hc
        · rw [cd_mi] at hc
          rw [List.mem_singleton.mp hc]
          decide
        · rw [cd_no] at hc
          cases hc
      · exact hw q List.mem_cons_self c hc
    · obtain ⟨l, hl, hc⟩ := List.mem_flatten.mp hc
      obtain ⟨r, hr, rfl⟩ := List.mem_map.mp hl
      rw [cd_fu] at hc
      rcases List.mem_cons.mp hc with rfl | hc
      · decide
      rcases List.mem_append.mp hc with hc | hc
      · unfold sgn at hc
        split at hc
        · rw [cd_mi] at hc
          rw [List.mem_singleton.mp hc]
          decide
        · rw [cd_pl] at hc
          rw [List.mem_singleton.mp hc]
          decide
      · rcases List.mem_cons.mp hc with rfl | hc
        · decide
        · exact hw r (List.mem_cons_of_mem _ hr) c hc
section
variable {K : PySem.W.Frag} {C a l x : Addr} {n : Nat} {L : List (Addr × HO)} {H0 H : Hp} {us ds : List TP} {Q : VK} {E : XK} {qs : List (Str × Int)}
theorem sumtext_step (hl : SqL K H l (vP ds)) (ht : TPs K H ds) (d : Due (prs ds)) (k : Q (.str (txt (prs ds))) H) : Irr (sp_sumtext K) [.ref l] H Q E := irr ⟨l, ds, rfl, hl, ht, d, k⟩
end
end RV
/-! -o, o + p, o - p, o * n, n * o of own classes -/
namespace PySem
open AutoSeq1 (wpAny_loadPart')
set_option maxHeartbeats 4000000 in
theorem rv_int_mul_inst (b : Int) (u : Tok) (l C dx : Addr) :
    Meets (Builtin.«int.__mul__» ⟨[.int b u, .ref l], []⟩) (fun _ R s => s.heap.get? l = some (PySem.W.instObj C dx) ∧ R (.ok (.ret .notImplemented)) s) :=
  .of_wp fun prog w A R s h => by
    obtain ⟨hp, g, d, tk, os⟩ := s
    obtain ⟨hl, h⟩ := h
    unfold PySem.W.instObj at hl
    wp_walk using wpAny_loadPart' hl, wpAny_load hl
    exact ⟨_, rfl, h⟩
end PySem
namespace PySem.W
open PySem PySem.Calls PyProof.Rows
section
variable {prog : Program} {w : World} {A : Around} {E : Value → Shared → Prop} {s : Shared} {K : Frag} {x C dx L f g : Addr} {h₀ : Heap} {m : Str → Option Value} {od : Option Obj} {i : Int} {t : Tok} {fo ro : Option Value}
theorem rv_mulI {Q : Value → Shared → Prop} (F : Fr h₀ L s.heap m) (X₀ : K.In h₀) (I : InstAt s.heap x (instObj C dx) C od) (hc : selfFirst K C = true)
    (hs : findIn K (.ref C) (PySem.dunder "mul") = some (some (.ref f))) (hr : findIn K (.ref C) (dunderR "mul") = some (some (.ref g))) (hg : isFn K (.ref g) = true)
    (h1 : findIn K (.type "int") (PySem.dunder "mul") = some fo) (h2 : findIn K (.type "int") (dunderR "mul") = some ro) (hsub : subIn K (.ref C) (.type "int") = some false)
    (h : wpAny (model prog w) A (call (.ref g) [.ref x, .int i t]) (CmpBack Q) E s) : wpAny (model prog w) A (binaryOp .Mult (.int i t) (.ref x)) Q E s := by
  have X := X₀.keeps F.keep
  obtain ⟨cd, rest, hcd, hm⟩ := ksp_first hc
  have one := ksp_try X I hr hg h
  have decl : wpAny (model prog w) A (tryMethod (.int i t) (PySem.dunder "mul") (.ref x)) (fun r s' => r = none ∧ s' = s) E s :=
    wpAny_tryMethod_declines (Q := fun r s' => r = none ∧ s' = s) (typeIs_int _ _ _) PySem.F.slot_int_mul (call_meets PySem.F.slot_int_mul (typeIs_int _ _ _) PySem.F.entry_int_mul (PySem.F.args_int_mul_2 _ _) (PySem.rv_int_mul_inst i t x C dx) ⟨I.at_, rfl, rfl, rfl⟩)
  obtain ⟨hh, g', d, tt, os⟩ := s
  have L1 : Looks (model prog w) hh (typeOf (.int i t)) (.type "int") := Looks.of_pure rfl
  have L2 : Looks (model prog w) hh (typeOf (.ref x)) (.ref C) := I.type
  have L3 : Looks (model prog w) hh (fillsNumberSlot (.ref C) "mul") true := fills_K X hcd hm hs
  have L4 : Looks (model prog w) hh (fillsNumberSlot (.type "int") "mul") ((fo.isSome && !isSeqSlot fo) || (ro.isSome && !isSeqSlot ro)) := ksp_fillsT X h1 h2
  have L5 : Looks (model prog w) hh (isSubtype (.ref C) (.type "int")) false := looks_subIn X hsub
  have L7 : Looks (model prog w) hh (numberSlotInPython (.type "int") "mul") false := Looks.of_pure rfl
  generalize ((fo.isSome && !isSeqSlot fo) || (ro.isSome && !isSeqSlot ro)) = left at L4
  have hne : (Value.type "int" == Value.ref C) = false := Bool.eq_false_iff.mpr fun q => by cases beq_iff_eq.mp q
  simp only [binaryOp, show Operator.info .Mult = ("*", "mul") from rfl]
  refine wpAny_holding (wpAny_bind ?_)
  unfold binaryOp1
  refine wpAny_bind (L1.at (wpAny_bind (L2.at (wpAny_bind (L4.at ?_)))))
  simp only [hne, Bool.false_eq_true, if_false]
  cases left with
  | false =>
    ksp_lk
    refine wpAny_mono one (fun r s' hr' => ?_) fun _ _ e => e
    obtain ⟨v, rfl, hq⟩ := hr'
    ksp_lk
    exact hq
  | true =>
    ksp_lk
    refine wpAny_mono decl (fun r s' hd => ?_) fun _ _ e => e
    obtain ⟨rfl, rfl⟩ := hd
    ksp_lk
    refine wpAny_mono one (fun r s' hr' => ?_) fun _ _ e => e
    obtain ⟨v, rfl, hq⟩ := hr'
    ksp_lk
    exact hq
end
end PySem.W
namespace RV
open PySem L2 PyProof.Rows
section
variable {X : Cx} {C : Addr} {k : Nat} {sp : Sp}
@[irreducible] def rBinO (C : Addr) (sp : Sp) : R2 := fun x y H Q => ∃ a b dx fs dy gs, x = .ref a ∧ y = .ref b ∧ H a = some (.ins C dx fs) ∧ H b = some (.ins C dy gs) ∧ sp [.ref a, .ref b] H (fun v H' => ∃ p, v = .ref p ∧ Q (.ref p) H') E0
@[irreducible] def rMulO (C : Addr) (sp : Sp) : R2 := fun x y H Q => ∃ (a : Addr) (i : Int) (dx : Addr) (fs : List (Str × V)), x = .ref a ∧ y = .int i ∧ H a = some (.ins C dx fs) ∧ sp [.ref a, .int i] H (fun v H' => ∃ p, v = .ref p ∧ Q (.ref p) H') E0
@[irreducible] def rMulI (C : Addr) (sp : Sp) : R2 := fun x y H Q => ∃ (a : Addr) (i : Int) (dx : Addr) (fs : List (Str × V)), x = .int i ∧ y = .ref a ∧ H a = some (.ins C dx fs) ∧ sp [.ref a, .int i] H (fun v H' => ∃ p, v = .ref p ∧ Q (.ref p) H') E0
@[irreducible] def rNegO (C : Addr) (sp : Sp) : V → Hp → VK → Prop := fun x H Q => ∃ a dx fs, x = .ref a ∧ H a = some (.ins C dx fs) ∧ sp [.ref a] H Q E0
/-- o op p -/
theorem op_binO {op : Operator} {m : String} (h : OwnM X.prog X.w X.K X.mg X.base C m k sp) (hm : PySem.dunder op.info.2 = Str.ofString m) (hc : PySem.W.selfFirst X.K C = true) (hr : Room k X.A) : OpR X (binaryOp op) (rBinO C sp) := by
  intro pins s σ H x y v u Q I rx ry hq
  unfold rBinO at hq
  obtain ⟨a, b, dx, fs, dy, gs, rfl, rfl, ha, hb2, hsp⟩ := hq
  obtain ⟨f, fd, ps, hs, hf, _, hb, F⟩ := h
  have rx' := rx
  have ry' := ry
  cases rx
  cases ry
  obtain ⟨mA, J, _⟩ := ins_get I.hok ha
  obtain ⟨od, J, _⟩ := J.look
  obtain ⟨m, hF⟩ := I.fr
  refine PySem.W.binop_K hF I.ok.mod.kin J ((TyL.ins hb2).looks I ry') hc (by rw [hm]; exact hs) hf (wpAny_mono (call_owns F hb hr rfl I (.cons rx' (.cons ry' .nil)) hsp) (fun r s' z => ?_) fun _ _ x => x)
  obtain ⟨v, H', I', rv, p, rfl, q⟩ := z
  cases rv
  exact ⟨.ref p, H', I', rfl, q⟩
end
end RV
/-! sums by operators -/
namespace RV
open PySem L2 PyProof.Rows TL
def scl (i : Int) (qs : List (Str × Int)) : List (Str × Int) := qs.map fun q => (q.1, i * q.2)
/-- numbers small enough -/
structure Lit (qs : List (Str × Int)) : Prop where
  nm : ∀ q ∈ qs, IsNm q.1
  sm : ∀ q ∈ qs, q.2.natAbs < 10 ^ 60
  ln : qs.length ≤ 60
section
variable {K : PySem.W.Frag} {a D : Addr} {us : List TP} {i j : Nat} {te : TE} {vs : List Nat} {σ : L2.St} {H1 : Hp} {Qd : Hp → Prop}
end
/-- [(x, n * z) for x, z in xs] -/
def sp_times (K : PySem.W.Frag) : Sp := fun vs H Q _ => ∃ (l : Addr) (us : List TP) (i : Int), vs = [.ref l, .int i] ∧ SqL K H l (vP us) ∧ TPs K H us ∧ (∀ q ∈ prs us, q.2.natAbs < 10 ^ 60) ∧ us.length ≤ 60 ∧ i.natAbs < 10 ^ 60 ∧
  ∀ (ws : List TP) (m : Addr) H', prs ws = scl i (prs us) → Kp H (lT m ws) H' → Q (.ref m) H'
def sp_mulS (C : Addr) : Sp := fun vs H Q _ => ∃ (a : Addr) (qs : List (Str × Int)) (i : Int), vs = [.ref a, .int i] ∧ SumR C H a qs ∧ Lit qs ∧ i.natAbs < 10 ^ 60 ∧
  ∀ (x dx m : Addr) (ds : List TP) H', Mad (scl i qs) (prs ds) → Kp H (lS C x dx m ds) H' → Q (.ref x) H'
def sp_negS (C : Addr) : Sp := fun vs H Q _ => ∃ (a : Addr) (qs : List (Str × Int)), vs = [.ref a] ∧ SumR C H a qs ∧ Lit qs ∧
  ∀ (x dx m : Addr) (ds : List TP) H', Mad (scl (-1) qs) (prs ds) → Kp H (lS C x dx m ds) H' → Q (.ref x) H'
def sp_addS (C : Addr) : Sp := fun vs H Q _ => ∃ (a b : Addr) (qs rs : List (Str × Int)), vs = [.ref a, .ref b] ∧ SumR C H a qs ∧ SumR C H b rs ∧ (∀ q ∈ qs ++ rs, IsNm q.1) ∧ Few (qs ++ rs) ∧
  ∀ (x dx m : Addr) (ds : List TP) H', Mad (qs ++ rs) (prs ds) → Kp H (lS C x dx m ds) H' → Q (.ref x) H'
def sp_subS (C : Addr) : Sp := fun vs H Q _ => ∃ (a b : Addr) (qs rs : List (Str × Int)), vs = [.ref a, .ref b] ∧ SumR C H a qs ∧ SumR C H b rs ∧ (∀ q ∈ qs, IsNm q.1) ∧ Lit rs ∧ Few (qs ++ rs) ∧
  ∀ (x dx m : Addr) (ds : List TP) H', Mad (qs ++ scl (-1) rs) (prs ds) → Kp H (lS C x dx m ds) H' → Q (.ref x) H'
/-- a sum is the one of these pairs -/
def sp_is (K : PySem.W.Frag) (C : Addr) : Sp := fun vs H Q _ => ∃ (x l : Addr) (qs : List (Str × Int)) (us : List TP), vs = [.ref x, .ref l] ∧ SumR C H x qs ∧ Nrm qs ∧ SqL K H l (vP us) ∧ TPs K H us ∧ (∀ q ∈ prs us, IsNm q.1) ∧ us.length ≤ 60 ∧ tot (prs us) ≤ 10 ^ 42 ∧ (∀ y, co qs y = co (prs us) y) ∧
  ∀ H', Same H H' → Q (.bl true) H'
end RV
/-! sums of names -/
namespace RV
open PySem L2 PyProof.Rows ClX
def ones (ns : List Str) : List (Str × Int) := ns.map fun x => (x, 1)
def sp_ofB (K : PySem.W.Frag) (C : Addr) : Sp := fun vs H Q _ => ∃ (p : Addr) (ns : List Str), vs = [.ref C, .ref p] ∧ SqT K H p (ns.map V.str) ∧ (∀ x ∈ ns, IsNm x) ∧ ns.length ≤ 60 ∧
  ∀ (x dx m : Addr) (ds : List TP) H', Mad (ones ns) (prs ds) → Kp H (lS C x dx m ds) H' → Q (.ref x) H'
def sp_of (C : Addr) : Sp := fun vs H Q _ => ∃ ns : List Str, vs = .ref C :: ns.map V.str ∧ (∀ x ∈ ns, IsNm x) ∧ ns.length ≤ 60 ∧
  ∀ (x dx m : Addr) (ds : List TP) H', Mad (ones ns) (prs ds) → Kp H (lS C x dx m ds) H' → Q (.ref x) H'
/-- a class method that takes any number of values -/
def ClsR (P : Program) (w : World) (K : PySem.W.Frag) (mg : Str → Option Value) (base : Heap) (C : Addr) (m : Str) (k : Nat) (sp : Sp) : Prop :=
  ∃ mc p g, CRead K C mc ∧ CMet K C mc m p g ∧ FnR P w K mg base CX0 k g sp
theorem ClsR.irr {P : Program} {w : World} {K : PySem.W.Frag} {mg : Str → Option Value} {base : Heap} {C : Addr} {m : Str} {k : Nat} {sp : Sp} (h : ClsR P w K mg base C m k sp) : ClsR P w K mg base C m k (Irr sp) := by
  obtain ⟨mc, p, g, a, b, F⟩ := h
  exact ⟨mc, p, g, a, b, F.imp fun _ _ _ _ z => irr_of z⟩
theorem pe_cmR {X : Cx} {C : Addr} {k : Nat} {m : Str} {sp : Sp} {o e : Expr} {es : List Expr} {t : TA} {ta : TE} {pos apos : Pos} {pl : Sem Bool} (h : ClsR X.prog X.w X.K X.mg X.base C m k sp) (hr : Room k X.A) (he : PE X o ta) (ha : PA X (e :: es) t)
    (hst : starEach (e :: es) X.env = (false, eval e X.env) :: starEach es X.env := by rfl) (hpl : (backTo pos (starEach es X.env)).any (·.1) = false := by rfl)
    (ht : eval (.Call (.Attribute o m apos) (e :: es) [] pos) X.env = (do
      let ov ← eval o X.env
      standAt apos.atName
      let (f, first) ← holding [ov] (getMethod ov m pl)
      callWith pos f first (backTo pos (starEach (e :: es) X.env)) (backToKw pos (keywordEach [] X.env))) := by rfl) :
    PE X (.Call (.Attribute o m apos) (e :: es) [] pos) (tCMeth C sp E0 ta t) := by
  obtain ⟨mc, p, g, r, c, F⟩ := h
  exact pe_cmeth he r c F hr pass0 ha hst hpl ht
end RV
/-! steps with sums over a heap that only grows -/
namespace RV
open PySem L2 PyProof.Rows TL
/-- pairs of names, so many, so great in all -/
structure Raw (qs : List (Str × Int)) (n b : Nat) : Prop where
  nm : ∀ q ∈ qs, IsNm q.1
  ln : qs.length ≤ n
  tt : tot qs ≤ b
theorem Raw.nil (n b : Nat) : Raw [] n b := ⟨fun _ hq => (nomatch hq), Nat.zero_le _, Nat.zero_le _⟩
theorem Mad.of {qs rs ds : List (Str × Int)} (h : Mad rs ds) (hc : ∀ x, RV.co rs x = RV.co qs x) (hn : ∀ q ∈ rs, q.1 ∈ qs.map (·.1)) (hl : rs.length ≤ qs.length) : Mad qs ds := by
  refine ⟨h.nr, fun x => (h.co x).trans (hc x), fun q hq => ?_, Nat.le_trans h.ln hl⟩
  obtain ⟨r, hr, e⟩ := List.mem_map.mp (h.nm q hq)
  exact e ▸ hn r hr
theorem Mad.app2 {qs qs' rs rs' ds : List (Str × Int)} (h : Mad qs qs') (h2 : Mad rs rs') (k : Mad (qs' ++ rs') ds) : Mad (qs ++ rs) ds := by
  refine k.of (fun x => by rw [co_app, co_app, h.co, h2.co]) (fun q hq => ?_) (by rw [List.length_append, List.length_append]; exact Nat.add_le_add h.ln h2.ln)
  rw [List.map_append, List.mem_append]
  exact (List.mem_append.mp hq).imp (h.nm q) (h2.nm q)
/-- a sum of these pairs, as they were given -/
def Own (C : Addr) (H : Hp) (x : Addr) (qs : List (Str × Int)) : Prop := ∃ rs, SumR C H x rs ∧ Mad qs rs
section
variable {K : PySem.W.Frag} {C a b l x : Addr} {H H' : Hp} {qs rs : List (Str × Int)} {n m c d : Nat} {Q : VK} {E : XK} {us : List TP}
theorem Own.ext (h : Own C H x qs) (s : Same H H') : Own C H' x qs := by
  obtain ⟨rs, hs, md⟩ := h
  exact ⟨rs, hs.ext s, md⟩
theorem Raw.due (r : Raw qs n d) (md : Mad qs rs) (hn : n ≤ 60) (hd : d ≤ 10 ^ 42) : Due rs := md.due r.nm (Nat.le_trans r.ln hn) (Nat.le_trans r.tt hd)
theorem add_step (ha : Own C H a qs) (hb : Own C H b rs) (r1 : Raw qs n c) (r2 : Raw rs m d) (hn : n + m ≤ 60) (hc : c ≤ 10 ^ 42) (hd : d ≤ 10 ^ 42)
    (k : ∀ x H', Own C H' x (qs ++ rs) → Same H H' → Q (.ref x) H') : rBinO C (Irr (sp_addS C)) (.ref a) (.ref b) H Q := by
  unfold rBinO
  obtain ⟨qs', ha, m1⟩ := ha
  obtain ⟨rs', hb, m2⟩ := hb
  have d1 := r1.due m1 (by omega) hc
  have d2 := r2.due m2 (by omega) hd
  obtain ⟨dx, t, us, e, q⟩ := id ha
  obtain ⟨dy, t2, us2, e2, q2⟩ := id hb
  refine ⟨a, b, dx, _, dy, _, rfl, rfl, q _ List.mem_cons_self, q2 _ List.mem_cons_self, irr ⟨a, b, qs', rs', rfl, ha, hb, fun q hq => (List.mem_append.mp hq).elim (d1.nm q) (d2.nm q), ?_, fun x dx' t' ds H' md kp => ⟨x, rfl, k x H' ⟨_, SumR.of fun p hp => kp.at hp, m1.app2 m2 md⟩ kp.sm⟩⟩⟩
  refine Few.of ?_
  have := m1.ln
  have := m2.ln
  have := r1.ln
  have := r2.ln
  rw [List.length_append]
  omega
/-- a list of pairs -/
structure Lsp (K : PySem.W.Frag) (H : Hp) (l : Addr) (us : List TP) : Prop where
  hd : H l = some (.lst (vP us))
  ps : TPs K H us
theorem Lsp.ext (h : Lsp K H l us) (s : Same H H') : Lsp K H' l us := ⟨s _ _ h.hd, h.ps.ext s⟩
theorem Lsp.sL (h : Lsp K H l us) : SqL K H l (vP us) := SqL.of h.hd
end
/-- C() with the written part's empty tuple, C(tuple(xs)) -/
theorem made_step {K : PySem.W.Frag} {C x dx t : Addr} {H : Hp} {us : List TP} {E : XK} {R : Hp → Prop} {n c : Nat} (ht : SqT K H t (vP us)) (hp : TPs K H us) (r : Raw (prs us) n c) (hn : n ≤ 60) (nx : H x = none) (nd : H dx = none) (ne : dx ≠ x)
    (k : ∀ H2, Own C H2 x (prs us) → Same H H2 → R H2) : Irr (sp_Sum K C) [.ref x, .ref t] (upd (upd H dx (.own x)) x (.ins C dx [])) (fun v H2 => v = .non ∧ R H2) E :=
  Sum_kp ⟨ht, hp, r.nm, by rw [← prs_len]; exact Nat.le_trans r.ln hn⟩ nx nd ne fun ds m dx' H2 md kp => k H2 ⟨_, SumR.of fun p hp => kp.at hp, md⟩ kp.sm
def sp_mults : Sp := fun vs H Q _ => ∃ (a : Addr) (n : Nat), vs = [.ref a] ∧ WellAt H a n ∧ n < 800000 ∧ ∀ H', Grow a H H' → WellAt H' a (n + 100) → Q (.bl true) H'
theorem Has.wm {H0 H : Hp} {a : Addr} {n m : Nat} {L : List (Addr × HO)} (h : Has H0 a n L H) (e : n ≤ m) : Has H0 a m L H := ⟨h.gr, h.well.mono e, h.here⟩
end RV
/-! rows of sums beside their models -/
namespace RV
open PySem L2 PyProof.Rows TL
/-! ### data that are equal -/
/-! ### what stands, where a list is changed -/
section
variable {K : PySem.W.Frag} {C t p l x : Addr} {H H' : Hp} {xs ys : List V} {us : List TP} {qs : List (Str × Int)}
end
/-! ### a sum and its model -/
abbrev Rw := Addr × Addr × List TP
structure One (K : PySem.W.Frag) (C : Addr) (H : Hp) (r : Rw) : Prop where
  sr : SumR C H r.1 (prs r.2.2)
  ls : Lsp K H r.2.1 r.2.2
/-- no coefficient of a model is greater -/
def lim : Nat := 3 * 10 ^ 33
structure Fit (pool : List Str) (us : List TP) : Prop where
  nr : Nrm (prs us)
  nm : ∀ q ∈ prs us, IsNm q.1
  pl : ∀ q ∈ prs us, q.1 ∈ pool
  sm : ∀ q ∈ prs us, q.2.natAbs ≤ lim
section
variable {pool pool' : List Str} {us ds : List TP} {K : PySem.W.Frag} {C x : Addr} {H : Hp} {qs rs : List (Str × Int)}
end
/-! ### steps with greater sums -/
section
variable {K : PySem.W.Frag} {C a b : Addr} {H : Hp} {qs rs : List (Str × Int)} {n m c d : Nat} {Q : VK}
end
section
variable {K : PySem.W.Frag} {l D : Addr} {us : List TP} {i j : Nat} {te : TE} {vs : List Nat} {σ : L2.St} {H1 : Hp} {Qd : Hp → Prop}
end
def rTupOf (K : PySem.W.Frag) : List V → Hp → VK → Prop := fun xs H Q => ∃ p ys, xs = [V.ref p] ∧ ((SqL K H p ys ∧ ∀ l, H l = none → Q (.ref l) (upd H l (.tup ys))) ∨ (SqT K H p ys ∧ Q (.ref p) H))
/-! ### promises -/
def vS (rs : List Rw) : List V := rs.map fun r => .ref r.1
def vM (rs : List Rw) : List V := rs.map fun r => .ref r.2.1
section
variable {K : PySem.W.Frag} {a D : Addr} {rs : List Rw} {i : Nat} {te : TE} {vs : List Nat} {σ : L2.St} {H1 : Hp} {Qd : Hp → Prop}
end
/-- the greatest size -/
def sp_much (K : PySem.W.Frag) : Sp := fun vs H Q _ => ∃ (l : Addr) (us : List TP), vs = [.ref l] ∧ Lsp K H l us ∧ us.length ≤ 60 ∧ ∀ (m : Int) H', (∀ q ∈ prs us, (q.2.natAbs : Int) ≤ m) → Same H H' → Q (.int m) H'
def sp_allr (K : PySem.W.Frag) (C : Addr) : Sp := fun vs H Q _ => ∃ (S M : Addr) (rs : List Rw), vs = [.ref S, .ref M] ∧ SqL K H S (vS rs) ∧ SqL K H M (vM rs) ∧ (∀ r ∈ rs, One K C H r ∧ Due (prs r.2.2)) ∧ rs.length ≤ 20 ∧ ∀ H', Same H H' → Q (.bl true) H'
def sp_turn (K : PySem.W.Frag) (C : Addr) : Sp := fun vs H Q _ => ∃ (a S M : Addr) (n : Nat) (rs : List Rw) (pool : List Str), vs = [.ref a, .ref S, .ref M] ∧ WellAt H a n ∧ n < 600000 ∧ S ≠ a ∧ M ≠ a ∧ H S = some (.lst (vS rs)) ∧ H M = some (.lst (vM rs)) ∧ rs.length = 4 ∧
  (∀ r ∈ rs, One K C H r ∧ Fit pool r.2.2 ∧ r.2.1 ≠ a) ∧ pool.length ≤ 57 ∧
  ∀ (p x l : Addr) (us : List TP) (new : List Str) H', H' p = some (.lst [.ref x, .ref l]) → Own C H' x (prs us) → Lsp K H' l us → us.length ≤ 120 → (∀ q ∈ prs us, IsNm q.1 ∧ q.1 ∈ pool ++ new) → new.length ≤ 3 → (∀ y, (co (prs us) y).natAbs ≤ lim) →
    Grow a H H' → WellAt H' a (n + 1010) → Q (.ref p) H'
def sp_row : Sp := fun vs H Q _ => ∃ (a : Addr) (n : Nat), vs = [.ref a] ∧ WellAt H a n ∧ n < 1000 ∧ ∀ H', Grow a H H' → Q (.bl true) H'
end RV
/-! a row: a list of sums and a list of their models, both changed in place; older ones -/
namespace RV
open PySem L2 PyProof.Rows TL
structure RowAt (K : PySem.W.Frag) (C : Addr) (H0 H : Hp) (a : Addr) (n : Nat) (S M : Addr) (rs os : List Rw) (pool : List Str) (L : List (Addr × HO)) : Prop where
  hs : Has H0 a n ((S, .lst (vS rs)) :: (M, .lst (vM rs)) :: L) H
  s0 : H0 S = none
  m0 : H0 M = none
  sm : S ≠ M
  off : ∀ p ∈ L, p.1 ≠ S ∧ p.1 ≠ M
  ln : rs.length = 4
  on : ∀ r ∈ rs ++ os, One K C H r ∧ Fit pool r.2.2 ∧ r.2.1 ≠ a ∧ r.2.1 ≠ S ∧ r.2.1 ≠ M
section
variable {K : PySem.W.Frag} {C : Addr} {H0 H H' : Hp} {a S M p : Addr} {n m : Nat} {rs os os' : List Rw} {pool pool' : List Str} {L L' : List (Addr × HO)} {o : HO}
end
end RV
/-! nets: pipes, meters, nets in the heap; promises of their methods -/
namespace RV
open PySem L2 PyProof.Rows TL
def sp_check (K : PySem.W.Frag) : Sp := fun vs H Q _ => ∃ (t : Addr) (xs : List Str), vs = [.ref t] ∧ SqT K H t (xs.map V.str) ∧ (∀ x ∈ xs, IsNm x) ∧ ∀ H', Same H H' → Q .non H'
def pipeF (n s e : Str) : List (Str × V) := putF "_end" (.str e) (putF "_start" (.str s) (putF "_name" (.str n) []))
def metF (n a : Str) (z : Bool) : List (Str × V) := putF "_sealed" (.bl z) (putF "_at" (.str a) (putF "_name" (.str n) []))
def sp_Pipe (C : Addr) : Sp := fun vs H Q _ => ∃ (x dx : Addr) (n s e : Str), vs = [.ref x, .str n, .str s, .str e] ∧ H x = some (.ins C dx []) ∧ IsNm n ∧ IsNm s ∧ IsNm e ∧ e ≠ s ∧
  ∀ H', (∀ b o, b ≠ x → H b = some o → H' b = some o) → (∃ dx, H' x = some (.ins C dx (pipeF n s e))) → Q .non H'
def sp_Meter (C : Addr) : Sp := fun vs H Q _ => ∃ (x dx : Addr) (n a : Str) (z : Bool), vs = [.ref x, .str n, .str a, .bl z] ∧ H x = some (.ins C dx []) ∧ IsNm n ∧ IsNm a ∧
  ∀ H', (∀ b o, b ≠ x → H b = some o → H' b = some o) → (∃ dx, H' x = some (.ins C dx (metF n a z))) → Q .non H'
abbrev P3 := Str × Str × Str
abbrev M3 := Str × Str × Bool
def PipeAt (C : Addr) (H : Hp) (p : Addr) (q : P3) : Prop := ∃ dx, H p = some (.ins C dx (pipeF q.1 q.2.1 q.2.2))
def MetAt (C : Addr) (H : Hp) (p : Addr) (q : M3) : Prop := ∃ dx, H p = some (.ins C dx (metF q.1 q.2.1 q.2.2))
/-- a pipe's, a meter's own properties -/
def sp_pn (C : Addr) : Sp := fun vs H Q _ => ∃ (a : Addr) (q : P3), vs = [.ref a] ∧ PipeAt C H a q ∧ Q (.str q.1) H
def sp_ps (C : Addr) : Sp := fun vs H Q _ => ∃ (a : Addr) (q : P3), vs = [.ref a] ∧ PipeAt C H a q ∧ Q (.str q.2.1) H
def sp_pe (C : Addr) : Sp := fun vs H Q _ => ∃ (a : Addr) (q : P3), vs = [.ref a] ∧ PipeAt C H a q ∧ Q (.str q.2.2) H
def sp_mn (C : Addr) : Sp := fun vs H Q _ => ∃ (a : Addr) (q : M3), vs = [.ref a] ∧ MetAt C H a q ∧ Q (.str q.1) H
def sp_ma (C : Addr) : Sp := fun vs H Q _ => ∃ (a : Addr) (q : M3), vs = [.ref a] ∧ MetAt C H a q ∧ Q (.str q.2.1) H
def sp_mz (C : Addr) : Sp := fun vs H Q _ => ∃ (a : Addr) (q : M3), vs = [.ref a] ∧ MetAt C H a q ∧ Q (.bl q.2.2) H
/-- two of a kind are compared -/
def sp_Peq (C : Addr) : Sp := fun vs H Q _ => ∃ (a b : Addr) (q r : P3), vs = [.ref a, .ref b] ∧ PipeAt C H a q ∧ PipeAt C H b r ∧ Q (.bl (decide (q = r))) H
def sp_Meq (C : Addr) : Sp := fun vs H Q _ => ∃ (a b : Addr) (q r : M3), vs = [.ref a, .ref b] ∧ MetAt C H a q ∧ MetAt C H b r ∧ Q (.bl (decide (q = r))) H
structure PClass (K : PySem.W.Frag) (mg : Str → Option Value) (C : Addr) : Prop where
  x : ClsX K C
  k : mg "Pipe" = some (.ref C)
  n1 : NoAttr K C "_name"
  n2 : NoAttr K C "_start"
  n3 : NoAttr K C "_end"
  me : PySem.W.kitOne K (.ref C) (.ref C) = some true
structure MClass (K : PySem.W.Frag) (mg : Str → Option Value) (C : Addr) : Prop where
  x : ClsX K C
  k : mg "Meter" = some (.ref C)
  n1 : NoAttr K C "_name"
  n2 : NoAttr K C "_at"
  n3 : NoAttr K C "_sealed"
  me : PySem.W.kitOne K (.ref C) (.ref C) = some true
structure NClass (K : PySem.W.Frag) (mg : Str → Option Value) (C : Addr) : Prop where
  x : ClsX K C
  k : mg "Net" = some (.ref C)
  n1 : NoAttr K C "_pipes"
  n2 : NoAttr K C "_meters"
  me : PySem.W.kitOne K (.ref C) (.ref C) = some true
section
variable {H : Hp} {R : Hp → Prop} {E : XK} {C x dx : Addr} {n s e : Str} {z : Bool}
end
/-! ### nets -/
def netF (tp tm : Addr) : List (Str × V) := putF "_meters" (.ref tm) (putF "_pipes" (.ref tp) [])
abbrev PU := Addr × P3
abbrev MU := Addr × M3
def rf {α : Type} (us : List (Addr × α)) : List V := us.map fun u => .ref u.1
def sn {α : Type} (us : List (Addr × α)) : List α := us.map (·.2)
/-- a tuple of pipes, of meters -/
structure Tps (K : PySem.W.Frag) (C : Addr) (H : Hp) (t : Addr) (us : List PU) : Prop where
  t : SqT K H t (rf us)
  o : ∀ u ∈ us, PipeAt C H u.1 u.2
structure Tms (K : PySem.W.Frag) (C : Addr) (H : Hp) (t : Addr) (us : List MU) : Prop where
  t : SqT K H t (rf us)
  o : ∀ u ∈ us, MetAt C H u.1 u.2
/-- what a net's pipes, a net's meters are -/
structure POk (ps : List P3) : Prop where
  n0 : ps ≠ []
  ln : ps.length ≤ 12
  nm : ∀ p ∈ ps, IsNm p.1 ∧ IsNm p.2.1 ∧ IsNm p.2.2 ∧ p.2.2 ≠ p.2.1
  nd : (ps.map (·.1)).Nodup
structure MOk (ps : List P3) (ms : List M3) : Prop where
  ln : ms.length ≤ 12
  nm : ∀ m ∈ ms, IsNm m.1 ∧ IsNm m.2.1
  nd : (ms.map (·.1)).Nodup
  on : ∀ m ∈ ms, m.2.1 ∈ ps.map (·.1)
/-- a net in the heap -/
structure NetR (K : PySem.W.Frag) (CN CP CM : Addr) (H : Hp) (x : Addr) (ps : List P3) (ms : List M3) : Prop where
  ex : ∃ (dx tp tm : Addr) (pu : List PU) (mu : List MU), H x = some (.ins CN dx (netF tp tm)) ∧ Tps K CP H tp pu ∧ Tms K CM H tm mu ∧ sn pu = ps ∧ sn mu = ms
def sp_index (K : PySem.W.Frag) (CP : Addr) : Sp := fun vs H Q _ => ∃ (t : Addr) (us : List PU) (y : Str), vs = [.ref t, .str y] ∧ Tps K CP H t us ∧ us.length ≤ 12 ∧ y ∈ (sn us).map (·.1) ∧ ∀ (i : Nat) H', ((sn us)[i]?).map (·.1) = some y → Same H H' → Q (.int (i : Nat)) H'
def sp_chkP (K : PySem.W.Frag) (CP : Addr) : Sp := fun vs H Q _ => ∃ (t : Addr) (us : List PU), vs = [.ref t] ∧ Tps K CP H t us ∧ POk (sn us) ∧ ∀ H', Same H H' → Q .non H'
def sp_chkM (K : PySem.W.Frag) (CP CM : Addr) : Sp := fun vs H Q _ => ∃ (t tp : Addr) (us : List MU) (pu : List PU), vs = [.ref t, .ref tp] ∧ Tms K CM H t us ∧ Tps K CP H tp pu ∧ pu.length ≤ 12 ∧ MOk (sn pu) (sn us) ∧ ∀ H', Same H H' → Q .non H'
def sp_Net (K : PySem.W.Frag) (CN CP CM : Addr) : Sp := fun vs H Q _ => ∃ (x dx tp tm : Addr) (pu : List PU) (mu : List MU), vs = [.ref x, .ref tp, .ref tm] ∧ H x = some (.ins CN dx []) ∧ Tps K CP H tp pu ∧ Tms K CM H tm mu ∧ POk (sn pu) ∧ MOk (sn pu) (sn mu) ∧
  ∀ H', (∀ b o, b ≠ x → H b = some o → H' b = some o) → (∃ dx, H' x = some (.ins CN dx (netF tp tm))) → Q .non H'
section
variable {K : PySem.W.Frag} {CN CP CM x dx tp tm : Addr} {H : Hp} {pu : List PU} {mu : List MU} {R : Hp → Prop} {E : XK}
end
end RV
/-! comprehensions: one thing for each item; the items that fit -/
namespace RV
open PySem L2 PyProof.Rows TL
section
variable {α β : Type} {K : PySem.W.Frag} {D : Addr} {xs : List V} {i : Nat} {te : TE} {tt : TT} {vs : List Nat} {σ : L2.St} {H1 : Hp} {Qd : Hp → Prop} {J : It} {GG : Hp → Prop}
end
/-! ### the lines of a net -/
def pline (q : P3) : Str := Str.empty ++ "pipe " ++ q.1 ++ " " ++ q.2.1 ++ " " ++ q.2.2
def mseal (z : Bool) : Str := if z then " sealed" else ""
def mline (q : M3) : Str := Str.empty ++ "meter " ++ q.1 ++ " " ++ q.2.1 ++ mseal q.2.2
def netL (ps : List P3) (ms : List M3) : List Str := ps.map pline ++ ms.map mline
def netT (ps : List P3) (ms : List M3) : Str := Txt.join "\n" (netL ps ms)
def sp_pline (CP : Addr) : Sp := fun vs H Q _ => ∃ (a : Addr) (q : P3), vs = [.ref a] ∧ PipeAt CP H a q ∧ IsNm q.1 ∧ IsNm q.2.1 ∧ IsNm q.2.2 ∧ Q (.str (pline q)) H
def sp_mline (CM : Addr) : Sp := fun vs H Q _ => ∃ (a : Addr) (q : M3), vs = [.ref a] ∧ MetAt CM H a q ∧ IsNm q.1 ∧ IsNm q.2.1 ∧ Q (.str (mline q)) H
/-- names that a text is made of -/
def PNm (ps : List P3) : Prop := ∀ p ∈ ps, IsNm p.1 ∧ IsNm p.2.1 ∧ IsNm p.2.2
def MNm (ms : List M3) : Prop := ∀ p ∈ ms, IsNm p.1 ∧ IsNm p.2.1
def sp_lines (K : PySem.W.Frag) (CP CM : Addr) : Sp := fun vs H Q _ => ∃ (tp tm : Addr) (pu : List PU) (mu : List MU), vs = [.ref tp, .ref tm] ∧ Tps K CP H tp pu ∧ Tms K CM H tm mu ∧ PNm (sn pu) ∧ MNm (sn mu) ∧ pu.length ≤ 20 ∧ mu.length ≤ 20 ∧
  ∀ l H', Kp H [(l, .lst ((netL (sn pu) (sn mu)).map V.str))] H' → Q (.ref l) H'
def sp_nstr (K : PySem.W.Frag) (CN CP CM : Addr) : Sp := fun vs H Q _ => ∃ (x : Addr) (ps : List P3) (ms : List M3), vs = [.ref x] ∧ NetR K CN CP CM H x ps ms ∧ PNm ps ∧ MNm ms ∧ ps.length ≤ 20 ∧ ms.length ≤ 20 ∧ ∀ H', Same H H' → Q (.str (netT ps ms)) H'
end RV
set_option linter.all false
/-! == of tuples of own objects: all equal, or one of them empty -/
namespace GQ
open PySem PySem.SeqAt
open AutoSeq1 (wpAny_loadPart')
open MeetsSeq MeetsSeq2 MeetsSeq3 SeqRoads2
section
variable {prog : Program} {w : World} {A : Around} {R : Result → Shared → Prop}
theorem rv_tuple_eq0 (l b : Addr) (items items2 : Array Value) (n n2 : Nat) (dd dd2 : Option Addr) (sl sl2 : Array (Option Value)) (h0 : items.size = 0 ∨ items2.size = 0) (hne : items.size ≠ items2.size)
    {s : Shared} (fin : R (.ok (.ret (.bool false))) s) (hl1 : s.heap.get? l = some { cls := .type "tuple", dict := dd, data := .seq items n, slots := sl }) (hb1 : s.heap.get? b = some { cls := .type "tuple", dict := dd2, data := .seq items2 n2, slots := sl2 }) :
    wpAny (model prog w) A.in1 (Builtin.«tuple.__eq__» ⟨[.ref l, .ref b], []⟩) (FinOf prog w A R) (fun e s' => R (.error e) s') s := by
  have f2 := AutoSeq1.sub_tuple_tuple
  have hZ : items.toList.zip items2.toList = [] := by
    rcases h0 with h | h
    · rw [show items = #[] from Array.eq_empty_of_size_eq_zero h]
      rfl
    · rw [show items2 = #[] from Array.eq_empty_of_size_eq_zero h]
      simp
  have hs : ∃ t, t = s := ⟨s, rfl⟩
  obtain ⟨t, ht⟩ := hs
  obtain ⟨hp, g, d, tk, os⟩ := s
  wp_walk using wpAny_loadPart' hl1, wpAny_loadPart' hb1, wpAny_forIn_list _ (fun rest b s' => b.1 = none ∧ rest = [] ∧ s' = t) _
  case turn =>
    rintro ⟨y, x⟩ rest b s' ⟨_, hz, _⟩
    cases hz
  case fin =>
    rintro ⟨b1, b2⟩ s' ⟨hb', _, hs'⟩
    simp only at hb'
    subst hb'
    subst hs'
    subst ht
    wp_walk
    have e : (items.size == items2.size) = false := by simpa using hne
    simp only [Builtin.Tuple.tupleCompareSizes]
    show R (.ok (.ret (.bool (items.size == items2.size)))) _
    rw [e]
    exact fin
  case h =>
    exact ⟨rfl, hZ, ht.symm⟩
end
section
variable {prog : Program} {w : World} {A : Around} {E : Value → Shared → Prop} {s : Shared}
theorem rv_rc_tup0 {l b : Addr} {items items2 : Array Value} {Q : Value → Shared → Prop} (h0 : items.size = 0 ∨ items2.size = 0) (hne : items.size ≠ items2.size) (hu : A.units < cLine)
    (hl : s.heap.IsTuple l items) (hb : s.heap.IsTuple b items2) (fin : Q (.bool false) s) : wpAny (model prog w) A (richCompare .Eq (.ref l) (.ref b)) Q E s := by
  obtain ⟨⟨cls, dd, data, sl⟩, ho, hc, n, hd⟩ := id hl
  obtain ⟨⟨cls2, dd2, data2, sl2⟩, ho2, hc2, n2, hd2⟩ := id hb
  simp only at hc hd hc2 hd2
  subst hc hd hc2 hd2
  refine wpAny_richCompare_same_room (op := .Eq) ⟨_, ho, rfl⟩ ⟨_, ho2, rfl⟩ F.slot_tuple_eq (call_here F.slot_tuple_eq ⟨_, ho, rfl⟩ F.entry_tuple_eq (F.args_tuple_eq_2 _ _) ?_) hu
  exact rv_tuple_eq0 (R := wants (fun v s' => v ≠ .notImplemented ∧ Q v s') E) l b items items2 n n2 dd dd2 sl sl2 h0 hne ⟨(fun x => nomatch x), fin⟩ ho ho2
end
end GQ
namespace RV
open PySem L2 PyProof.Rows
def rEqTup (K : PySem.W.Frag) (D : Eqv) : R2 := fun x y H Q => (DTup K D x y H ∧ ∀ H', Ext H H' → Q (.bl true) H') ∨
  (∃ a b xs ys, x = .ref a ∧ y = .ref b ∧ SqT K H a xs ∧ SqT K H b ys ∧ (xs.length = 0 ∨ ys.length = 0) ∧ xs.length ≠ ys.length ∧ Q (.bl false) H)
/-- two of a kind that are equal -/
def SmP (C : Addr) : Addr → Addr → Hp → Prop := fun a b H => ∃ q, PipeAt C H a q ∧ PipeAt C H b q
def SmM (C : Addr) : Addr → Addr → Hp → Prop := fun a b H => ∃ q, MetAt C H a q ∧ MetAt C H b q
/-- two nets with the same pipes: their meters the same, or one of them has none -/
def sp_Neq (K : PySem.W.Frag) (CN CP CM : Addr) : Sp := fun vs H Q _ => ∃ (a b : Addr) (ps : List P3) (ms ms' : List M3), vs = [.ref a, .ref b] ∧ NetR K CN CP CM H a ps ms ∧ NetR K CN CP CM H b ps ms' ∧ (ms = ms' ∨ ms = [] ∨ ms' = []) ∧ ∀ H', Same H H' → Q (.bl (decide (ms = ms'))) H'
end RV
/-! a net's text, cut into rows -/
namespace RV
open PySem L2 PyProof.Rows TL
def prow (q : P3) : List Str := ["pipe", q.1, q.2.1, q.2.2]
def mrow (q : M3) : List Str := if q.2.2 then ["meter", q.1, q.2.1, "sealed"] else ["meter", q.1, q.2.1]
def rowsL (ps : List P3) (ms : List M3) : List (List Str) := ps.map prow ++ ms.map mrow
/-- lists of words, each at its address -/
abbrev RU := Addr × List Str
structure Rws (H : Hp) (l : Addr) (us : List RU) : Prop where
  l : H l = some (.lst (rf us))
  o : ∀ u ∈ us, H u.1 = some (.lst (u.2.map V.str))
structure TOk (ps : List P3) (ms : List M3) : Prop where
  n0 : ps ≠ []
  pn : PNm ps
  mn : MNm ms
  pl : ps.length ≤ 20
  ml : ms.length ≤ 20
def sp_rows : Sp := fun vs H Q _ => ∃ (ps : List P3) (ms : List M3), vs = [.str (netT ps ms)] ∧ TOk ps ms ∧ ∀ (l : Addr) (us : List RU) H', Same H H' → Rws H' l us → sn us = rowsL ps ms → Q (.ref l) H'
def sp_pin (K : PySem.W.Frag) (CP : Addr) : Sp := fun vs H Q _ => ∃ (ps : List P3) (ms : List M3), vs = [.str (netT ps ms)] ∧ TOk ps ms ∧ POk ps ∧ ∀ (t : Addr) (us : List PU) H', Same H H' → Tps K CP H' t us → sn us = ps → Q (.ref t) H'
def sp_min (K : PySem.W.Frag) (CM : Addr) : Sp := fun vs H Q _ => ∃ (ps : List P3) (ms : List M3), vs = [.str (netT ps ms)] ∧ TOk ps ms ∧ ∀ (t : Addr) (us : List MU) H', Same H H' → Tms K CM H' t us → sn us = ms → Q (.ref t) H'
def sp_nread (K : PySem.W.Frag) (CN CP CM : Addr) : Sp := fun vs H Q _ => ∃ (ps : List P3) (ms : List M3), vs = [.ref CN, .str (netT ps ms)] ∧ POk ps ∧ MOk ps ms ∧ ∀ (x : Addr) H', Same H H' → NetR K CN CP CM H' x ps ms → Q (.ref x) H'
/-- the rows of the pipes, of the meters -/
def isP (r : List Str) : Bool := decide (r[0]? = some ("pipe" : Str))
def isM (r : List Str) : Bool := decide (r[0]? = some ("meter" : Str))
def gM2 (vs zs : List V) : List V := match vs, zs with
  | [x, n, a], [z] => [x, n, a, z]
  | _, _ => []
end RV
/-! nets as a law lays them: rows of pipes, rows of meters -/
namespace RV
open PySem L2 PyProof.Rows TL
section
variable {X : Cx} {K : PySem.W.Frag} {o e : Expr} {to te : TE}
end
def oY (q : P3) : HO := .tup [.str q.1, .str q.2.1, .str q.2.2]
def oZ (q : M3) : HO := .tup [.str q.1, .str q.2.1, .bl q.2.2]
structure Lay (H : Hp) (l : Addr) (us : List PU) : Prop where
  l : H l = some (.lst (rf us))
  o : ∀ u ∈ us, H u.1 = some (oY u.2)
structure Fts (H : Hp) (l : Addr) (us : List MU) : Prop where
  l : H l = some (.lst (rf us))
  o : ∀ u ∈ us, H u.1 = some (oZ u.2)
def lY (us : List PU) : List (Addr × HO) := us.map fun u => (u.1, oY u.2)
def lZ (us : List MU) : List (Addr × HO) := us.map fun u => (u.1, oZ u.2)
/-- rows of pipes -/
structure LOk (ps : List P3) : Prop where
  nm : ∀ p ∈ ps, IsNm p.1 ∧ IsNm p.2.1 ∧ IsNm p.2.2 ∧ p.2.2 ≠ p.2.1
  nd : (ps.map (·.1)).Nodup
/-- laid(well, lo, hi) -/
def sp_laid : Sp := fun vs H Q _ => ∃ (a : Addr) (n lo hi : Nat), vs = [.ref a, .int lo, .int hi] ∧ WellAt H a n ∧ n < 600000 ∧ lo ≤ hi ∧ hi ≤ 12 ∧
  ∀ (l : Addr) (us : List PU) H', H l = none → l ≠ a → Grow a H H' → WellAt H' a (n + 1000) → Lay H' l us → LOk (sn us) → lo ≤ us.length → us.length ≤ hi → Q (.ref l) H'
/-- fits(well, laid, most) -/
def sp_fits : Sp := fun vs H Q _ => ∃ (a t : Addr) (n hi : Nat) (us : List PU), vs = [.ref a, .ref t, .int hi] ∧ WellAt H a n ∧ n < 600000 ∧ t ≠ a ∧ Lay H t us ∧ LOk (sn us) ∧ 1 ≤ us.length ∧ us.length ≤ 12 ∧ hi ≤ 12 ∧
  ∀ (l : Addr) (ms : List MU) H', H l = none → l ≠ a → Grow a H H' → WellAt H' a (n + 1000) → Fts H' l ms → MOk (sn us) (sn ms) → ms.length ≤ hi → Q (.ref l) H'
/-- net(laid, fits) -/
def sp_lnet (K : PySem.W.Frag) (CN CP CM : Addr) : Sp := fun vs H Q _ => ∃ (l m : Addr) (us : List PU) (ms : List MU), vs = [.ref l, .ref m] ∧ Lay H l us ∧ Fts H m ms ∧ POk (sn us) ∧ MOk (sn us) (sn ms) ∧
  ∀ (x : Addr) H', Same H H' → NetR K CN CP CM H' x (sn us) (sn ms) → Q (.ref x) H'
/-- net_text(laid, fits) -/
def sp_ltext : Sp := fun vs H Q _ => ∃ (l m : Addr) (us : List PU) (ms : List MU), vs = [.ref l, .ref m] ∧ Lay H l us ∧ Fts H m ms ∧ TOk (sn us) (sn ms) ∧ ∀ H', Same H H' → Q (.str (netT (sn us) (sn ms))) H'
/-- is(net, laid, fits): it is the one -/
def sp_isN (K : PySem.W.Frag) (CN CP CM : Addr) : Sp := fun vs H Q _ => ∃ (x l m : Addr) (us : List PU) (ms : List MU), vs = [.ref x, .ref l, .ref m] ∧ NetR K CN CP CM H x (sn us) (sn ms) ∧ Lay H l us ∧ Fts H m ms ∧ POk (sn us) ∧ MOk (sn us) (sn ms) ∧
  ∀ H', Same H H' → Q (.bl true) H'
theorem Has.add {H0 H : Hp} {a p : Addr} {n : Nat} {L : List (Addr × HO)} {o : HO} (h : Has H0 a n L H) (n0 : p ≠ a) (e : H p = some o) : Has H0 a n ((p, o) :: L) H :=
  ⟨h.gr, h.well, fun q hq => by
    rcases List.mem_cons.mp hq with rfl | hq
    · exact ⟨n0, e⟩
    · exact h.here q hq⟩
end RV
/-! nested data that can be shown -/
namespace RV
open PySem L2 PyProof.Rows TL
structure Shw (d : PyData) (n k : Nat) : Prop where
  ok : d.showable = true
  dp : d.depth ≤ n
  ln : d.shown.length ≤ k
/-! ### rows of pipes and meters as data -/
def dY (q : P3) : PyData := .tuple [.str q.1, .str q.2.1, .str q.2.2]
def dZ (q : M3) : PyData := .tuple [.str q.1, .str q.2.1, .bool q.2.2]
def dN (ps : List P3) (ms : List M3) : PyData := .list [.list (ps.map dY), .list (ms.map dZ)]
end RV
/-! a net's text is plain; nets compared -/
namespace RV
open PySem L2 PyProof.Rows TL
/-- the law's row -/
def sp_rightN : Sp := fun vs H Q _ => ∃ (a : Addr) (n : Nat), vs = [.ref a] ∧ WellAt H a n ∧ n < 500000 ∧ ∀ H', Grow a H H' → WellAt H' a (n + 3000) → Q (.bl true) H'
end RV
/-! names of the laws over scripts -/
namespace RV
open PySem L2 PyProof.Rows TL
section
variable {D : Addr} {xs : List V} {i : Nat} {te : TE} {tt : TT} {vs : List Nat} {σ : L2.St} {H1 : Hp} {Qd : Hp → Prop} {J : It} {GG : Hp → Prop}
end
/-- the spare names -/
def zn (j : Nat) : Str := ("z" : Str) ++ num (j : Int)
def words2 : List Str := ["pipe", "meter", "sealed", "go", "if", "vote", "tell", "doubt", "a", "b"]
/-- names(well, m) -/
def sp_names : Sp := fun vs H Q _ => ∃ (a : Addr) (n m : Nat), vs = [.ref a, .int m] ∧ WellAt H a n ∧ n < 600000 ∧ m ≤ 12 ∧
  ∀ (l : Addr) (xs : List Str) H', H l = none → l ≠ a → Grow a H H' → WellAt H' a (n + 200) → H' l = some (.lst (xs.map V.str)) → xs.length = m → xs.Nodup → (∀ x ∈ xs, IsNm x) → Q (.ref l) H'
end RV
/-! models of nets, as the laws over scripts draw them -/
namespace RV
open PySem L2 PyProof.Rows TL
abbrev Q3 := Str × Nat × Nat
abbrev G3 := Str × Nat × Bool
def oQ (q : Q3) : HO := .tup [.str q.1, .int (q.2.1 : Int), .int (q.2.2 : Int)]
def oG (q : G3) : HO := .tup [.str q.1, .int (q.2.1 : Int), .bl q.2.2]
/-- places, pipes between them by index, gauges at pipes by index -/
structure Mod where
  pl : List Str
  qs : List Q3
  gs : List G3
structure MdOk (M : Mod) (most more : Nat) : Prop where
  p2 : 2 ≤ M.pl.length
  p4 : M.pl.length ≤ 4
  pn : ∀ x ∈ M.pl, IsNm x
  pd : M.pl.Nodup
  q2 : 2 ≤ M.qs.length
  qm : M.qs.length ≤ most
  qn : ∀ q ∈ M.qs, IsNm q.1 ∧ q.2.1 < M.pl.length ∧ q.2.2 < M.pl.length ∧ q.2.1 ≠ q.2.2
  qd : (M.qs.map (·.1)).Nodup
  gm : M.gs.length ≤ more
  gn : ∀ g ∈ M.gs, IsNm g.1 ∧ g.2.1 < M.qs.length
  gd : (M.gs.map (·.1)).Nodup
abbrev QU := Addr × Q3
abbrev GU := Addr × G3
/-- what a model is in the heap -/
def lM (l lp lq lg : Addr) (pl : List Str) (pu : List QU) (gu : List GU) : List (Addr × HO) :=
  (l, .lst [.ref lp, .ref lq, .ref lg]) :: (lp, .lst (pl.map V.str)) :: (lq, .lst (rf pu)) :: (lg, .lst (rf gu)) :: (pu.map (fun u => (u.1, oQ u.2)) ++ gu.map fun u => (u.1, oG u.2))
def sp_model : Sp := fun vs H Q _ => ∃ (a : Addr) (n most more : Nat), vs = [.ref a, .int most, .int more] ∧ WellAt H a n ∧ n < 500000 ∧ 2 ≤ most ∧ most ≤ 12 ∧ more ≤ 12 ∧
  ∀ (l lp lq lg : Addr) (pl : List Str) (pu : List QU) (gu : List GU) H', Has H a (n + 2000) (lM l lp lq lg pl pu gu) H' → MdOk ⟨pl, sn pu, sn gu⟩ most more → Q (.ref l) H'
/-- the model at l -/
structure MdAt (H : Hp) (l : Addr) (M : Mod) : Prop where
  ex : ∃ (lp lq lg : Addr) (pu : List QU) (gu : List GU), sn pu = M.qs ∧ sn gu = M.gs ∧ ∀ p ∈ lM l lp lq lg M.pl pu gu, H p.1 = some p.2
def Mod.ps (M : Mod) : List P3 := M.qs.map fun q => (q.1, M.pl.getD q.2.1 "", M.pl.getD q.2.2 "")
def Mod.ms (M : Mod) : List M3 := M.gs.map fun g => (g.1, (M.qs.getD g.2.1 ("", 0, 0)).1, g.2.2)
section
variable {M : Mod} {most more : Nat}
end
def sp_mtext : Sp := fun vs H Q _ => ∃ (l : Addr) (M : Mod) (most more : Nat), vs = [.ref l] ∧ MdAt H l M ∧ MdOk M most more ∧ most ≤ 12 ∧ more ≤ 12 ∧ ∀ H', Same H H' → Q (.str (netT M.ps M.ms)) H'
end RV
/-! ways through a net: walks, flows of -1, 0 and 1, and the least count of meters on a ring -/
namespace RV
/-! ### sums over the first n indexes -/
def sm : Nat → (Nat → Int) → Int
  | 0, _ => 0
  | n + 1, g => sm n g + g n
def dl {α : Type} [DecidableEq α] (u x : α) : Int := if u = x then 1 else 0
section
set_option linter.unusedSectionVars false
variable {α : Type} [DecidableEq α]
variable (n : Nat) (st en : Nat → α) (w : Nat → Nat) (ok : Nat → Prop)
/-- what stays at a place -/
def dv (f : Nat → Int) (x : α) : Int := sm n fun k => f k * (dl (en k) x - dl (st k) x)
/-- a walk from u, its last step first -/
inductive Wk (u : α) : α → List (Nat × Bool) → Prop
  | nil : Wk u u []
  | fwd {i l} : Wk u (st i) l → ok i → Wk u (en i) ((i, true) :: l)
  | bwd {i l} : Wk u (en i) l → ok i → Wk u (st i) ((i, false) :: l)
inductive Sw (u : α) : α → List (Nat × Bool) → List α → Prop
  | nil : Sw u u [] [u]
  | fwd {i l vs} : Sw u (st i) l vs → ok i → en i ∉ vs → Sw u (en i) ((i, true) :: l) (en i :: vs)
  | bwd {i l vs} : Sw u (en i) l vs → ok i → st i ∉ vs → Sw u (st i) ((i, false) :: l) (st i :: vs)
def wl (l : List (Nat × Bool)) : Nat := (l.map fun q => w q.1).sum
def sg (b : Bool) : Int := if b then 1 else -1
def fl (l : List (Nat × Bool)) (k : Nat) : Int := (l.map fun q => if q.1 = k then sg q.2 else 0).sum
variable {n st en w ok} {u v : α} {l : List (Nat × Bool)} {vs : List α}
/-- a ring: flows of -1, 0 and 1 that are 1 at the pipe -/
structure Ring (n : Nat) (st en : Nat → α) (shut : Nat → Prop) (p : Nat) (f : Nat → Int) : Prop where
  r : ∀ k, k < n → f k = 0 ∨ f k = 1 ∨ f k = -1
  kept : ∀ x, RV.dv n st en f x = 0
  one : f p = 1
  sl : ∀ k, k < n → shut k → f k = 0
def cnt (n : Nat) (w : Nat → Nat) (f : Nat → Int) : Int := sm n fun k => if f k ≠ 0 then (w k : Int) else 0
abbrev okp (n : Nat) (shut : Nat → Prop) (p k : Nat) : Prop := k < n ∧ k ≠ p ∧ ¬ shut k
variable {shut : Nat → Prop} {p : Nat}
/-! ### the places that pipes of a ring reach -/
/-! ### the shortest ways, round by round -/
abbrev Dist (α : Type) := α → Option Nat
/-- on by a link: from, to, meters -/
def ld (g : Dist α) (e : α × α × Nat) : Dist α := match g e.1 with
  | none => g
  | some d => match g e.2.1 with
    | none => fun x => if x = e.2.1 then some (d + e.2.2) else g x
    | some d' => if d + e.2.2 < d' then fun x => if x = e.2.1 then some (d + e.2.2) else g x else g
def Le (g g' : Dist α) : Prop := ∀ x d, g x = some d → ∃ d', g' x = some d' ∧ d' ≤ d
def turn (L : List (α × α × Nat)) (g : Dist α) : Dist α := L.foldl ld g
def turns (L : List (α × α × Nat)) : Nat → Dist α → Dist α
  | 0, g => g
  | k + 1, g => turn L (turns L k g)
def g0 (u : α) : Dist α := fun x => if x = u then some 0 else none
/-- the links of a net's pipes -/
structure Links (L : List (α × α × Nat)) (st en : Nat → α) (w : Nat → Nat) (ok : Nat → Prop) : Prop where
  of : ∀ e ∈ L, ∃ i, ok i ∧ e.2.2 = w i ∧ (e.1 = st i ∧ e.2.1 = en i ∨ e.1 = en i ∧ e.2.1 = st i)
  f : ∀ i, ok i → (st i, en i, w i) ∈ L
  b : ∀ i, ok i → (en i, st i, w i) ∈ L
variable {L : List (α × α × Nat)}
end
end RV
/-! own methods; promises of ways and strengths -/
namespace RV
open PySem L2 PyProof.Rows TL
def Mtd (P : Program) (w : World) (K : PySem.W.Frag) (mg : Str → Option Value) (base : Heap) (C : Addr) (m : Str) (k : Nat) (ps : List Str) (sp : Sp) : Prop :=
  Cls K C ∧ ∃ f fd, Meth K C m f ∧ Binds K fd ps [] ∧ FnOk P w K mg base CX0 k f fd ps sp
section
variable {X : Cx} {C : Addr} {m : Str} {k : Nat} {ps : List Str} {sp : Sp} {o e : Expr} {es : List Expr} {t : TA} {ta : TE} {pos apos : Pos} {pl : Sem Bool}
end
section
variable {α : Type} {K : PySem.W.Frag} {D : Addr} {i : Nat} {te : TE} {tt : TT} {vs : List Nat} {σ : L2.St} {H1 : Hp} {Qd : Hp → Prop} {J : It} {GG : Hp → Prop}
end
def rgL (n : Nat) : List V := (List.range n).map fun i => V.int (i : Nat)
/-! ### the meters of a pipe -/
def onP (ms : List M3) (y : Str) : List M3 := ms.filter fun m => decide (m.2.1 = y)
def wtP (ms : List M3) (y : Str) : Nat := (onP ms y).length
def seP (ms : List M3) (y : Str) : List M3 := (onP ms y).filter fun m => m.2.2
/-- amount at this index, 0 elsewhere -/
def un (n : Nat) (o : Option Nat) (c : Int) : List Int := (List.range n).map fun j => if o = some j then c else 0
def vN : Option Nat → V
  | none => .non
  | some k => .int (k : Nat)
/-- a link: from, to, meters, flow -/
abbrev L4 := Str × Str × Nat × List Int
def lks (n : Nat) (ms : List M3) (y : Str) (i : Nat) (p : P3) : List L4 :=
  if p.1 ≠ y ∧ seP ms p.1 = [] then [(p.2.1, p.2.2, wtP ms p.1, un n (some i) 1), (p.2.2, p.2.1, wtP ms p.1, un n (some i) (-1))] else []
def lkF (n : Nat) (ms : List M3) (y : Str) : Nat → List P3 → List L4
  | _, [] => []
  | i, p :: ps => lks n ms y i p ++ lkF n ms y (i + 1) ps
def lkA (ps : List P3) (ms : List M3) (y : Str) : List L4 := lkF ps.length ms y 0 ps
def lk3 (l : L4) : Str × Str × Nat := (l.1, l.2.1, l.2.2.1)
def LkAt (H : Hp) (a : Addr) (l : L4) : Prop := ∃ t, H a = some (.tup [.str l.1, .str l.2.1, .int (l.2.2.1 : Nat), .ref t]) ∧ H t = some (.tup (l.2.2.2.map V.int))
/-- a dict of ways -/
structure DW (n : Nat) (Z : Str → Nat → List Int → Prop) (H : Hp) (kvs : List (Key × V)) (g : Dist Str) : Prop where
  z : ∀ x, g x = none → valV kvs (.inr x) = none
  s : ∀ x d, g x = some d → ∃ (e t : Addr) (fs : List Int), valV kvs (.inr x) = some (.ref e) ∧ H e = some (.tup [.int (d : Nat), .ref t]) ∧ H t = some (.tup (fs.map V.int)) ∧ fs.length = n ∧ Z x d fs
/-- what holds of every way that is found -/
structure ZOk (ps : List P3) (ms : List M3) (y : Str) (Z : Dist Str → Str → Nat → List Int → Prop) : Prop where
  st : ∀ (i : Nat) (q : P3), ps[i]? = some q → q.1 = y → Z (g0 q.2.2) q.2.2 0 (un ps.length none 0)
  ke : ∀ l ∈ lkA ps ms y, ∀ g x d fs, Z g x d fs → Z (ld g (lk3 l)) x d fs
  ne : ∀ l ∈ lkA ps ms y, ∀ g d fs, fs.length = ps.length → g l.1 = some d → Z g l.1 d fs → (g l.2.1 = none ∨ ∃ d', g l.2.1 = some d' ∧ d + l.2.2.1 < d') → Z (ld g (lk3 l)) l.2.1 (d + l.2.2.1) (List.zipWith (· + ·) fs l.2.2.2)
def strP (ps : List P3) (ms : List M3) (y : Str) : Option Nat :=
  match ps.find? fun p => decide (p.1 = y) with
  | none => none
  | some q => if seP ms y = [] then (turns ((lkA ps ms y).map lk3) ps.length (g0 q.2.2) q.2.1).map (· + wtP ms y) else none
section
variable (K : PySem.W.Frag) (CN CP CM : Addr)
def sp_gpipe : Sp := fun vs H Q _ => ∃ (x : Addr) (ps : List P3) (ms : List M3) (y : Str), vs = [.ref x, .str y] ∧ NetR K CN CP CM H x ps ms ∧ ps.length ≤ 12 ∧ y ∈ ps.map (·.1) ∧
  ∀ (a : Addr) (i : Nat) (q : P3) H', ps[i]? = some q → q.1 = y → Same H H' → PipeAt CP H' a q → Q (.ref a) H'
def sp_chkn : Sp := fun vs H Q _ => ∃ (x : Addr) (ps : List P3) (ms : List M3), vs = [.ref x] ∧ NetR K CN CP CM H x ps ms ∧ Q .non H
def sp_chkp : Sp := fun vs H Q _ => ∃ (x : Addr) (ps : List P3) (ms : List M3) (y : Str), vs = [.ref x, .str y] ∧ NetR K CN CP CM H x ps ms ∧ ps.length ≤ 12 ∧ y ∈ ps.map (·.1) ∧ ∀ H', Same H H' → Q .non H'
def sp_mat : Sp := fun vs H Q _ => ∃ (x : Addr) (ps : List P3) (ms : List M3) (y : Str), vs = [.ref x, .str y] ∧ NetR K CN CP CM H x ps ms ∧ ms.length ≤ 12 ∧
  ∀ (l : Addr) (us : List MU) H', Same H H' → H' l = some (.lst (rf us)) → (∀ u ∈ us, MetAt CM H' u.1 u.2) → sn us = onP ms y → Q (.ref l) H'
def sp_sat : Sp := fun vs H Q _ => ∃ (x : Addr) (ps : List P3) (ms : List M3) (y : Str), vs = [.ref x, .str y] ∧ NetR K CN CP CM H x ps ms ∧ ms.length ≤ 12 ∧
  ∀ (l : Addr) (xs : List V) H', Same H H' → H' l = some (.lst xs) → (xs = [] ↔ seP ms y = []) → Q (.ref l) H'
def sp_amt : Sp := fun vs H Q _ => ∃ (x : Addr) (ps : List P3) (ms : List M3) (o : Option Nat) (c : Int), vs = [.ref x, vN o, .int c] ∧ NetR K CN CP CM H x ps ms ∧ ps.length ≤ 12 ∧
  ∀ (t : Addr) H', Same H H' → H' t = some (.tup ((un ps.length o c).map V.int)) → Q (.ref t) H'
def sp_lnks : Sp := fun vs H Q _ => ∃ (x : Addr) (ps : List P3) (ms : List M3) (y : Str), vs = [.ref x, .str y] ∧ NetR K CN CP CM H x ps ms ∧ ps.length ≤ 12 ∧ ms.length ≤ 12 ∧
  ∀ (l : Addr) (us : List (Addr × L4)) H', Same H H' → H' l = some (.lst (rf us)) → (∀ u ∈ us, LkAt H' u.1 u.2) → sn us = lkA ps ms y → Q (.ref l) H'
def sp_lead : Sp := fun vs H Q _ => ∃ (d t : Addr) (a b : Str) (m n : Nat) (fs : List Int) (kvs : List (Key × V)) (g : Dist Str) (Z Z' : Str → Nat → List Int → Prop), vs = [.ref d, .str a, .str b, .int (m : Nat), .ref t] ∧ H d = some (.dK kvs) ∧ H t = some (.tup (fs.map V.int)) ∧ fs.length = n ∧ n ≤ 12 ∧ kvs.length ≤ 1000 ∧ DW n Z H kvs g ∧ (∀ x d f, Z x d f → Z' x d f) ∧ (∀ d f, f.length = n → g a = some d → Z a d f → (g b = none ∨ ∃ d', g b = some d' ∧ d + m < d') → Z' b (d + m) (List.zipWith (· + ·) f fs)) ∧
  ∀ kvs' H', (∀ b o, b ≠ d → H b = some o → H' b = some o) → H' d = some (.dK kvs') → kvs'.length ≤ kvs.length + 1 → DW n Z' H' kvs' (ld g (a, b, m)) → Q .non H'
def sp_ways : Sp := fun vs H Q _ => ∃ (x : Addr) (ps : List P3) (ms : List M3) (y : Str) (Z : Dist Str → Str → Nat → List Int → Prop), vs = [.ref x, .str y] ∧ NetR K CN CP CM H x ps ms ∧ ps.length ≤ 12 ∧ ms.length ≤ 12 ∧ y ∈ ps.map (·.1) ∧ ZOk ps ms y Z ∧
  ∀ (i : Nat) (q : P3) (d : Addr) (kvs : List (Key × V)) H', ps[i]? = some q → q.1 = y → Same H H' → H' d = some (.dK kvs) → DW ps.length (Z (turns ((lkA ps ms y).map lk3) ps.length (g0 q.2.2))) H' kvs (turns ((lkA ps ms y).map lk3) ps.length (g0 q.2.2)) → Q (.ref d) H'
def WayV (n : Nat) (Z : Nat → List Int → Prop) (H : Hp) (v : V) : Option Nat → Prop
  | none => v = .non
  | some d => ∃ (e t : Addr) (fs : List Int), v = .ref e ∧ H e = some (.tup [.int (d : Nat), .ref t]) ∧ H t = some (.tup (fs.map V.int)) ∧ fs.length = n ∧ Z d fs
def sp_back : Sp := fun vs H Q _ => ∃ (x : Addr) (ps : List P3) (ms : List M3) (y : Str) (Z : Dist Str → Str → Nat → List Int → Prop), vs = [.ref x, .str y] ∧ NetR K CN CP CM H x ps ms ∧ ps.length ≤ 12 ∧ ms.length ≤ 12 ∧ y ∈ ps.map (·.1) ∧ ZOk ps ms y Z ∧
  ∀ (i j : Nat) (q r : P3) (v : V) H', ps[i]? = some q → q.1 = y → ps[j]? = some r → r.1 = y → Same H H' → WayV ps.length (Z (turns ((lkA ps ms y).map lk3) ps.length (g0 q.2.2)) r.2.1) H' v (if seP ms y = [] then turns ((lkA ps ms y).map lk3) ps.length (g0 q.2.2) r.2.1 else none) → Q v H'
def sp_stren : Sp := fun vs H Q _ => ∃ (x : Addr) (ps : List P3) (ms : List M3) (y : Str), vs = [.ref x, .str y] ∧ NetR K CN CP CM H x ps ms ∧ POk ps ∧ ms.length ≤ 12 ∧ y ∈ ps.map (·.1) ∧ ∀ H', Same H H' → Q (vN (strP ps ms y)) H'
end
end RV
/-! ways in a dict -/
namespace RV
open PySem L2 PyProof.Rows TL
end RV
/-! flows of -1, 0 and 1, as the laws over scripts count them -/
namespace RV
open PySem L2 PyProof.Rows TL
def qst (M : Mod) (k : Nat) : Nat := (M.qs.getD k ("", 0, 0)).2.1
def qen (M : Mod) (k : Nat) : Nat := (M.qs.getD k ("", 0, 0)).2.2
def rwf (r : List Int) (k : Nat) : Int := r.getD k 0
/-- what stays at a place after j pipes -/
def stay (M : Mod) (r : List Int) (j x : Nat) : Int := dv j (qst M) (qen M) (rwf r) x
def keptB (M : Mod) (r : List Int) : Bool := (List.range M.pl.length).all fun x => decide (stay M r M.qs.length x = 0)
def stayL (M : Mod) (r : List Int) (j : Nat) : List V := (List.range M.pl.length).map fun x => .int (stay M r j x)
def sp_kept : Sp := fun vs H Q _ => ∃ (l a : Addr) (M : Mod) (most more : Nat) (r : List Int), vs = [.ref l, .ref a] ∧ MdAt H l M ∧ MdOk M most more ∧ most ≤ 12 ∧ H a = some (.lst (r.map V.int)) ∧ r.length = M.qs.length ∧ ∀ H', Same H H' → Q (.bl (keptB M r)) H'
def trit (c : Int) : Prop := c = 0 ∨ c = 1 ∨ c = -1
def sp_flows : Sp := fun vs H Q _ => ∃ (l : Addr) (M : Mod) (more : Nat), vs = [.ref l] ∧ MdAt H l M ∧ MdOk M 5 more ∧
  ∀ (a : Addr) (us : List (Addr × List Int)) H', Same H H' → H' a = some (.lst (rf us)) → (∀ u ∈ us, H' u.1 = some (.lst (u.2.map V.int))) → us.length ≤ 243 → H a = none → (∀ u ∈ us, H u.1 = none) → (∀ r, r ∈ sn us ↔ r.length = M.qs.length ∧ (∀ c ∈ r, trit c) ∧ keptB M r = true) → Q (.ref a) H'
abbrev FU := Addr × List Int
def FAt (H : Hp) (us : List FU) : Prop := ∀ u ∈ us, H u.1 = some (.lst (u.2.map V.int))
section
variable {K : PySem.W.Frag} {D : Addr} {i : Nat} {te : TE} {vs : List Nat} {σ : L2.St} {H1 : Hp} {Qd : Hp → Prop} {J : It} {GG : Hp → Prop}
end
end RV
/-! least counts over flows; lists of integers and None as data -/
namespace RV
open PySem L2 PyProof.Rows TL
def cntG (M : Mod) (r : List Int) : Nat := (M.gs.filter fun g => decide (rwf r g.2.1 ≠ 0)).length
def shutG (M : Mod) (r : List Int) : Bool := M.gs.any fun g => g.2.2 && decide (rwf r g.2.1 ≠ 0)
def condG (M : Mod) (p : Nat) (r : List Int) : Bool := decide (rwf r p = 1) && !shutG M r
def IsMin (L : List Nat) : Option Nat → Prop
  | none => L = []
  | some m => m ∈ L ∧ ∀ y ∈ L, m ≤ y
def dO : Option Nat → PyData
  | none => .none
  | some k => .int (k : Nat)
def sp_lstr : Sp := fun vs H Q _ => ∃ (l a : Addr) (M : Mod) (more p : Nat) (us : List FU), vs = [.ref l, .ref a, .int (p : Nat)] ∧ MdAt H l M ∧ MdOk M 5 more ∧ more ≤ 12 ∧ H a = some (.lst (rf us)) ∧ FAt H us ∧ us.length ≤ 243 ∧ p < M.qs.length ∧ (∀ r ∈ sn us, r.length = M.qs.length) ∧
  ∀ (o : Option Nat) H', Same H H' → IsMin (((sn us).filter (condG M p)).map (cntG M)) o → Q (vN o) H'
end RV
/-! the strength by shortest ways is the least count over flows -/
namespace RV
open PySem L2 PyProof.Rows TL
def pN (ps : List P3) (k : Nat) : Str := (ps.getD k ("", "", "")).1
def pS (ps : List P3) (k : Nat) : Str := (ps.getD k ("", "", "")).2.1
def pE (ps : List P3) (k : Nat) : Str := (ps.getD k ("", "", "")).2.2
def shutP (ps : List P3) (ms : List M3) (k : Nat) : Prop := seP ms (pN ps k) ≠ []
/-! ### models -/
section
variable {M : Mod} {most more : Nat}
abbrev RingM (M : Mod) (p : Nat) (f : Nat → Int) : Prop := Ring M.qs.length (pS M.ps) (pE M.ps) (shutP M.ps M.ms) p f
end
end RV
/-! a def called by keywords alone; lists of counts that are shown -/
namespace RV
open PySem L2 PyProof.Rows TL
def FnKd (P : Program) (w : World) (K : PySem.W.Frag) (mg : Str → Option Value) (base : Heap) (x : Str) (k : Nat) (ks : List Str) (sp : Sp) (gV : List V → List V → List V) : Prop :=
  ∃ f fd ps g, mg x = some (.ref f) ∧ PySem.W.keepIn K (.ref f) = true ∧ KBn K fd ps 0 ks g gV ∧ FnOk P w K mg base CX0 k f fd ps sp
def tCallK0 (n : Nat) (sp : Sp) (gV : List V → List V → List V) (tk : TA) : TE := fun σ H Q => tk σ H fun zs H2 => zs.length = n ∧ sp (gV [] zs) H2 Q E0
section
variable {X : Cx} {k : Nat} {x : Str} {ks : List Str} {sp : Sp} {gV : List V → List V → List V} {kws : List Keyword} {tk : TA} {p pos : Pos}
end
/-- f(pipe=y, net=x) -/
def gPN (vs zs : List V) : List V := match vs, zs with
  | [], [y, x] => [x, y]
  | _, _ => []
def sp_right23 : Sp := fun vs H Q _ => ∃ (a : Addr) (n : Nat), vs = [.ref a] ∧ WellAt H a n ∧ n < 500000 ∧ ∀ H', Grow a H H' → Q (.bl true) H'
/-- what is due for each pipe -/
def dueL (M : Mod) : List (Option Nat) := (List.range M.qs.length).map fun k => strP M.ps M.ms (pN M.ps k)
end RV
/-! the law's own call, whatever its parameter is called -/
namespace RV
open PySem L2 PyProof.Rows
theorem walkGx (x : Str) (k : Nat) {l : PySem.W.OpenLaw} {q : Program} {loose : List Str} {XP : (Str → Option Value) → Heap → Prop} {YP : World → Heap → Prop} {d : DefRec} {K : Params → PySem.W.Frag} (hr : Room k callerA) (hn : l.most = some 63) (hdf : d.params.defaults = [])
    (hY : ∀ (w : World) (h : Heap), YP w h → (K w.params).In h)
    (F : ∀ (w : World) (mg : Str → Option Value) (fa : Addr) (h : Heap), (K w.params).In h → h.Ns mainGlobals mg → mg d.name = some (.ref fa) →
      ∃ fd : FuncData, (∀ (s : Shared) (u : Value), BindsTo s fd ⟨[u], []⟩ [(x, u)]) ∧ ∀ base : Heap, (K w.params).In base → base.Ns mainGlobals mg → FnG l.prog w (K w.params) mg base k fa fd [x] (spLaw (K w.params))) :
    PySem.W.WalkO q loose XP YP l.row.toRowW d [] (fun f vs => PySem.call f vs) := by
  refine Att.attach_call hn hdf fun w s₀ s₁ mg mb fa o pm cd doc a vs ns G Y ho hd hcd hmg hobj hints hlen hg => ?_
  obtain ⟨fd, hb, hF⟩ := F w mg fa _ (hY w _ Y) G.T.g hmg
  exact callG (hY w _ Y) G.T.g G.T.b G.T.builtins G.T.nolimit hg hobj hints (Nat.le_trans hlen (by decide)) hr hF hb fun H hS => ⟨a, ns, rfl, hS, hlen, fun _ => rfl⟩
end RV
/-! sum of a tuple, repr of a truth value; faults, can_tell -/
namespace RV
open PySem L2 PyProof.Rows TL
section
variable {X : Cx}
def rSumT (K : PySem.W.Frag) : List V → Hp → VK → Prop := fun vs H Q => ∃ (a : Addr) (ns : List Int), vs = [V.ref a] ∧ SqT K H a (ns.map V.int) ∧ Q (.int ns.sum) H
def rReprB : List V → Hp → VK → Prop := fun xs H Q => ∃ b, xs = [.bl b] ∧ Q (.str (if b then "True" else "False")) H
end
/-- faults -/
structure Flt (a b c : Int) : Prop where
  h0 : 0 ≤ a
  h1 : a ≤ b
  h2 : b ≤ 3
  h3 : 0 ≤ c
  h4 : c ≤ 3
def sp_isb : Sp := fun vs H Q _ => ∃ c : Int, vs = [.int c] ∧ 0 ≤ c ∧ c ≤ 3 ∧ Q (.bl true) H
def sp_arf (K : PySem.W.Frag) : Sp := fun vs H Q _ => ∃ (t : Addr) (a b c : Int), vs = [.ref t] ∧ SqT K H t [.int a, .int b, .int c] ∧ Flt a b c ∧ ∀ H', Same H H' → Q (.bl true) H'
def sp_chf (K : PySem.W.Frag) : Sp := fun vs H Q _ => ∃ (t : Addr) (a b c : Int), vs = [.ref t] ∧ SqT K H t [.int a, .int b, .int c] ∧ Flt a b c ∧ ∀ H', Same H H' → Q .non H'
def tellB : Option Nat → Int → Bool
  | none, _ => true
  | some m, s => decide (s < (m : Int))
def sp_tell (K : PySem.W.Frag) (CN CP CM : Addr) : Sp := fun vs H Q _ => ∃ (x t : Addr) (ps : List P3) (ms : List M3) (y : Str) (a b c : Int), vs = [.ref x, .str y, .ref t] ∧ NetR K CN CP CM H x ps ms ∧ POk ps ∧ ms.length ≤ 12 ∧ y ∈ ps.map (·.1) ∧ SqT K H t [.int a, .int b, .int c] ∧ Flt a b c ∧
  ∀ H', Same H H' → Q (.bl (tellB (strP ps ms y) (a + b + c))) H'
/-- drawn faults -/
def sp_faults : Sp := fun vs H Q _ => ∃ (w : Addr) (n : Nat), vs = [.ref w, .int 3] ∧ WellAt H w n ∧ n < 900000 ∧
  ∀ (t : Addr) (a b c : Int) H', Grow w H H' → WellAt H' w (n + 5) → H' t = some (.tup [.int a, .int b, .int c]) → t ≠ w → Flt a b c → Q (.ref t) H'
end RV
/-! the flow of a shortest way is one of -1, 0 and 1: a way that is no shorter is not taken, so no way comes to a place twice -/
namespace RV
section
set_option linter.unusedSectionVars false
variable {α : Type} [DecidableEq α] {n : Nat} {st en : Nat → α} {w : Nat → Nat} {ok : Nat → Prop} {u x : α} {g g' : Dist α} {d : Nat} {f : Nat → Int}
/-- a way without loops of this length and flow; each place on it is known by a way that is no longer -/
def GW (st en : Nat → α) (w : Nat → Nat) (ok : Nat → Prop) (u : α) (g : Dist α) (x : α) (d : Nat) (f : Nat → Int) : Prop :=
  ∃ l vs, Sw st en ok u x l vs ∧ wl w l = d ∧ (∀ k, f k = fl l k) ∧ ∀ y ∈ vs, ∃ d', g y = some d' ∧ d' ≤ d
end
end RV
set_option linter.all false
/-! sets of texts written as comprehensions, with any number of clauses: {x for a in .. for b in ..} -/
namespace RV
open PySem L2 PySem.Spec PyProof.Rows
/-- what is run in a turn behind a clause's tests: the next clause, or the member's being put -/
abbrev TB := L2.St → Hp → (Hp → Prop) → Prop
def HasB (X : Cx) (vs : List Nat) (m : Sem PySem.Fin → Sem PySem.Fin) (tb : TB) : Prop := ∀ (pins : List (Addr × Obj)) (s : Shared) (σ : L2.St) (H : Hp) (Q : Hp → Prop) (z : Sem PySem.Fin) (R : PySem.Fin → Shared → Prop), Inv X pins σ H s → tb σ H Q →
  (∀ σ' H' s', Inv X pins σ' H' s' → wipe σ' vs = wipe σ vs → Q H' → wpAny (model X.prog X.w) X.A z R (fun _ _ => False) s') → wpAny (model X.prog X.w) X.A (m z) R (fun _ _ => False) s
/-- how a clause's turn reads -/
def TurnIs (e tg : Expr) (k : Nat) (at0 : Pos) (ifs : List Expr) (acc : Value) (env : Env) (body : Sem PySem.Fin → Sem PySem.Fin) : Prop := ∀ it, compTurn e k it acc env = (do
  standAt at0
  match ← pyNext it with
  | none => pure (.done .next)
  | some v => do
    letOwnedTupleGo tg it v
    assign tg env v
    let ok ← forIn ifs true fun c ok => if ok = true then do let ok ← isTrue c env (eval c env); pure (ForInStep.yield ok) else pure (ForInStep.yield ok)
    if ok = true then body (again (.compLoop e k it acc env)) else again (.compLoop e k it acc env))
/-- all turns of a clause whose iterator J has come -/
def tCl (J : It) (g : TG) (tt : TT) (tb : TB) (vs : List Nat) : TB := fun σ H Q => ∃ W : Nat → Nat → Hp → Prop, (∃ m, W 0 m H) ∧ ∀ i m H, W i m H →
  (J.stop i H ∧ Q H) ∨ (J.go i H ∧ ∃ Nx : Hp → Prop, (∀ H', Nx H' → ∃ m', m' < m ∧ W (i + 1) m' H') ∧ ∀ x H', J.yld i H x H' → g x (wipe σ vs) H' fun σ2 H2 => wipe σ2 vs = wipe σ vs ∧ tt σ2 H2 fun b H3 => if b = true then tb σ2 H3 Nx else Nx H3)
section
variable {X : Cx}
/-- the next clause -/
def tNx (wi : TI) (g : TG) (tt : TT) (tb : TB) (ws : List Nat) : TB := fun σ H Q => wi σ H fun J H1 => tCl J g tt tb ws σ H1 Q
/-- a member is put -/
def tPutS (P : Program) (w : World) (D : Addr) (te : TE) : TB := fun σ H Q => te σ H fun y H1 => ∃ (z : Str) (S : Str → Bool) (n : Nat), y = .str z ∧ H1 D = some (SetT P w D S n) ∧ n + 1 < 4000 ∧ ∀ n', n' ≤ n + 1 → Q (upd H1 D (SetT P w D (fun j => S j || decide (j = z)) n'))
end
end RV
set_option linter.all false
/-! {x for a in .. if .. for b in .. ..}: the whole comprehension -/
namespace RV
open PySem L2 PySem.Spec PyProof.Rows
def BlkOf (X X' : Cx) (scope : Scope) : Prop := ∃ (s : Shared) (H : Hp) (C : Addr) (cl : List (Str × Addr)) (fp : List Addr), X' = X.blk s H scope (compEnvC scope cl C X.env) fp
section
variable {X : Cx}
def tSet (P : Program) (w : World) (wi : TI) (g : TG) (tt : TT) (tb : Addr → TB) (vs : List Nat) : TE := fun σ H Q => wi σ H fun J H1 => ∀ D, H1 D = none → tCl J g tt (tb D) vs σ (upd H1 D (SetT P w D (fun _ => false) 0)) fun H' => Q (.ref D) H'
end
end RV
set_option linter.all false
/-! {x for a in .. for b in ..} with two clauses and with three, the members texts -/
namespace RV
open PySem L2 PySem.Spec PyProof.Rows
section
variable {X : Cx}
end
section
variable {X : Cx} {K : PySem.W.Frag}
end
/-- everything but the object at d stays -/
def Sb (d : Addr) (H H' : Hp) : Prop := ∀ b o, b ≠ d → H b = some o → H' b = some o
/-- places -/
def pls (ps : List P3) : List Str := ps.flatMap fun p => [p.2.1, p.2.2]
def SortP (xs : List Str) (zs : List Str) : Prop := sortedS zs = true ∧ zs.Nodup ∧ ∀ z, z ∈ zs ↔ z ∈ xs
def sp_plc (K : PySem.W.Frag) (CN CP CM : Addr) : Sp := fun vs H Q _ => ∃ (x : Addr) (ps : List P3) (ms : List M3), vs = [.ref x] ∧ NetR K CN CP CM H x ps ms ∧ ps.length ≤ 12 ∧
  ∀ (t : Addr) (zs : List Str) H', Same H H' → H' t = some (.tup (zs.map V.str)) → SortP (pls ps) zs → zs.length ≤ 24 → Q (.ref t) H'
end RV
set_option linter.all false
/-! comprehensions over pairs of two tuples; flows at places -/
namespace RV
open PySem L2 PySem.Spec PyProof.Rows TL
section
variable {K : PySem.W.Frag} {a b : Addr} {xs ys : List V} {D : Addr} {te : TE} {tt : TT} {vs : List Nat} {σ : L2.St} {H1 : Hp} {Qd : Hp → Prop} {i j : Nat}
end
/-- what comes in less what goes out -/
def dvP (ps : List P3) (fs : List Int) (z : Str) : Int := dv ps.length (pS ps) (pE ps) (rwf fs) z
def sumAt (g : Nat → Str) (n : Nat) (fs : List Int) (z : Str) : List Int := ((List.range n).filter fun k => decide (g k = z)).map (rwf fs)
def flwB (ps : List P3) (fs : List Int) : Bool := decide (fs.length = ps.length) && (pls ps).all fun z => decide (dvP ps fs z = 0)
section
variable (K : PySem.W.Frag) (CN CP CM : Addr)
def sp_kat : Sp := fun vs H Q _ => ∃ (x t : Addr) (ps : List P3) (ms : List M3) (fs : List Int) (z : Str), vs = [.ref x, .ref t, .str z] ∧ NetR K CN CP CM H x ps ms ∧ ps.length ≤ 12 ∧ SqT K H t (fs.map V.int) ∧ fs.length = ps.length ∧ ∀ H', Same H H' → Q (.int (dvP ps fs z)) H'
def sp_isf : Sp := fun vs H Q _ => ∃ (x t : Addr) (ps : List P3) (ms : List M3) (fs : List Int), vs = [.ref x, .ref t] ∧ NetR K CN CP CM H x ps ms ∧ ps.length ≤ 12 ∧ SqT K H t (fs.map V.int) ∧ fs.length ≤ 1000 ∧ ∀ H', Same H H' → Q (.bl (flwB ps fs)) H'
/-- a ring through a pipe with so many meters -/
structure RingF (ps : List P3) (ms : List M3) (y : Str) (c : Nat) (fs : List Int) : Prop where
  len : fs.length = ps.length
  ring : ∃ p, p < ps.length ∧ pN ps p = y ∧ Ring ps.length (pS ps) (pE ps) (shutP ps ms) p (rwf fs) ∧ cnt ps.length (fun k => wtP ms (pN ps k)) (rwf fs) = c
def sp_ring : Sp := fun vs H Q _ => ∃ (x : Addr) (ps : List P3) (ms : List M3) (y : Str), vs = [.ref x, .str y] ∧ NetR K CN CP CM H x ps ms ∧ POk ps ∧ ms.length ≤ 12 ∧ y ∈ ps.map (·.1) ∧
  (strP ps ms y = none → ∀ H', Same H H' → Q .non H') ∧ ∀ c (t : Addr) fs H', strP ps ms y = some c → Same H H' → SqT K H' t (fs.map V.int) → RingF ps ms y c fs → Q (.ref t) H'
end
end RV
set_option linter.all false
/-! what the found ways are: rings without loops -/
namespace RV
open PySem L2 PyProof.Rows TL
def ZG (ps : List P3) (ms : List M3) (p : Nat) : Dist Str → Str → Nat → List Int → Prop := fun g x d fs => GW (pS ps) (pE ps) (fun k => wtP ms (pN ps k)) (okp ps.length (shutP ps ms) p) (pE ps p) g x d (rwf fs)
/-- the flow with 1 at a pipe -/
def ringL (ps : List P3) (y : Str) (fs : List Int) : List Int := (List.range ps.length).map fun k => if pN ps k = y then 1 else rwf fs k
end RV
set_option linter.all false
/-! rings of models -/
namespace RV
open PySem L2 PyProof.Rows TL
def sp_rr (K : PySem.W.Frag) (CN CP CM : Addr) : Sp := fun vs H Q _ => ∃ (l x : Addr) (M : Mod) (most more p : Nat), vs = [.ref l, .ref x, .int (p : Nat)] ∧ MdAt H l M ∧ MdOk M most more ∧ most ≤ 12 ∧ more ≤ 12 ∧ NetR K CN CP CM H x M.ps M.ms ∧ p < M.qs.length ∧ ∀ H', Same H H' → Q (.bl true) H'
end RV
set_option linter.all false
/-! for x, y, z in zip(a, b, c): three tuples -/
namespace RV
open PySem L2 PySem.Spec PyProof.Rows TL
/-- the tuples at a, b, c as they stand; the items in new tuples -/
def Itz3 (K : PySem.W.Frag) (a b c : Addr) : It :=
  ⟨fun i H => ∃ (xs ys zs : List V) (x y z : V), SqT K H a xs ∧ SqT K H b ys ∧ SqT K H c zs ∧ xs[i]? = some x ∧ ys[i]? = some y ∧ zs[i]? = some z,
    fun i H v H' => ∃ T x y z, v = .ref T ∧ H T = none ∧ H' = upd H T (.tup [x, y, z]) ∧ (∀ xs, SqT K H a xs → xs[i]? = some x) ∧ (∀ ys, SqT K H b ys → ys[i]? = some y) ∧ ∀ zs, SqT K H c zs → zs[i]? = some z,
    fun i H => ∃ xs ys zs : List V, SqT K H a xs ∧ SqT K H b ys ∧ SqT K H c zs ∧ xs.length = i ∧ ys.length = i ∧ zs.length = i⟩
def iZip3 (K : PySem.W.Frag) (ta : TA) : TI := fun σ H R => ta σ H fun vs H1 => ∃ a b c xs ys zs, vs = [.ref a, .ref b, .ref c] ∧ SqT K H1 a xs ∧ SqT K H1 b ys ∧ SqT K H1 c zs ∧ R (Itz3 K a b c) H1
def YTri (xs ys zs : Nat → Option V) : Nat → Hp → V → Hp → Prop := fun i H v H' => ∃ T x y z, v = .ref T ∧ H T = none ∧ H' = upd H T (.tup [x, y, z]) ∧ xs i = some x ∧ ys i = some y ∧ zs i = some z
end RV
set_option linter.all false
/-! worlds: readings, wrong and silent meters -/
namespace RV
open PySem L2 PySem.Spec PyProof.Rows TL
section
variable {J : It} {n : Nat} {GG : Hp → Prop} {Y : Nat → Hp → V → Hp → Prop} {g : TG} {tt : TT} {tk tv : TE} {vs : List Nat} {σ : L2.St} {H1 : Hp} {D : Addr} {Qd : Hp → Prop}
end
abbrev gTri (K : PySem.W.Frag) (i j l : Nat) : TG := gTup K 3 (gCons (gName i) (gCons (gName j) (gCons (gName l) gNil)))
section
variable {K : PySem.W.Frag} {a b c : Addr} {xs ys zs : List V} {D : Addr} {te : TE} {tt : TT} {vs : List Nat} {σ : L2.St} {H1 : Hp} {Qd : Hp → Prop} {i j l : Nat}
abbrev s3 (σ : L2.St) (i j l : Nat) (x y z : V) : L2.St := ((σ.set i (some x)).set j (some y)).set l (some z)
end
/-! ### readings -/
def vO : Option Int → V
  | none => .non
  | some c => .int c
def vR (rs : List (Option Int)) : List V := rs.map vO
def mN (ms : List M3) (k : Nat) : Str := (ms.getD k ("", "", false)).1
def mA (ms : List M3) (k : Nat) : Str := (ms.getD k ("", "", false)).2.1
def mZ (ms : List M3) (k : Nat) : Bool := (ms.getD k ("", "", false)).2.2
def rO (rs : List (Option Int)) (k : Nat) : Option Int := rs.getD k none
/-- the flow of the pipe of this name -/
def amt (ps : List P3) (fs : List Int) (y : Str) : Int := match ps.findIdx? fun p => decide (p.1 = y) with
  | some k => rwf fs k
  | none => 0
def rdF (ps : List P3) (ms : List M3) (fs : List Int) : List Int := ms.map fun m => amt ps fs m.2.1
structure RdOk (ms : List M3) (rs : List (Option Int)) : Prop where
  len : rs.length = ms.length
  sea : ∀ k, k < ms.length → mZ ms k = true → rO rs k ≠ none
structure WdOk (ps : List P3) (ms : List M3) (fs : List Int) (rs : List (Option Int)) : Prop where
  fl : fs.length = ps.length
  fw : flwB ps fs = true
  rd : RdOk ms rs
  sea : ∀ k, k < ms.length → mZ ms k = true → rO rs k = some (amt ps fs (mA ms k))
def wrB (ps : List P3) (ms : List M3) (fs : List Int) (rs : List (Option Int)) (k : Nat) : Bool := match rO rs k with
  | some v => decide (v ≠ amt ps fs (mA ms k))
  | none => false
def wrN (ps : List P3) (ms : List M3) (fs : List Int) (rs : List (Option Int)) : List Str := ((List.range ms.length).filter (wrB ps ms fs rs)).map (mN ms)
def slN (ms : List M3) (rs : List (Option Int)) : List Str := ((List.range ms.length).filter fun k => (rO rs k).isNone).map (mN ms)
def Asc (xs zs : List Str) : Prop := PyProof.Rows.sortedS zs = true ∧ zs.Perm xs
section
variable (K : PySem.W.Frag) (CN CP CM : Addr)
/-- a pair of a flow and readings -/
def WAt (H : Hp) (a : Addr) (fs : List Int) (rs : List (Option Int)) : Prop := ∃ tf tr, SqT K H a [.ref tf, .ref tr] ∧ SqT K H tf (fs.map V.int) ∧ SqT K H tr (vR rs)
def sp_rof : Sp := fun vs H Q _ => ∃ (x t : Addr) (ps : List P3) (ms : List M3) (fs : List Int), vs = [.ref x, .ref t] ∧ NetR K CN CP CM H x ps ms ∧ POk ps ∧ MOk ps ms ∧ SqT K H t (fs.map V.int) ∧ fs.length = ps.length ∧ flwB ps fs = true ∧
  ∀ (r : Addr) H', Same H H' → H' r = some (.tup ((rdF ps ms fs).map V.int)) → Q (.ref r) H'
def sp_isr : Sp := fun vs H Q _ => ∃ (a : Addr) (m : M3) (o : Option Int), vs = [.ref a, vO o] ∧ MetAt CM H a m ∧ Q (.bl (o.isSome || !m.2.2)) H
def sp_chr : Sp := fun vs H Q _ => ∃ (x t : Addr) (ps : List P3) (ms : List M3) (rs : List (Option Int)), vs = [.ref x, .ref t] ∧ NetR K CN CP CM H x ps ms ∧ ms.length ≤ 12 ∧ SqT K H t (vR rs) ∧ RdOk ms rs ∧ ∀ H', Same H H' → Q .non H'
def sp_are : Sp := fun vs H Q _ => ∃ (x t : Addr) (ps : List P3) (ms : List M3) (rs : List (Option Int)), vs = [.ref x, .ref t] ∧ NetR K CN CP CM H x ps ms ∧ ms.length ≤ 12 ∧ SqT K H t (vR rs) ∧ RdOk ms rs ∧ ∀ H', Same H H' → Q (.bl true) H'
def sp_seal : Sp := fun vs H Q _ => ∃ (x t r : Addr) (ps : List P3) (ms : List M3) (fs : List Int) (rs : List (Option Int)), vs = [.ref x, .ref t, .ref r] ∧ NetR K CN CP CM H x ps ms ∧ POk ps ∧ MOk ps ms ∧ SqT K H t (fs.map V.int) ∧ SqT K H r (vR rs) ∧ WdOk ps ms fs rs ∧ ∀ H', Same H H' → Q (.bl true) H'
def sp_isw : Sp := fun vs H Q _ => ∃ (x a : Addr) (ps : List P3) (ms : List M3) (fs : List Int) (rs : List (Option Int)), vs = [.ref x, .ref a] ∧ NetR K CN CP CM H x ps ms ∧ POk ps ∧ MOk ps ms ∧ WAt K H a fs rs ∧ WdOk ps ms fs rs ∧ ∀ H', Same H H' → Q (.bl true) H'
def sp_chw : Sp := fun vs H Q _ => ∃ (x a : Addr) (ps : List P3) (ms : List M3) (fs : List Int) (rs : List (Option Int)), vs = [.ref x, .ref a] ∧ NetR K CN CP CM H x ps ms ∧ POk ps ∧ MOk ps ms ∧ WAt K H a fs rs ∧ WdOk ps ms fs rs ∧ ∀ H', Same H H' → Q .non H'
def sp_sln : Sp := fun vs H Q _ => ∃ (x t : Addr) (ps : List P3) (ms : List M3) (rs : List (Option Int)), vs = [.ref x, .ref t] ∧ NetR K CN CP CM H x ps ms ∧ ms.length ≤ 12 ∧ SqT K H t (vR rs) ∧ rs.length = ms.length ∧
  ∀ (l : Addr) H', Same H H' → H l = none → H' l = some (.lst ((slN ms rs).map V.str)) → Q (.ref l) H'
def sp_wrm : Sp := fun vs H Q _ => ∃ (x a : Addr) (ps : List P3) (ms : List M3) (fs : List Int) (rs : List (Option Int)), vs = [.ref x, .ref a] ∧ NetR K CN CP CM H x ps ms ∧ POk ps ∧ MOk ps ms ∧ WAt K H a fs rs ∧ WdOk ps ms fs rs ∧
  ∀ (t : Addr) (zs : List Str) H', Same H H' → SqT K H' t (zs.map V.str) → Asc (wrN ps ms fs rs) zs → Q (.ref t) H'
def sp_slm : Sp := fun vs H Q _ => ∃ (x a : Addr) (ps : List P3) (ms : List M3) (fs : List Int) (rs : List (Option Int)), vs = [.ref x, .ref a] ∧ NetR K CN CP CM H x ps ms ∧ POk ps ∧ MOk ps ms ∧ WAt K H a fs rs ∧ WdOk ps ms fs rs ∧
  ∀ (t : Addr) (zs : List Str) H', Same H H' → SqT K H' t (zs.map V.str) → Asc (slN ms rs) zs → Q (.ref t) H'
end
end RV
set_option linter.all false
/-! two worlds with the same readings -/
namespace RV
open PySem L2 PySem.Spec PyProof.Rows TL
/-- what is seen in the world without flow and in the one with a ring -/
def seen (a c : Int) : Int → List Int → List (Option Int)
  | _, [] => []
  | met, v :: vs => if v = 0 then some 0 :: seen a c met vs else (if met < a then some v else if met < a + c then none else some 0) :: seen a c (met + 1) vs
def met (m : Int) : List Int → Int
  | [] => m
  | v :: vs => if v = 0 then met m vs else met (m + 1) vs
def isW1 (o : Option Int) : Bool := match o with
  | some r => decide (r ≠ 0)
  | none => false
def isW2 (q : Int × Option Int) : Bool := match q.2 with
  | some r => decide (r ≠ q.1)
  | none => false
def nz (vs : List Int) : Nat := (vs.filter fun v => decide (v ≠ 0)).length
section
variable (K : PySem.W.Frag) (CN CP CM : Addr)
def sp_seen : Sp := fun vs H Q _ => ∃ (x t f : Addr) (ps : List P3) (ms : List M3) (fs : List Int) (a b c : Int), vs = [.ref x, .ref t, .ref f] ∧ NetR K CN CP CM H x ps ms ∧ POk ps ∧ MOk ps ms ∧ SqT K H t (fs.map V.int) ∧ fs.length = ps.length ∧ flwB ps fs = true ∧ SqT K H f [.int a, .int b, .int c] ∧
  ∀ (r : Addr) H', Same H H' → SqT K H' r (vR (seen a c 0 (rdF ps ms fs))) → Q (.ref r) H'
/-- two worlds with the same readings -/
def MisAt (H : Hp) (t : Addr) (n : Nat) (fs : List Int) (rs : List (Option Int)) : Prop := ∃ u v tf tg tr, SqT K H t [.ref u, .ref v] ∧ SqT K H u [.ref tf, .ref tr] ∧ SqT K H v [.ref tg, .ref tr] ∧ SqT K H tf ((List.replicate n (0 : Int)).map V.int) ∧ SqT K H tg (fs.map V.int) ∧ SqT K H tr (vR rs)
def sp_misl : Sp := fun vs H Q _ => ∃ (x t : Addr) (ps : List P3) (ms : List M3) (y : Str) (a b c : Int), vs = [.ref x, .str y, .ref t] ∧ NetR K CN CP CM H x ps ms ∧ POk ps ∧ MOk ps ms ∧ y ∈ ps.map (·.1) ∧ SqT K H t [.int a, .int b, .int c] ∧ Flt a b c ∧
  (tellB (strP ps ms y) (a + b + c) = true → ∀ H', Same H H' → Q .non H') ∧
  ∀ (n : Nat) (r : Addr) fs H', strP ps ms y = some n → (n : Int) ≤ a + b + c → RingF ps ms y n fs → Same H H' → MisAt K H' r ps.length fs (seen a c 0 (rdF ps ms fs)) → Q (.ref r) H'
end
end RV
set_option linter.all false
/-! lists of indexes; worlds of models -/
namespace RV
open PySem L2 PySem.Spec PyProof.Rows TL
def vI (k : Nat) : V := .int (k : Int)
section
variable {K : PySem.W.Frag} {D : Addr} {te : TE} {tt : TT} {vs : List Nat} {σ : L2.St} {H1 : Hp} {Qd : Hp → Prop} {i : Nat} {J : It} {GG : Hp → Prop}
end
def sp_lw (K : PySem.W.Frag) : Sp := fun vs H Q _ => ∃ (l a : Addr) (M : Mod) (most more : Nat) (fs : List Int) (rs : List (Option Int)), vs = [.ref l, .ref a] ∧ MdAt H l M ∧ MdOk M most more ∧ most ≤ 12 ∧ more ≤ 12 ∧ WAt K H a fs rs ∧ WdOk M.ps M.ms fs rs ∧ (∀ c ∈ rs, True) ∧
  ∀ (r lw lm : Addr) H', Same H H' → H' r = some (.lst [.ref lw, .ref lm]) → H' lw = some (.lst (((List.range M.ms.length).filter (wrB M.ps M.ms fs rs)).map vI)) → H' lm = some (.lst (((List.range M.ms.length).filter fun k => (rO rs k).isNone).map vI)) → Q (.ref r) H'
end RV
set_option linter.all false
/-! misleading pairs of models -/
namespace RV
open PySem L2 PySem.Spec PyProof.Rows TL
def dI (k : Nat) : PyData := .int (k : Int)
def dR (o : Option Int) : PyData := match o with
  | none => .none
  | some c => .int c
section
variable {K : PySem.W.Frag} {H : Hp}
end
def sp_flt : Sp := fun vs H Q _ => ∃ (w : Addr) (n : Nat) (m : Int), vs = [.ref w, .int m] ∧ WellAt H w n ∧ n < 900000 ∧ 0 ≤ m ∧ m ≤ 3 ∧
  ∀ (t : Addr) (a b c : Int) H', Grow w H H' → WellAt H' w (n + 5) → H t = none → H' t = some (.tup [.int a, .int b, .int c]) → t ≠ w → Flt a b c → Q (.ref t) H'
def sp_pr (K : PySem.W.Frag) (CN CP CM : Addr) : Sp := fun vs H Q _ => ∃ (l x t : Addr) (M : Mod) (most more p : Nat) (a b c : Int), vs = [.ref l, .ref x, .int (p : Nat), .ref t] ∧ MdAt H l M ∧ MdOk M most more ∧ most ≤ 12 ∧ more ≤ 12 ∧ NetR K CN CP CM H x M.ps M.ms ∧ p < M.qs.length ∧ SqT K H t [.int a, .int b, .int c] ∧ Flt a b c ∧ ∀ H', Same H H' → Q (.bl true) H'
/-! ### the two worlds -/
section
variable {M : Mod} {most more p n : Nat} {fs : List Int} {a b c : Int}
end
end RV
/-! Own errors over any built-in base, with an own __init__ that keeps one value. -/
namespace RV
open PySem L2
/-- what is known of such a class at C -/
structure OEx (K : PySem.W.Frag) (C : Addr) (n nw it : String) (tl : List Value) : Prop where
  fb : ExcBaseFacts n nw it tl
  sf : StoreFacts n tl "object.__setattr__" "object"
  ini : PySem.W.excInitIn K C tl nw = true
  ov : PySem.W.excOver K C tl = true
  hd : PySem.W.hasDictIn K C = true
  sa : PySem.W.findIn K (.ref C) "__setattr__" = some (some (.builtin "object.__setattr__"))
  eb : PySem.W.subIn K (.ref C) (.type "BaseException") = some true
  ty : PySem.W.typeIn K (.ref C) = some (.type "type")
  kp : PySem.W.keepIn K (.ref C) = true
  ga : PySem.W.findIn K (.ref C) "__getattribute__" = some (some (.builtin "BaseException.__getattribute__"))
  gg : PySem.W.findIn K (.ref C) "__getattr__" = some none
  cl : PySem.W.findIn K (.ref C) "__class__" = some (some (.builtin "object.__class__"))
  sp : PySem.W.specialIn K (.builtin "object.__class__") "__get__" = some (some (.builtin "getset_descriptor.__get__"))
  tk : PySem.W.takesIn K (.builtin "object.__class__") = some true
  mo : PySem.W.mroIn K C (.type "object") = some true
def OwnX (K : PySem.W.Frag) (C : Addr) : Prop := ∃ n nw it tl, OEx K C n nw it tl
section
variable {P : Program} {w : World} {A : Around} {E : Value → Shared → Prop} {K : PySem.W.Frag} {C x t1 : Addr} {n nw it : String} {tl : List Value} {f : Str} {v : Value} {hp : Heap} {g : Array GenState} {d : Drawn} {t : Nat} {os : OsState} {Q : Unit → Shared → Prop}
/-- the first value that is put on such an error: its dict is made -/
theorem first_field (T : OEx K C n nw it tl) (X : K.In hp) (hx : hp.get? x = some (PySem.W.excObj C t1 none .none)) (hno : PySem.W.takerIn K C f = some none)
    (hq : ∀ h' tk' dx, (∀ b o, b ≠ x → hp.get? b = some o → h'.get? b = some o) → hp.objs.size ≤ dx → dx ≠ x → h'.get? x = some (PySem.W.excObj C t1 (some dx) .none) → h'.Ns1 dx (fun y => if y = f then some v else none) → Q () ⟨h', g, d, tk', os⟩) :
    wpAny (model P w) A (setAttr (.ref x) f v) Q E ⟨hp, g, d, t, os⟩ := by
  refine PySem.W.set_plain X (ox := PySem.W.excObj C t1 none .none) (od := none) ⟨hx, rfl, rfl, trivial⟩ T.sa ?_
  refine PySem.W.osa_openX (od := none) T.sf X ⟨hx, rfl, rfl, trivial⟩ T.ov hno fun b => ?_
  obtain ⟨cd, hc, hd'⟩ := PySem.W.any_some T.hd
  have xs : x ≠ hp.objs.size := Nat.ne_of_lt (Heap.lt_size hx)
  refine wpAny_bind (wpAny_pure (wpAny_bind (PySem.W.instanceDict_exc hx (PySem.W.looks_clsIn X hc) hd' ?_)))
  refine PySem.HandSPX.store_in_new ⟨_, #[], _, (Heap.get?_update_ne _ _ _ _ xs.symm).trans (Heap.get?_push_at rfl rfl), rfl, fun e he => absurd he (by simp), fun _ => rfl⟩ fun h' tk' hn hs => ?_
  refine hq h' tk' hp.objs.size (fun b o hb ho => ?_) (Nat.le_refl _) xs.symm ?_ hn
  · exact (hs.2 b (Nat.ne_of_lt (Heap.lt_size ho))).trans ((Heap.get?_update_ne _ _ _ _ hb).trans (Heap.get?_push_of_some _ ho))
  · exact (hs.2 x xs).trans (Heap.get?_update_self _ (Heap.get?_push_of_some _ hx) rfl)
end
section
variable {X : Cx} {pins : List (Addr × Obj)} {σ : L2.St} {H : Hp} {s : Shared} {a C : Addr} {f : Str} {y : V} {u : Value} {Q : Unit → Shared → Prop} {E : Value → Shared → Prop} {A : Around}
theorem give_new (T : OwnX X.K C) (I : Inv X pins σ H s) (e : H a = some (exo a C none)) (hno : PySem.W.takerIn X.K C f = some none) (ry : RelV y u)
    (h : ∀ dx s', H dx = none → dx ≠ a → Inv X pins σ (upd (upd H dx (exd dx [(f, y)])) a (exo a C (some dx))) s' → Q () s') : wpAny (model X.prog X.w) A (setAttr (.ref a) f u) Q E s := by
  obtain ⟨n, nw, it, tl, T⟩ := T
  obtain ⟨t1, ho⟩ := exo_at I.hok e
  obtain ⟨hp, g, d, t, os⟩ := s
  refine first_field T I.kIn ho hno fun h' tk' dx k big nx hx hn => ?_
  have fr : H dx = none := I.hok.fresh big
  have old : ∀ {b o}, hp.get? b = some o → b ≠ dx := fun q => Nat.ne_of_lt (Nat.lt_of_lt_of_le (Heap.lt_size q) big)
  have na : ∀ {b}, H b = none → b ≠ a := fun n => (ne_of_none e n).symm
  have two : ∀ {b o}, H b = some o → exo a C none ≠ o → upd (upd H dx (exd dx [(f, y)])) a (exo a C (some dx)) b = some o := fun {b o} q ne => by
    rw [upd_ne (at_ne e q ne), upd_ne (ne_of_none q fr), q]
  have un : Un X.fs [] H (upd (upd H dx (exd dx [(f, y)])) a (exo a C (some dx))) hp h' := by
    refine ⟨fun b o q n _ _ => k b o (na n) q, fun b o q n _ _ => ⟨o.slots, k b o (na n) q⟩, fun b o q n _ => ?_, fun b o q _ => ?_, fun b xs q => two q exo_tup, fun b o v q => two q exo_frz, fun b ps q => ⟨#[], ?_⟩⟩
    · rw [upd_ne (na n), upd_ne (old q)]
      exact n
    · rcases Decidable.em (b = a) with rfl | hb
      · exact ⟨_, hx⟩
      · exact ⟨o, k b o hb q⟩
    · rw [two q exo_tbl]
      simp
  refine h dx _ fr nx (I.un (t' := tk') un fun b o q => ?_)
  rcases Decidable.em (b = a) with rfl | hb
  · rw [upd_same] at q
    cases q
    exact exo_ok hx
  rw [upd_ne hb] at q
  rcases Decidable.em (b = dx) with rfl | hb'
  · rw [upd_same] at q
    cases q
    exact exd_ok hn (relO_put (fs := []) ry fun g => True.intro)
  rw [upd_ne hb'] at q
  refine (I.hok b o q).stay (fun c v hc z => k c v ?_ z) (fun c hc => two hc exo_own) (fun c xs hc => two hc exo_tup)
  rcases hc with rfl | hc
  · exact hb
  · exact at_ne e hc exo_own
end
/-- self.f = e on a new error -/
def tGive (K : PySem.W.Frag) (f : Str) (to te : TE) : TS := fun D σ H => te σ H fun y H1 => to σ H1 fun x H2 => ∃ a C : Addr, x = .ref a ∧ OwnX K C ∧ PySem.W.takerIn K C f = some none ∧ H2 a = some (exo a C none) ∧
  ∀ dx, H2 dx = none → dx ≠ a → D.nx σ (upd (upd H2 dx (exd dx [(f, y)])) a (exo a C (some dx)))
theorem ps_give {X : Cx} {o e : Expr} {to te : TE} {f : Str} {p' pos : Pos} (ho : PE X o to) (he : PE X e te) (hs : swapsWith e (some (.Attribute o f p')) pos.line X.env = pure false := by rfl) : PS X (.Assign [.Attribute o f p'] e pos) (tGive X.K f to te) := by
  refine ⟨fun pins s σ H D I h => plainObj_wpAny_Assign_Attribute (thn (he.run pins s σ H _ I h) ?_) hs⟩
  rintro v s1 ⟨y, H1, I1, r1, q1⟩
  refine thn (ho.run pins s1 σ H1 _ I1 q1) ?_
  rintro u s2 ⟨x, H2, I2, r2, a, C, rfl, T, hno, ea, q⟩
  obtain rfl : u = Value.ref a := r2
  exact give_new T I2 ea hno r1 fun dx s' n ne J => ⟨σ, _, J, q dx n ne⟩
/-- what follows is never met -/
theorem pss_dead {X : Cx} {l : List Stmt} : PSs X l (fun _ _ _ => False) := ⟨fun _ _ _ _ _ _ h => h.elim⟩
theorem pe_dead {X : Cx} {e : Expr} : PE X e (fun _ _ _ => False) := ⟨fun _ _ _ _ _ _ h => h.elim⟩
/-- what __init__(self, y): self.f = y does -/
def sp_give (C : Addr) (f : Str) : Sp := fun vs H Q _ => ∃ (a : Addr) (y : V), vs = [.ref a, y] ∧ H a = some (exo a C none) ∧ ∀ dx, H dx = none → dx ≠ a → Q .non (upd (upd H dx (exd dx [(f, y)])) a (exo a C (some dx)))
/-- the error class x of the module stands at C: x(e) keeps e as f -/
structure Err (P : Program) (w : World) (K : PySem.W.Frag) (mg : Str → Option Value) (base : Heap) (x : Str) (C : Addr) (f : Str) : Prop where
  at_ : mg x = some (.ref C)
  own : OwnX K C
  tk : PySem.W.takerIn K C f = some none
  no : PySem.W.findIn K (.ref C) f = some none
  ini : ∃ fI fd ps, PySem.W.findIn K (.ref C) "__init__" = some (some (.ref fI)) ∧ PySem.W.typeIn K (.ref fI) = some (.type "function") ∧ Binds K fd ps [] ∧ FnOk P w K mg base CX0 1 fI fd ps (sp_give C f)
/-- x(e): an error of the class at C with the dict d -/
def tErr (C : Addr) (f : Str) (ta : TA) : L2.St → Hp → XK → Prop := fun σ H Q => ta σ H fun vs H1 => ∃ y, vs = [y] ∧ ∀ d, H1 d = none → Q (.ref C) (some d) (upd H1 d (.xd [(f, y)]))
theorem pmk_err {X : Cx} {x f : Str} {C : Addr} {e : Expr} {ta : TA} {p pos : Pos} (T : Err X.prog X.w X.K X.mg X.base x C f) (hr : Room 2 X.A) (ha : PA X [e] ta) (hg : Gl X x := by rfl) (hdb : (x == ("__debug__" : Str)) = false := by decide)
    (he : starEach [e] X.env = (false, eval e X.env) :: starEach [] X.env := by rfl) : PMk X (.Call (.Name x p) [e] [] pos) (tErr C f ta) := by
  intro pins s σ H Q I h
  obtain ⟨n, nw, it, tl, O⟩ := T.own
  obtain ⟨fI, fd, ps, iC, tI, hb, F⟩ := T.ini
  refine wpAny_Call_Name_kw (ld_glob I hg T.at_ ?_ hdb)
  refine PySem.W.callWith_K (h₀ := X.base) I.ok.mod.kin O.kp (thn (ha.run pos pins s σ H _ I h) ?_) he rfl
  rintro us s1 ⟨vs, H1, I1, r1, y, rfl, q1⟩
  refine ⟨I1.kIn, ?_⟩
  obtain ⟨hp, g, dr, tk, os⟩ := s1
  obtain ⟨nm, N, qn, bs, bm, hdct, sn, sub, ab, col, dd, k0, k1, k2, k3, k5, hC, hT⟩ := PySem.W.excInit_of I1.kIn O.ini
  have hn : H1 (hp.objs.size + 1) = none := I1.hok.fresh (Nat.le_succ _)
  have kk : ∀ b o, hp.get? b = some o → ((hp.push (PySem.W.kdv_tup us)).push (PySem.HandSPX.excO C hp.objs.size)).get? b = some o := fun b o z => Heap.get?_push_of_some _ (Heap.get?_push_of_some _ z)
  have I2 := I1.laid (t' := tk) (a := hp.objs.size + 1) (o := exo (hp.objs.size + 1) C none) kk (Nat.le_succ _) (exo_ok (by heap_get))
  obtain ⟨ur, rfl⟩ : ∃ u, us = [u] := by
    cases r1 with
    | cons ru rr =>
      cases rr
      exact ⟨_, rfl⟩
  have ry : RelV y ur := by
    cases r1 with
    | cons ru rr => exact ru
  have hq : sp_give C f [.ref (hp.objs.size + 1), y] (upd H1 (hp.objs.size + 1) (exo (hp.objs.size + 1) C none))
      (fun v H2 => v = .non ∧ ∃ d, H1 d = none ∧ d ≠ hp.objs.size + 1 ∧ H2 = upd (upd (upd H1 (hp.objs.size + 1) (exo (hp.objs.size + 1) C none)) d (exd d [(f, y)])) (hp.objs.size + 1) (exo (hp.objs.size + 1) C (some d))) E0 :=
    ⟨_, y, rfl, upd_same, fun d nd ne => ⟨rfl, d, by rw [upd_ne ne] at nd; exact nd, ne, rfl⟩⟩
  have hl : [Value.ref (hp.objs.size + 1), ur].length = ps.length := (F.len _ _ _ _ hq : _)
  have hl' : ([Value.ref (hp.objs.size + 1), ur] ++ ([] : List Value)).length = ps.length := hl
  refine wpAny_call (PySem.HandSPX.call_own O.fb hT hC (PySem.W.looks_findIn I1.kIn iC) (fun self => PySem.W.bind_fn I1.kIn self tI) (by show 1 ≤ sizeLine; decide)
    (codeAny_mono (F.run _ X.stack _ _ ⟨[Value.ref (hp.objs.size + 1), ur], []⟩ [Value.ref (hp.objs.size + 1), ur] _ _ E0 (hr.make C [ur] []) (I2.env0.make C [ur] []) (hb _ [Value.ref (hp.objs.size + 1), ur] I2.kIn hl') (show Vals [V.ref (hp.objs.size + 1), y] [Value.ref (hp.objs.size + 1), ur] from .cons rfl (.cons ry .nil)) hq) ?_))
  rintro (er | fl) s' hq'
  · exact hq'.elim
  cases fl with
  | ret u =>
    obtain ⟨v, H2, os2, bare2, un2, hok2, rv, rfl, d, nd, ne, e2⟩ := hq'
    obtain ⟨h2, g2, d2, t2, os'⟩ := s'
    subst e2
    refine ⟨rv, mk_end (raises_own O.eb O.ty) I1 (Nat.le_succ _) kk un2 hok2 os2 bare2 upd_same (by rw [upd_ne ne, upd_same]) nd ?_⟩
    have fin : upd (del (upd (upd (upd H1 (hp.objs.size + 1) (exo (hp.objs.size + 1) C none)) d (exd d [(f, y)])) (hp.objs.size + 1) (exo (hp.objs.size + 1) C (some d))) (hp.objs.size + 1)) d (.xd [(f, y)]) = upd H1 d (.xd [(f, y)]) := by
      funext b
      rcases Decidable.em (b = d) with rfl | hb
      · rw [upd_same, upd_same]
      · rw [upd_ne hb, upd_ne hb]
        rcases Decidable.em (b = hp.objs.size + 1) with rfl | hb'
        · rw [del_same, hn]
        · rw [del_ne hb', upd_ne hb', upd_ne hb, upd_ne hb']
    rw [fin]
    exact q1 d nd
  | next => exact hq'.elim
  | brk => exact hq'.elim
  | cont => exact hq'.elim
end RV
/-! A try whose clauses bear names; clauses of one class, of a tuple of classes; what a suite asks of the error. -/
namespace RV
open PySem L2
/-- behind a suite its name is gone -/
def gone (i : Nat) (D : Ends) : Ends := { nx := fun σ H => D.nx (σ.set i none) H, rt := D.rt, bk := fun σ H => D.bk (σ.set i none) H, ct := fun σ H => D.ct (σ.set i none) H }
/-- a clause: what its test says of an error's class, its name's slot, its suite -/
structure Cl where
  says : Value → Option Bool
  slot : Nat
  ts : Addr → Value → Option Addr → TS
/-- what is wished of an error of the body -/
def wish (W0 : WX) (D : Ends) : List Cl → WX
  | [] => W0
  | c :: r => fun cls d σ H => ∃ b, c.says cls = some b ∧ (b = true → ∀ a, H a = none → c.ts a cls d (gone c.slot D) (σ.set c.slot (some (.ref a))) H) ∧ (b = false → wish W0 D r cls d σ H)
/-- the test of a clause -/
structure Tests (X : Cx) (t : Expr) (f : Value → Option Bool) : Prop where
  run : ∀ (a : Addr) (oe : Obj) (b : Bool) (pn : List (Addr × Obj)) (s : Shared) (σ : L2.St) (H : Hp) (Q : Bool → Shared → Prop) (E : Value → Shared → Prop), f oe.cls = some b → Inv (X.suite a ((a, oe) :: pn)) [] σ H s →
    (∀ h' tk, (∀ p o, s.heap.get? p = some o → h'.get? p = some o) → Q b { s with heap := h', toks := tk }) →
    wpAny (model X.prog X.w) (X.A.mark (some (.ref a))) (eval t X.env) (fun c s₁ => wpAny (model X.prog X.w) (X.A.mark (some (.ref a))) (excMatches (.ref a) c) Q E s₁) E s
inductive ClsOk (X : Cx) : List ExceptHandler → List Cl → Prop
  | nil : ClsOk X [] []
  | cons {t : Expr} {n : Str} {i : Nat} {f : Value → Option Bool} {ts : Addr → Value → Option Addr → TS} {b₀ : Stmt} {suite : List Stmt} {pos' : Pos} {hds : List ExceptHandler} {l : List Cl} (hi : X.N[i]? = some n) (hln : X.env.kindOf n = some .local) (ht : Tests X t f)
      (hsu : ∀ (a : Addr) (oe : Obj) (cls : Value) (d : Option Addr) (pn : List (Addr × Obj)), Zc cls d oe → (∃ vs, oe.data = .fields vs) → PSs (X.suite a ((a, oe) :: pn)) (b₀ :: suite) (ts a cls d)) (r : ClsOk X hds l) :
      ClsOk X (.ExceptHandler (some t) (some n) (b₀ :: suite) pos' :: hds) (⟨f, i, ts⟩ :: l)
theorem fly_keeps {B h h' : Heap} {l : List Env} {a : Addr} {Z : Obj → Prop} (f : PySem.HandSPX.FlyingZ B l a Z h) (k : ∀ p o, h.get? p = some o → h'.get? p = some o) : PySem.HandSPX.FlyingZ B l a Z h' := by
  obtain ⟨st, n, ff, oe, vs, T, oT, ts, e1, z, d, e2, bT, nT, e3, d3, e4⟩ := f
  exact ⟨fun p o q => k p o (st p o q), n, ff.of_keeps (fun p o q _ => ⟨o, k p o q, rfl⟩), oe, vs, T, oT, ts, k _ _ e1, z, d, e2, bT, nT, k _ _ e3, d3, e4⟩
section
variable {X : Cx} {body : List Stmt} {h₀ : ExceptHandler} {hds : List ExceptHandler} {l : List Cl} {pos : Pos} {tb : WX → TS} {W0 : WX}
theorem ps_try_cl (hs : X.stack = X.env :: X.outer) (hf : X.env.frame = some X.env.locals) (hN : X.N.Nodup) (tk : Takes X W0)
    (hb : ∀ (W : WX) (pn : List (Addr × Obj)) (xe : Value → Shared → Prop), Takes (X.tr pn xe) W → PassesOwn (model X.prog X.w) X.A X.env xe → PSs (X.tr pn xe) body (tb W))
    (hh : ClsOk X (h₀ :: hds) l) : PS X (.Try body (h₀ :: hds) [] [] pos) (fun D σ H => tb (wish W0 D l) D σ H) := by
  refine ⟨fun pins s σ H D I h => wpAny_Try_except ?_⟩
  have ok := I.ok
  have hfr : X.A.frames = some (X.env :: X.outer) := by rw [ok.frames, hs]
  refine wpAny_mono ((hb (wish W0 D l) (X.pn ++ pins) (fun e s1 => wpAny (model X.prog X.w) X.A (noteFrame e X.env) (fun _ s2 => wpAny (model X.prog X.w) X.A (setFlight e none) (fun _ s3 =>
    wpAny (model X.prog X.w) X.A (handleBy e X.env (h₀ :: hds)) (SP X pins D) X.xe s3) X.xe s2) X.xe s1) ?_ PassesOwn.looking).run [] s σ H D (I.toTry _) h) ?_ fun e s1 he => he
  · rintro u s' ⟨a, B, sI, pins', σ', H', cls, d, rfl, J', nb, up, sky, na, os, ag, wd⟩
    have J : Inv X pins σ' H' sI := J'.ofTry ok
    rw [show (X.tr (X.pn ++ pins) _).stack = X.env :: X.outer from hs] at sky
    refine Sky.land Zc.steady hfr hf sky fun h3 fl3 up3 => ?_
    have off : ∀ {h : Heap}, PySem.HandSPX.FlyingZ B (X.env :: X.outer) a (Zc cls d) h → a ≠ X.env.locals ∧ a ∉ X.fs := fun {h} f => by
      obtain ⟨oe, vs, he, _, hd⟩ := f.there
      have nf : a ∉ frs (X.env :: X.outer) := fun hm => by
        obtain ⟨_, o', e', hnf⟩ := f.2.2.1.mem hm
        rw [he] at e'
        cases e'
        exact hnf _ hd
      refine ⟨fun z => nf (List.mem_filterMap.mpr ⟨X.env, List.mem_cons_self, by rw [hf, z]⟩), fun hm => ?_⟩
      obtain ⟨e, he, q⟩ := List.mem_filterMap.mp hm
      exact nf (List.mem_filterMap.mpr ⟨e, List.mem_cons_of_mem _ he, q⟩)
    have step : ∀ {hds' : List ExceptHandler} {l' : List Cl}, ClsOk X hds' l' → ∀ (h4 : Heap) (t4 : Nat), PySem.HandSPX.FlyingZ B (X.env :: X.outer) a (Zc cls d) h4 → s'.heap.UpToSlots h4 → wish W0 D l' cls d σ' H' →
        wpAny (model X.prog X.w) X.A (handleBy (.ref a) X.env hds') (SP X pins D) X.xe { s' with heap := h4, toks := t4 } := by
      intro hds' l' hk
      induction hk with
      | nil =>
        intro h4 t4 fl4 up4 w4
        refine wpAny_handleBy_nil ?_
        obtain ⟨_, _, _, oe, vs, T, oT, ts', he, hz, hd, h1, _⟩ := id fl4
        unfold PySem.passOn
        refine wpAny_bind (wpAny_field he hd h1 ?_)
        rw [if_neg (show ¬ ((Value.ref T == Value.none) = true) from by simp)]
        have fin : wpAny (model X.prog X.w) X.A (setFlight (.ref a) X.env.frame) (fun _ s5 => wpAny (model X.prog X.w) X.A (throw (.ref a) : Sem Flow) (SP X pins D) X.xe s5) X.xe { s' with heap := h4, toks := t4 } := by
          rw [hf]
          refine PySem.HandSPX.setFlight_upZ fl4 fun h5 hh5 up5 => wpAny_throw (tk _ _ ?_)
          exact ⟨a, B, sI, pins, σ', H', cls, d, rfl, J, nb, (up.trans up4).trans up5, .inr (.inr (by rw [hs]; exact hh5)), na, os, ag, w4⟩
        first
          | exact wpAny_bind (wpAny_pure (wpAny_bind fin))
          | exact wpAny_bind fin
      | @cons t n i f ts b₀ suite pos' hds2 l2 hi hln ht hsu r ih =>
        intro h4 t4 fl4 up4 w4
        obtain ⟨b, e1, yes, no⟩ := w4
        obtain ⟨oe, vs, he, hz, hd⟩ := fl4.there
        have J4 : Inv X pins σ' H' { s' with heap := h4, toks := t4 } := J.landed (s' := { s' with heap := h4, toks := t4 }) nb fl4.1 (up.trans up4) os ag
        have S4 := J4.suite he hd na (off fl4).1 (off fl4).2
        refine wpAny_handleBy_cons (codeAny_handlers_test (ht.run a oe b _ _ _ _ _ _ (by rw [hz.1]; exact e1) S4 fun h5 t5 k5 => ?_)) (by intro q; cases q)
        have fl5 := fly_keeps fl4 k5
        have up5 := up4.trans (Heap.UpToSlots.of_keeps k5)
        cases b with
        | false =>
          show wpAny _ X.A (handleBy (.ref a) X.env hds2) _ _ _
          exact ih h5 t5 fl5 up5 (no rfl)
        | true =>
          refine codeAny_handlers_suite_as (PySem.HandSPX.lands_againZ fl5 fun h6 fl6 up6 => ?_)
          have J6 : Inv X pins σ' H' { s' with heap := h6, toks := t5 } := J.landed (s' := { s' with heap := h6, toks := t5 }) nb fl6.1 (up.trans (up5.trans up6)) os ag
          obtain ⟨oe6, vs6, he6, hz6, hd6⟩ := fl6.there
          refine store_ok (X := X.suite a ((a, oe6) :: (X.pn ++ pins))) (v := .ref a) (J6.suite he6 hd6 na (off fl6).1 (off fl6).2) hN hi (.inl hln) rfl (fun s7 S7 => ?_) (.inr hln)
          refine wpAny_mono ((hsu a oe6 cls d (X.pn ++ pins) hz6 ⟨_, hd6⟩).run [] s7 _ H' _ S7 (yes rfl a na)) ?_ fun _ _ z => z.elim
          have away : ∀ {s8 : Shared} {σ8 : L2.St} {H8 : Hp} {Q : Shared → Prop}, Inv (X.suite a ((a, oe6) :: (X.pn ++ pins))) [] σ8 H8 s8 → (∀ s9, Inv X pins (σ8.set i none) H8 s9 → Q s9) →
              wpAny (model X.prog X.w) X.A (do bindName X.env n .none; unbindBehindTheSuite X.env n pos') (fun _ s9 => Q s9) X.xe s8 := fun S8 q => gone_ok (S8.unsuite ok) hN hi hln q
          rintro (_ | _ | _ | u) s8 hsp
          · obtain ⟨σ8, H8, S8, q8⟩ := hsp
            exact away S8 fun s9 J9 => ⟨_, _, J9, q8⟩
          · obtain ⟨σ8, H8, S8, q8⟩ := hsp
            exact away S8 fun s9 J9 => ⟨_, _, J9, q8⟩
          · obtain ⟨σ8, H8, S8, q8⟩ := hsp
            exact away S8 fun s9 J9 => ⟨_, _, J9, q8⟩
          · obtain ⟨v8, σ8, H8, S8, r8, q8⟩ := hsp
            exact away S8 fun s9 J9 => ⟨_, _, _, J9, r8, q8⟩
    exact step hh h3 s'.toks fl3 up3 wd
  · rintro (_ | _ | _ | u) s1 hsp
    · obtain ⟨σ1, H1, J1, q⟩ := hsp
      exact wpAny_execs_nil ⟨σ1, H1, J1.ofTry ok, q⟩
    · obtain ⟨σ1, H1, J1, q⟩ := hsp
      exact ⟨σ1, H1, J1.ofTry ok, q⟩
    · obtain ⟨σ1, H1, J1, q⟩ := hsp
      exact ⟨σ1, H1, J1.ofTry ok, q⟩
    · obtain ⟨v, σ1, H1, J1, r, q⟩ := hsp
      exact ⟨v, σ1, H1, J1.ofTry ok, r, q⟩
end
/-! ### tests -/
section
variable {X : Cx}
theorem looks_cls {M : Model} {h : Heap} {a : Addr} {oe : Obj} (e : h.get? a = some oe) : PySem.W.Looks M h (typeOf (.ref a)) oe.cls := fun A Q E s k q => wpAny_typeOf_ref (k _ _ e) q
theorem tests_three {x y z : Str} {c1 c2 c3 : Value} {p1 p2 p3 p : Pos} {k : Nat} (h1 : Names X x c1) (h2 : Names X y c2) (h3 : Names X z c3) : Tests X (.Tuple [.Name x p1, .Name y p2, .Name z p3] k p) (fun cls => PySem.W.exmAny X.K cls [c1, c2, c3]) := by
  refine ⟨fun a oe b pn s σ H Q E e S q => ?_⟩
  have he := (S.pin (a, oe) (List.mem_append_left _ List.mem_cons_self)).1
  have nm : ∀ {x : Str} {c : Value} {p : Pos} {Q : Value → Shared → Prop}, Names X x c → Q c s → wpAny (model X.prog X.w) (X.A.mark (some (.ref a))) (eval (.Name x p) X.env) Q E s := by
    rintro x c p Q ⟨hg, hd, hm | ⟨hm, hv, hn⟩⟩ w
    · exact ld_glob (X := X.suite a ((a, oe) :: pn)) S hg hm w hd
    · exact ld_blt (X := X.suite a ((a, oe) :: pn)) S hg hm hv w hn hd
  refine wpAny_Tuple_spliced ?_
  refine PySem.Calls.spliced_cons (nm h1 ?_)
  refine PySem.Calls.spliced_cons (nm h2 ?_)
  refine PySem.Calls.spliced_cons (nm h3 ?_)
  refine PySem.Calls.spliced_nil ⟨(by show 3 ≤ sizeLine; decide), ?_⟩
  refine (PySem.W.exm_tup3 (h := s.heap.push { cls := .type "tuple", data := .seq [c1, c2, c3].toArray }) (S.kIn.keeps fun _ _ w => Heap.get?_push_of_some _ w) (looks_cls (Heap.get?_push_of_some _ he)) (Heap.get?_push_size _ rfl) e).here (q _ _ fun _ _ w => Heap.get?_push_of_some _ w)
end
end RV
/-! What is asked of a caught error: isinstance, its field. -/
namespace RV
open PySem L2
/-- the error at a, of the class cls with the dict d, keeps y as f -/
def Kept (K : PySem.W.Frag) (cls : Value) (d : Option Addr) (f : Str) (y : V) (D dd : Addr) (H : Hp) : Prop := cls = .ref D ∧ d = some dd ∧ OwnX K D ∧ PySem.W.findIn K (.ref D) f = some none ∧ H dd = some (.xd [(f, y)])
@[irreducible] def rIsO (K : PySem.W.Frag) (a : Addr) (cls : Value) (d : Option Addr) : List V → Hp → VK → Prop := fun xs H Q =>
  ∃ (D dd : Addr) (f : Str) (y c : V) (cv : Value) (b : Bool), xs = [.ref a, c] ∧ Kept K cls d f y D dd H ∧ (∀ u, RelV c u → u = cv) ∧ PySem.W.kitOne K (.ref D) cv = some b ∧ Q (.bl b) H
def tXo (K : PySem.W.Frag) (a : Addr) (cls : Value) (d : Option Addr) (f : Str) (te : TE) : TE := fun σ H Q => te σ H fun x H1 => x = .ref a ∧ ∃ (D dd : Addr) (y : V), Kept K cls d f y D dd H1 ∧ Q y H1
section
variable {X : Cx} {a : Addr} {oe : Obj} {cls : Value} {d : Option Addr}
theorem inst_err {pins : List (Addr × Obj)} {s : Shared} {σ : L2.St} {H : Hp} {f : Str} {y : V} {D dd : Addr} (I : Inv X pins σ H s) (hp : (a, oe) ∈ X.pn) (hz : Zc cls d oe) (hf : ∃ vs, oe.data = .fields vs) (k : Kept X.K cls d f y D dd H) :
    ∃ od u, PySem.W.InstAt s.heap a oe D (some od) ∧ PySem.W.lookIn f od = some (some u) ∧ RelV y u := by
  obtain ⟨rfl, rfl, _, _, e⟩ := k
  have z : ObjOk X.prog X.w H s.heap dd (.xd [(f, y)]) := I.hok dd _ e
  obtain ⟨mA, hns, hr⟩ := z
  obtain ⟨od, ho, hl⟩ := lookIn_ns hns
  obtain ⟨u, hu, ru⟩ := RelO.some_of (v := y) (o := mA f) (by have q := hr f; simpa [List.lookup] using q)
  obtain ⟨vs, hd⟩ := hf
  exact ⟨od, u, ⟨(I.pin (a, oe) (List.mem_append_left _ hp)).1, hz.1, by unfold PySem.W.notCls; rw [hd] <;> rfl, by rw [hz.2]; exact ho⟩, by rw [hl, hu], ru⟩
theorem call_isO (hp : (a, oe) ∈ X.pn) (hz : Zc cls d oe) (hf : ∃ vs, oe.data = .fields vs) : CallR X (.builtin "isinstance") (rIsO X.K a cls d) := by
  intro pins s σ H xs us Q I r h
  unfold rIsO at h
  obtain ⟨D, dd, f, y, c, cv, b, rfl, k, hcv, e, q⟩ := h
  obtain ⟨od, u, J, _, _⟩ := inst_err I hp hz hf k
  obtain ⟨_, _, ⟨n, nw, it, tl, O⟩, _, _⟩ := k
  cases r with
  | cons rx rr =>
    cases rr with
    | cons rt rr =>
      cases rr
      cases rx
      cases hcv _ rt
      obtain ⟨cd, hc, _⟩ := PySem.W.any_some O.hd
      exact PySem.W.kia_one (PySem.W.kitx_exc (by rw [hc]; rfl) O.ga O.gg O.eb O.cl O.sp O.tk O.mo) I.kIn J e (fun z => nomatch z) fun tk => ⟨.bl b, H, I.kept (t' := tk) fun _ _ z => z, rfl, q⟩
theorem pe_xo {e : Expr} {te : TE} {f : Str} {pos : Pos} (hp : (a, oe) ∈ X.pn) (hz : Zc cls d oe) (hf : ∃ vs, oe.data = .fields vs) (he : PE X e te) (hb : attributeBase e f X.env (eval e X.env) = eval e X.env := by rfl) : PE X (.Attribute e f pos) (tXo X.K a cls d f te) := by
  refine ⟨fun pins s σ H Q I h => attr_of hb (thn (he.run pins s σ H _ I h) ?_)⟩
  rintro u s1 ⟨x, H1, I1, rx, rfl, D, dd, y, k, q⟩
  obtain rfl : u = Value.ref a := rx
  obtain ⟨od, u, J, hl, ru⟩ := inst_err I1 hp hz hf k
  obtain ⟨_, _, ⟨n, nw, it, tl, O⟩, no, _⟩ := k
  exact PySem.HandSPX.exc_get I1.kIn J O.ga O.gg O.eb (PySem.W.findObj_own O.hd no rfl hl) (handed_of ru) ⟨y, H1, I1.tok _, ru, q⟩
end
theorem kit_eq {K : PySem.W.Frag} {t : Value} {C : Addr} {b : Bool} (hd : PySem.W.hasDictIn K C = true) (ty : PySem.W.typeIn K (.ref C) = some (.type "type")) (self : PySem.W.subIn K (.ref C) (.ref C) = some true) (hs : PySem.W.subIn K t (.ref C) = some b) : PySem.W.kitOne K t (.ref C) = some b := by
  obtain ⟨cd, hc, _⟩ := PySem.W.any_some hd
  unfold PySem.W.kitOne
  split
  · rename_i e
    rw [beq_iff_eq.mp e, self] at hs
    exact hs
  · show (if ((PySem.W.clsIn K C).isSome && PySem.W.typeIn K (.ref C) == some (.type "type")) = true then PySem.W.subIn K t (.ref C) else none) = some b
    rw [if_pos (by rw [hc, ty]; rfl)]
    exact hs
theorem exm_eq {K : PySem.W.Frag} {C : Addr} {cls : Value} {b : Bool} (eb : PySem.W.subIn K (.ref C) (.type "BaseException") = some true) (hd : PySem.W.hasDictIn K C = true) (ty : PySem.W.typeIn K (.ref C) = some (.type "type")) (hs : PySem.W.subIn K cls (.ref C) = some b) : PySem.W.exmOne K cls (.ref C) = some b :=
  PySem.W.exm_ref eb hd ty hs
end RV
/-! Odd values: data, among them small dicts; how they are shown, what isinstance says of them. -/
namespace RV
open PySem L2 PyProof.Rows TL
inductive Odd (K : PySem.W.Frag) (H : Hp) : V → PyData → Prop
  | dat {v : V} {d : PyData} : Dp K H v d → Odd K H v d
  | dic0 {a : Addr} : H a = some (.dK []) → Odd K H (.ref a) (.dict [])
  | dic1 {a : Addr} {k : Str} {i : Int} : H a = some (.dK [(.inr k, .int i)]) → Odd K H (.ref a) (.dict [(.str k, .int i)])
theorem same_new {H : Hp} {p : Addr} {o : HO} (n : H p = none) : Same H (upd H p o) := fun b u q => by
  rw [upd_ne (ne_of_none q n)]
  exact q
section
variable {K : PySem.W.Frag} {H H' : Hp}
mutual
theorem dp_same (s : Same H H') : ∀ {v : V} {d : PyData}, Dp K H v d → Dp K H' v d
  | _, _, .non => .non
  | _, _, .bl b => .bl b
  | _, _, .int i => .int i
  | _, _, .str x => .str x
  | _, _, .lst h l => .lst (h.ext s) (dpAll_same s l)
  | _, _, .tup h l => .tup (h.ext s) (dpAll_same s l)
theorem dpAll_same (s : Same H H') : ∀ {vs : List V} {ds : List PyData}, DpAll K H vs ds → DpAll K H' vs ds
  | _, _, .nil => .nil
  | _, _, .cons h l => .cons (dp_same s h) (dpAll_same s l)
end
theorem Odd.same (s : Same H H') {v : V} {d : PyData} : Odd K H v d → Odd K H' v d
  | .dat h => .dat (dp_same s h)
  | .dic0 e => .dic0 (s _ _ e)
  | .dic1 e => .dic1 (s _ _ e)
end
/-- small enough to be shown, its ints too -/
structure Fine (d : PyData) : Prop where
  sh : Shw d 60 1000000
  it : ∀ i, d = .int i → i.natAbs.log2 < 1920
  sk : PyData.strOk d.shown = true
@[irreducible] def rReprO (K : PySem.W.Frag) : List V → Hp → VK → Prop := fun xs H Q => ∃ (v : V) (d : PyData), xs = [v] ∧ Odd K H v d ∧ Fine d ∧ Q (.str d.shown) H
section
variable {X : Cx}
theorem call_reprO (hu : X.A.units + 64 < cLine) (hg : X.A.guards = some []) : CallR X (.builtin "repr") (rReprO X.K) := by
  intro pins s σ H xs us Q I r h
  unfold rReprO at h
  obtain ⟨v, d, rfl, hd, F, q⟩ := h
  have hsz : d.shown.length ≤ sizeLine := Nat.le_trans F.sh.ln (by decide)
  have hdp : d.depth ≤ 60 := F.sh.dp
  cases r with
  | cons r1 r2 =>
  cases r2
  cases hd with
  | dat hd =>
    cases hd with
    | non =>
      cases r1
      exact PySem.P.repr_of_none ⟨.str "None", H, I.tok _, ⟨_, rfl⟩, by simpa [PyData.shown] using q⟩
    | bl b =>
      cases r1
      refine PySem.P.repr_of_bool ⟨.str (if b then "True" else "False"), H, I.tok _, ⟨_, by cases b <;> rfl⟩, ?_⟩
      cases b <;> simpa [PyData.shown] using q
    | int i =>
      obtain ⟨t, rfl⟩ := r1
      exact PySem.P.repr_of_int (F.it i rfl) ⟨.str (toString i), H, I.tok _, ⟨_, rfl⟩, by simpa [PyData.shown] using q⟩
    | str x =>
      obtain ⟨t, rfl⟩ := r1
      have e : (PyData.str x).shown = reprText x := by simp [PyData.shown]
      rw [e] at q hsz
      exact PySem.P.repr_of_str ⟨.str (reprText x), H, I.tok _, ⟨_, rfl⟩, q⟩ hsz
    | @lst a xs ds h1 h2 =>
      cases r1
      have hd : Dp X.K H (.ref a) (.list ds) := .lst h1 h2
      obtain ⟨as, rd⟩ := Dp.reads I _ _ _ hd rfl
      exact repr_of_reads' rd F.sh.ok (fun hh => by rw [Dp.noDict hd] at hh; cases hh) hg (by omega) (fun _ _ e => e) (fun h' u tk hk => ⟨.str _, H, I.kept hk, ⟨u, rfl⟩, q⟩) hsz
    | @tup a xs ds h1 h2 =>
      cases r1
      have hd : Dp X.K H (.ref a) (.tuple ds) := .tup h1 h2
      obtain ⟨as, rd⟩ := Dp.reads I _ _ _ hd rfl
      exact repr_of_reads' rd F.sh.ok (fun hh => by rw [Dp.noDict hd] at hh; cases hh) hg (by omega) (fun _ _ e => e) (fun h' u tk hk => ⟨.str _, H, I.kept hk, ⟨u, rfl⟩, q⟩) hsz
  | @dic0 a e =>
    cases r1
    obtain ⟨_, nm, vs, kv, o, es, ep, e1, ⟨e2, e3⟩, e4, _, pr, _⟩ := dk_of I.hok e
    cases kv
    have z : es.toList = [] := by
      generalize es.toList = l at pr ⊢
      cases pr
      rfl
    have rd : Reads s.heap (.ref a) (.dict []) (a :: [] ++ []) := .dict e1 e2 e4 (by rw [z]; exact .nil) (by rw [z]; exact .nil)
    exact repr_of_reads' rd F.sh.ok (fun _ hm => by simp at hm; rw [hm] at nm; simp at nm) hg (by omega) (fun _ _ e => e) (fun h' u tk hk => ⟨.str _, H, I.kept hk, ⟨u, rfl⟩, q⟩) hsz
  | @dic1 a k i e =>
    cases r1
    obtain ⟨_, nm, vs, kv, o, es, ep, e1, ⟨e2, e3⟩, e4, _, pr, _⟩ := dk_of I.hok e
    cases kv with
    | @cons _ q' _ _ hk hr =>
      cases hr
      obtain ⟨k1, v1⟩ := q'
      obtain ⟨rfl, t, rfl⟩ := hk
      obtain ⟨el, z, kk, vv⟩ : ∃ el, es.toList = [el] ∧ (mixKind X.prog X.w).is (.inr k) el.key = true ∧ el.val = .int i t := by
        generalize es.toList = l at pr
        cases pr with
        | cons h1 h2 h3 =>
          cases h3
          exact ⟨_, rfl, h1, h2⟩
      obtain ⟨i0, t0, z0, _⟩ | ⟨x0, t0, z0, z1⟩ := keyIs_shape (k := .inr k) (v := el.key) kk
      · cases z0
      · cases z0
        have rd : Reads s.heap (.ref a) (.dict [(.str k, .int i)]) (a :: ([] ++ []) ++ ([] ++ [])) :=
          .dict e1 e2 e4 (by rw [z]; exact .cons (show Reads s.heap el.key (.str k) [] by rw [z1]; exact .str _ _) .nil) (by rw [z]; exact .cons (show Reads s.heap el.val (.int i) [] by rw [vv]; exact .int _ _) .nil)
        exact repr_of_reads' rd F.sh.ok (fun _ hm => by simp at hm; rw [hm] at nm; simp at nm) hg (by omega) (fun _ _ e => e) (fun h' u tk hk => ⟨.str _, H, I.kept hk, ⟨u, rfl⟩, q⟩) hsz
theorem call_reprOK (K : PySem.W.Frag) (hu : X.A.units + 64 < cLine) (hg : X.A.guards = some []) (h : X.K = K := by rfl) : CallR X (.builtin "repr") (rReprO K) := h ▸ call_reprO hu hg
end
theorem reprO_of {K : PySem.W.Frag} {H : Hp} {v : V} {d : PyData} {Q : VK} (o : Odd K H v d) (F : Fine d) (q : Q (.str d.shown) H) : rReprO K [v] H Q := by
  unfold rReprO
  exact ⟨v, d, rfl, o, F, q⟩
section
variable {K : PySem.W.Frag} {a D dd C : Addr} {cls : Value} {d : Option Addr} {f : Str} {y : V} {H : Hp} {b : Bool} {Q : VK}
theorem rIsO_ref (k : Kept K cls d f y D dd H) (hk : PySem.W.kitOne K (.ref D) (.ref C) = some b) (q : Q (.bl b) H) : rIsO K a cls d [.ref a, .ref C] H Q := by
  unfold rIsO
  exact ⟨D, dd, f, y, _, _, b, rfl, k, fun _ r => r, hk, q⟩
end
end RV
/-! Promises of the program where it refuses: which error, what it keeps. -/
namespace RV
open PySem L2 PyProof.Rows TL
/-! ### defs that may let an error out -/
section
variable {P : Program} {w : World} {K : PySem.W.Frag} {mg : Str → Option Value} {base : Heap} {k : Nat} {f : Addr} {fd : FuncData} {ps : List Str} {sp sp1 sp2 : Sp}
def orS (sp1 sp2 : Sp) : Sp := fun vs H Q E => sp1 vs H Q E ∨ sp2 vs H Q E
theorem fok_or (h1 : FnOk P w K mg base CX0 k f fd ps sp1) (h2 : FnOk P w K mg base (L2.CX P w) k f fd ps sp2) : FnOk P w K mg base (L2.CX P w) k f fd ps (orS sp1 sp2) := by
  refine ⟨fun vs H Q E h => h.elim (h1.len _ _ _ _) (h2.len _ _ _ _), fun A outer s H args us vs Q E hr e0 hb r h => ?_⟩
  rcases h with h | h
  · refine codeAny_mono (h1.run A outer s H args us vs Q E hr e0 hb r h) fun x s' hq => ?_
    cases x with
    | error e => exact hq.elim
    | ok fl => cases fl <;> exact hq
  · exact h2.run A outer s H args us vs Q E hr e0 hb r h
/-- a function of the module that may refuse -/
def Fx (P : Program) (w : World) (K : PySem.W.Frag) (mg : Str → Option Value) (base : Heap) (x : Str) (k : Nat) (ps : List Str) (sp : Sp) : Prop :=
  ∃ f fd, mg x = some (.ref f) ∧ PySem.W.keepIn K (.ref f) = true ∧ Binds K fd ps [] ∧ FnOk P w K mg base (L2.CX P w) k f fd ps sp
def MtdX (P : Program) (w : World) (K : PySem.W.Frag) (mg : Str → Option Value) (base : Heap) (C : Addr) (m : Str) (k : Nat) (ps : List Str) (sp : Sp) : Prop :=
  Cls K C ∧ ∃ f fd, Meth K C m f ∧ Binds K fd ps [] ∧ FnOk P w K mg base (L2.CX P w) k f fd ps sp
theorem Fx.irr {x : Str} (h : Fx P w K mg base x k ps sp) : Fx P w K mg base x k ps (Irr sp) := by
  obtain ⟨f, fd, a, b, c, F⟩ := h
  exact ⟨f, fd, a, b, c, F.imp fun _ _ _ _ z => irr_of z⟩
end
section
variable {X : Cx} {x m : Str} {C : Addr} {k : Nat} {ps : List Str} {sp : Sp} {e o : Expr} {es : List Expr} {t : TA} {ta : TE} {p pos apos : Pos} {E : XK} {W : WX}
theorem pe_fx (h : Fx X.prog X.w X.K X.mg X.base x k ps sp) (hr : Room k X.A) (hx : Passes (L2.CX X.prog X.w) X E) (ha : PA X (e :: es) t) (hg : Gl X x := by rfl) (hdb : (x == ("__debug__" : Str)) = false := by decide)
    (he : starEach (e :: es) X.env = (false, eval e X.env) :: starEach es X.env := by rfl) (hpl : (backTo pos (starEach es X.env)).any (·.1) = false := by rfl) :
    PE X (.Call (.Name x p) (e :: es) [] pos) (tCall sp [] E t) := by
  obtain ⟨f, fd, hm, hk, hb, F⟩ := h
  exact pe_call F hr hg hm hk hb .nil hx ha hdb he hpl
end
/-! ### the types of odd values -/
def odT : PyData → Value
  | .none => .type "NoneType"
  | .bool _ => .type "bool"
  | .int _ => .type "int"
  | .str _ => .type "str"
  | .list _ => .type "list"
  | .tuple _ => .type "tuple"
  | .dict _ => .type "dict"
def isS : PyData → Bool
  | .str _ => true
  | _ => false
def isT : PyData → Bool
  | .tuple _ => true
  | _ => false
theorem tyx_lst {K : PySem.W.Frag} {H : Hp} {a : Addr} {xs : List V} (h : SqL K H a xs) : TyX K H (.ref a) (.type "list") := by
  rcases h with (h | ⟨o, h⟩) | ⟨o, its, n, h, hc, _⟩
  · exact .base (.lst h)
  · exact .base (.frz h)
  · exact .kList h hc
theorem Odd.ty {K : PySem.W.Frag} {H : Hp} {v : V} {d : PyData} (h : Odd K H v d) : TyX K H v (odT d) := by
  cases h with
  | dat h =>
    cases h with
    | non => exact .base .non
    | bl b => exact .base (.bl b)
    | int i => exact .base (.int i)
    | str x => exact .base (.str x)
    | lst h _ => exact tyx_lst h
    | tup h _ => exact tyx_tup h
  | dic0 e => exact .base (.dK e)
  | dic1 e => exact .base (.dK e)
theorem kit_odS (K : PySem.W.Frag) (d : PyData) : PySem.W.kitOne K (odT d) (.type "str") = some (isS d) := by
  cases d <;> exact kit_ty (by rfl)
/-- no built-in value is one of the class at C -/
def Alien (K : PySem.W.Frag) (C : Addr) : Prop := ∀ d : PyData, PySem.W.kitOne K (odT d) (.ref C) = some false
/-! ### what is refused -/
/-- the error of the class at C that keeps v is let out -/
def ErrS (C : Addr) (v : V) (H : Hp) (E : XK) : Prop := ∀ d H', Same H H' → H' d = some (.xd [("given", v)]) → E (.ref C) (some d) H'
theorem ErrS.same {C : Addr} {v : V} {H H1 : Hp} {E : XK} (h : ErrS C v H E) (s : Same H H1) : ErrS C v H1 E := fun d H' s1 e => h d H' (s.trans s1) e
theorem ErrS.new {C : Addr} {v : V} {H : Hp} {E : XK} (h : ErrS C v H E) {d : Addr} (n : H d = none) : E (.ref C) (some d) (upd H d (.xd [("given", v)])) := h d _ (fun b o q => by rw [upd_ne (ne_of_none q n)]; exact q) upd_same
/-- is it a bound, are these faults -/
def bdB : PyData → Bool
  | .int i => decide (0 ≤ i) && decide (i ≤ 3)
  | _ => false
def ftB : PyData → Bool
  | .tuple [.int a, .int b, .int c] => bdB (.int a) && bdB (.int b) && bdB (.int c) && decide (a ≤ b)
  | _ => false
section
variable (K : PySem.W.Frag) (CN CP CM CE CU CF : Addr)
def BadNet (v : V) (H : Hp) : Prop := ∃ d, Odd K H v d
def BadNm (v : V) (H : Hp) (ns : List Str) : Prop := ∃ d, Odd K H v d ∧ ∀ y, d = .str y → y ∉ ns
def BadFt (v : V) (H : Hp) : Prop := ∃ d, Odd K H v d ∧ ftB d = false
def sp_chnX : Sp := fun vs H _ E => ∃ v, vs = [v] ∧ BadNet K v H ∧ ErrS CE v H E
def sp_indexO : Sp := fun vs H Q _ => ∃ (t : Addr) (us : List PU) (v : V), vs = [.ref t, v] ∧ Tps K CP H t us ∧ us.length ≤ 12 ∧ BadNm K v H ((sn us).map (·.1)) ∧ ∀ H', Same H H' → Q .non H'
def sp_gpipeX : Sp := fun vs H _ E => ∃ (x : Addr) (ps : List P3) (ms : List M3) (v : V), vs = [.ref x, v] ∧ NetR K CN CP CM H x ps ms ∧ ps.length ≤ 12 ∧ BadNm K v H (ps.map (·.1)) ∧ ErrS CU v H E
def sp_isbO : Sp := fun vs H Q _ => ∃ (v : V) (d : PyData), vs = [v] ∧ Odd K H v d ∧ Q (.bl (bdB d)) H
def sp_arfO : Sp := fun vs H Q _ => ∃ v, vs = [v] ∧ BadFt K v H ∧ ∀ H', Same H H' → Q (.bl false) H'
def sp_chfX : Sp := fun vs H _ E => ∃ v, vs = [v] ∧ BadFt K v H ∧ ErrS CF v H E
/-- the net, or the name -/
def sp_twoX : Sp := fun vs H _ E => ∃ (n v : V), vs = [n, v] ∧ ((BadNet K n H ∧ ErrS CE n H E) ∨
  (∃ (x : Addr) (ps : List P3) (ms : List M3), n = .ref x ∧ NetR K CN CP CM H x ps ms ∧ ps.length ≤ 12 ∧ BadNm K v H (ps.map (·.1)) ∧ ErrS CU v H E))
/-- the net, or the name, or the faults -/
def sp_threeX : Sp := fun vs H _ E => ∃ (n v f : V), vs = [n, v, f] ∧ ((BadNet K n H ∧ ErrS CE n H E) ∨
  (∃ (x : Addr) (ps : List P3) (ms : List M3), n = .ref x ∧ NetR K CN CP CM H x ps ms ∧ ps.length ≤ 12 ∧ BadNm K v H (ps.map (·.1)) ∧ ErrS CU v H E) ∨
  (∃ (x : Addr) (ps : List P3) (ms : List M3) (y : Str), n = .ref x ∧ v = .str y ∧ NetR K CN CP CM H x ps ms ∧ ps.length ≤ 12 ∧ y ∈ ps.map (·.1) ∧ BadFt K f H ∧ ErrS CF f H E))
end
end RV
/-! Values that are no faults, as the law sees them. -/
namespace RV
open PySem L2 PyProof.Rows TL
/-- the texts of the bounds -/
def dig4 : List V := [.str "0", .str "1", .str "2", .str "3"]
/-- shown as a bound exactly if it is one -/
structure Bnd (d : PyData) : Prop where
  fine : Fine d
  bd : inV (.str d.shown) dig4 = bdB d
/-- what may be handed over as faults -/
structure FitD (d : PyData) : Prop where
  fine : Fine d
  el : ∀ ds, d = .tuple ds → ∀ e ∈ ds, Bnd e
def sp_fit (K : PySem.W.Frag) : Sp := fun vs H Q _ => ∃ (v : V) (d : PyData), vs = [v] ∧ Odd K H v d ∧ FitD d ∧ ∀ H', Same H H' → Q (.bl (ftB d)) H'
end RV
/-! Odd values of the law: that they are small, that they are shown as they should. -/
namespace RV
open PySem L2 PyProof.Rows TL
/-! ### plain texts -/
def Low (x : Str) : Prop := ∀ c ∈ cd x, c < 1000
theorem low_c {x : Str} (h : (cd x).all (fun c => decide (c < 1000)) = true) : Low x := fun c hc => of_decide_eq_true (List.all_eq_true.mp h c hc)
theorem low_nm {x : Str} (h : IsNm x) : Low x := fun c hc => by
  have q := List.all_eq_true.mp (isNm_all h) c hc
  simp only [tailC, lowC, digC, Bool.or_eq_true, Bool.and_eq_true, decide_eq_true_eq] at q
  omega
theorem low_app {x y : Str} (a : Low x) (b : Low y) : Low (x ++ y) := fun c hc => by
  rw [cd_app] at hc
  exact (List.mem_append.mp hc).elim (a c) (b c)
/-! ### the signs of a shown text -/
def Sg (l : List Nat) : Prop := ∀ c ∈ l, c < 0x110000
theorem sg_char (c : Char) : c.toNat < 0x110000 := by
  have h := c.valid
  have e : c.toNat = c.val.toNat := rfl
  rw [e]
  rcases h with h | ⟨_, h⟩
  · omega
  · exact h
theorem sg_hex (w c : Nat) : Sg (List.replicate (w - ((Nat.toDigits 16 c).map Char.toNat).length) 48 ++ (Nat.toDigits 16 c).map Char.toNat) := fun d hd => by
  rcases List.mem_append.mp hd with h | h
  · rw [(List.mem_replicate.mp h).2]
    decide
  · obtain ⟨k, _, rfl⟩ := List.mem_map.mp h
    exact sg_char k
theorem sg_app {a b : List Nat} (x : Sg a) (y : Sg b) : Sg (a ++ b) := fun c hc => (List.mem_append.mp hc).elim (x c) (y c)
theorem sg_reprChar {q c : Nat} (h : c < 0x110000) : Sg (Builtin.Str.reprChar q c) := by
  unfold Builtin.Str.reprChar
  dsimp only
  have two : ∀ {a : Nat}, a < 0x110000 → Sg [92, a] := fun {a} ha d hd => by
    simp only [List.mem_cons, List.not_mem_nil, or_false] at hd
    rcases hd with rfl | rfl
    · decide
    · exact ha
  split
  · exact two h
  split
  · exact two (by decide)
  split
  · exact two (by decide)
  split
  · exact two (by decide)
  split
  · intro d hd
    rw [List.mem_singleton.mp hd]
    exact h
  split
  · exact sg_app (two (by decide)) (sg_hex _ _)
  split
  · exact sg_app (two (by decide)) (sg_hex _ _)
  · exact sg_app (two (by decide)) (sg_hex _ _)
theorem sg_fold {q : Nat} : ∀ (l : List Nat) (acc : Array Nat), Sg l → Sg acc.toList → Sg (l.foldl (fun out c => out ++ (Builtin.Str.reprChar q c).toArray) acc).toList
  | [], _, _, h => h
  | c :: l, acc, hl, h => sg_fold l _ (fun d hd => hl d (List.mem_cons_of_mem _ hd)) (by
      rw [Array.toList_append]
      exact sg_app h (by simpa using sg_reprChar (hl c List.mem_cons_self)))
theorem ok_sg {x : Str} : PyData.strOk x = true ↔ Sg (cd x) := by
  unfold PyData.strOk Sg cd
  rw [← Array.all_toList, List.all_eq_true]
  constructor
  · intro h c hc
    exact of_decide_eq_true (h c hc)
  · intro h c hc
    exact decide_eq_true (h c hc)
theorem ok_repr {x : Str} (h : Low x) : PyData.strOk (reprText x) = true := by
  rw [ok_sg]
  have q : ∀ {d : Nat}, d = reprQuote x → d < 0x110000 := fun {d} e => by
    rw [e]
    unfold reprQuote
    split <;> decide
  unfold reprText
  show Sg ((x.cps.foldl (fun out c => out ++ (Builtin.Str.reprChar (reprQuote x) c).toArray) #[reprQuote x]).push (reprQuote x)).toList
  rw [Array.toList_push, ← Array.foldl_toList]
  refine sg_app (sg_fold _ _ (fun c hc => Nat.lt_trans (h c hc) (by decide)) fun c hc => ?_) fun c hc => ?_
  · exact q (by simpa using hc)
  · exact q (List.mem_singleton.mp hc)
theorem fine_str {x : Str} (h : Low x) (hl : x.length ≤ 90000) : Fine (.str x) := by
  have e : (PyData.str x).shown = reprText x := by simp [PyData.shown]
  refine ⟨⟨by simp [PyData.showable], by simp [PyData.depth], ?_⟩, fun i e => (by cases e), by rw [e]; exact ok_repr h⟩
  have h1 := StrLaws.reprText_len x fun c hc => Nat.lt_trans (h c hc) (by decide)
  rw [e]
  omega
/-! ### values without a letter -/
def fineB (d : PyData) : Bool := PyData.strOk d.shown && d.showable && decide (d.depth ≤ 60) && decide (d.shown.length ≤ 1000000) && (match d with | .int i => decide (i.natAbs.log2 < 1920) | _ => true)
theorem fine_by {d : PyData} (h : fineB d = true) : Fine d := by
  unfold fineB at h
  simp only [Bool.and_eq_true, decide_eq_true_eq] at h
  obtain ⟨⟨⟨⟨h0, h1⟩, h2⟩, h3⟩, h4⟩ := h
  refine ⟨⟨h1, h2, h3⟩, fun i e => ?_, h0⟩
  subst e
  exact of_decide_eq_true h4
def bndB (d : PyData) : Bool := fineB d && (inV (.str d.shown) dig4 == bdB d)
def fitB (d : PyData) : Bool := fineB d && (match d with | .tuple ds => ds.all bndB | _ => true)
def fltD (i j : Int) : PyData := .tuple [.int i, .int 3, .int j]
/-! ### the ledger -/
theorem Has.off {a p : Addr} {n : Nat} {L : List (Addr × HO)} {H0 H : Hp} (h : Has H0 a n L H) (e : H p = none) : p ≠ a := fun z => by
  obtain ⟨x, y, w, q, _⟩ := h.well
  rw [z, q] at e
  cases e
theorem upd_two {H : Hp} {p : Addr} {o o' : HO} : upd (upd H p o) p o' = upd H p o' := by
  funext b
  by_cases hb : b = p
  · rw [hb, upd_same, upd_same]
  · rw [upd_ne hb, upd_ne hb, upd_ne hb]
theorem merge1 (k : Key) (v : V) : L2.mergeK [] [(k, v)] = [(k, v)] := by
  first
    | rfl
    | simp [L2.mergeK, L2.putK]
theorem same_del {a : Addr} {H H' : Hp} (s : Same (L2.del H a) H') : Same (L2.del H a) (L2.del H' a) := fun b o e => by
  by_cases hb : b = a
  · rw [hb, del_same] at e
    cases e
  · rw [del_ne hb]
    exact s b o e
theorem grow_del {a : Addr} {H H' : Hp} (g : Grow a H H') : Same (del H a) H' := fun b o e => by
  by_cases hb : b = a
  · rw [hb, del_same] at e
    cases e
  · rw [del_ne hb] at e
    exact g b o hb e
end RV
/-! The odd values that the law hands over. -/
namespace RV
open PySem L2 PyProof.Rows TL
def strU (y : Str) : V × PyData := (.str y, .str y)
def oddU (l0 d0 t0 t1 l1 : Addr) (g T : Str) : List (V × PyData) := [(.non, .none), (.int 0, .int 0), (.bl true, .bool true), strU "", (.ref l0, .list []), (.ref d0, .dict []), (.ref t0, .tuple []), strU "P", (.ref t1, .tuple [.str g]), (.ref l1, .list [.str g]),
  strU (g ++ "?"), strU T, (.int (-1), .int (-1))]
def extU (d1 t2 : Addr) (g : Str) : List (V × PyData) := [(.ref d1, .dict [(.str "pipes", .int 1)]), (.ref t2, .tuple [.list []]), strU (g ++ "z")]
def othU (l0 d0 t0 t1 l1 d1 t2 : Addr) (g T : Str) (pl gs : List Str) : List (V × PyData) := oddU l0 d0 t0 t1 l1 g T ++ pl.map strU ++ gs.map strU ++ extU d1 t2 g
def ben1 (b1 b2 b3 b4 b5 b6 b7 b8 : Addr) : List (V × PyData) := [(.ref b1, .tuple [.int 0, .int 0]), (.ref b2, .tuple [.int 1, .int 0, .int 0]), (.ref b3, .tuple [.int 0, .int 4, .int 0]), (.ref b4, .tuple [.int 0, .int 0, .int 4]), (.ref b5, .tuple [.int (-1), .int 0, .int 0]),
  (.ref b6, .list [.int 0, .int 0, .int 0]), (.non, .none), (.ref b7, .tuple [.int 0, .int 0, .bool true]), (.ref b8, .tuple [.int 0, .int 1, .str "0"])]
def ben2 (c1 c2 c3 c5 c6 c7 : Addr) : List (V × PyData) := [(.ref c1, .tuple [.int 2, .int 1, .int 0]), (.ref c2, .tuple [.int 0, .int 0, .int 0, .int 0]), strU "000", (.int 0, .int 0), (.ref c3, .tuple [.bool false, .int 0, .int 0]), (.ref c5, .tuple [.list [], .int 0, .int 0]),
  (.ref c6, .tuple [.int 0, .int 0, .int (-1)]), (.ref c7, .tuple [.int 4, .int 4, .int 0])]
def ben3 (e2 e3 e4 : Addr) : List (V × PyData) := [(.ref e2, .tuple [.tuple [.int 0], .int 0, .int 0]), (.ref e3, .dict []), (.ref e4, .tuple [.int 3, .int 2, .int 3])]
def GoodO (K : PySem.W.Frag) (H : Hp) (us : List (V × PyData)) : Prop := ∀ u ∈ us, Odd K H u.1 u.2 ∧ Fine u.2
def GoodF (K : PySem.W.Frag) (H : Hp) (us : List (V × PyData)) : Prop := ∀ u ∈ us, Odd K H u.1 u.2 ∧ FitD u.2
section
variable {K : PySem.W.Frag} {H : Hp}
end
/-! ### what is drawn in a turn -/
/-- the net, or an odd value -/
def FO (K : PySem.W.Frag) (x : Addr) (v : V) (H : Hp) : Prop := v = .ref x ∨ ∃ d, Odd K H v d ∧ Fine d
/-- a name, or any other value -/
def FB (K : PySem.W.Frag) (v : V) (d : PyData) (H : Hp) : Prop := Odd K H v d ∧ Fine d
/-- faults, fit or not -/
def FF (K : PySem.W.Frag) (a : Addr) (v : V) (d : PyData) (Hs H : Hp) : Prop := FitD d ∧ (Odd K Hs v d ∨ ∃ (T : Addr) (i j : Int), v = .ref T ∧ d = fltD i j ∧ T ≠ a ∧ H T = some (.tup [.int i, .int 3, .int j]))
/-- what is due -/
def badB (d : PyData) (ns : List Str) : Bool := match d with
  | .str y => !decide (y ∈ ns)
  | _ => true
def due3 (way : Nat) (d : PyData) : Str × Str := if 1 < way ∧ ftB d = false then ("faults", d.shown) else ("none", "None")
def due2 (ns : List Str) (d : PyData) (k : Str × Str) : Str × Str := if badB d ns = true then ("name", d.shown) else k
/-- a told triple -/
def DueAt (H : Hp) (v : V) (k : Str × Str) : Prop := ∃ t, v = .ref t ∧ H t = some (.tup [.str k.1, .str k.2, .bl true])
/-- what is told of a net with a name and faults -/
def ToldN (K : PySem.W.Frag) (CN CP CM : Addr) (way : Nat) (n v ft : V) (H : Hp) (kind txt : Str) : Prop :=
  (∃ (x : Addr) (ps : List P3) (ms : List M3) (d : PyData), n = .ref x ∧ NetR K CN CP CM H x ps ms ∧ ps.length ≤ 12 ∧ Odd K H v d ∧ (∀ y, d = .str y → y ∉ ps.map (·.1)) ∧ Fine d ∧ kind = "name" ∧ txt = d.shown) ∨
  (∃ (x : Addr) (ps : List P3) (ms : List M3) (y : Str) (d : PyData), n = .ref x ∧ v = .str y ∧ NetR K CN CP CM H x ps ms ∧ ps.length ≤ 12 ∧ y ∈ ps.map (·.1) ∧ 1 < way ∧ Odd K H ft d ∧ ftB d = false ∧ Fine d ∧ kind = "faults" ∧ txt = d.shown) ∨
  (∃ (x : Addr) (ps : List P3) (ms : List M3) (y : Str), n = .ref x ∧ v = .str y ∧ NetR K CN CP CM H x ps ms ∧ POk ps ∧ MOk ps ms ∧ y ∈ ps.map (·.1) ∧ (1 < way → ∃ (t : Addr) (a b c : Int), ft = .ref t ∧ SqT K H t [.int a, .int b, .int c] ∧ Flt a b c) ∧ kind = "none" ∧ txt = "None")
end RV
/-! Defs that run while an error is handled, the error among what they know; a lambda handed to a def that catches. -/
namespace RV
open PySem L2 PyProof.Rows
section
variable {P : Program} {w : World} {K : PySem.W.Frag} {mg : Str → Option Value} {base : Heap}
/-- sp: what the def does where the error at the address, of the class, with the dict, is handled -/
structure FnE (P : Program) (w : World) (K : PySem.W.Frag) (mg : Str → Option Value) (base : Heap) (k : Nat) (f : Addr) (fd : FuncData) (ps : List Str) (sp : Addr → Value → Option Addr → Sp) : Prop where
  len : ∀ a c d vs H Q E, sp a c d vs H Q E → vs.length = ps.length
  run : ∀ (A : Around) (outer : List Env) (s : Shared) (H : Hp) (args : Args) (us : List Value) (vs : List V) (Q : VK) (p : Addr × Obj) (cls : Value) (d : Option Addr), A.guards = some [] → L2H.RoomH k A → Zc cls d p.2 → (∃ v, p.2.data = .fields v) →
    L2H.PinOk outer H s p → Env0 P w K mg base A outer s H → BindsTo s fd args (ps.zip us) → Vals vs us → sp p.1 cls d vs H Q E0 → codeAny (model P w) A (.call (.ref f) args) (CR CX0 outer P w H s Q E0) s
abbrev cxE (P : Program) (w : World) (K : PySem.W.Frag) (mg : Str → Option Value) (base : Heap) (N : List Str) (qual : Str) (st : Stmt) (f : Addr) (cdv : Value) (A : Around) (outer : List Env) (s : Shared) (H : Hp) (p : Addr × Obj) : Cx :=
  (L2H.cxH CX0 P w K mg base N qual (defScope st) f cdv A outer s H E0 p).nox
theorem gFunE {x qual : Str} {st : Stmt} {f : Addr} {fd : FuncData} {N ps : List Str} {k : Nat} {sp : Addr → Value → Option Addr → Sp} (F : Fun K x qual st f fd) (S : FnScope N ps (defScope st)) (len : ∀ a c d vs H Q E, sp a c d vs H Q E → vs.length = ps.length)
    (hbody : ∀ (cdv : Value) (A : Around) (outer : List Env) (s : Shared) (H : Hp) (vs : List V) (Q : VK) (p : Addr × Obj) (cls : Value) (d : Option Addr), (A.deeper (envOfC qual (defScope st) s.heap.objs.size f cdv)).guards = some [] → L2H.RoomH k (A.deeper (envOfC qual (defScope st) s.heap.objs.size f cdv)) →
      Zc cls d p.2 → (∃ v, p.2.data = .fields v) → sp p.1 cls d vs H Q E0 → ∃ t, PSs (cxE P w K mg base N qual st f cdv A outer s H p) (defBody st) t ∧ t { nx := fun _ H' => Q .non H', rt := Q } (start N vs) H) : FnE P w K mg base (k + 1) f fd ps sp := by
  refine ⟨len, fun A outer s H args us vs Q p cls d gs hr hz hf hpin e0 hb r hsp => ?_⟩
  obtain ⟨oc, od, kV, doc, pm, an, cdv, ct, osl, rfl, lk, hcd⟩ := F.ex
  have hl := len _ _ _ _ _ _ _ hsp
  have inB : ∀ {b o}, base.get? b = some o → s.heap.get? b = some o := fun e => (e0.bs _ _ e).1
  have KX : K.In s.heap := e0.mod.kin.keeps fun _ _ e => inB e
  have lim := e0.mod.nolimit.keeps fun _ _ e => inB e
  refine codeAny_call_function hr.depth (KX _ _ lk) rfl S.co S.gen rfl (PySem.W.codeRec_of KX hcd) (hb _ _ _ _ ?_)
  refine wpAny_newFunctionEnv_cells S.kind (fun y hy => (S.par _ (List.of_mem_zip (a := y.1) (b := y.2) hy).1).imp id fun q => ⟨q, PySem.W.cellsFrom_some _ _ _ (.inl q)⟩) fun env he s1 x => ?_
  subst he
  refine ⟨lim.keeps x.toInCall.keep, codeAny_func ?_⟩
  obtain ⟨t, ht, hq⟩ := hbody cdv A outer s H vs Q p cls d gs (hr.deeper _) hz hf hsp
  have I := L2H.inv_startH (CX := CX0) (cd := cdv) (E := E0) S hpin e0 hl r x
  refine wpAny_mono (ht.nox.run [] s1 (start N vs) H _ I hq) (fun fl s' hs => ?_) fun _ _ hs => hs
  match fl, hs with
  | .ret u, ⟨v, _, H', J, rv, q⟩ => exact ⟨v, H', J.os, J.bare, J.base, J.hok, rv, q⟩
  | .next, ⟨_, H', J, q⟩ => exact ⟨V.non, H', J.os, J.bare, J.base, J.hok, rfl, q⟩
  | .brk, ⟨_, _, _, q⟩ => exact q.elim
  | .cont, ⟨_, _, _, q⟩ => exact q.elim
/-- such a function of the module, as its callers see it -/
def FnEd (P : Program) (w : World) (K : PySem.W.Frag) (mg : Str → Option Value) (base : Heap) (x : Str) (k : Nat) (ps : List Str) (sp : Addr → Value → Option Addr → Sp) : Prop :=
  ∃ f fd, mg x = some (.ref f) ∧ PySem.W.keepIn K (.ref f) = true ∧ Binds K fd ps [] ∧ FnE P w K mg base k f fd ps sp
theorem FnEd.mono {x : Str} {j k : Nat} {ps : List Str} {sp : Addr → Value → Option Addr → Sp} (h : FnEd P w K mg base x j ps sp) (hj : j ≤ k) : FnEd P w K mg base x k ps sp := by
  obtain ⟨f, fd, a, b, c, F⟩ := h
  exact ⟨f, fd, a, b, c, F.len, fun A outer s H args us vs Q p cls d gs hr => F.run A outer s H args us vs Q p cls d gs (hr.mono hj)⟩
end
section
variable {X : Cx} {x : Str} {k : Nat} {ps : List Str} {sp : Addr → Value → Option Addr → Sp} {e : Expr} {es : List Expr} {t : TA} {p pos : Pos} {a : Addr} {oe : Obj} {cls : Value} {d : Option Addr}
def tCallE (sp : Addr → Value → Option Addr → Sp) (a : Addr) (cls : Value) (d : Option Addr) (t : TA) : TE := fun σ H Q => t σ H fun vs H1 => sp a cls d vs H1 Q E0
theorem pe_fnE (h : FnEd X.prog X.w X.K X.mg X.base x k ps sp) (gs : X.A.guards = some []) (hr : L2H.RoomH k X.A) (hp : (a, oe) ∈ X.pn) (hz : Zc cls d oe) (hf : ∃ v, oe.data = .fields v) (ha : PA X (e :: es) t) (hg : Gl X x := by rfl)
    (hdb : (x == ("__debug__" : Str)) = false := by decide) (he : starEach (e :: es) X.env = (false, eval e X.env) :: starEach es X.env := by rfl) (hpl : (backTo pos (starEach es X.env)).any (·.1) = false := by rfl) :
    PE X (.Call (.Name x p) (e :: es) [] pos) (tCallE sp a cls d t) := by
  obtain ⟨f, fd, hm, hk, hb, F⟩ := h
  refine ⟨fun pins s σ H Q I h => wpAny_Call_Name_kw (ld_glob I hg hm ?_ hdb)⟩
  refine PySem.W.callWith_K (h₀ := X.base) I.ok.mod.kin hk (thn (ha.run pos pins s σ H _ I h) fun us s1 ⟨vs, H1, I1, r, q⟩ => ⟨I1.kIn, ?_⟩) he hpl
  have hl : us.length = ps.length := r.length ▸ F.len _ _ _ _ _ _ _ q
  have hbb : BindsTo s1 fd ⟨us, []⟩ (ps.zip us) := by
    have z := hb s1 us I1.kIn (by rw [List.append_nil]; exact hl)
    rwa [List.append_nil] at z
  have P1 := I1.pin (a, oe) (List.mem_append_left _ hp)
  have hpin : L2H.PinOk X.stack H1 s1 (a, oe) := ⟨P1.1, P1.2.1, fun hm => (List.mem_cons.mp (I1.stkSub a hm)).elim P1.2.2.1 P1.2.2.2.1, P1.2.2.2.2⟩
  refine wpAny_call (codeAny_mono (F.run X.A X.stack s1 H1 ⟨us, []⟩ us vs Q (a, oe) cls d gs hr hz hf hpin I1.env0 hbb r q) fun res s' hq => ?_)
  match res, hq with
  | .ok (.ret u), hq => exact I1.after hq
  | .ok .next, hq => exact False.elim hq
  | .ok .brk, hq => exact False.elim hq
  | .ok .cont, hq => exact False.elim hq
  | .error e, hq => exact False.elim hq
end
/-! ### the def that catches what its argument raises -/
/-- a wish need only be met where the slots are as many as the names -/
theorem takes_len {X : Cx} {W : WX} (tk : Takes X W) : Takes X (fun c d σ H => σ.length = X.N.length → W c d σ H) :=
  fun u s' ⟨a, B, sI, pins, σ, H, cls, d, e, I, nb, up, sky, na, os, ag, w⟩ => tk u s' ⟨a, B, sI, pins, σ, H, cls, d, e, I, nb, up, sky, na, os, ag, w I.len⟩
/-- behind the try: return ['told', seen(told)] -/
def TOld (spSeen : Sp) (f : Addr) (Q : VK) (v : V) (H : Hp) : Prop :=
  tRet (tLst (tCons (tC (.str "told")) (tCons (tCall spSeen [] E0 (tCons (tVar 1) tNil)) tNil))) { nx := fun _ H' => Q .non H', rt := Q } [some (.ref f), some v, none] H
def toldK (Q : VK) : VK := fun u H2 => [V.str "told", u].length ≤ sizeLine ∧ ∀ p, H2 p = none → Q (.ref p) (upd H2 p (.lst [.str "told", u]))
theorem toldK_of {Q : VK} {u : V} {H : Hp} (h : ∀ p, H p = none → Q (.ref p) (upd H p (.lst [.str "told", u]))) : toldK Q u H := ⟨by show 2 ≤ sizeLine; decide, h⟩
theorem tOld_of {spSeen : Sp} {f : Addr} {Q : VK} {v : V} {H : Hp} (h : spSeen [v] H (toldK Q) E0) : TOld spSeen f Q v H := ⟨v, rfl, h⟩
/-- what is wished of the lambda's reading tl by: try: told = act() / except (three classes) as e: return said(e) / return ['told', seen(told)] -/
def TTc (K : PySem.W.Frag) (c1 c2 c3 : Value) (spSaid : Addr → Value → Option Addr → Sp) (spSeen : Sp) : (XK → Hp → VK → Prop) → Hp → VK → Prop := fun tl H Q =>
  ∀ f : Addr, tl (fun cls d H' => PySem.W.exmAny K cls [c1, c2, c3] = some true ∧ ∀ a, H' a = none → spSaid a cls d [.ref a] H' Q E0) H (TOld spSeen f Q)
end RV
/-! The law's own call where its defs make lambdas: each such def's table of code objects is empty at the start. -/
namespace RV
open PySem L2 PyProof.Rows LamX
def spLawT (K : PySem.W.Frag) (cs : List (Addr × Addr)) : Sp := fun vs H Q _ => ∃ (c : Addr) (ns : List Int), vs = [.ref c] ∧ SqL K H c (ns.map V.int) ∧ ns.length ≤ 63 ∧ (∀ p ∈ cs, H p.2 = some (.tbl #[])) ∧ ∀ H', Q (.bl true) H'
theorem codeHd_hid {h : Heap} {H : Hp} {c P : Addr} (C : PySem.W.CodeHd h c P) (n : H c = none) : PySem.W.CodeHd (hidT h H) c P := by
  obtain ⟨o, vs, file, tf, flags, tg, inF, text, tt, e, r⟩ := C
  exact ⟨o, vs, file, tf, flags, tg, inF, text, tt, hidT_get e n, r⟩
theorem callGT {P : Program} {w : World} {K : PySem.W.Frag} {mg mb : Str → Option Value} {k : Nat} {fa a : Addr} {cs : List (Addr × Addr)} {fd : FuncData} {x : Str} {s₁ : Shared} {vs : List Value} {ns : List Int}
    (KX : K.In s₁.heap) (hns : s₁.heap.Ns mainGlobals mg) (hb : s₁.heap.Ns builtinsNs mb) (hbb : ∀ x : Str, x ≠ "__name__" → mb x = bootBuiltins x) (hlim : s₁.heap.NoLimit) (hg : s₁.gens = #[])
    (hT : ∀ p ∈ cs, PySem.W.CodeHd s₁.heap p.1 p.2 ∧ s₁.heap.get? p.2 = some (PySem.W.tabObj #[])) (nT : ∀ p ∈ cs, K.lookup p.2 = none)
    (hbm : ∃ (bm : Addr) (ob : Obj), mg "__builtins__" = some (.ref bm) ∧ bm ≠ builtinsNs ∧ s₁.heap.get? bm = some ob ∧ ob.cls = .type "module" ∧ ob.dict = some builtinsNs ∧ ob.data = .plain)
    (ha : s₁.heap.get? a = some { cls := .type "list", data := .seq vs.toArray }) (hi : IntsAre vs ns) (hl : ns.length ≤ 63) (hr : Room k callerA)
    (F : ∀ base : Heap, K.In base → base.Ns mainGlobals mg → (∀ p ∈ cs, TabB base mg p.1 p.2) → FnG P w K mg base k fa fd [x] (spLawT K cs)) (hbind : ∀ (s : Shared) (u : Value), BindsTo s fd ⟨[u], []⟩ [(x, u)]) :
    codeAny (model P w) callerA (.call (.ref fa) ⟨[.ref a], []⟩) (fun r s' => r = .ok (.ret (.bool true)) ∧ OldK s₁.heap s'.heap ∧ s'.os = s₁.os ∧ AllBare s'.gens) s₁ := by
  have rv := vals_ints hi
  have hsz : ns.length ≤ sizeLine := Nat.le_trans hl (by decide)
  let scr : Obj := { cls := .type "list", data := .seq vs.toArray }
  let isT : Addr → Prop := fun b => ∃ p ∈ cs, p.2 = b
  have tabAt : ∀ {b}, isT b → s₁.heap.get? b = some (PySem.W.tabObj #[]) := by
    rintro _ ⟨p, hp, rfl⟩
    exact (hT p hp).2
  have apart : ¬ isT a := fun z => by
    have q := tabAt z
    rw [ha] at q
    cases q
  have core : ∀ H : Hp, (∀ b u, H b = some u → (b = a ∧ u = .frz scr (.lst (ns.map V.int)) ∧ K.lookup a = none) ∨ isT b ∧ u = .tbl #[]) → (∀ p ∈ cs, H p.2 = some (.tbl #[])) → SqL K H a (ns.map V.int) →
      codeAny (model P w) callerA (.call (.ref fa) ⟨[.ref a], []⟩) (fun r s' => r = .ok (.ret (.bool true)) ∧ OldK s₁.heap s'.heap ∧ s'.os = s₁.os ∧ AllBare s'.gens) s₁ := by
    intro H hO hH hS
    have hok : HOk P w H s₁.heap := fun b u e => by
      rcases hO b u e with ⟨rfl, rfl, _⟩ | ⟨t, rfl⟩
      · exact ⟨ha, by rw [List.length_map]; exact hsz, vs, _, rv, ha⟩
      · exact tabAt t
    have other : ∀ {b : Addr} {o : Obj}, s₁.heap.get? b = some o → o ≠ scr → o ≠ PySem.W.tabObj #[] → H b = none := fun {b o} e d d' => by
      cases q : H b with
      | none => rfl
      | some u =>
        rcases hO b u q with ⟨rfl, _, _⟩ | ⟨t, _⟩
        · rw [ha] at e
          exact absurd (Option.some.inj e).symm d
        · rw [tabAt t] at e
          exact absurd (Option.some.inj e).symm d'
    have spaces : ∀ {b : Addr} {m : Str → Option Value}, s₁.heap.Ns b m → (hidT s₁.heap H).Ns b m := fun {b m} z => by
      obtain ⟨o, es, ep, e, d, r⟩ := z
      refine ⟨o, es, ep, hidT_get e (other e (fun q => ?_) fun q => ?_), d, r⟩ <;> (subst q; cases d)
    have kin : K.In (hidT s₁.heap H) := fun b o e => hidT_get (KX b o e) (by
      cases q : H b with
      | none => rfl
      | some u =>
        rcases hO b u q with ⟨rfl, _, z⟩ | ⟨⟨p, hp, rfl⟩, _⟩
        · rw [z] at e
          cases e
        · rw [nT p hp] at e
          cases e)
    have tb : ∀ p ∈ cs, TabB (hidT s₁.heap H) mg p.1 p.2 := fun p hp => by
      obtain ⟨C, ht⟩ := hT p hp
      refine ⟨codeHd_hid C ?_, ?_, fun z => ?_⟩
      · obtain ⟨o, us, _, _, _, _, _, _, _, e, _, d, d11, _⟩ := C
        refine other e (fun q => ?_) fun q => ?_
        · subst q
          cases d
        · subst q
          have d' : Data.fields #[] = Data.fields us := d
          cases d'
          simp at d11
      · obtain ⟨bm, ob, b1, b2, b3, b4, b5, b6⟩ := hbm
        have nm : ∀ {o : Obj}, ob = o → o.data ≠ .plain → False := fun q d => d (q ▸ b6)
        refine ⟨bm, ob, b1, b2, fun q => ?_, fun q => ?_, hidT_get b3 (other b3 (fun q => nm q (fun z => nomatch z)) fun q => nm q (fun z => nomatch z)), b4, b5, b6⟩
        · obtain ⟨o, es, ep, e, d, _⟩ := hns
          subst q
          rw [b3] at e
          cases e
          rw [b6] at d
          cases d
        · subst q
          rw [b3] at ht
          cases ht
          cases b6
      · obtain ⟨o, es, ep, e, d, _⟩ := hns
        rw [z, ht] at e
        cases e
        cases d
    obtain ⟨mc, l1, l2⟩ := hlim
    have e0 : Env0 P w K mg (hidT s₁.heap H) callerA [] s₁ H :=
      { frames := rfl, mod := ⟨kin, spaces hns, ⟨mb, spaces hb, hbb⟩, ⟨mc, spaces l1, l2⟩⟩, bs := fun _ _ e => of_hidT e, bsz := Nat.le_of_eq (hidT_size _ _), funs := trivial, frf := fun _ hb => (nomatch hb), hok := hok, bare := .of_eq hg }
    refine codeAny_mono ((F _ kin (spaces hns) tb).run callerA [] s₁ H ⟨[.ref a], []⟩ [.ref a] [.ref a] (fun v _ => v = .bl true) E0 rfl hr e0 (hbind s₁ (.ref a)) (.cons rfl .nil) ⟨a, ns, rfl, hS, hl, hH, fun _ => rfl⟩) fun res s' z => ?_
    match res, z with
    | .ok (.ret u), ⟨v, H', os, bare, un, hok', rel, ev⟩ =>
      have ev' : v = .bl true := ev
      subst ev'
      have eu : u = Value.bool true := rel
      subst eu
      have here : ∀ b o, ¬ isT b → s₁.heap.get? b = some o → s'.heap.get? b = some o := fun b o nb e => by
        cases q : H b with
        | none => exact un.keep b o e q (fun z => nomatch z) (fun z => nomatch z)
        | some u =>
          rcases hO b u q with ⟨rfl, rfl, _⟩ | ⟨t, _⟩
          · have z1 := (hok' b _ (un.frzs b _ _ q)).1
            rw [ha] at e
            rw [← e]
            exact z1
          · exact absurd t nb
      have there : ∀ {b}, isT b → ∃ more : Array Value, s'.heap.get? b = some { cls := .none, data := .fields more } := by
        rintro _ ⟨p, hp, rfl⟩
        obtain ⟨more, z⟩ := un.tbls p.2 #[] (hH p hp)
        exact ⟨_, hok' p.2 _ z⟩
      refine ⟨rfl, ⟨fun b o e => ?_, fun b o e => ?_⟩, os, bare⟩
      · rcases Classical.em (isT b) with t | nt
        · obtain ⟨more, hm⟩ := there t
          obtain ⟨p, hp, rfl⟩ := t
          rw [(hT p hp).2] at e
          cases e
          exact .inr (.inl ⟨((hT p hp).1.tab (hT p hp).2).isCodeTable, rfl, #[], more, rfl, by rw [Array.empty_append]; exact hm⟩)
        · exact .inl (here b o nt e)
      · rcases Classical.em (isT b) with t | nt
        · obtain ⟨more, hm⟩ := there t
          exact ⟨_, hm⟩
        · exact ⟨o, here b o nt e⟩
    | .ok .next, z => exact False.elim z
    | .ok .brk, z => exact False.elim z
    | .ok .cont, z => exact False.elim z
    | .error e, z => exact False.elim z
  -- the heap that is tracked: the tables, the script where the fragment has it not
  let tabs : Hp := fun b => if b ∈ cs.map (·.2) then some (.tbl #[]) else none
  have tabs_of : ∀ {b u}, tabs b = some u → isT b ∧ u = .tbl #[] := fun {b u} z => by
    by_cases hb : b ∈ cs.map (·.2)
    · have z' := (if_pos hb).symm.trans z
      obtain ⟨p, hp, e⟩ := List.mem_map.mp hb
      exact ⟨⟨p, hp, e⟩, (Option.some.inj z').symm⟩
    · have z' := (if_neg hb).symm.trans z
      cases z'
  have tabs_at : ∀ p ∈ cs, tabs p.2 = some (.tbl #[]) := fun p hp => if_pos (List.mem_map.mpr ⟨p, hp, rfl⟩)
  cases hk : K.lookup a with
  | some o =>
    have e := KX a o hk
    rw [ha] at e
    cases e
    exact core tabs (fun b u z => .inr (tabs_of z)) tabs_at (.inr ⟨_, vs.toArray, _, hk, rfl, rfl, rfl, by rw [List.size_toArray, hi.length]; exact hsz, by simpa using rv⟩)
  | none =>
    refine core (upd tabs a (.frz scr (.lst (ns.map V.int)))) (fun b u z => ?_) (fun p hp => ?_) (.inl (.inr ⟨scr, upd_same⟩))
    · by_cases hb : b = a
      · subst hb
        rw [upd_same] at z
        exact .inl ⟨rfl, (Option.some.inj z).symm, hk⟩
      · rw [upd_ne hb] at z
        exact .inr (tabs_of z)
    · rw [upd_ne (fun z => apart ⟨p, hp, z⟩)]
      exact tabs_at p hp
theorem walkGT (x : Str) (k : Nat) (xs : List Str) {l : PySem.W.OpenLaw} {q : Program} {loose : List Str} {XP : (Str → Option Value) → Heap → Prop} {YP : World → Heap → Prop} {d : DefRec} {K : Params → PySem.W.Frag} (hr : Room k callerA) (hn : l.most = some 63) (hdf : d.params.defaults = [])
    (hxs : ∀ y ∈ xs, ∃ e, (recsOf q).find? (fun e => e.name == y) = some e)
    (hY : ∀ (w : World) (h : Heap), YP w h → (K w.params).In h)
    (F : ∀ (w : World) (mg : Str → Option Value) (fa : Addr) (h : Heap), (K w.params).In h → h.Ns mainGlobals mg → mg d.name = some (.ref fa) →
      ∃ (cs : List (Addr × Addr)) (fd : FuncData), (∀ p ∈ cs, (∃ y ∈ xs, PySem.W.tabIn (K w.params) y = some p) ∧ (K w.params).lookup p.2 = none) ∧ (∀ (s : Shared) (u : Value), BindsTo s fd ⟨[u], []⟩ [(x, u)]) ∧
        ∀ base : Heap, (K w.params).In base → base.Ns mainGlobals mg → (∀ p ∈ cs, TabB base mg p.1 p.2) → FnG l.prog w (K w.params) mg base k fa fd [x] (spLawT (K w.params) cs)) :
    PySem.W.WalkO q loose XP YP l.row.toRowW d [] (fun f vs => PySem.call f vs) := by
  refine Att.attach_call hn hdf fun w s₀ s₁ mg mb fa o pm cd doc a vs ns G Y ho hd hcd hmg hobj hints hlen hg => ?_
  have KX := hY w _ Y
  obtain ⟨cs, fd, hc, hb, hF⟩ := F w mg fa _ KX G.T.g hmg
  refine callGT KX G.T.g G.T.b G.T.builtins G.T.nolimit hg (fun p hp => ?_) (fun p hp => (hc p hp).2) G.T.bmain hobj hints hlen hr hF hb
  obtain ⟨⟨y, hy, ht⟩, _⟩ := hc p hp
  obtain ⟨e, he⟩ := hxs y hy
  exact PySem.W.tab_of G.T KX he ht
end RV
/-! Defs that make lambdas; classes whose __init__ may refuse; facts that outlast a table's growth. -/
namespace RV
open PySem L2 PyProof.Rows LamX
section
variable {P : Program} {w : World} {K : PySem.W.Frag} {mg : Str → Option Value} {base : Heap}
/-- a def of the text whose code object stands at c -/
structure FunC (K : PySem.W.Frag) (x qual : Str) (st : Stmt) (f : Addr) (fd : FuncData) (c : Addr) : Prop where
  ex : ∃ (oc : Value) (od : Option Addr) (kV doc pm : Value) (an : Option Addr) (ct : Value) (osl : Array (Option Value)),
    fd = PySem.W.fnOf x qual (defArgs st) (defBody st) (defScope st) .none kV doc pm an (.ref c) ct ∧ K.lookup f = some ⟨oc, od, .func fd, osl⟩ ∧ PySem.W.codeIn K (.ref c) qual = true
  kp : PySem.W.keepIn K (.ref f) = true
theorem FunC.fn {x qual : Str} {st : Stmt} {f c : Addr} {fd : FuncData} (F : FunC K x qual st f fd c) : Fun K x qual st f fd := by
  obtain ⟨oc, od, kV, doc, pm, an, ct, osl, e, l, h⟩ := F.ex
  exact ⟨⟨oc, od, kV, doc, pm, an, .ref c, ct, osl, e, l, h⟩, F.kp⟩
theorem funC_mk {x qual : Str} {st : Stmt} {f c : Addr} {oc : Value} {od an : Option Addr} {osl : Array (Option Value)} {kV doc pm ct : Value} (l : K.lookup f = some ⟨oc, od, .func (PySem.W.fnOf x qual (defArgs st) (defBody st) (defScope st) .none kV doc pm an (.ref c) ct), osl⟩)
    (h : PySem.W.codeIn K (.ref c) qual = true) (k : PySem.W.keepIn K (.ref f) = true) : FunC K x qual st f (PySem.W.fnOf x qual (defArgs st) (defBody st) (defScope st) .none kV doc pm an (.ref c) ct) c := ⟨⟨oc, od, kV, doc, pm, an, ct, osl, rfl, l, h⟩, k⟩
/-- where the table of the def y at f stands -/
theorem tabIn_of {x qual y : Str} {st : Stmt} {f c Pt : Addr} {fd : FuncData} {e : Value} {dd : Option Addr} {vs : Array Value} {sl : Array (Option Value)} (F : FunC K x qual st f fd c) (a : PySem.W.nsIn K mainGlobals y = some (some (.ref f)))
    (lc : K.lookup c = some ⟨e, dd, .fields vs, sl⟩) (h : vs[11]? = some (.ref Pt)) : PySem.W.tabIn K y = some (c, Pt) := by
  obtain ⟨oc, od, kV, doc, pm, an, ct, osl, rfl, l, _⟩ := F.ex
  unfold PySem.W.tabIn
  rw [a]
  dsimp only
  rw [l]
  show (match K.lookup c with
    | some ⟨_, _, .fields vs, _⟩ => (match (vs[11]? : Option Value) with
      | some (.ref P) => some (c, P)
      | _ => none)
    | _ => none) = _
  rw [lc]
  dsimp only
  rw [h]
/-- as gFun, for a def that makes lambdas -/
theorem gFunL {x qual : Str} {st : Stmt} {f c : Addr} {fd : FuncData} {N ps : List Str} {k : Nat} {sp : Sp} (F : FunC K x qual st f fd c) (S : FnScope N ps (defScope st)) (len : ∀ vs H Q E, sp vs H Q E → vs.length = ps.length)
    (hbody : ∀ (A : Around) (outer : List Env) (s : Shared) (H : Hp) (vs : List V) (Q : VK) (E : XK), (A.deeper (envOfC qual (defScope st) s.heap.objs.size f (.ref c))).guards = some [] → Room k (A.deeper (envOfC qual (defScope st) s.heap.objs.size f (.ref c))) → sp vs H Q E →
      ∃ t, PSs (cxOf CX0 P w K mg base N qual (defScope st) f (.ref c) A outer s H E).nox (defBody st) t ∧ t { nx := fun _ H' => Q .non H', rt := Q } (start N vs) H) : FnG P w K mg base (k + 1) f fd ps sp := by
  refine ⟨len, fun A outer s H args us vs Q E gs hr e0 hb r hsp => ?_⟩
  obtain ⟨oc, od, kV, doc, pm, an, ct, osl, rfl, lk, hcd⟩ := F.ex
  have hl := len _ _ _ _ hsp
  have inB : ∀ {b o}, base.get? b = some o → s.heap.get? b = some o := fun e => (e0.bs _ _ e).1
  have KX : K.In s.heap := e0.mod.kin.keeps fun _ _ e => inB e
  have lim := e0.mod.nolimit.keeps fun _ _ e => inB e
  refine codeAny_call_function hr.depth (KX _ _ lk) rfl S.co S.gen rfl (PySem.W.codeRec_of KX hcd) (hb _ _ _ _ ?_)
  refine wpAny_newFunctionEnv_cells S.kind (fun y hy => (S.par _ (List.of_mem_zip (a := y.1) (b := y.2) hy).1).imp id fun q => ⟨q, PySem.W.cellsFrom_some _ _ _ (.inl q)⟩) fun env he s1 x => ?_
  subst he
  refine ⟨lim.keeps x.toInCall.keep, codeAny_func ?_⟩
  obtain ⟨t, ht, hq⟩ := hbody A outer s H vs Q E gs (hr.deeper _) hsp
  have I := inv_start (CX := CX0) (cd := .ref c) (E := E) S hr.hd e0 hl r x
  refine wpAny_mono (ht.nox.run [] s1 (start N vs) H _ I hq) (fun fl s' hs => ?_) fun _ _ hs => hs
  match fl, hs with
  | .ret u, ⟨v, _, H', J, rv, q⟩ => exact ⟨v, H', J.os, J.bare, J.base, J.hok, rv, q⟩
  | .next, ⟨_, H', J, q⟩ => exact ⟨V.non, H', J.os, J.bare, J.base, J.hok, rfl, q⟩
  | .brk, ⟨_, _, _, q⟩ => exact q.elim
  | .cont, ⟨_, _, _, q⟩ => exact q.elim
/-! ### classes whose __init__ may refuse -/
def MkrX (P : Program) (w : World) (K : PySem.W.Frag) (mg : Str → Option Value) (base : Heap) (x : Str) (C : Addr) (k : Nat) (sp : Sp) (dvs : List V) : Prop :=
  mg x = some (.ref C) ∧ ∃ f fd ps ds, Mk K C f ∧ Binds K fd ps ds ∧ Vals dvs ds ∧ FnOk P w K mg base (L2.CX P w) k f fd ps sp
def MkrKX (P : Program) (w : World) (K : PySem.W.Frag) (mg : Str → Option Value) (base : Heap) (x : Str) (C : Addr) (k n : Nat) (ks : List Str) (sp : Sp) (gV : List V → List V → List V) : Prop :=
  mg x = some (.ref C) ∧ ∃ f fd ps g, Mk K C f ∧ KBn K fd ps (n + 1) ks g gV ∧ FnOk P w K mg base (L2.CX P w) k f fd ps sp
end
section
variable {X : Cx} {x f : Str} {C : Addr} {k n : Nat} {ks : List Str} {sp : Sp} {dvs : List V} {gV : List V → List V → List V} {e : Expr} {es : List Expr} {kws : List Keyword} {t tk : TA} {ta : TE} {p pos : Pos} {E : XK}
end
/-! ### what outlasts -/
theorem SqL.extN {K : PySem.W.Frag} {H H' : Hp} {a : Addr} {xs : List V} (h : SqL K H a xs) (e : ExtN H H') : SqL K H' a xs := by
  rcases h with (h | ⟨o, h⟩) | h
  · exact .inl (.inl (e _ _ h fun _ z => nomatch z))
  · exact .inl (.inr ⟨o, e _ _ h fun _ z => nomatch z⟩)
  · exact .inr h
theorem SqT.extN {K : PySem.W.Frag} {H H' : Hp} {a : Addr} {xs : List V} (h : SqT K H a xs) (e : ExtN H H') : SqT K H' a xs := by
  rcases h with (h | ⟨o, h⟩) | h
  · exact .inl (.inl (e _ _ h fun _ z => nomatch z))
  · exact .inl (.inr ⟨o, e _ _ h fun _ z => nomatch z⟩)
  · exact .inr h
section
variable {K : PySem.W.Frag} {H H' : Hp}
mutual
theorem dp_extN (s : ExtN H H') : ∀ {v : V} {d : PyData}, Dp K H v d → Dp K H' v d
  | _, _, .non => .non
  | _, _, .bl b => .bl b
  | _, _, .int i => .int i
  | _, _, .str x => .str x
  | _, _, .lst h l => .lst (SqL.extN h s) (dpAll_extN s l)
  | _, _, .tup h l => .tup (SqT.extN h s) (dpAll_extN s l)
theorem dpAll_extN (s : ExtN H H') : ∀ {vs : List V} {ds : List PyData}, DpAll K H vs ds → DpAll K H' vs ds
  | _, _, .nil => .nil
  | _, _, .cons h l => .cons (dp_extN s h) (dpAll_extN s l)
end
theorem Odd.extN (s : ExtN H H') {v : V} {d : PyData} : Odd K H v d → Odd K H' v d
  | .dat h => .dat (dp_extN s h)
  | .dic0 e => .dic0 (s _ _ e fun _ z => nomatch z)
  | .dic1 e => .dic1 (s _ _ e fun _ z => nomatch z)
end
/-- all stays but what stands at a, and the tables -/
def ExtA (a : Addr) (H H' : Hp) : Prop := ∀ b o, b ≠ a → H b = some o → (∀ ps, o ≠ .tbl ps) → H' b = some o
theorem ExtA.trans {a : Addr} {H H1 H2 : Hp} (h : ExtA a H H1) (k : ExtA a H1 H2) : ExtA a H H2 := fun b o n e t => k b o n (h b o n e t) t
theorem ExtA.ofN {a : Addr} {H H' : Hp} (h : ExtN H H') : ExtA a H H' := fun b o _ e t => h b o e t
theorem ExtA.ofG {a : Addr} {H H' : Hp} (h : ∀ b o, b ≠ a → H b = some o → H' b = some o) : ExtA a H H' := fun b o n e _ => h b o n e
end RV
/-! Promises of the program where it refuses names, pipes, meters. -/
namespace RV
open PySem L2 PyProof.Rows LamX TL
/-! ### rules -/
def rCntV (K : PySem.W.Frag) : V → List V → Hp → VK → Prop := fun x xs H Q => ∃ (p : Addr) (ys : List V) (y : V), x = .ref p ∧ xs = [y] ∧ SqL K H p ys ∧ flatV y = true ∧ ys.all flatV = true ∧ Q (.int (ys.countP (fun z => eqV z y) : Nat)) H
theorem countP_eqU {y : V} : ∀ {ys : List V} {us : List Value}, Vals ys us → ys.all flatV = true → us.countP (eqU y) = ys.countP (fun z => eqV z y)
  | _, _, .nil, _ => rfl
  | _ :: _, _ :: _, .cons r t, f => by
    rw [List.all_cons, Bool.and_eq_true] at f
    rw [List.countP_cons, List.countP_cons, countP_eqU t f.2, eqU_of r f.1]
section
variable {X : Cx}
theorem mt_lcountV : MtR X "list.count" (rCntV X.K) := by
  intro pins s σ H x xs v us Q I rx rxs h
  obtain ⟨p, ys, y, rfl, rfl, hs, fy, fys, q⟩ := h
  cases rx
  obtain ⟨u, rfl, ru⟩ := rxs.one
  obtain ⟨its, rv, ⟨⟨cls, dd, data, sl⟩, n, ho, hc, hdn, hd⟩, hlen⟩ := I.list hs
  simp only at hc hd
  subst hc hd
  refine call_meets PySem.F.slot_list_count ⟨_, ho, rfl⟩ PySem.F.entry_list_count (PySem.F.args_list_count_2 _ _)
    (SeqAt.list_countAt p its.toArray n dd sl u (eqU y)) ⟨ho, fun u' hu' => mem_eqAt ru fy rv fys u' (by simpa using hu'), ?_⟩
  have ec : its.toArray.toList.countP (eqU y) = ys.countP (fun z => eqV z y) := countP_eqU rv fys
  refine ⟨.int (ys.countP (fun z => eqV z y) : Nat), H, I.tok _, ⟨s.toks, ?_⟩, q⟩
  show Value.int ((its.toArray.toList.countP (eqU y) : Nat) : Int) s.toks = _
  rw [ec]
end
/-! ### odd values of the laws -/
structure Ody (K : PySem.W.Frag) (H : Hp) (v : V) (d : PyData) : Prop where
  o : Odd K H v d
  f : Fine d
  l : ∀ y, d = .str y → y.length ≤ 1000
theorem Ody.same {K : PySem.W.Frag} {H H' : Hp} {v : V} {d : PyData} (h : Ody K H v d) (s : Same H H') : Ody K H' v d := ⟨h.o.same s, h.f, h.l⟩
theorem Ody.extN {K : PySem.W.Frag} {H H' : Hp} {v : V} {d : PyData} (h : Ody K H v d) (s : ExtN H H') : Ody K H' v d := ⟨h.o.extN s, h.f, h.l⟩
def nmD : PyData → Bool
  | .str y => isNm (cd y)
  | _ => false
theorem nmD_str {K : PySem.W.Frag} {H : Hp} {v : V} {d : PyData} (h : Odd K H v d) (n : nmD d = true) : ∃ y, v = .str y ∧ d = .str y ∧ IsNm y := by
  cases d with
  | str y =>
    cases h with
    | dat h => cases h; exact ⟨y, rfl, rfl, n⟩
  | _ => cases n
/-- the first of them that is no name -/
def bad1 (us : List (V × PyData)) : Option (V × PyData) := us.find? (fun u => !nmD u.2)
def sp_checkX (K : PySem.W.Frag) (CI : Addr) : Sp := fun vs H _ E => ∃ (t : Addr) (us : List (V × PyData)) (u : V × PyData), vs = [.ref t] ∧ SqT K H t (us.map (·.1)) ∧ (∀ u ∈ us, Ody K H u.1 u.2) ∧ bad1 us = some u ∧ ErrS CI u.1 H E
/-- a pipe that is refused -/
def sp_PipeX (K : PySem.W.Frag) (C CI CE : Addr) : Sp := fun vs H _ E => ∃ (x dx : Addr) (u1 u2 u3 : V × PyData), vs = [.ref x, u1.1, u2.1, u3.1] ∧ H x = some (.ins C dx []) ∧ Ody K H u1.1 u1.2 ∧ Ody K H u2.1 u2.2 ∧ Ody K H u3.1 u3.2 ∧
  ((∃ u, bad1 [u1, u2, u3] = some u ∧ ErrS CI u.1 H E) ∨ (∃ n s : Str, u1.1 = .str n ∧ u2.1 = .str s ∧ u3.1 = .str s ∧ IsNm n ∧ IsNm s ∧ ErrS CE (.str s) H E))
def sp_MeterX (K : PySem.W.Frag) (C CI CF : Addr) : Sp := fun vs H _ E => ∃ (x dx : Addr) (u1 u2 u3 : V × PyData), vs = [.ref x, u1.1, u2.1, u3.1] ∧ H x = some (.ins C dx []) ∧ Ody K H u1.1 u1.2 ∧ Ody K H u2.1 u2.2 ∧ Ody K H u3.1 u3.2 ∧
  ((∃ u, bad1 [u1, u2] = some u ∧ ErrS CI u.1 H E) ∨ (∃ n s : Str, u1.1 = .str n ∧ u2.1 = .str s ∧ IsNm n ∧ IsNm s ∧ (∀ b, u3.1 ≠ .bl b) ∧ ErrS CF u3.1 H E))
end RV
/-! What the laws tell of a caught error, of what was made. -/
namespace RV
open PySem L2 PyProof.Rows LamX TL
def rStrB : List V → Hp → VK → Prop := fun xs H Q => ∃ b : Bool, xs = [.bl b] ∧ Q (.str (if b then "True" else "False")) H
theorem Kept.same {K : PySem.W.Frag} {cls : Value} {d : Option Addr} {f : Str} {y : V} {D dd : Addr} {H H' : Hp} (k : Kept K cls d f y D dd H) (s : Same H H') : Kept K cls d f y D dd H' := ⟨k.1, k.2.1, k.2.2.1, k.2.2.2.1, s _ _ k.2.2.2.2⟩
/-- the class at D is just the i-th of the sorts; names and values apart -/
structure SortAt (K : PySem.W.Frag) (cs : List Addr) (CB CV D : Addr) (nameB valB : Bool) (i : Nat) : Prop where
  lt : i < cs.length
  so : ∀ j C, cs[j]? = some C → PySem.W.kitOne K (.ref D) (.ref C) = some (decide (j = i))
  kb : PySem.W.kitOne K (.ref D) (.ref CB) = some nameB
  kv : PySem.W.kitOne K (.ref D) (.ref CV) = some valB
/-- what is told of an error: its place among the sorts, what it keeps -/
def sp_said (K : PySem.W.Frag) (cs : List Addr) (CB CV : Addr) (nm vl : Nat → Bool) (fld : Nat → Str) : Addr → Value → Option Addr → Sp := fun a cls d vs H Q _ =>
  ∃ (D dd : Addr) (i : Nat) (y : V) (dy : PyData), vs = [.ref a] ∧ Kept K cls d (fld i) y D dd H ∧ SortAt K cs CB CV D (nm i) (vl i) i ∧ Ody K H y dy ∧ ∀ H' l, Same H H' → H' l = some (.lst [.int (i : Nat), .str dy.shown]) → Q (.ref l) H'
/-- an odd value is shown -/
def sp_seenE (K : PySem.W.Frag) : Addr → Value → Option Addr → Sp := fun _ _ _ vs H Q _ => ∃ (v : V) (d : PyData), vs = [v] ∧ Ody K H v d ∧ Q (.str d.shown) H
/-- the texts of a pipe, a meter -/
def seenP (q : P3) : Str := "pipe " ++ q.1 ++ " " ++ q.2.1 ++ " " ++ q.2.2
def seenM (q : M3) : Str := "meter " ++ q.1 ++ " " ++ q.2.1 ++ " " ++ (if q.2.2 = true then ("True" : Str) else ("False" : Str))
def sp_seen3 (K : PySem.W.Frag) (CP CM : Addr) : Sp := fun vs H Q _ =>
  (∃ (x : Addr) (q : P3), vs = [.ref x] ∧ PipeAt CP H x q ∧ IsNm q.1 ∧ IsNm q.2.1 ∧ IsNm q.2.2 ∧ Q (.str (seenP q)) H) ∨
  (∃ (x : Addr) (q : M3), vs = [.ref x] ∧ MetAt CM H x q ∧ IsNm q.1 ∧ IsNm q.2.1 ∧ Q (.str (seenM q)) H) ∨
  (∃ (v : V) (d : PyData), vs = [v] ∧ Ody K H v d ∧ Q (.str d.shown) H)
end RV
namespace RV
open PySem L2 PyProof.Rows LamX TL
/-- an odd value of the laws is drawn -/
def sp_odd (K : PySem.W.Frag) : Sp := fun vs H Q _ => ∃ (a : Addr) (n : Nat), vs = [.ref a] ∧ WellAt H a n ∧ n < 900000 ∧ ∀ (v : V) (d : PyData) H', Ody K (del H' a) v d → Grow a H H' → WellAt H' a (n + 1) → Q v H'
/-- a sign is drawn -/
def sp_sign : Sp := fun vs H Q _ => ∃ (a : Addr) (n : Nat) (t : Str), vs = [.ref a, .str t] ∧ WellAt H a n ∧ n < 900000 ∧ Low t ∧ 1 ≤ t.length ∧ t.length ≤ 100 ∧ ∀ (c : Str) H', Low c → c.length = 1 → Grow a H H' → WellAt H' a (n + 2) → Q (.str c) H'
def oddL (t0 t1 l0 l1 d0 d1 : Addr) : List (V × PyData) := [(.non, .none), (.bl true, .bool true), (.bl false, .bool false), (.int 0, .int 0), (.int 1, .int 1), (.int (-1), .int (-1)), (.int 3, .int 3), (.int (10 ^ 30), .int (10 ^ 30)), strU "", strU "A", strU "1a", strU "a b", strU "a_b", strU "abcdefghi",
  (.ref t0, .tuple []), (.ref t1, .tuple [.str "a"]), (.ref l0, .list []), (.ref l1, .list [.str "a"]), (.ref d0, .dict []), (.ref d1, .dict [(.str "a", .int 1)])]
def odyB (d : PyData) : Bool := fineB d && (match d with | .str y => decide (y.length ≤ 1000) | _ => true)
theorem ody_by {K : PySem.W.Frag} {H : Hp} {v : V} {d : PyData} (o : Odd K H v d) (h : odyB d = true) : Ody K H v d := by
  unfold odyB at h
  rw [Bool.and_eq_true] at h
  refine ⟨o, fine_by h.1, fun y e => ?_⟩
  subst e
  exact of_decide_eq_true h.2
theorem oddL_ok {K : PySem.W.Frag} {H : Hp} {t0 t1 l0 l1 d0 d1 : Addr} (e1 : H t0 = some (.tup [])) (e2 : H t1 = some (.tup [.str "a"])) (e3 : H l0 = some (.lst [])) (e4 : H l1 = some (.lst [.str "a"])) (e5 : H d0 = some (.dK [])) (e6 : H d1 = some (.dK [(.inr "a", .int 1)])) :
    ∀ u ∈ oddL t0 t1 l0 l1 d0 d1, Ody K H u.1 u.2 := by
  intro u hu
  simp only [oddL, strU, List.mem_cons, List.not_mem_nil, or_false] at hu
  rcases hu with rfl | rfl | rfl | rfl | rfl | rfl | rfl | rfl | rfl | rfl | rfl | rfl | rfl | rfl | rfl | rfl | rfl | rfl | rfl | rfl
  · exact ody_by (.dat .non) (by decide +kernel)
  · exact ody_by (.dat (.bl _)) (by decide +kernel)
  · exact ody_by (.dat (.bl _)) (by decide +kernel)
  · exact ody_by (.dat (.int _)) (by decide +kernel)
  · exact ody_by (.dat (.int _)) (by decide +kernel)
  · exact ody_by (.dat (.int _)) (by decide +kernel)
  · exact ody_by (.dat (.int _)) (by decide +kernel)
  · exact ody_by (.dat (.int _)) (by decide +kernel)
  · exact ody_by (.dat (.str _)) (by decide +kernel)
  · exact ody_by (.dat (.str _)) (by decide +kernel)
  · exact ody_by (.dat (.str _)) (by decide +kernel)
  · exact ody_by (.dat (.str _)) (by decide +kernel)
  · exact ody_by (.dat (.str _)) (by decide +kernel)
  · exact ody_by (.dat (.str _)) (by decide +kernel)
  · exact ody_by (d := .tuple []) (.dat (.tup (SqT.of e1) .nil)) (by decide +kernel)
  · exact ody_by (d := .tuple [.str "a"]) (.dat (.tup (SqT.of e2) (.cons (.str _) .nil))) (by decide +kernel)
  · exact ody_by (d := .list []) (.dat (.lst (SqL.of e3) .nil)) (by decide +kernel)
  · exact ody_by (d := .list [.str "a"]) (.dat (.lst (SqL.of e4) (.cons (.str _) .nil))) (by decide +kernel)
  · exact ody_by (d := .dict []) (.dic0 e5) (by decide +kernel)
  · exact ody_by (d := .dict [(.str "a", .int 1)]) (.dic1 e6) (by decide +kernel)
end RV
/-! Comprehensions whose tests make things; what two values of the laws have to do with one another. -/
namespace RV
open PySem L2 PyProof.Rows LamX TL
section
variable {β : Type} {D : Addr} {us : List (V × β)} {i : Nat} {te : TE} {tt : TT} {vs : List Nat} {σ : L2.St} {H1 : Hp} {Qd : Hp → Prop} {J : It} {GG : Hp → Prop}
/-- [x for x in xs if p(x)]: the test may make things -/
theorem lc_keepP (p : V × β → Bool) (wk : Walk J (us.map (·.1)).length GG (YAt (us.map (·.1)))) (nD : H1 D = none) (len : us.length ≤ 1000) (hG : ∀ H', Same H1 H' → GG H') (hw : ∀ x, wipe ((wipe σ vs).set i x) vs = wipe σ vs)
    (ht : ∀ u ∈ us, ∀ H2, Same H1 H2 → ∀ R : Bool → Hp → Prop, (∀ H3, Same H2 H3 → R (p u) H3) → tt ((wipe σ vs).set i (some u.1)) H2 R)
    (he : ∀ u ∈ us, ∀ H2, ∀ R : VK, R u.1 H2 → te ((wipe σ vs).set i (some u.1)) H2 R)
    (k : ∀ H', Same H1 H' → H' D = some (.lst ((us.filter p).map (·.1))) → Qd H') :
    ∃ W : Nat → Nat → Hp → Prop, (∃ m, W 0 m (upd H1 D (.lst []))) ∧ ∀ i' m H, W i' m H →
      (J.stop i' H ∧ Qd H) ∨ (J.go i' H ∧ ∃ Nx : Hp → Prop, (∀ H', Nx H' → ∃ m', m' < m ∧ W (i' + 1) m' H') ∧ ∀ x H', J.yld i' H x H' → gName i x (wipe σ vs) H' fun σ2 H2 => wipe σ2 vs = wipe σ vs ∧ tt σ2 H2 fun b H3 =>
        if b = true then te σ2 H3 fun y H4 => ∃ acc, H4 D = some (.lst acc) ∧ acc.length < sizeLine ∧ Nx (upd H4 D (.lst (acc ++ [y]))) else Nx H3) := by
  refine L2.lc_it wk (fun i' H' => Same H1 H' ∧ H' D = some (.lst (((us.take i').filter p).map (·.1))))
    ⟨fun b o e => (upd_ne (ne_of_none e nD)).trans e, upd_same⟩ (fun i' H' _ z => hG _ z.1) (fun i' x Ha Hb hi hv y => ?_) (fun H' hv => ?_)
  · obtain ⟨s, eD⟩ := hv
    obtain ⟨rfl, hx⟩ := y
    rw [List.getElem?_map] at hx
    obtain ⟨u, hu, rfl⟩ : ∃ u, us[i']? = some u ∧ u.1 = x := by
      cases q : us[i']? with
      | none => rw [q] at hx; cases hx
      | some u => rw [q] at hx; exact ⟨u, rfl, Option.some.inj hx⟩
    have hm := List.mem_of_getElem? hu
    have et : us.take (i' + 1) = us.take i' ++ [u] := by rw [List.take_add_one, hu]; rfl
    refine ⟨hw _, ht u hm Hb s _ fun H3 s3 => ?_⟩
    cases hp : p u with
    | false =>
      refine iteF ⟨s.trans s3, ?_⟩
      rw [s3 _ _ eD, et, List.filter_append, List.filter_cons_of_neg (by rw [hp]; decide), List.filter_nil, List.append_nil]
    | true =>
      refine iteT (he u hm H3 _ ⟨_, s3 _ _ eD, ?_, fun b o e => ?_, ?_⟩)
      · have l1 := List.length_filter_le p (us.take i')
        have l3 := List.length_take_le' i' us
        rw [List.length_map]
        exact Nat.lt_of_le_of_lt (Nat.le_trans l1 (Nat.le_trans l3 len)) (by decide)
      · rw [upd_ne (ne_of_none e nD)]
        exact s3 _ _ (s _ _ e)
      · rw [upd_same, et, List.filter_append, List.filter_cons_of_pos hp, List.filter_nil, List.map_append]
        rfl
  · obtain ⟨s, eD⟩ := hv
    refine k H' s ?_
    rw [eD, List.length_map, List.take_of_length_le (Nat.le_refl _)]
end
theorem bad1_filter (us : List (V × PyData)) : ((us.filter (fun u => !nmD u.2)).map (·.1)).take 1 = (match bad1 us with | none => [] | some u => [u.1]) := by
  unfold bad1
  induction us with
  | nil => rfl
  | cons u us ih =>
    cases h : !nmD u.2 with
    | true => rw [List.filter_cons_of_pos (by rw [h]), List.find?_cons_of_pos (by rw [h])]; rfl
    | false => rw [List.filter_cons_of_neg (by rw [h]; decide), List.find?_cons_of_neg (by rw [h]; decide)]; exact ih
def sp_fbad (K : PySem.W.Frag) : Sp := fun vs H Q _ => ∃ (l : Addr) (us : List (V × PyData)), vs = [.ref l] ∧ SqL K H l (us.map (·.1)) ∧ (∀ u ∈ us, Ody K H u.1 u.2) ∧ us.length ≤ 20 ∧
  ∀ H' p, Same H H' → H' p = some (.lst (match bad1 us with | none => [] | some u => [u.1])) → Q (.ref p) H'
end RV
/-! xs != []: whatever stands in xs; rows of a place and a text. -/
namespace RV
open PySem L2 PyProof.Rows LamX TL
def rNe0 (K : PySem.W.Frag) : R2 := fun x y H Q => ∃ a b xs, x = .ref a ∧ y = .ref b ∧ SqL K H a xs ∧ SqL K H b [] ∧ Q (.bl (!xs.isEmpty)) H
section
variable {X : Cx}
theorem op_ne0 (hu : X.A.units < cLine) : OpR X (compareOp .NotEq) (rNe0 X.K) := by
  intro pins s σ H x y v u Q I rx ry h
  obtain ⟨a, b, xs, rfl, rfl, ha, hb, q⟩ := h
  cases rx
  cases ry
  obtain ⟨its, rv, ⟨⟨cls, dd, data, sl⟩, n, ho, hc, hdn, hd⟩, _⟩ := I.list ha
  obtain ⟨its2, rv2, ⟨⟨cls2, dd2, data2, sl2⟩, n2, ho2, hc2, hdn2, hd2⟩, _⟩ := I.list hb
  simp only at hc hd hc2 hd2
  subst hc hd hc2 hd2
  cases rv2
  have hl1 : s.heap.IsList a its.toArray := ⟨_, ho, rfl, _, rfl⟩
  have hl2 : s.heap.IsList b ([] : List Value).toArray := ⟨_, ho2, rfl, _, rfl⟩
  cases rv with
  | nil => exact SeqAt.RcNeAt.lists (e := fun _ => true) hl1 hl2 rfl hu (fun j h1 => absurd h1 (by simp)) _ _ _ _ ⟨.bl false, H, I, rfl, q⟩
  | cons r t => exact SeqAt.RcNeAt.lists_lengths hl1 hl2 (by simp) hu _ _ _ _ ⟨.bl true, H, I, rfl, q⟩
end
/-- [2, 'text'] and the like -/
def rowD (d : PyData) (s : Str) : PyData := .list [d, .str s]
theorem lay_all {ds : List PyData} {n : Nat} (h : ∀ d ∈ ds, d.canLay0 = true ∧ d.depth ≤ n) : PyData.canLayAll0 ds = true ∧ PyData.depthAll ds ≤ n := by
  induction ds with
  | nil => exact ⟨by simp [PyData.canLayAll0], by simp [PyData.depthAll]⟩
  | cons d ds ih =>
    obtain ⟨a1, a2⟩ := h d List.mem_cons_self
    obtain ⟨b1, b2⟩ := ih fun x hx => h x (List.mem_cons_of_mem _ hx)
    refine ⟨by rw [PyData.canLayAll0, a1, b1]; rfl, ?_⟩
    rw [PyData.depthAll]
    omega
theorem shaped_list {ds : List PyData} {n : Nat} (h : ∀ d ∈ ds, d.canLay0 = true ∧ d.depth ≤ n) (hn : n < 64) : SeqAt.shaped (.list ds) = true := by
  obtain ⟨a, b⟩ := lay_all h
  unfold SeqAt.shaped
  rw [PyData.canLay0, a, PyData.depth, Bool.true_and, decide_eq_true_eq]
  omega
end RV
/-! What the catching def tells of pipes and meters. -/
namespace RV
open PySem L2 PyProof.Rows LamX TL
theorem delS {a : Addr} {H : Hp} : Same (del H a) H := fun b o e => by
  by_cases hb : b = a
  · subst hb
    rw [del_same] at e
    cases e
  · rw [del_ne hb] at e
    exact e
theorem Ody.up {K : PySem.W.Frag} {a : Addr} {H : Hp} {v : V} {d : PyData} (o : Ody K (del H a) v d) : Ody K H v d := o.same delS
theorem Ody.grow {K : PySem.W.Frag} {a : Addr} {H H' : Hp} {v : V} {d : PyData} (o : Ody K (del H a) v d) (g : Grow a H H') : Ody K (del H' a) v d := o.same (same_del (grow_del g))
theorem extN_del {a : Addr} {H H' : Hp} (e : ExtN H H') : ExtN (del H a) (del H' a) := fun b o q t => by
  by_cases hb : b = a
  · subst hb
    rw [L2.del_same] at q
    cases q
  · rw [del_ne hb] at q ⊢
    exact e b o q t
theorem Ody.growN {K : PySem.W.Frag} {a : Addr} {H H' : Hp} {v : V} {d : PyData} (o : Ody K (del H a) v d) (e : ExtN H H') : Ody K (del H' a) v d := o.extN (extN_del e)
theorem TabS.grow {a Pt : Addr} {n : Nat} {q : Str} {H H' : Hp} (t : TabS H Pt q) (w : WellAt H a n) (g : Grow a H H') : TabS H' Pt q := by
  obtain ⟨ps, h1, h2, h3⟩ := t
  obtain ⟨x, y, z, e, _⟩ := w
  refine ⟨ps, g _ _ (fun q => by rw [q, e] at h1; cases h1) h1, h2, fun pos cv hc => ?_⟩
  obtain ⟨c, e1, e2⟩ := h3 pos cv hc
  exact ⟨c, e1, g _ _ (fun q => by rw [q, e] at e2; unfold CodeO at e2; cases e2) e2⟩
theorem Tabs.grow {a : Addr} {n : Nat} {T : List (Addr × Str)} {H H' : Hp} (t : Tabs T H) (w : WellAt H a n) (g : Grow a H H') : Tabs T H' := fun p hp => RV.TabS.grow (t p hp) w g
theorem Has.extN {a : Addr} {n : Nat} {L : List (Addr × HO)} {H0 H H' : Hp} (h : Has H0 a n L H) (e : ExtN H H') (hL : ∀ p ∈ L, ∀ ps, p.2 ≠ .tbl ps) : Has H' a n L H' := by
  obtain ⟨x, y, z, ew, r⟩ := h.well
  exact ⟨Grow.refl a H', ⟨x, y, z, e _ _ ew (fun _ q => nomatch q), r⟩, fun p hp => ⟨(h.here p hp).1, e _ _ (h.here p hp).2 (hL p hp)⟩⟩
theorem Tabs.put {T : List (Addr × Str)} {H : Hp} {l : Addr} {xs : List V} {o : HO} (t : Tabs T H) (e : H l = some (.lst xs)) : Tabs T (upd H l o) := fun p hp => by
  obtain ⟨ps, h1, h2, h3⟩ := t p hp
  have off : ∀ {b u}, H b = some u → u ≠ .lst xs → b ≠ l := fun q d z => by
    rw [z, e] at q
    exact d (Option.some.inj q).symm
  refine ⟨ps, by rw [upd_ne (off h1 (fun z => nomatch z))]; exact h1, h2, fun pos cv hc => ?_⟩
  obtain ⟨c, e1, e2⟩ := h3 pos cv hc
  exact ⟨c, e1, by rw [upd_ne (off e2 (fun z => by unfold CodeO at z; cases z))]; exact e2⟩
theorem Has.len3 {a l : Addr} {n : Nat} {L : List (Addr × HO)} {H0 H : Hp} {xs : List V} (h : Has H0 a n L H) (e : H l = some (.lst xs)) (hx : xs.length ≠ 3) : l ≠ a := by
  rintro rfl
  obtain ⟨x, y, z, ew, _⟩ := h.well
  rw [ew] at e
  cases e
  exact hx rfl
theorem Same.growA {a : Addr} {H H' : Hp} (s : Same H H') : Grow a H H' := fun b o _ e => s b o e
/-- an error class of the i-th sort, which keeps what was given -/
structure ErrC (K : PySem.W.Frag) (cs : List Addr) (CB CV CA : Addr) (nm vl : Nat → Bool) (fld : Nat → Str) (D : Addr) (i : Nat) : Prop where
  own : OwnX K D
  no : PySem.W.findIn K (.ref D) "given" = some none
  so : SortAt K cs CB CV D (nm i) (vl i) i
  ex : PySem.W.exmAny K (.ref D) [.ref CV, .ref CB, .ref CA] = some true
  fl : fld i = "given"
section
variable {K : PySem.W.Frag} {cs : List Addr} {CP CM CB CV CA CI CE CF D : Addr} {nm vl : Nat → Bool} {fld : Nat → Str} {i : Nat} {H : Hp} {v : V} {d : PyData} {Q : VK}
/-- how an error is told -/
def EC (K : PySem.W.Frag) (cs : List Addr) (CB CV CA : Addr) (nm vl : Nat → Bool) (fld : Nat → Str) (Q : VK) : XK := fun cls d H' => PySem.W.exmAny K cls [.ref CV, .ref CB, .ref CA] = some true ∧ ∀ a, H' a = none → sp_said K cs CB CV nm vl fld a cls d [.ref a] H' Q E0
theorem errS_said (M : ErrC K cs CB CV CA nm vl fld D i) (o : Ody K H v d) (k : ∀ H' l, Same H H' → H' l = some (.lst [.int (i : Nat), .str d.shown]) → Q (.ref l) H') : ErrS D v H (EC K cs CB CV CA nm vl fld Q) := by
  intro dd H' s e
  refine ⟨M.ex, fun a na => ⟨D, dd, i, v, d, rfl, ⟨rfl, rfl, M.own, by rw [M.fl]; exact M.no, by rw [M.fl]; exact e⟩, M.so, o.same s, fun H2 l s2 e2 => k H2 l (s.trans s2) e2⟩⟩
/-- what is told of Pipe(v1, v2, v3) -/
def outP (u1 u2 u3 : V × PyData) : PyData × Str := match bad1 [u1, u2, u3] with
  | some u => (.int 2, u.2.shown)
  | none => match u1.2, u2.2, u3.2 with
    | .str n, .str s, .str e => if e = s then (.int 3, (PyData.str e).shown) else (.str "told", seenP (n, s, e))
    | _, _, _ => (.none, "")
def outM (u1 u2 u3 : V × PyData) : PyData × Str := match bad1 [u1, u2] with
  | some u => (.int 2, u.2.shown)
  | none => match u1.2, u2.2, u3.2 with
    | .str n, .str s, .bool z => (.str "told", seenM (n, s, z))
    | .str _, .str _, d => (.int 4, d.shown)
    | _, _, _ => (.none, "")
/-- the value of such a datum -/
def flV : PyData → V
  | .int i => .int i
  | .str x => .str x
  | .bool b => .bl b
  | _ => .non
def isB : PyData → Bool
  | .bool _ => true
  | _ => false
theorem strOk_low {x : Str} (h : Low x) : PyData.strOk x = true := ok_sg.mpr fun c hc => Nat.lt_trans (h c hc) (by decide)
/-- what is told can be compared -/
def OkOut (o : PyData × Str) : Prop := ((∃ i, o.1 = .int i) ∨ ∃ x, o.1 = .str x ∧ PyData.strOk x = true) ∧ PyData.strOk o.2 = true
theorem OkOut.dp {o : PyData × Str} (h : OkOut o) (K : PySem.W.Frag) (H : Hp) : Dp K H (flV o.1) o.1 := by
  obtain ⟨⟨i, e⟩ | ⟨x, e, _⟩, _⟩ := h
  · rw [e]; exact .int i
  · rw [e]; exact .str x
theorem OkOut.row {o : PyData × Str} (h : OkOut o) {l : Addr} (e : H l = some (.lst [flV o.1, .str o.2])) : Dp K H (.ref l) (rowD o.1 o.2) := .lst (SqL.of e) (.cons (h.dp K H) (.cons (.str _) .nil))
end
/-- self and three by keyword: the third of them comes first -/
def gCab {α : Type} (us ws : List α) : List α := match us, ws with
  | [x], [a, b, c] => [x, c, a, b]
  | _, _ => []
def gCba {α : Type} (us ws : List α) : List α := match us, ws with
  | [x], [a, b, c] => [x, c, b, a]
  | _, _ => []
end RV
/-! Facts of the top about errors, put together. -/
namespace RV
open PySem L2 PyProof.Rows LamX TL
theorem ex3 {K : PySem.W.Frag} {cls a b c : Value} {x y z : Bool} (h1 : PySem.W.exmOne K cls a = some x) (h2 : PySem.W.exmOne K cls b = some y) (h3 : PySem.W.exmOne K cls c = some z) (h : (x || (y || (z || false))) = true) : PySem.W.exmAny K cls [a, b, c] = some true := by
  unfold PySem.W.exmAny
  rw [h1]
  unfold PySem.W.exmAny
  rw [h2]
  unfold PySem.W.exmAny
  rw [h3]
  unfold PySem.W.exmAny
  dsimp only
  rw [h]
end RV
/-! Class methods of any number of values that may refuse, called without values; xs == []. -/
namespace RV
open PySem L2 PyProof.Rows LamX TL ClX
section
variable {P : Program} {w : World} {K : PySem.W.Frag} {mg : Str → Option Value} {base : Heap} {C : Addr} {m : Str} {k f : Nat} {sp sp1 sp2 : Sp}
def ClsRX (P : Program) (w : World) (K : PySem.W.Frag) (mg : Str → Option Value) (base : Heap) (C : Addr) (m : Str) (k : Nat) (sp : Sp) : Prop :=
  ∃ mc p g, CRead K C mc ∧ CMet K C mc m p g ∧ FnR P w K mg base (L2.CX P w) k g sp
theorem ClsRX.irr (h : ClsRX P w K mg base C m k sp) : ClsRX P w K mg base C m k (Irr sp) := by
  obtain ⟨mc, p, g, a, b, F⟩ := h
  exact ⟨mc, p, g, a, b, F.imp fun _ _ _ _ z => irr_of z⟩
end
section
variable {X : Cx} {C : Addr} {k : Nat} {m : Str} {sp : Sp} {o e : Expr} {es : List Expr} {t : TA} {ta : TE} {pos apos : Pos} {pl : Sem Bool} {E : XK}
theorem pe_cmRX (h : ClsRX X.prog X.w X.K X.mg X.base C m k sp) (hr : Room k X.A) (hx : Passes (L2.CX X.prog X.w) X E) (he : PE X o ta) (ha : PA X (e :: es) t)
    (hst : starEach (e :: es) X.env = (false, eval e X.env) :: starEach es X.env := by rfl) (hpl : (backTo pos (starEach es X.env)).any (·.1) = false := by rfl)
    (ht : eval (.Call (.Attribute o m apos) (e :: es) [] pos) X.env = (do
      let ov ← eval o X.env
      standAt apos.atName
      let (f, first) ← holding [ov] (getMethod ov m pl)
      callWith pos f first (backTo pos (starEach (e :: es) X.env)) (backToKw pos (keywordEach [] X.env))) := by rfl) :
    PE X (.Call (.Attribute o m apos) (e :: es) [] pos) (tCMeth C sp E ta t) := by
  obtain ⟨mc, p, g, r, c, F⟩ := h
  exact pe_cmeth he r c F hr hx ha hst hpl ht
/-- C.m() -/
theorem pe_cmR0 (h : ClsR X.prog X.w X.K X.mg X.base C m k sp) (hr : Room k X.A) (he : PE X o ta)
    (ht : eval (.Call (.Attribute o m apos) [] [] pos) X.env = (do
      let ov ← eval o X.env
      standAt apos.atName
      let (f, first) ← holding [ov] (getMethod ov m pl)
      callWith pos f first (backTo pos (starEach [] X.env)) (backToKw pos (keywordEach [] X.env))) := by rfl) :
    PE X (.Call (.Attribute o m apos) [] [] pos) (tCMeth C sp E0 ta tNil) := by
  obtain ⟨mc, p, g, r, c, F⟩ := h
  refine ⟨fun pins s σ H Q I h => PySem.W.methodCall_KW (pl := pl) (thn (he.run pins s σ H _ I h) fun u s1 ⟨x, H1, I1, rx, ex, q⟩ => ?_) ht⟩
  subst ex
  obtain rfl : u = Value.ref C := rx
  exact getmethcm_ok I1 r c fun s2 I2 => PySem.W.callWith_M0 (first := []) ⟨pin_at I2, I2.kIn⟩ c.fi (run_cm (us := []) F hr pass0 I2 .nil q)
def rEq0 (K : PySem.W.Frag) : R2 := fun x y H Q => ∃ a b xs, x = .ref a ∧ y = .ref b ∧ SqL K H a xs ∧ SqL K H b [] ∧ Q (.bl xs.isEmpty) H
theorem op_eq0 (hu : X.A.units < cLine) : OpR X (compareOp .Eq) (rEq0 X.K) := by
  intro pins s σ H x y v u Q I rx ry h
  obtain ⟨a, b, xs, rfl, rfl, ha, hb, q⟩ := h
  cases rx
  cases ry
  obtain ⟨its, rv, ⟨⟨cls, dd, data, sl⟩, n, ho, hc, hdn, hd⟩, _⟩ := I.list ha
  obtain ⟨its2, rv2, ⟨⟨cls2, dd2, data2, sl2⟩, n2, ho2, hc2, hdn2, hd2⟩, _⟩ := I.list hb
  simp only at hc hd hc2 hd2
  subst hc hd hc2 hd2
  cases rv2
  have hl1 : s.heap.IsList a its.toArray := ⟨_, ho, rfl, _, rfl⟩
  have hl2 : s.heap.IsList b ([] : List Value).toArray := ⟨_, ho2, rfl, _, rfl⟩
  cases rv with
  | nil => exact SeqAt.RcAt.lists (e := fun _ => true) hl1 hl2 rfl hu (fun j h1 => absurd h1 (by simp)) _ _ _ _ ⟨.bl true, H, I, rfl, q⟩
  | cons r t => exact SeqAt.RcAt.lists_lengths hl1 hl2 (by simp) hu _ _ _ _ ⟨.bl false, H, I, rfl, q⟩
end
end RV
namespace RV
open PySem L2 PyProof.Rows LamX TL
/-- what is new -/
def newOf (H H' : Hp) : Hp := fun b => match H b with
  | none => H' b
  | some _ => none
theorem newOf_at {H H' : Hp} {b : Addr} {o : HO} (n : H b = none) (e : H' b = some o) : newOf H H' b = some o := by
  unfold newOf
  rw [n]
  exact e
theorem newOf_of {H H' : Hp} {b : Addr} {o : HO} (e : newOf H H' b = some o) : H b = none ∧ H' b = some o := by
  unfold newOf at e
  cases q : H b with
  | none => rw [q] at e; exact ⟨rfl, e⟩
  | some u => rw [q] at e; cases e
/-- an odd value of the laws is drawn, its things are new -/
def sp_oddN (K : PySem.W.Frag) : Sp := fun vs H Q _ => ∃ (a : Addr) (n : Nat), vs = [.ref a] ∧ WellAt H a n ∧ n < 900000 ∧ ∀ (v : V) (d : PyData) H', Ody K (newOf H H') v d → Grow a H H' → WellAt H' a (n + 1) → Q v H'
end RV
/-! Rules for methods inside comprehensions; counted names. -/
namespace RV
open PySem L2 PyProof.Rows LamX TL
theorem mt_lcountVK {X : Cx} {K : PySem.W.Frag} (h : X.K = K := by rfl) : MtR X "list.count" (rCntV K) := h ▸ mt_lcountV
theorem pe_bmK {X : Cx} {K : PySem.W.Frag} {T : String} {name : Str} {id : String} {r : V → List V → Hp → VK → Prop} {o e : Expr} {es : List Expr} {to : TE} {t : TA} {apos cpos : Pos} (hK : X.K = K) (pa : PlainAttrs T) (slot : Slot T name id) (hty : typeOf (.builtin id) = pure (.type "method_descriptor")) (hm : MtR X id r) (ho : PE X o to) (ha : PA X (e :: es) t)
    (hbase : attributeBase o name X.env (eval o X.env) = eval o X.env := by rfl)
    (hfew : ((backTo cpos (starEach (e :: es) X.env)).all (fun x => !x.1) && (backToKw cpos (keywordEach [] X.env)).all (fun x => x.1.isSome)
      && decide ((e :: es).length + ([] : List Keyword).length + (if ([] : List Keyword).isEmpty then 0 else 1) < 30)) = true := by rfl)
    (hline : (apos.endLine == cpos.line) = true := by rfl) (hs : starEach (e :: es) X.env = (false, eval e X.env) :: starEach es X.env := by rfl) (hplain : (backTo cpos (starEach es X.env)).any (·.1) = false := by rfl) :
    PE X (.Call (.Attribute o name apos) (e :: es) [] cpos) (tBM K T r to t) := by
  subst hK
  exact pe_bm pa slot hty hm ho ha hbase hfew hline hs hplain
/-- the names of ns in order, each with how often it is there -/
def counts (xs ns : List Str) : List (Str × Int) := xs.map fun x => (x, ((ns.count x : Nat) : Int))
theorem co_ones (ns : List Str) (x : Str) : co (ones ns) x = (ns.count x : Nat) := by
  induction ns with
  | nil => rfl
  | cons y ns ih =>
    show co ((y, 1) :: ones ns) x = _
    rw [co_cons, ih, List.count_cons]
    by_cases h : y = x
    · rw [if_pos h, if_pos (by simp [h])]
      omega
    · rw [if_neg h, if_neg (by simp [h])]
      omega
theorem counts_nrm {xs ns : List Str} (ha : xs.Pairwise Lt) (hx : ∀ k, k ∈ xs ↔ k ∈ ns) : Nrm (counts xs ns) := by
  refine ⟨?_, fun q hq => ?_⟩
  · rw [counts, List.map_map]
    show (xs.map fun x => x).Pairwise Lt
    rw [List.map_id']
    exact ha
  · obtain ⟨x, hm, rfl⟩ := List.mem_map.mp hq
    have := List.count_pos_iff.mpr ((hx x).mp hm)
    show ((ns.count x : Nat) : Int) ≠ 0
    omega
theorem counts_is {xs ns : List Str} {rs : List (Str × Int)} (ha : xs.Pairwise Lt) (hx : ∀ k, k ∈ xs ↔ k ∈ ns) (md : Mad (ones ns) rs) : counts xs ns = rs := by
  have nr := counts_nrm ha hx
  refine nr.uniq md.nr fun x => ?_
  rw [md.co, co_ones]
  by_cases h : x ∈ xs
  · exact nr.co (q := (x, ((ns.count x : Nat) : Int))) (List.mem_map.mpr ⟨x, h, rfl⟩)
  · rw [co_none fun q hq e => ?_]
    · rw [List.count_eq_zero.mpr fun z => h ((hx x).mpr z)]
      rfl
    · obtain ⟨y, hy, rfl⟩ := List.mem_map.mp hq
      exact h (e ▸ hy)
theorem names_of {K : PySem.W.Frag} {H : Hp} : ∀ {us : List (V × PyData)}, (∀ u ∈ us, Ody K H u.1 u.2) → bad1 us = none → ∃ ns : List Str, us = ns.map strU ∧ ∀ x ∈ ns, IsNm x
  | [], _, _ => ⟨[], rfl, fun _ h => nomatch h⟩
  | u :: us, ho, hb => by
    have all := List.find?_eq_none.mp hb
    obtain ⟨y, e1, e2, hy⟩ := nmD_str (ho u List.mem_cons_self).o (by simpa using all u List.mem_cons_self)
    obtain ⟨ns, rfl, hn⟩ := names_of (us := us) (fun v hv => ho v (List.mem_cons_of_mem _ hv)) (List.find?_eq_none.mpr fun v hv => all v (List.mem_cons_of_mem _ hv))
    refine ⟨y :: ns, ?_, fun x hx => ?_⟩
    · obtain ⟨v, d⟩ := u
      dsimp only at e1 e2
      subst e1 e2
      rfl
    · rcases List.mem_cons.mp hx with rfl | hx
      · exact hy
      · exact hn x hx
theorem strU_map (ns : List Str) : (ns.map strU).map (·.1) = ns.map V.str := by
  rw [List.map_map]
  rfl
theorem OkOut.row1 {o : PyData × Str} (h : OkOut o) : SeqAt.shaped (rowD o.1 o.2) = true := shaped_list (n := 0) (fun d hd => by
  simp only [List.mem_cons, List.not_mem_nil, or_false] at hd
  obtain ⟨h1, h2⟩ := h
  rcases hd with rfl | rfl
  · rcases h1 with ⟨i, e⟩ | ⟨x, e, hx⟩
    · rw [e]; exact ⟨by simp [PyData.canLay0], by simp [PyData.depth]⟩
    · rw [e]; exact ⟨by simp [PyData.canLay0, hx], by simp [PyData.depth]⟩
  · exact ⟨by simp only [PyData.canLay0]; exact h2, by simp [PyData.depth]⟩) (by decide)
theorem bad1_some {us : List (V × PyData)} {u : V × PyData} (h : bad1 us = some u) : ∃ r, (us.filter (fun u => !nmD u.2)).map (·.1) = u.1 :: r := by
  have e := bad1_filter us
  rw [h] at e
  cases q : (us.filter (fun u => !nmD u.2)).map (·.1) with
  | nil => rw [q] at e; cases e
  | cons v r =>
    rw [q] at e
    cases e
    exact ⟨r, rfl⟩
theorem bad1_none {us : List (V × PyData)} (h : bad1 us = none) : (us.filter (fun u => !nmD u.2)).map (·.1) = [] := by
  have e := bad1_filter us
  rw [h] at e
  cases q : (us.filter (fun u => !nmD u.2)).map (·.1) with
  | nil => rfl
  | cons v r => rw [q] at e; cases e
theorem cnt_str (ns : List Str) (y : Str) : (ns.map V.str).countP (fun z => eqV z (.str y)) = ns.count y := by
  induction ns with
  | nil => rfl
  | cons x ns ih =>
    rw [List.map_cons, List.countP_cons, List.count_cons, ih]
    rfl
theorem tot_ones (ns : List Str) : tot (ones ns) = ns.length := by
  induction ns with
  | nil => rfl
  | cons x ns ih =>
    have e : tot (ones (x :: ns)) = 1 + tot (ones ns) := by simp [tot, ones]
    rw [e, ih, List.length_cons]
    omega
theorem ones_due {ns : List Str} {rs : List (Str × Int)} (hn : ∀ x ∈ ns, IsNm x) (hl : ns.length ≤ 60) (md : Mad (ones ns) rs) : Due rs :=
  md.due (fun q hq => by
    obtain ⟨x, hx, rfl⟩ := List.mem_map.mp hq
    exact hn x hx) (by rw [ones, List.length_map]; exact hl) (by rw [tot_ones]; exact Nat.le_trans hl (by decide))
theorem ones_raw {ns : List Str} {k : Nat} (hn : ∀ x ∈ ns, IsNm x) (hl : ns.length ≤ k) : Raw (ones ns) k k := ⟨fun q hq => by
    obtain ⟨x, hx, rfl⟩ := List.mem_map.mp hq
    exact hn x hx, by rw [ones, List.length_map]; exact hl, by rw [tot_ones]; exact hl⟩
theorem txt_low {rs : List (Str × Int)} (d : Due rs) : Low (txt rs) := fun c hc => Nat.lt_trans (txt_ch d.nm c hc) (by decide)
end RV
/-! Five sorts of errors. -/
namespace RV
open PySem L2
theorem so5 {K : PySem.W.Frag} {D c0 c1 c2 c3 c4 : Addr} {i : Nat} (h0 : PySem.W.kitOne K (.ref D) (.ref c0) = some (decide (0 = i))) (h1 : PySem.W.kitOne K (.ref D) (.ref c1) = some (decide (1 = i))) (h2 : PySem.W.kitOne K (.ref D) (.ref c2) = some (decide (2 = i))) (h3 : PySem.W.kitOne K (.ref D) (.ref c3) = some (decide (3 = i)))
    (h4 : PySem.W.kitOne K (.ref D) (.ref c4) = some (decide (4 = i))) : ∀ j C, [c0, c1, c2, c3, c4][j]? = some C → PySem.W.kitOne K (.ref D) (.ref C) = some (decide (j = i)) := by
  intro j C e
  match j, e with
  | 0, e => cases e; exact h0
  | 1, e => cases e; exact h1
  | 2, e => cases e; exact h2
  | 3, e => cases e; exact h3
  | 4, e => cases e; exact h4
end RV
namespace RV
open PySem L2
def top (i : Nat) : Stmt := PySem.Challenge.pw_ringvotes_k08_sums_of_names.main.body.getD i (.Pass ⟨0, 0, 0, 0⟩)
abbrev s_is_number : Stmt := top 6
abbrev sc_is_number_N : List Str := ["value"]
theorem sc_is_number : FnScope sc_is_number_N ["value"] (defScope s_is_number) := ⟨rfl, rfl, rfl, by decide +kernel, rfl, by decide +kernel, by decide +kernel⟩
abbrev s_is_name : Stmt := top 7
abbrev sc_is_name_N : List Str := ["value", "letter"]
theorem sc_is_name : FnScope sc_is_name_N ["value"] (defScope s_is_name) := ⟨rfl, rfl, rfl, by decide +kernel, rfl, by decide +kernel, by decide +kernel⟩
abbrev s_is_digits : Stmt := top 8
abbrev sc_is_digits_N : List Str := ["text"]
theorem sc_is_digits : FnScope sc_is_digits_N ["text"] (defScope s_is_digits) := ⟨rfl, rfl, rfl, by decide +kernel, rfl, by decide +kernel, by decide +kernel⟩
abbrev s_written_number : Stmt := top 9
abbrev sc_written_number_N : List Str := ["number", "pieces", "rest"]
theorem sc_written_number : FnScope sc_written_number_N ["number"] (defScope s_written_number) := ⟨rfl, rfl, rfl, by decide +kernel, rfl, by decide +kernel, by decide +kernel⟩
abbrev s_read_number : Stmt := top 10
abbrev sc_read_number_N : List Str := ["digits", "first", "number", "at"]
theorem sc_read_number : FnScope sc_read_number_N ["digits"] (defScope s_read_number) := ⟨rfl, rfl, rfl, by decide +kernel, rfl, by decide +kernel, by decide +kernel⟩
abbrev s_InvalidName___init__ : Stmt := inClass (top 13) 0
abbrev sc_InvalidName___init___N : List Str := ["self", "given"]
theorem sc_InvalidName___init__ : FnScope sc_InvalidName___init___N ["self", "given"] (defScope s_InvalidName___init__) := ⟨rfl, rfl, rfl, by decide +kernel, rfl, by decide +kernel, by decide +kernel⟩
abbrev s_Sum___init__ : Stmt := inClass (top 21) 0
abbrev sc_Sum___init___N : List Str := ["self", "terms"]
theorem sc_Sum___init__ : FnScope sc_Sum___init___N ["self", "terms"] (defScope s_Sum___init__) := ⟨rfl, rfl, rfl, by decide +kernel, rfl, by decide +kernel, by decide +kernel⟩
abbrev s_Sum_read : Stmt := inClass (top 21) 1
abbrev sc_Sum_read_N : List Str := ["cls", "text", "total"]
theorem sc_Sum_read : FnScope sc_Sum_read_N ["cls", "text"] (defScope s_Sum_read) := ⟨rfl, rfl, rfl, by decide +kernel, rfl, by decide +kernel, by decide +kernel⟩
abbrev s_Sum_of : Stmt := inClass (top 21) 2
abbrev sc_Sum_of_N : List Str := ["cls", "names", "name"]
theorem sc_Sum_of : FnScope sc_Sum_of_N ["cls", "names"] (defScope s_Sum_of) := ⟨rfl, rfl, rfl, by decide +kernel, rfl, by decide +kernel, by decide +kernel⟩
abbrev s_Sum_terms : Stmt := inClass (top 21) 3
abbrev sc_Sum_terms_N : List Str := ["self"]
theorem sc_Sum_terms : FnScope sc_Sum_terms_N ["self"] (defScope s_Sum_terms) := ⟨rfl, rfl, rfl, by decide +kernel, rfl, by decide +kernel, by decide +kernel⟩
abbrev s_Sum___len__ : Stmt := inClass (top 21) 4
abbrev sc_Sum___len___N : List Str := ["self"]
theorem sc_Sum___len__ : FnScope sc_Sum___len___N ["self"] (defScope s_Sum___len__) := ⟨rfl, rfl, rfl, by decide +kernel, rfl, by decide +kernel, by decide +kernel⟩
abbrev s_Sum___bool__ : Stmt := inClass (top 21) 5
abbrev sc_Sum___bool___N : List Str := ["self"]
theorem sc_Sum___bool__ : FnScope sc_Sum___bool___N ["self"] (defScope s_Sum___bool__) := ⟨rfl, rfl, rfl, by decide +kernel, rfl, by decide +kernel, by decide +kernel⟩
abbrev s_Sum___getitem__ : Stmt := inClass (top 21) 6
abbrev sc_Sum___getitem___N : List Str := ["self", "at", "name", "number"]
theorem sc_Sum___getitem__ : FnScope sc_Sum___getitem___N ["self", "at"] (defScope s_Sum___getitem__) := ⟨rfl, rfl, rfl, by decide +kernel, rfl, by decide +kernel, by decide +kernel⟩
abbrev s_Sum___iter__ : Stmt := inClass (top 21) 7
abbrev sc_Sum___iter___N : List Str := ["self"]
abbrev s_Sum___contains__ : Stmt := inClass (top 21) 8
abbrev sc_Sum___contains___N : List Str := ["self", "x"]
theorem sc_Sum___contains__ : FnScope sc_Sum___contains___N ["self", "x"] (defScope s_Sum___contains__) := ⟨rfl, rfl, rfl, by decide +kernel, rfl, by decide +kernel, by decide +kernel⟩
abbrev s_Sum___str__ : Stmt := inClass (top 21) 9
abbrev sc_Sum___str___N : List Str := ["self"]
theorem sc_Sum___str__ : FnScope sc_Sum___str___N ["self"] (defScope s_Sum___str__) := ⟨rfl, rfl, rfl, by decide +kernel, rfl, by decide +kernel, by decide +kernel⟩
abbrev s_Sum___eq__ : Stmt := inClass (top 21) 10
abbrev sc_Sum___eq___N : List Str := ["self", "other"]
theorem sc_Sum___eq__ : FnScope sc_Sum___eq___N ["self", "other"] (defScope s_Sum___eq__) := ⟨rfl, rfl, rfl, by decide +kernel, rfl, by decide +kernel, by decide +kernel⟩
abbrev s_Sum___add__ : Stmt := inClass (top 21) 11
abbrev sc_Sum___add___N : List Str := ["self", "other"]
theorem sc_Sum___add__ : FnScope sc_Sum___add___N ["self", "other"] (defScope s_Sum___add__) := ⟨rfl, rfl, rfl, by decide +kernel, rfl, by decide +kernel, by decide +kernel⟩
abbrev s_Sum___sub__ : Stmt := inClass (top 21) 12
abbrev sc_Sum___sub___N : List Str := ["self", "other"]
abbrev s_Sum___neg__ : Stmt := inClass (top 21) 13
abbrev sc_Sum___neg___N : List Str := ["self"]
abbrev s_Sum___mul__ : Stmt := inClass (top 21) 14
abbrev sc_Sum___mul___N : List Str := ["self", "other", "name", "number"]
abbrev s_Sum___rmul__ : Stmt := inClass (top 21) 15
abbrev sc_Sum___rmul___N : List Str := ["self", "other"]
abbrev s_check_terms : Stmt := top 22
abbrev sc_check_terms_N : List Str := ["terms", "index", "term"]
theorem sc_check_terms : FnScope sc_check_terms_N ["terms"] (defScope s_check_terms) := ⟨rfl, rfl, rfl, by decide +kernel, rfl, by decide +kernel, by decide +kernel⟩
abbrev s_is_term : Stmt := top 23
abbrev sc_is_term_N : List Str := ["value"]
theorem sc_is_term : FnScope sc_is_term_N ["value"] (defScope s_is_term) := ⟨rfl, rfl, rfl, by decide +kernel, rfl, by decide +kernel, by decide +kernel⟩
abbrev s_collected : Stmt := top 24
abbrev sc_collected_N : List Str := ["terms", "coefficients", "name", "number"]
theorem sc_collected : FnScope sc_collected_N ["terms"] (defScope s_collected) := ⟨rfl, rfl, rfl, by decide +kernel, rfl, by decide +kernel, by decide +kernel⟩
abbrev s_written_terms : Stmt := top 25
abbrev sc_written_terms_N : List Str := ["terms", "name", "number", "minus", "first"]
theorem sc_written_terms : FnScope sc_written_terms_N ["terms"] (defScope s_written_terms) := ⟨rfl, rfl, rfl, by decide +kernel, rfl, by decide +kernel, by decide +kernel⟩
abbrev s_written_further : Stmt := top 26
abbrev sc_written_further_N : List Str := ["name", "number", "sign"]
theorem sc_written_further : FnScope sc_written_further_N ["name", "number"] (defScope s_written_further) := ⟨rfl, rfl, rfl, by decide +kernel, rfl, by decide +kernel, by decide +kernel⟩
abbrev s_without_sign : Stmt := top 27
abbrev sc_without_sign_N : List Str := ["name", "number"]
theorem sc_without_sign : FnScope sc_without_sign_N ["name", "number"] (defScope s_without_sign) := ⟨rfl, rfl, rfl, by decide +kernel, rfl, by decide +kernel, by decide +kernel⟩
abbrev s_terms_in : Stmt := top 28
abbrev sc_terms_in_N : List Str := ["text", "words", "terms", "sign", "word", "term"]
theorem sc_terms_in : FnScope sc_terms_in_N ["text"] (defScope s_terms_in) := ⟨rfl, rfl, rfl, by decide +kernel, rfl, by decide +kernel, by decide +kernel⟩
abbrev s_with_sign_apart : Stmt := top 29
abbrev sc_with_sign_apart_N : List Str := ["text"]
theorem sc_with_sign_apart : FnScope sc_with_sign_apart_N ["text"] (defScope s_with_sign_apart) := ⟨rfl, rfl, rfl, by decide +kernel, rfl, by decide +kernel, by decide +kernel⟩
abbrev s_read_term : Stmt := top 30
abbrev sc_read_term_N : List Str := ["sign", "word", "digits", "star", "name", "number"]
theorem sc_read_term : FnScope sc_read_term_N ["sign", "word"] (defScope s_read_term) := ⟨rfl, rfl, rfl, by decide +kernel, rfl, by decide +kernel, by decide +kernel⟩
abbrev s_well : Stmt := top 32
abbrev sc_well_N : List Str := ["_law_cells", "_law_k", "_law_cell", "_law_other"]
theorem sc_well : FnScope sc_well_N ["_law_cells", "_law_k"] (defScope s_well) := ⟨rfl, rfl, rfl, by decide +kernel, rfl, by decide +kernel, by decide +kernel⟩
abbrev s_dip : Stmt := top 33
abbrev sc_dip_N : List Str := ["_law_well_here", "_law_many", "_law_digit", "_law_mixed"]
theorem sc_dip : FnScope sc_dip_N ["_law_well_here", "_law_many"] (defScope s_dip) := ⟨rfl, rfl, rfl, by decide +kernel, rfl, by decide +kernel, by decide +kernel⟩
abbrev s_name : Stmt := top 34
abbrev sc_name_N : List Str := ["_law_well_here", "_law_signs", "_law_line", "_law_turn"]
theorem sc_name : FnScope sc_name_N ["_law_well_here"] (defScope s_name) := ⟨rfl, rfl, rfl, by decide +kernel, rfl, by decide +kernel, by decide +kernel⟩
abbrev s_fresh : Stmt := top 35
abbrev sc_fresh_N : List Str := ["_law_well_here", "_law_taken", "_law_way", "_law_name_here", "_law_mate", "_law_free", "_law_sign_here", "_law_each"]
theorem sc_fresh : FnScope sc_fresh_N ["_law_well_here", "_law_taken"] (defScope s_fresh) := ⟨rfl, rfl, rfl, by decide +kernel, rfl, by decide +kernel, by decide +kernel⟩
abbrev s_sum_text : Stmt := top 36
abbrev sc_sum_text_N : List Str := ["_law_terms", "_law_line", "_law_name_here", "_law_number", "_law_size", "_law_word"]
theorem sc_sum_text : FnScope sc_sum_text_N ["_law_terms"] (defScope s_sum_text) := ⟨rfl, rfl, rfl, by decide +kernel, rfl, by decide +kernel, by decide +kernel⟩
abbrev s_sign : Stmt := top 37
abbrev sc_sign_N : List Str := ["_law_well_here", "_law_often", "_law_signs"]
theorem sc_sign : FnScope sc_sign_N ["_law_well_here", "_law_often"] (defScope s_sign) := ⟨rfl, rfl, rfl, by decide +kernel, rfl, by decide +kernel, by decide +kernel⟩
abbrev s_odd : Stmt := top 38
abbrev sc_odd_N : List Str := ["_law_well_here", "_law_at", "_law_some"]
theorem sc_odd : FnScope sc_odd_N ["_law_well_here"] (defScope s_odd) := ⟨rfl, rfl, rfl, by decide +kernel, rfl, by decide +kernel, by decide +kernel⟩
abbrev s_seen : Stmt := top 39
abbrev sc_seen_N : List Str := ["_law_thing"]
theorem sc_seen : FnScope sc_seen_N ["_law_thing"] (defScope s_seen) := ⟨rfl, rfl, rfl, by decide +kernel, rfl, by decide +kernel, by decide +kernel⟩
abbrev s_said : Stmt := top 40
abbrev sc_said_N : List Str := ["_law_e", "_law_sorts", "_law_at"]
theorem sc_said : FnScope sc_said_N ["_law_e"] (defScope s_said) := ⟨rfl, rfl, rfl, by decide +kernel, rfl, by decide +kernel, by decide +kernel⟩
abbrev s_caught : Stmt := top 41
abbrev sc_caught_N : List Str := ["_law_act", "_law_told", "_law_e"]
theorem sc_caught : FnScope sc_caught_N ["_law_act"] (defScope s_caught) := ⟨rfl, rfl, rfl, by decide +kernel, rfl, by decide +kernel, by decide +kernel⟩
abbrev s_lis_name : Stmt := top 42
abbrev sc_lis_name_N : List Str := ["_law_word", "_law_signs", "_law_sign_here"]
theorem sc_lis_name : FnScope sc_lis_name_N ["_law_word"] (defScope s_lis_name) := ⟨rfl, rfl, rfl, by decide +kernel, rfl, by decide +kernel, by decide +kernel⟩
abbrev s_of : Stmt := top 43
abbrev sc_of_N : List Str := ["_law_row_here"]
theorem sc_of : FnScope sc_of_N ["_law_row_here"] (defScope s_of) := ⟨rfl, rfl, rfl, by decide +kernel, rfl, by decide +kernel, by decide +kernel⟩
abbrev s_row : Stmt := top 44
abbrev sc_row_N : List Str := ["_law_well_here", "_law_many", "_law_names", "_law_spoil", "_law_turn", "_law_way", "_law_at", "_law_name_here"]
theorem sc_row : FnScope sc_row_N ["_law_well_here", "_law_many"] (defScope s_row) := ⟨rfl, rfl, rfl, by decide +kernel, rfl, by decide +kernel, by decide +kernel⟩
abbrev s_right : Stmt := top 45
abbrev sc_right_N : List Str := ["_law_well_here", "_law_row_here", "_law_bad", "_law_told", "_law_due", "_law_total", "_law_name_here", "_law_each"]
theorem sc_right : FnScope sc_right_N ["_law_well_here"] (defScope s_right) := ⟨rfl, rfl, rfl, by decide +kernel, rfl, by decide +kernel, by decide +kernel⟩
abbrev s_law : Stmt := top 46
abbrev sc_law_N : List Str := ["_law_cells", "_law_k", "_law_well_here", "_law_turn"]
theorem sc_law : FnScope sc_law_N ["_law_cells"] (defScope s_law) := ⟨rfl, rfl, rfl, by decide +kernel, rfl, by decide +kernel, by decide +kernel⟩
end RV
namespace RV
open PySem L2
section
variable {P : Program} {w : World} {K : PySem.W.Frag} {mg : Str → Option Value} {base : Heap}
theorem ok_well {f : Addr} {fd : FuncData} (F : Fun K "_law_well" "_law_well" s_well f fd) (T : Blt mg) : FnOk P w K mg base CX0 1 f fd ["_law_cells", "_law_k"] (sp_well K) := by
  refine F.ok sc_well (fun vs H Q E h => ?_) (fun cdv A outer s H vs Q E hr h => ?_)
  · obtain ⟨_, _, _, rfl, _⟩ := h
    rfl
  · obtain ⟨c, ns, i, rfl, hS, hl, hi, k⟩ := h
    refine ⟨_, (pss_cons (ps_set (i := 2) sc_well.nd rfl (Or.inl rfl) (pe_ifExp (pt_cmpR op_lt (pv 1) (pe_callB call_len_seq (by rfl) T.b_len (by decide +kernel) (pa_cons (pv 0) pa_nil)) (nomark _)) (pe_ix ix_list (pv 0) (pv 1) (fun _ _ => rfl)) (pe_op op_mul (pe_op op_mul pe_int (pe_op op_add (pv 1) pe_int)) (pe_op op_add (pv 1) pe_int))))
      (pss_cons (ps_if (pt_cmpR op_ge (pv 1) (pe_callB call_len_seq (by rfl) T.b_len (by decide +kernel) (pa_cons (pv 0) pa_nil)) (nomark _)) (pss_one (ps_for PassesOwn.never rfl (pi_list (pv 0)) (pg_name (i := 3) sc_well.nd rfl (Or.inl rfl)) (pss_one (ps_set (i := 2) sc_well.nd rfl (Or.inl rfl) (pe_op op_mod (pe_callTy call_int1 (by rfl) T.b_int (by decide +kernel) (pa_cons (pe_op op_add (pe_op op_mul (pv 2) pe_int) (pv 3)) pa_nil)) pe_int))))) pss_nil)
      (pss_one (ps_ret (pe_lst (pa_cons (pe_op op_mod (pe_callTy call_int1 (by rfl) T.b_int (by decide +kernel) (pa_cons (pv 2) pa_nil)) pe_int) (pa_cons (pe_ifExp (pt_cmpR op_ge (pe_callB call_abs (by rfl) T.b_abs (by decide +kernel) (pa_cons (pv 2) pa_nil)) (pe_op op_pow pe_int pe_int) (nomark _)) (pe_callB call_abs (by rfl) T.b_abs (by decide +kernel) (pa_cons (pv 2) pa_nil)) pe_int) (pa_cons pe_int pa_nil)))))))), ?_⟩
    -- the end, from any number in the cell's slot
    have fin : ∀ (z : Int) (o : Option V), (tRet (tLst (tCons (tOp (rI (fun _ j => 0 < j) fun i j => .int (i % j)) (tCB (fun xs H Q => (∃ i, xs = [.int i] ∧ Q (.int i) H) ∨ ∃ k, xs = [.bl k] ∧ Q (.int (if k then 1 else 0)) H) (tCons (tVar 2) tNil)) (tC (.int 2147483629)))
        (tCons (tIf (tTest (tOp (rI0 fun i j => .bl (decide (j ≤ i))) (tCB (fun xs H Q => ∃ i, xs = [.int i] ∧ Q (.int (if i < 0 then -i else i)) H) (tCons (tVar 2) tNil)) (tOp (rI CPow fun i j => .int (i ^ j.toNat)) (tC (.int 10)) (tC (.int 18)))))
          (tCB (fun xs H Q => ∃ i, xs = [.int i] ∧ Q (.int (if i < 0 then -i else i)) H) (tCons (tVar 2) tNil)) (tC (.int 0))) (tCons (tC (.int 0)) tNil))))) { nx := fun _ H' => Q .non H', rt := Q } [some (.ref c), some (.int i), some (.int z), o] H := by
      intro z o
      refine ⟨_, rfl, .inl ⟨_, rfl, _, _, rfl, rfl, (by show (0 : Int) < 2147483629; decide), ?_⟩⟩
      have hz : (0 : Int) ≤ if z < 0 then -z else z := by split <;> omega
      have out : ∀ y : Int, 0 ≤ y → ∀ p, H p = none → Q (.ref p) (upd H p (.lst [.int (z % 2147483629), .int y, .int 0])) := fun y hy p np =>
        k p _ np (fun b o e => by rw [upd_ne (ne_of_none e np)]; exact e) ⟨_, _, _, upd_same, ⟨by omega, by omega⟩, hy, by omega⟩
      refine ⟨_, rfl, _, rfl, _, _, rfl, rfl, ⟨by decide, by decide, by decide⟩, _, _, rfl, rfl, _, rfl, ?_⟩
      refine ite2 (fun _ => ?_) (fun _ => ?_)
      · exact ⟨_, rfl, _, rfl, (by show 3 ≤ sizeLine; decide), out _ hz⟩
      · exact ⟨(by show 3 ≤ sizeLine; decide), out _ (by decide)⟩
    refine tif_int (b := decide ((i : Int) < ns.length)) (fun R r => ⟨_, rfl, _, rfl, c, _, rfl, .inl hS, _, _, rfl, rfl, _, rfl, by rw [List.length_map]; exact r⟩) (fun hb => ?_) (fun hb => ?_) (fun z => ?_)
    · have hlt : (i : Int) < ns.length := of_decide_eq_true hb
      have hlt' : i < ns.length := by omega
      exact ⟨ns[i], fun R r => ⟨_, rfl, _, rfl, c, _, _, _, rfl, rfl, hS, atI_nat (by rw [List.getElem?_map, List.getElem?_eq_getElem hlt']; rfl), r⟩⟩
    · exact ⟨_, fun R r => ⟨_, rfl, _, _, rfl, rfl, _, _, rfl, rfl, .inl ⟨by decide, by decide⟩, _, rfl, _, _, rfl, rfl, _, _, rfl, rfl, .inl ⟨by omega, by omega⟩, r⟩⟩
    · refine ⟨_, rfl, _, rfl, c, _, rfl, .inl hS, _, _, rfl, rfl, _, rfl, ?_⟩
      refine ite2 (fun _ => ?_) (fun _ => fin z _)
      refine ⟨_, rfl, c, rfl, ⟨_, hS⟩, for_list (K := K) (a := c) (xs := ns.map V.int) (fun j σ H' => H' = H ∧ ∃ (z : Int) (o : Option V), σ = [some (.ref c), some (.int i), some (.int z), o]) ⟨rfl, z, none, rfl⟩ (fun j σ H' _ h => by rw [h.1]; exact hS) ?_ ?_⟩
      · rintro j y σ H' hj ⟨rfl, z, o, rfl⟩
        obtain ⟨u, rfl⟩ : ∃ u, y = V.int u := by
          rw [List.getElem?_map] at hj
          cases e : ns[j]? with
          | none => rw [e] at hj; cases hj
          | some u => rw [e] at hj; exact ⟨u, (Option.some.inj hj).symm⟩
        exact ⟨_, rfl, _, _, rfl, rfl, .inr ⟨by decide, by decide⟩, _, rfl, _, _, rfl, rfl, .inl ⟨_, rfl, _, _, rfl, rfl, (by show (0 : Int) < 2147483629; decide), rfl, _, _, rfl⟩⟩
      · rintro σ H' ⟨rfl, z, o, rfl⟩
        exact fin z o

theorem ok_dip {f : Addr} {fd : FuncData} (F : Fun K "_law_dip" "_law_dip" s_dip f fd) (T : Blt mg) : FnOk P w K mg base CX0 1 f fd ["_law_well_here", "_law_many"] sp_dip := by
  refine F.ok sc_dip (fun vs H Q E h => ?_) (fun cdv A outer s H vs Q E hr h => ?_)
  · obtain ⟨_, _, _, rfl, _⟩ := h
    rfl
  · obtain ⟨a, m, n, rfl, ⟨x, y, z, e, hx, hy, hz⟩, hn, hm, hm2, k⟩ := h
    refine ⟨_, (pss_cons (ps_asg (pe_op op_add (pe_ix ix_list (pv 0) pe_int (fun _ _ => rfl)) pe_int) (pg_sub (pv 0) pe_int set_list))
      (pss_cons (ps_if (pt_cmpR op_gt (pe_ix ix_list (pv 0) pe_int (fun _ _ => rfl)) pe_int (nomark _)) (pss_cons (ps_asg (pe_callB call_divmodW (by rfl) T.b_divmod (by decide +kernel) (pa_cons (pe_ix ix_list (pv 0) pe_int (fun _ _ => rfl)) (pa_cons (pv 1) pa_nil))) (pg_tup (by rfl) (pgs_cons (pg_sub (pv 0) pe_int set_list) (pgs_cons (pg_name (i := 2) sc_dip.nd rfl (Or.inl rfl)) pgs_nil)))) (pss_one (ps_ret (pv 2)))) pss_nil)
      (pss_cons (ps_asg (pe_op op_mod (pe_callTy call_int1 (by rfl) T.b_int (by decide +kernel) (pa_cons (pe_op op_add (pe_op op_add (pe_op op_mul (pe_ix ix_list (pv 0) pe_int (fun _ _ => rfl)) pe_int) (pe_op op_mul (pe_op op_mul pe_int (pe_ix ix_list (pv 0) pe_int (fun _ _ => rfl))) (pe_ix ix_list (pv 0) pe_int (fun _ _ => rfl)))) pe_int) pa_nil)) pe_int) (pg_sub (pv 0) pe_int set_list))
      (pss_cons (ps_set (i := 3) sc_dip.nd rfl (Or.inl rfl) (pe_op op_mod (pe_callTy call_int1 (by rfl) T.b_int (by decide +kernel) (pa_cons (pe_op op_mul (pe_ix ix_list (pv 0) pe_int (fun _ _ => rfl)) (pe_op op_add (pe_op op_mod (pe_callTy call_int1 (by rfl) T.b_int (by decide +kernel) (pa_cons (pe_ix ix_list (pv 0) pe_int (fun _ _ => rfl)) pa_nil)) pe_int) pe_int)) pa_nil)) pe_int))
      (pss_one (ps_ret (pe_op op_mod (pe_callTy call_int1 (by rfl) T.b_int (by decide +kernel) (pa_cons (pe_op op_fdiv (pv 3) pe_int) pa_nil)) (pv 1)))))))), ?_⟩
    refine ⟨_, rfl, a, _, 2, _, rfl, rfl, SqL.of e, rfl, _, _, rfl, rfl, _, rfl, a, _, _, 2, rfl, rfl, e, rfl, ?_⟩
    refine ⟨_, rfl, a, _, 1, _, rfl, rfl, SqL.of upd_same, rfl, _, _, rfl, rfl, _, rfl, ?_⟩
    refine ite2 (fun hp => ?_) (fun _ => ?_)
    · refine ⟨_, rfl, a, _, 1, _, rfl, rfl, SqL.of upd_same, rfl, _, rfl, _, _, rfl, ⟨hm, ?_⟩, fun p np => ?_⟩
      · refine PyProof.noPylong_of_log2 ?_
        have q := PySem.Flt.log2_lt_of (n := m.natAbs) (k := 200) (by decide) (by omega)
        omega
      · have npa : a ≠ p := fun w => by rw [← w, upd_same] at np; cases np
        refine ⟨p, _, rfl, SqT.of upd_same, rfl, _, _, rfl, ⟨_, rfl, a, _, _, 1, rfl, rfl, Eq.trans (upd_ne npa) upd_same, rfl, _, _, rfl, ⟨rfl, _, rfl, ?_⟩⟩⟩
        refine k _ _ (Int.emod_nonneg _ (by omega)) (Int.emod_lt_of_pos _ hm) (fun b o hb eb => ?_) ⟨_, _, _, upd_same, hx, Int.ediv_nonneg hy (by omega), by omega, by omega⟩
        rw [upd_ne hb, upd_ne (ne_of_none (o := o) (by rw [upd_ne hb]; exact eb) np), upd_ne hb]
        exact eb
    · refine ⟨_, rfl, a, _, 0, _, rfl, rfl, SqL.of upd_same, rfl, _, _, rfl, rfl, .inr ⟨by decide, by decide⟩, _, rfl, a, _, 2, _, rfl, rfl, SqL.of upd_same, rfl, _, _, rfl, rfl, .inl ⟨by decide, by decide⟩, _, rfl, a, _, 2, _, rfl, rfl, SqL.of upd_same, rfl, _, _, rfl, rfl, .inl ⟨by omega, by omega⟩,
        _, _, rfl, rfl, _, _, rfl, rfl, .inl ⟨_, rfl, _, _, rfl, rfl, (by show (0 : Int) < 2147483629; decide), _, rfl, a, _, _, 0, rfl, rfl, upd_same, rfl, ?_⟩⟩
      refine ⟨_, rfl, a, _, 0, _, rfl, rfl, SqL.of upd_same, rfl, _, rfl, a, _, 0, _, rfl, rfl, SqL.of upd_same, rfl, .inl ⟨_, rfl, _, _, rfl, rfl, (by show (0 : Int) < 30011; decide), _, _, rfl, rfl, _, _, rfl, rfl, .inl ⟨?_, ?_⟩, .inl ⟨_, rfl, _, _, rfl, rfl, (by show (0 : Int) < 2147483587; decide), ?_⟩⟩⟩
      · omega
      · omega
      refine ⟨_, rfl, _, _, rfl, rfl, ⟨by decide, by decide⟩, .inl ⟨_, rfl, _, rfl, _, _, rfl, rfl, hm, ?_⟩⟩
      refine k _ _ (Int.emod_nonneg _ (by omega)) (Int.emod_lt_of_pos _ hm) (fun b o hb eb => by rw [upd_ne hb, upd_ne hb]; exact eb) ⟨_, _, _, upd_same, ⟨by omega, by omega⟩, hy, by omega, by omega⟩
end
section
variable {P : Program} {w : World} {K : PySem.W.Frag} {mg : Str → Option Value} {base : Heap}
def words : List Str := ["pipe", "meter", "sealed", "self", "net", "tell", "if", "a"]
theorem words_nm : ∀ x ∈ words, IsNm x := by
  have h : words.all (fun x => isNm (cd x)) = true := by decide +kernel
  exact fun x hx => List.all_eq_true.mp h x hx
theorem ok_name {f : Addr} {fd : FuncData} (F : Fun K "_law_name" "_law_name" s_name f fd) (T : Blt mg) (h_dip : Fn P w K mg base "_law_dip" 1 ["_law_well_here", "_law_many"] sp_dip) : FnOk P w K mg base CX0 2 f fd ["_law_well_here"] sp_name := by
  refine F.ok sc_name (fun vs H Q E h => ?_) (fun cdv A outer s H vs Q E hr h => ?_)
  · obtain ⟨_, _, rfl, _⟩ := h
    rfl
  · obtain ⟨a, n, rfl, wl, hn, k⟩ := h
    refine ⟨_, (pss_cons (ps_if (pt_cmpR op_eq (pe_fn h_dip (hr.mono (by decide)) (pa_cons (pv 0) (pa_cons pe_int pa_nil))) pe_int (nomark _)) (pss_one (ps_ret (pe_ix ix_list (pe_lst (pa_cons pe_str (pa_cons pe_str (pa_cons pe_str (pa_cons pe_str (pa_cons pe_str (pa_cons pe_str (pa_cons pe_str (pa_cons pe_str pa_nil))))))))) (pe_fn h_dip (hr.mono (by decide)) (pa_cons (pv 0) (pa_cons pe_int pa_nil))) (fun _ _ => rfl)))) pss_nil)
      (pss_cons (ps_set (i := 1) sc_name.nd rfl (Or.inl rfl) pe_str)
      (pss_cons (ps_set (i := 2) sc_name.nd rfl (Or.inl rfl) (pe_ix ix_str (pv 1) (pe_fn h_dip (hr.mono (by decide)) (pa_cons (pv 0) (pa_cons pe_int pa_nil))) (fun _ _ => rfl)))
      (pss_cons (ps_for PassesOwn.never rfl (pi_range1 rfl T.b_range (pa_cons (pe_fn h_dip (hr.mono (by decide)) (pa_cons (pv 0) (pa_cons pe_int pa_nil))) pa_nil)) (pg_name (i := 3) sc_name.nd rfl (Or.inl rfl)) (pss_one (ps_set (i := 2) sc_name.nd rfl (Or.inl rfl) (pe_op op_add_str (pv 2) (pe_ix ix_str (pv 1) (pe_fn h_dip (hr.mono (by decide)) (pa_cons (pv 0) (pa_cons pe_int pa_nil))) (fun _ _ => rfl))))))
      (pss_one (ps_ret (pv 2))))))), ?_⟩
    refine ⟨_, rfl, a, 6, n, rfl, wl, by omega, by decide, by decide, fun r H1 r0 r6 g1 w1 => ⟨rfl, _, rfl, ?_⟩⟩
    refine ite2 (fun _ => ?_) (fun _ => ?_)
    · refine ⟨(by show 8 ≤ sizeLine; decide), fun p np => ?_⟩
      refine ⟨_, rfl, a, 8, n + 1, rfl, w1.new np, by omega, by decide, by decide, fun r2 H2 r20 r28 g2 w2 => ?_⟩
      obtain ⟨x, hx, hnm, hm⟩ := at_of_list words_nm r20 r28
      have e2 : H2 p = some (.lst (words.map V.str)) := g2 p _ (w1.ne np).symm upd_same
      refine ⟨p, _, _, .str x, rfl, rfl, SqL.of e2, ?_, ?_⟩
      · unfold atI at hx ⊢
        rw [List.length_map]
        revert hx
        cases ixN words.length r2 with
        | none => intro hx; cases hx
        | some j =>
          intro hx
          show (words.map V.str)[j]? = _
          rw [List.getElem?_map, show words[j]? = some x from hx]
          rfl
      · exact k x H2 hnm ((g1.trans (Grow.new np)).trans g2) (w2.mono (by omega))
    · refine ⟨_, rfl, _, rfl, a, 26, n + 1, rfl, w1, by omega, by decide, by decide, fun r2 H2 r20 r26 g2 w2 => ?_⟩
      obtain ⟨c, hc, lc⟩ := at_low r20 r26
      refine ⟨signs, _, c, rfl, rfl, by decide, hc, ?_⟩
      refine ⟨_, rfl, a, 8, n + 2, rfl, w2, by omega, by decide, by decide, fun m H3 m0 m8 g3 w3 => ?_⟩
      obtain ⟨mn, rfl⟩ := Int.eq_ofNat_of_zero_le m0
      have hm8 : mn < 8 := by omega
      refine ⟨_, rfl, by omega, by omega, for_range (lo := 0) (n := mn) (fun i σ H' => ∃ (x : Str) (o : Option V), σ = [some (.ref a), some (.str signs), some (.str x), o] ∧ isNm (cd x) = true ∧ (cd x).length = i + 1 ∧ Grow a H H' ∧ WellAt H' a (n + 3 + i))
        ⟨⟨#[c]⟩, none, rfl, isNm_iff.mpr ⟨c, [], rfl, lc, rfl, by decide⟩, rfl, (g1.trans g2).trans g3, w3⟩ ?_ ?_⟩
      · rintro i σ H4 hi ⟨x, o, rfl, hx, hl, g4, w4⟩
        refine ⟨_, rfl, _, rfl, _, rfl, a, 36, n + 3 + i, rfl, w4, by omega, by decide, by decide, fun r5 H5 r50 r536 g5 w5 => ?_⟩
        obtain ⟨c5, hc5, lc5⟩ := at_tail r50 r536
        refine ⟨signs, _, c5, rfl, rfl, by decide, hc5, ?_⟩
        refine ⟨_, _, rfl, rfl, ?_, ?_⟩
        · have e1 : x.length = i + 1 := by rw [cd_len]; exact hl
          have e2 : Str.length ⟨#[c5]⟩ = 1 := rfl
          rw [e1, e2]
          exact Nat.le_trans (show i + 1 + 1 ≤ 20 by omega) (by decide)
        · refine ⟨x ++ ⟨#[c5]⟩, _, rfl, ?_, ?_, g4.trans g5, w5⟩
          · rw [cd_app, cd_one]
            exact isNm_snoc hx (by omega) lc5
          · rw [cd_app, cd_one, List.length_append, hl]
            rfl
      · rintro σ H4 ⟨x, o, rfl, hx, hl, g4, w4⟩
        exact ⟨_, rfl, k x H4 hx g4 (w4.mono (by omega))⟩
end
section
variable {P : Program} {w : World} {K : PySem.W.Frag} {mg : Str → Option Value} {base : Heap}
end
end RV
namespace RV
open PySem L2
section
variable {P : Program} {w : World} {K : PySem.W.Frag} {mg : Str → Option Value} {base : Heap}
theorem ok_is_name {f : Addr} {fd : FuncData} (F : Fun K "is_name" "is_name" s_is_name f fd) (T : Blt mg) (C : Cst mg) : FnOk P w K mg base CX0 1 f fd ["value"] (sp_is_name K) := by
  refine F.ok sc_is_name (fun vs H Q E h => ?_) (fun cdv A outer s H vs Q E hr h => ?_)
  · obtain ⟨_, rfl, _⟩ := h
    rfl
  · obtain ⟨v, rfl, k⟩ := h
    refine ⟨_, (pss_cons (ps_if (PW.pt (pw_or (pt_not (pt_val (pe_callB call_isi (by rfl) T.b_isinstance (by decide +kernel) (pa_cons (pv 0) (pa_cons (pe_bltn (v := .ty "str") (by rfl) T.b_str (by decide +kernel) rfl) pa_nil))))) (pw_or1 (pt_not (pt_chain op_le op_le pe_int (pe_callB call_len_str (by rfl) T.b_len (by decide +kernel) (pa_cons (pv 0) pa_nil)) (pe_gI C.c__LONGEST_NAME)))))) (pss_one (ps_ret pe_bl)) pss_nil)
      (pss_one (ps_ret (pe_and (pe_cmpR op_in_sign (pe_ix ix_str (pv 0) pe_int (fun _ _ => rfl)) (pe_gS C.c__LETTERS) (by rfl)) (pe_one (pe_callB (cr_all rfl) (by rfl) T.b_all (by decide +kernel) (pa_cons (pe_lc (own := [("letter", 1)]) (g := gName 1) (tt := tYes) rfl sc_is_name.nd (pi_str (pv 0)) (blkOk_by (N := sc_is_name_N) (sc := defScope s_is_name) (by decide +kernel)) (fun _ _ _ _ _ => pg_name (i := 1) sc_is_name.nd rfl (Or.inl rfl)) (fun _ _ _ _ _ => pts_nil) (fun _ _ _ _ _ => (pe_cmpR op_in_sign (pv 1) (pe_op op_add_str (pe_gS C.c__LETTERS) (pe_gS C.c__DIGITS)) (by rfl)))) pa_nil))))))), ?_⟩
    rcases k with ⟨x, rfl, hx, k⟩ | ⟨t, ty, kt, k⟩
    · refine ⟨_, rfl, _, _, .type "str", .type "str", true, rfl, .ty _, .base (.str x), kit_ty (by decide +kernel), true, rfl, ?_⟩
      refine iteF ⟨_, rfl, _, rfl, hx, _, _, rfl, rfl, _, rfl, ?_⟩
      have out : isNm (cd x) = false → Q (.bl false) H := fun e => e ▸ k H (Same.refl H)
      refine ite2 (fun h1 => ?_) (fun h1 => ?_)
      · refine ⟨_, _, rfl, rfl, _, rfl, ?_⟩
        have h1' := of_decide_eq_true h1
        cases e8 : decide ((x.length : Int) ≤ 8) with
        | false =>
          refine out ?_
          cases q : isNm (cd x) with
          | false => rfl
          | true =>
            have := isNm_len q
            rw [← cd_len] at this
            have h8 := of_decide_eq_false e8
            omega
        | true =>
          have h8 := of_decide_eq_true e8
          obtain ⟨c, r, ec⟩ : ∃ c r, cd x = c :: r := by
            cases e : cd x with
            | nil =>
              rw [cd_len, e] at h1'
              simp at h1'
            | cons c r => exact ⟨c, r, rfl⟩
          have hr7 : r.length ≤ 7 := by
            rw [cd_len, ec, List.length_cons] at h8
            omega
          refine ⟨_, rfl, x, _, c, rfl, rfl, hx, atI_nat (j := 0) (by show (cd x)[0]? = some c; rw [ec]; rfl), c, _, rfl, rfl, _, rfl, ?_⟩
          have el : decide (c ∈ cd "abcdefghijklmnopqrstuvwxyz") = lowC c := low_in c
          refine ite2 (fun hl => ?_) (fun hl => ?_)
          · have hl' : lowC c = true := el.symm.trans hl
            refine ⟨_, rfl, x, rfl, fun D nD => lc_str (z := x) (fun i H' => Same H H' ∧ H' D = some (.lst ((((cd x).take i).map tailC).map V.bl))) ⟨fun b o e => by rw [upd_ne (ne_of_none e nD)]; exact e, upd_same⟩ ?_ ?_⟩
            · rintro i d H6 hi ⟨s6, h6⟩
              refine ⟨rfl, _, rfl, _, _, rfl, rfl, by decide, d, _, rfl, rfl, _, h6, ?_, ?_⟩
              · rw [List.length_map, List.length_map, List.length_take, ← cd_len]
                exact Nat.lt_of_lt_of_le (show _ < 1000 by omega) (by decide)
              · refine ⟨fun b o e => by rw [upd_ne (ne_of_none e nD)]; exact s6 b o e, ?_⟩
                rw [upd_same]
                obtain ⟨hl6, e'⟩ := List.getElem?_eq_some_iff.mp hi
                rw [List.take_succ_eq_append_getElem hl6, e', List.map_append, List.map_append]
                show some (HO.lst (_ ++ [V.bl (decide (d ∈ cd (("abcdefghijklmnopqrstuvwxyz" : Str) ++ ("0123456789" : Str))))])) = _
                rw [tail_in]
                rfl
            · rintro H6 ⟨s6, h6⟩
              rw [List.take_of_length_le (Nat.le_refl _)] at h6
              refine ⟨D, _, rfl, SqL.of h6, ?_⟩
              have e : isNm (cd x) = ((cd x).map tailC).all id := by
                rw [ec]
                show (lowC c && r.all tailC && decide (r.length ≤ 7)) = (tailC c && (r.map tailC).all id)
                rw [hl', tail_of_low hl', decide_eq_true hr7, List.all_map]
                simp
              have := k H6 s6
              rwa [e] at this
          · refine out ?_
            have hl' : lowC c = false := by
              rw [← el]
              exact Bool.eq_false_iff.mpr hl
            rw [ec]
            simp [isNm, hl']
      · refine ⟨_, rfl, ?_⟩
        refine out ?_
        cases q : isNm (cd x) with
        | false => rfl
        | true =>
          have := isNm_len q
          rw [← cd_len] at this
          exact absurd (decide_eq_true (by omega)) h1
    · refine ⟨_, rfl, _, _, t, .type "str", false, rfl, .ty _, ty, kt, false, rfl, ?_⟩
      exact iteT (iteT k)
end
end RV
namespace RV
open PySem L2
section
variable {P : Program} {w : World} {K : PySem.W.Frag} {mg : Str → Option Value} {base : Heap}
theorem ok_is_number {f : Addr} {fd : FuncData} (F : Fun K "is_number" "is_number" s_is_number f fd) (T : Blt mg) (T2 : Blt2 mg) : FnOk P w K mg base CX0 1 f fd ["value"] (sp_is_number K) := by
  refine F.ok sc_is_number (fun vs H Q E h => ?_) (fun cdv A outer s H vs Q E hr h => ?_)
  · obtain ⟨_, rfl, _⟩ := h
    rfl
  · obtain ⟨v, rfl, k⟩ := h
    refine ⟨_, (pss_one (ps_ret (pe_and (pe_callB call_isi (by rfl) T.b_isinstance (by decide +kernel) (pa_cons (pv 0) (pa_cons (pe_bltn (v := .ty "int") (by rfl) T.b_int (by decide +kernel) rfl) pa_nil))) (pe_one (pe_not (pe_callB call_isi (by rfl) T.b_isinstance (by decide +kernel) (pa_cons (pv 0) (pa_cons (pe_bltn (v := .ty "bool") (by rfl) T2.b_bool (by decide +kernel) rfl) pa_nil)))))))), ?_⟩
    rcases k with ⟨z, rfl, k⟩ | ⟨b, rfl, k⟩ | ⟨t, ty, kt, k⟩
    · refine ⟨_, rfl, _, _, .type "int", .type "int", true, rfl, .ty _, .base (.int z), kit_ty (by decide +kernel), true, rfl, ?_⟩
      exact iteT ⟨_, rfl, _, _, .type "int", .type "bool", false, rfl, .ty _, .base (.int z), kit_ty (by decide +kernel), false, rfl, k⟩
    · refine ⟨_, rfl, _, _, .type "bool", .type "int", true, rfl, .ty _, .base (.bl b), kit_ty (by decide +kernel), true, rfl, ?_⟩
      exact iteT ⟨_, rfl, _, _, .type "bool", .type "bool", true, rfl, .ty _, .base (.bl b), kit_ty (by decide +kernel), true, rfl, k⟩
    · refine ⟨_, rfl, _, _, t, .type "int", false, rfl, .ty _, ty, kt, false, rfl, ?_⟩
      exact iteF k
theorem ok_is_term {f : Addr} {fd : FuncData} (F : Fun K "_is_term" "_is_term" s_is_term f fd) (T : Blt mg) (T2 : Blt2 mg) (h_is_name : Fn P w K mg base "is_name" 1 ["value"] (Irr (sp_is_name K))) (h_is_number : Fn P w K mg base "is_number" 1 ["value"] (Irr (sp_is_number K))) : FnOk P w K mg base CX0 2 f fd ["value"] (sp_is_term K) := by
  refine F.ok sc_is_term (fun vs H Q E h => ?_) (fun cdv A outer s H vs Q E hr h => ?_)
  · obtain ⟨_, _, _, rfl, _⟩ := h
    rfl
  · obtain ⟨t, x, z, rfl, ht, hx, k⟩ := h
    refine ⟨_, (pss_one (ps_ret (pe_and (pe_callB call_isi (by rfl) T.b_isinstance (by decide +kernel) (pa_cons (pv 0) (pa_cons (pe_bltn (v := .ty "tuple") (by rfl) T2.b_tuple (by decide +kernel) rfl) pa_nil))) (pe_and (pe_cmpR op_eq (pe_callB call_len_seq (by rfl) T.b_len (by decide +kernel) (pa_cons (pv 0) pa_nil)) pe_int (nomark _)) (pe_and (pe_fn h_is_name (hr.mono (by decide)) (pa_cons (pe_ix ix_tup (pv 0) pe_int (fun _ _ => rfl)) pa_nil)) (pe_one (pe_fn h_is_number (hr.mono (by decide)) (pa_cons (pe_ix ix_tup (pv 0) pe_int (fun _ _ => rfl)) pa_nil)))))))), ?_⟩
    refine ⟨_, rfl, _, _, .type "tuple", .type "tuple", true, rfl, .ty _, tyx_tup ht, kit_ty (by decide +kernel), true, rfl, iteT ?_⟩
    refine ⟨_, rfl, t, _, rfl, .inr ht, rfl, _, rfl, ?_⟩
    have hxl : x.length ≤ sizeLine := by rw [cd_len]; exact Nat.le_trans (isNm_len hx).2 (by decide)
    refine iteT ⟨_, rfl, t, _, 0, .str x, rfl, rfl, ht, rfl, irr ⟨_, rfl, .inl ⟨x, rfl, hxl, fun H1 s1 => ⟨true, by rw [show isNm (cd x) = true from hx], ?_⟩⟩⟩⟩
    refine iteT ⟨_, rfl, t, _, 1, .int z, rfl, rfl, ht.ext s1, rfl, irr ⟨_, rfl, .inl ⟨z, rfl, k H1 s1⟩⟩⟩
theorem ok_check_terms {f : Addr} {fd : FuncData} (F : Fun K "_check_terms" "_check_terms" s_check_terms f fd) (T : Blt mg) (T2 : Blt2 mg) (h_is_term : Fn P w K mg base "_is_term" 2 ["value"] (Irr (sp_is_term K))) : FnOk P w K mg base CX0 3 f fd ["terms"] (sp_check_terms K) := by
  refine F.ok sc_check_terms (fun vs H Q E h => ?_) (fun cdv A outer s H vs Q E hr h => ?_)
  · obtain ⟨_, _, rfl, _⟩ := h
    rfl
  · obtain ⟨t, us, rfl, hl, ht, hx, hn, k⟩ := h
    refine ⟨_, (pss_cons (ps_if (pt_not (pt_val (pe_callB call_isi (by rfl) T.b_isinstance (by decide +kernel) (pa_cons (pv 0) (pa_cons (pe_bltn (v := .ty "tuple") (by rfl) T2.b_tuple (by decide +kernel) rfl) pa_nil))))) (pss_one ps_never) pss_nil)
      (pss_one (ps_for PassesOwn.never rfl (pi_enumT (by rfl) T2.b_enumerate (pa_cons (pv 0) pa_nil)) (pg_tup (by rfl) (pgs_cons (pg_name (i := 1) sc_check_terms.nd rfl (Or.inl rfl)) (pgs_cons (pg_name (i := 2) sc_check_terms.nd rfl (Or.inl rfl)) pgs_nil))) (pss_one (ps_if (pt_not (pt_val (pe_fn h_is_term (hr.mono (by decide)) (pa_cons (pv 2) pa_nil)))) (pss_one ps_never) pss_nil))))), ?_⟩
    refine ⟨_, rfl, _, _, .type "tuple", .type "tuple", true, rfl, .ty _, tyx_tup hl, kit_ty (by decide +kernel), true, rfl, iteF ?_⟩
    refine ⟨_, rfl, t, _, rfl, hl, for_enumT (xs := vP us) (fun i σ H' => ∃ o1 o2, σ = [some (.ref t), o1, o2] ∧ Same H H') ⟨none, none, rfl, fun _ _ e => e⟩ ?_ ?_ ?_⟩
    · rintro i σ H1 _ ⟨_, _, _, s1⟩
      exact hl.ext s1
    · rintro i x σ H1 T hx' ⟨o1, o2, rfl, s1⟩ nT
      rw [vP, List.getElem?_map] at hx'
      cases hu : us[i]? with
      | none => rw [hu] at hx'; cases hx'
      | some u =>
        rw [hu] at hx'
        obtain rfl : V.ref u.1 = x := Option.some.inj hx'
        have hm := List.mem_of_getElem? hu
        have s2 : Same H (upd H1 T (.tup [.int (i : Nat), .ref u.1])) := fun b o e => by
          rw [upd_ne (ne_of_none (s1 b o e) nT)]
          exact s1 b o e
        refine ⟨T, _, rfl, SqT.of upd_same, rfl, _, _, rfl, _, _, rfl, rfl, ?_⟩
        refine ⟨_, rfl, irr ⟨u.1, u.2.1, u.2.2, rfl, (ht u hm).ext s2, hx u.2 (List.mem_map.mpr ⟨u, hm, rfl⟩), fun H2 s3 => ⟨true, rfl, ?_⟩⟩⟩
        exact iteF ⟨_, _, rfl, fun b o e => s3 b o (s2 b o e)⟩
    · rintro σ H1 ⟨_, _, _, s1⟩
      exact k H1 s1
end
end RV
namespace RV
open PySem L2
section
variable {P : Program} {w : World} {K : PySem.W.Frag} {mg : Str → Option Value} {base : Heap}
theorem ok_collected {f : Addr} {fd : FuncData} (F : Fun K "_collected" "_collected" s_collected f fd) (T2 : Blt2 mg) : FnOk P w K mg base CX0 1 f fd ["terms"] (sp_collected K) := by
  refine F.ok sc_collected (fun vs H Q E h => ?_) (fun cdv A outer s H vs Q E hr h => ?_)
  · obtain ⟨_, _, rfl, _⟩ := h
    rfl
  · obtain ⟨t, us, rfl, hl, ht, hn, k⟩ := h
    have hu : (A.deeper (PyProof.Rows.envOfC "_collected" (defScope s_collected) s.heap.objs.size f cdv)).units + 1 < cLine := by have := hr.units; omega
    refine ⟨_, (pss_cons (ps_set (i := 1) sc_collected.nd rfl (Or.inr rfl) pe_dnewK)
      (pss_cons (ps_for PassesOwn.never rfl (pi_tup (pv 0)) (pg_tup (by rfl) (pgs_cons (pg_name (i := 2) sc_collected.nd rfl (Or.inl rfl)) (pgs_cons (pg_name (i := 3) sc_collected.nd rfl (Or.inl rfl)) pgs_nil))) (pss_one (ps_dput hu (pv 1) (pv 2) (pe_op op_add (pe_dget2 hu (pv 1) (pv 2) pe_int ⟨by rfl, by rfl, by rfl, by rfl⟩) (pv 3)) (by rfl))))
      (pss_one (ps_ret (pe_callTy call_tuple_of (by rfl) T2.b_tuple (by decide +kernel) (pa_cons (pe_lc (own := [("name", 2)]) (g := gName 2) rfl sc_collected.nd (pi_list (pe_callB (call_sortedD rfl) (by rfl) T2.b_sorted (by decide +kernel) (pa_cons (pv 1) pa_nil))) (blkOk_by (N := sc_collected_N) (sc := defScope s_collected) (by decide +kernel)) (fun _ _ _ _ _ => pg_name (i := 2) sc_collected.nd rfl (Or.inl rfl)) (fun _ _ _ _ _ => pts_one (pt_cmpR op_ne (pe_dget hu (pv 1) (pv 2) (fun _ _ => rfl)) pe_int (nomark _))) (fun _ _ _ _ _ => (pe_tup (pa_cons (pv 2) (pa_cons (pe_dget hu (pv 1) (pv 2) (fun _ _ => rfl)) pa_nil))))) pa_nil)))))), ?_⟩
    intro dl d0
    have h1 := (Kp.start H).new (o := .dK []) d0
    refine ⟨_, rfl, t, rfl, ⟨_, hl.ext h1.sm⟩, for_tup (xs := vP us) (fun i σ H' => ∃ kvs ks o2 o3, σ = [some (.ref t), some (.ref dl), o2, o3] ∧ Dct kvs ((prs us).take i) ks ∧ Kp H [(dl, .dK kvs)] H') ⟨[], [], none, none, rfl, Dct.nil, h1⟩ ?_ ?_ ?_⟩
    · rintro i σ H1 _ ⟨_, _, _, _, _, _, h2⟩
      exact hl.ext h2.sm
    · rintro i x σ H1 hx' ⟨kvs, ks, o2, o3, rfl, hD, h2⟩
      rw [vP, List.getElem?_map] at hx'
      cases hu' : us[i]? with
      | none => rw [hu'] at hx'; cases hx'
      | some u =>
        rw [hu'] at hx'
        obtain rfl : V.ref u.1 = x := Option.some.inj hx'
        have hm := List.mem_of_getElem? hu'
        have et : (prs us).take (i + 1) = (prs us).take i ++ [u.2] := by
          rw [List.take_add_one, prs, List.getElem?_map, hu']
          rfl
        have hat := h2.at (p := dl) (o := .dK kvs) List.mem_cons_self
        refine ⟨u.1, _, rfl, (ht u hm).ext h2.sm, rfl, _, _, rfl, _, _, rfl, rfl, ?_⟩
        refine ⟨_, rfl, dl, rfl, .inl ⟨_, .inl hat⟩, _, rfl, _, DGet.k (k := Sum.inr u.2.1) hat, _, rfl, _, _, hD.get u.2.1, rfl, ?_⟩
        obtain ⟨ks', hD'⟩ := hD.put u.2.1 u.2.2
        refine ⟨_, rfl, _, rfl, dl, _, rfl, DPut.k (k := Sum.inr u.2.1) hat ?_, putK kvs (.inr u.2.1) (.int (co ((prs us).take i) u.2.1 + u.2.2)), ks', _, _, rfl, ?_, h2.reset fun q hq => nomatch hq⟩
        · have e := congrArg List.length hD.keys
          rw [List.length_map, List.length_map] at e
          have e2 := hD.ln
          rw [List.length_take] at e2
          rw [e]
          exact Nat.lt_of_le_of_lt (show ks.length ≤ 120 by have := hn.1; rw [prs_len] at e2 this; omega) (by decide)
        · rw [et]
          exact hD'
    · rintro σ H1 ⟨kvs, ks, o2, o3, rfl, hD, h2⟩
      rw [vP_len, ← prs_len, List.take_length] at hD
      have hln : ks.length ≤ us.length := by rw [← prs_len]; exact hD.ln
      have hat := h2.at (p := dl) (o := .dK kvs) List.mem_cons_self
      have h60 : ks.length ≤ 60 := by
        obtain ⟨_, pool, h2, h3⟩ := hn
        refine Nat.le_trans (nodup_len hD.nd fun y hy => ?_) h2
        obtain ⟨q, hq, e⟩ := List.mem_map.mp ((hD.mem y).mp hy)
        exact e ▸ h3 q hq
      refine ⟨_, rfl, dl, kvs, ks, rfl, .inl hat, hD.keys, by omega, fun xs xl pm sx nxl => ?_⟩
      have nx : xs.Nodup := pm.nodup_iff.mpr hD.nd
      have hx : ∀ y, y ∈ xs ↔ y ∈ (prs us).map fun q => q.1 := fun y => pm.mem_iff.trans (hD.mem y)
      have asc := asc_of sx nx
      have lxu : xs.length ≤ us.length := by rw [pm.length_eq]; exact hln
      have h3 := h2.new (o := .lst (xs.map V.str)) nxl
      refine ⟨xl, rfl, ⟨_, SqL.of upd_same⟩, fun D nD => ?_⟩
      have h4 := h3.new (o := .lst []) nD
      have nDd : D ≠ dl := (ne_of_none (h3.at (p := dl) (o := .dK kvs) (List.mem_cons_of_mem _ List.mem_cons_self)) nD).symm
      have nDx : D ≠ xl := (ne_of_none (h3.at (p := xl) (o := .lst (xs.map V.str)) List.mem_cons_self) nD).symm
      refine lc_list (xs := xs.map V.str) (fun i H' => ∃ (ds : List TP), prs ds = ((xs.take i).map fun x => (x, co (prs us) x)).filter (fun q => !decide (q.2 = 0)) ∧ Kp H ((D, .lst (vP ds)) :: (xl, .lst (xs.map V.str)) :: (dl, .dK kvs) :: lP ds) H') ⟨[], rfl, h4⟩ ?_ ?_ ?_
      · rintro i H5 _ ⟨ds, _, h5⟩
        exact SqL.of (h5.at (List.mem_cons_of_mem _ List.mem_cons_self))
      · rintro i x H5 hxi ⟨ds, hds, h5⟩
        obtain ⟨y, hy, rfl⟩ : ∃ y, xs[i]? = some y ∧ x = V.str y := by
          rw [List.getElem?_map] at hxi
          cases e : xs[i]? with
          | none => rw [e] at hxi; cases hxi
          | some y => rw [e] at hxi; exact ⟨y, rfl, (Option.some.inj hxi).symm⟩
        have et : xs.take (i + 1) = xs.take i ++ [y] := by rw [List.take_add_one, hy]; rfl
        have lds : ds.length ≤ i := by
          rw [← prs_len, hds]
          refine Nat.le_trans (List.length_filter_le _ _) ?_
          rw [List.length_map]
          exact List.length_take_le i xs
        have li := (List.getElem?_eq_some_iff.mp hy).1
        have hv : valV kvs (.inr y) = some (.int (co (prs us) y)) := by
          rw [hD.val, if_pos (pm.mem_iff.mp (List.mem_of_getElem? hy))]
        have dat := h5.at (p := dl) (o := .dK kvs) (List.mem_cons_of_mem _ (List.mem_cons_of_mem _ List.mem_cons_self))
        have e3 : ∀ b, (!decide (co (prs us) y = 0)) = b → ((xs.take (i + 1)).map fun x => (x, co (prs us) x)).filter (fun q => !decide (q.2 = 0)) = prs ds ++ if b = true then [(y, co (prs us) y)] else [] := fun b hb => by
          rw [et, List.map_append, List.filter_append, ← hds]
          cases b <;> simp [List.filter_cons, hb]
        have dg : ∀ H', H' dl = some (.dK kvs) → DGet H' dl (.str y) (some (.int (co (prs us) y))) := fun H' e => hv ▸ DGet.k (k := Sum.inr y) e
        refine ⟨rfl, _, rfl, _, rfl, dl, _, rfl, dg _ dat, rfl, _, rfl, ?_⟩
        have dz : (!decide (V.int (co (prs us) y) = V.int 0)) = !decide (co (prs us) y = 0) := by simp
        rw [dz]
        refine ite2 (fun hz => ?_) (fun hz => ?_)
        · refine ⟨_, rfl, _, rfl, _, rfl, dl, _, rfl, dg _ dat, (by show 2 ≤ sizeLine; decide), fun T nT => ?_⟩
          have h7 := (h5.new (o := oP (y, co (prs us) y)) nT).sub (L' := (D, HO.lst (vP ds)) :: (xl, .lst (xs.map V.str)) :: (dl, .dK kvs) :: lP (ds ++ [(T, y, co (prs us) y)])) fun q hq => by
            rw [lP_app] at hq
            simp only [List.mem_cons, List.mem_append, lP, List.map_cons, List.map_nil, List.not_mem_nil, or_false] at hq ⊢
            rcases hq with q | q | q | q | q
            · exact .inr (.inl q)
            · exact .inr (.inr (.inl q))
            · exact .inr (.inr (.inr (.inl q)))
            · exact .inr (.inr (.inr (.inr q)))
            · exact .inl q
          refine ⟨_, h7.at List.mem_cons_self, ?_, ds ++ [(T, y, co (prs us) y)], ?_, ?_⟩
          · rw [vP_len]
            exact Nat.lt_of_le_of_lt (show ds.length ≤ 121 by have := hn.1; rw [prs_len] at this; omega) (by decide)
          · rw [prs_app, e3 true hz]
            rfl
          · rw [vP_app]
            refine h7.reset fun q hq => ?_
            rcases List.mem_cons.mp hq with rfl | hq'
            · exact nDx.symm
            rcases List.mem_cons.mp hq' with rfl | hq''
            · exact nDd.symm
            · obtain ⟨u, hu, rfl⟩ := List.mem_map.mp hq''
              exact h7.apart (List.mem_cons_of_mem _ hq) List.mem_cons_self (fun e => nomatch e)
        · refine ⟨ds, ?_, h5⟩
          rw [e3 false (Bool.eq_false_iff.mpr hz)]
          simp
      · rintro H5 ⟨ds, hds, h5⟩
        rw [List.length_map, List.take_length] at hds
        refine ⟨D, _, rfl, .inl ⟨SqL.of (h5.at List.mem_cons_self), fun m nm => ?_⟩⟩
        refine k ds m _ ?_ ?_ ?_ ?_ ((h5.new (o := .tup (vP ds)) nm).sub fun p hp => ?_)
        · rw [hds]; exact nrm_of asc
        · intro x
          rw [hds]
          exact nrm_co asc (fun y hy => co_none fun q hq e => hy ((hx y).2 (List.mem_map.mpr ⟨q, hq, e⟩))) x
        · intro q hq
          rw [hds] at hq
          obtain ⟨y, hy, rfl⟩ := List.mem_map.mp (List.mem_filter.mp hq).1
          exact (hx y).1 hy
        · rw [← prs_len, hds]
          refine Nat.le_trans (List.length_filter_le _ _) ?_
          rw [List.length_map]
          exact lxu
        · rcases List.mem_cons.mp hp with e | e
          · exact e ▸ List.mem_cons_self
          · exact List.mem_cons_of_mem _ (List.mem_cons_of_mem _ (List.mem_cons_of_mem _ (List.mem_cons_of_mem _ e)))
end
end RV
namespace RV
open PySem L2
section
variable {P : Program} {w : World} {K : PySem.W.Frag} {mg : Str → Option Value} {base : Heap} {C : Addr}
theorem ok_Sum_i {f : Addr} {fd : FuncData} {pds : List V} {kws : List (Str × V)} (F : FunD K "__init__" "Sum.__init__" (defArgs s_Sum___init__) (defBody s_Sum___init__) (defScope s_Sum___init__) pds kws f fd) (T : SClass K mg C) (h_check_terms : Fn P w K mg base "_check_terms" 3 ["terms"] (Irr (sp_check_terms K))) (h_collected : Fn P w K mg base "_collected" 1 ["terms"] (Irr (sp_collected K))) : FnOk P w K mg base CX0 4 f fd ["self", "terms"] (sp_Sum K C) := by
  refine F.ok sc_Sum___init__ (fun vs H Q E h => ?_) (fun cdv A outer s H vs Q E hr h => ?_)
  · obtain ⟨_, _, _, _, rfl, _⟩ := h
    rfl
  · obtain ⟨x, dx, t, us, rfl, hx, ht, k⟩ := h
    refine ⟨_, (pss_cons (ps_expr (pe_fn h_check_terms (hr.mono (by decide)) (pa_cons (pv 1) pa_nil)))
      (pss_one (ps_fld (pv 0) (pe_fn h_collected (hr.mono (by decide)) (pa_cons (pv 1) pa_nil)) rfl))), ?_⟩
    refine ⟨_, rfl, irr ⟨t, us, rfl, ht.tp, ht.ps, ht.nm, by rw [← prs_len]; exact ht.ln.1, fun H1 s1 => ?_⟩⟩
    refine ⟨_, rfl, irr ⟨t, us, rfl, ht.tp.ext s1, ht.ps.ext s1, ht.ln, fun ds m H2 n1 n2 n3 n4 kp => ?_⟩⟩
    have hx2 := kp.sm _ _ (s1 _ _ hx)
    refine ⟨_, rfl, x, C, dx, _, rfl, hx2, T.x.cl, T.n1, (by show 0 < 1000; decide), ?_⟩
    refine k ds m dx _ ⟨n1, n2, n3, by rw [prs_len, prs_len]; exact n4⟩ (fun b o hb e => by rw [upd_ne hb]; exact kp.sm _ _ (s1 _ _ e)) (fun p hp => ?_) fun p hp => ?_
    · cases e : H p.1 with
      | none => rfl
      | some o =>
        have := s1 _ _ e
        rw [(kp.nw p hp).1] at this
        cases this
    · rcases List.mem_cons.mp hp with rfl | hp
      · exact upd_same
      · have hne : p.1 ≠ x := (ne_of_none (s1 _ _ hx) (kp.nw p hp).1).symm
        rw [upd_ne hne]
        exact (kp.nw p hp).2
theorem ok_Sum_l {f : Addr} {fd : FuncData} (F : Fun K "__len__" "Sum.__len__" s_Sum___len__ f fd) (T : SClass K mg C) (B : Blt mg) : FnOk P w K mg base CX0 1 f fd ["self"] (sp_len C) := by
  refine F.ok sc_Sum___len__ (fun vs H Q E h => ?_) (fun cdv A outer s H vs Q E hr h => ?_)
  · obtain ⟨_, _, rfl, _⟩ := h
    rfl
  · obtain ⟨a, qs, rfl, ⟨dx, t, us, rfl, hs⟩, k⟩ := h
    refine ⟨_, (pss_one (ps_ret (pe_callB call_len_seq (by rfl) B.b_len (by decide +kernel) (pa_cons (pe_fld (pv 0) rfl) pa_nil)))), ?_⟩
    refine ⟨_, rfl, a, C, dx, _, _, rfl, hs _ List.mem_cons_self, T.x.cl, T.n1, rfl, t, _, rfl, .inr (SqT.of (hs _ (List.mem_cons_of_mem _ List.mem_cons_self))), ?_⟩
    rw [vP_len, ← prs_len]
    exact k
theorem ok_Sum_b {f : Addr} {fd : FuncData} (F : Fun K "__bool__" "Sum.__bool__" s_Sum___bool__ f fd) : FnOk P w K mg base CX0 1 f fd ["self"] sp_yes := by
  refine F.ok sc_Sum___bool__ (fun vs H Q E h => ?_) (fun cdv A outer s H vs Q E hr h => ?_)
  · obtain ⟨_, rfl, _⟩ := h
    rfl
  · obtain ⟨a, rfl, k⟩ := h
    refine ⟨_, (pss_one (ps_ret pe_bl)), ?_⟩
    exact k
theorem ok_Sum_t {f : Addr} {fd : FuncData} (F : Fun K "terms" "Sum.terms" s_Sum_terms f fd) (T : SClass K mg C) : FnOk P w K mg base CX0 1 f fd ["self"] (sp_terms C) := by
  refine F.ok sc_Sum_terms (fun vs H Q E h => ?_) (fun cdv A outer s H vs Q E hr h => ?_)
  · obtain ⟨_, _, _, _, rfl, _⟩ := h
    rfl
  · obtain ⟨a, dx, t, us, rfl, hs, k⟩ := h
    refine ⟨_, (pss_one (ps_ret (pe_fld (pv 0) rfl))), ?_⟩
    exact ⟨_, rfl, a, C, dx, _, _, rfl, hs _ List.mem_cons_self, T.x.cl, T.n1, rfl, k⟩
theorem ok_Sum_g {f : Addr} {fd : FuncData} (F : Fun K "__getitem__" "Sum.__getitem__" s_Sum___getitem__ f fd) (T : SClass K mg C) (h_is_name : Fn P w K mg base "is_name" 1 ["value"] (Irr (sp_is_name K))) : FnOk P w K mg base CX0 2 f fd ["self", "at"] (sp_get C) := by
  refine F.ok sc_Sum___getitem__ (fun vs H Q E h => ?_) (fun cdv A outer s H vs Q E hr h => ?_)
  · obtain ⟨_, _, _, rfl, _⟩ := h
    rfl
  · obtain ⟨a, x, qs, rfl, hx, ⟨dx, t, us, rfl, hs⟩, hn, k⟩ := h
    refine ⟨_, (pss_cons (ps_if (pt_not (pt_val (pe_fn h_is_name (hr.mono (by decide)) (pa_cons (pv 1) pa_nil)))) (pss_one ps_never) pss_nil)
      (pss_cons (ps_for PassesOwn.never rfl (pi_tup (pe_fld (pv 0) rfl)) (pg_tup (by rfl) (pgs_cons (pg_name (i := 2) sc_Sum___getitem__.nd rfl (Or.inl rfl)) (pgs_cons (pg_name (i := 3) sc_Sum___getitem__.nd rfl (Or.inl rfl)) pgs_nil))) (pss_one (ps_if (pt_cmpR op_eq (pv 2) (pv 1) (nomark _)) (pss_one (ps_ret (pv 3))) pss_nil)))
      (pss_one (ps_ret pe_int)))), ?_⟩
    have hxl : x.length ≤ sizeLine := by rw [cd_len]; exact Nat.le_trans (isNm_len hx).2 (by decide)
    refine ⟨_, rfl, irr ⟨_, rfl, .inl ⟨x, rfl, hxl, fun H1 s1 => ⟨true, by rw [show isNm (cd x) = true from hx], iteF ?_⟩⟩⟩⟩
    have hs1 : ∀ p ∈ lS C a dx t us, H1 p.1 = some p.2 := fun p hp => s1 _ _ (hs p hp)
    have st : SqT K H1 t (vP us) := SqT.of (hs1 _ (List.mem_cons_of_mem _ List.mem_cons_self))
    refine ⟨_, rfl, a, C, dx, _, _, rfl, hs1 _ List.mem_cons_self, T.x.cl, T.n1, rfl, t, rfl, ⟨_, st⟩, for_tup (xs := vP us) (fun i σ H' => H' = H1 ∧ (∃ o2 o3, σ = [some (.ref a), some (.str x), o2, o3]) ∧ ∀ q ∈ (prs us).take i, q.1 ≠ x) ⟨rfl, ⟨none, none, rfl⟩, fun q hq => nomatch hq⟩ ?_ ?_ ?_⟩
    · rintro i σ H2 _ ⟨rfl, _⟩
      exact st
    · rintro i y σ H2 hy ⟨rfl, ⟨o2, o3, rfl⟩, hb⟩
      rw [vP, List.getElem?_map] at hy
      cases hu : us[i]? with
      | none => rw [hu] at hy; cases hy
      | some u =>
        rw [hu] at hy
        obtain rfl : V.ref u.1 = y := Option.some.inj hy
        have hm := List.mem_of_getElem? hu
        have hq : u.2 ∈ prs us := List.mem_map.mpr ⟨u, hm, rfl⟩
        have et : (prs us).take (i + 1) = (prs us).take i ++ [u.2] := by
          rw [List.take_add_one, prs, List.getElem?_map, hu]
          rfl
        refine ⟨u.1, _, rfl, SqT.of (hs1 _ (List.mem_cons_of_mem _ (List.mem_cons_of_mem _ (List.mem_map.mpr ⟨u, hm, rfl⟩)))), rfl, _, _, rfl, _, _, rfl, rfl, ?_⟩
        refine ⟨_, rfl, _, rfl, rfl, _, rfl, ?_⟩
        refine ite2 (fun h => ?_) (fun h => ?_)
        · have e : u.2.1 = x := V.str.inj (of_decide_eq_true h)
          refine ⟨_, rfl, ?_⟩
          have := k H2 s1
          rw [← e, hn.co hq] at this
          exact this
        · refine ⟨rfl, ⟨_, _, rfl⟩, fun q hq' => ?_⟩
          rw [et] at hq'
          rcases List.mem_append.mp hq' with z | z
          · exact hb q z
          · rw [List.mem_singleton.mp z]
            exact fun e => h (decide_eq_true (congrArg V.str e))
    · rintro σ H2 ⟨rfl, ⟨o2, o3, rfl⟩, hb⟩
      rw [vP_len, ← prs_len, List.take_length] at hb
      have := k H2 s1
      rw [co_none hb] at this
      exact this
end
end RV
namespace RV
open PySem L2
section
variable {P : Program} {w : World} {K : PySem.W.Frag} {mg : Str → Option Value} {base : Heap} {C : Addr}
theorem ok_Sum_c {f : Addr} {fd : FuncData} (F : Fun K "__contains__" "Sum.__contains__" s_Sum___contains__ f fd) (h_is_name : Fn P w K mg base "is_name" 1 ["value"] (Irr (sp_is_name K))) (h_get : OwnM P w K mg base C "__getitem__" 2 (Irr (sp_get C))) : FnOk P w K mg base CX0 4 f fd ["self", "x"] (sp_has C) := by
  refine F.ok sc_Sum___contains__ (fun vs H Q E h => ?_) (fun cdv A outer s H vs Q E hr h => ?_)
  · obtain ⟨_, _, _, rfl, _⟩ := h
    rfl
  · obtain ⟨a, x, qs, rfl, hx, hs, hn, k⟩ := h
    refine ⟨_, (pss_one (ps_ret (pe_and (pe_fn h_is_name (hr.mono (by decide)) (pa_cons (pv 1) pa_nil)) (pe_one (pe_cmpR op_ne (pe_ixO h_get (hr.mono (by decide)) (pv 0) (pv 1)) pe_int (nomark _)))))), ?_⟩
    have hxl : x.length ≤ sizeLine := by rw [cd_len]; exact Nat.le_trans (isNm_len hx).2 (by decide)
    refine ⟨_, rfl, irr ⟨_, rfl, .inl ⟨x, rfl, hxl, fun H1 s1 => ⟨true, by rw [show isNm (cd x) = true from hx], ?_⟩⟩⟩⟩
    have hs1 := hs.ext s1
    obtain ⟨dx, t, us, e, q⟩ := id hs1
    refine iteT ⟨_, rfl, _, rfl, a, dx, _, rfl, q _ List.mem_cons_self, irr ⟨a, x, qs, rfl, hx, hs1, hn, fun H2 s2 => ⟨rfl, ?_⟩⟩⟩
    have := k H2 fun b o e => s2 b o (s1 b o e)
    have dz : (!decide (V.int (co qs x) = V.int 0)) = !decide (co qs x = 0) := by simp
    rw [dz]
    exact this
theorem ok_Sum_q {f : Addr} {fd : FuncData} (F : Fun K "__eq__" "Sum.__eq__" s_Sum___eq__ f fd) (T : SClass K mg C) (B : Blt mg) : FnOk P w K mg base CX0 1 f fd ["self", "other"] (sp_eqS K C) := by
  refine F.ok sc_Sum___eq__ (fun vs H Q E h => ?_) (fun cdv A outer s H vs Q E hr h => ?_)
  · obtain ⟨_, _, _, rfl, _⟩ := h
    rfl
  · obtain ⟨a, y, qs, rfl, hs, hn, k⟩ := h
    refine ⟨_, (pss_one (ps_ret (pe_and (pe_callB call_isi (by rfl) B.b_isinstance (by decide +kernel) (pa_cons (pv 1) (pa_cons (pe_gC T.k) pa_nil))) (pe_one (pe_cmpR (op_eqD hr.units) (pe_fld (pv 0) rfl) (pe_fld (pv 1) rfl) (nomark _)))))), ?_⟩
    rcases k with ⟨b, rs, rfl, hs2, hn2, k⟩ | ⟨t, ty, kt, k⟩
    · obtain ⟨dx, t, us, rfl, q⟩ := hs
      obtain ⟨dy, t2, us2, rfl, q2⟩ := hs2
      refine ⟨_, rfl, _, _, _, .ref C, true, rfl, .own C, T.x.ty (q2 _ List.mem_cons_self), T.me, true, rfl, iteT ?_⟩
      refine ⟨_, rfl, a, C, dx, _, _, rfl, q _ List.mem_cons_self, T.x.cl, T.n1, rfl, _, rfl, b, C, dy, _, _, rfl, q2 _ List.mem_cons_self, T.x.cl, T.n1, rfl, dQ (prs us), dQ (prs us2), ?_, ?_, shaped_pairs hn, shaped_pairs hn2, ?_⟩
      · exact dp_pairs (SqT.of (q _ (List.mem_cons_of_mem _ List.mem_cons_self))) fun u hu => SqT.of (q _ (List.mem_cons_of_mem _ (List.mem_cons_of_mem _ (List.mem_map.mpr ⟨u, hu, rfl⟩))))
      · exact dp_pairs (SqT.of (q2 _ (List.mem_cons_of_mem _ List.mem_cons_self))) fun u hu => SqT.of (q2 _ (List.mem_cons_of_mem _ (List.mem_cons_of_mem _ (List.mem_map.mpr ⟨u, hu, rfl⟩))))
      · rw [eqv_pairs]
        exact k
    · exact ⟨_, rfl, _, _, t, .ref C, false, rfl, .own C, ty, kt, false, rfl, iteF k⟩
end
end RV
namespace RV
open PySem L2
open PyProof.Rows (int_text_len_1921)
section
variable {P : Program} {w : World} {K : PySem.W.Frag} {mg : Str → Option Value} {base : Heap} {C : Addr}
theorem ok_written_number {f : Addr} {fd : FuncData} (F : Fun K "written_number" "written_number" s_written_number f fd) (T : Blt mg) (C2 : Cst2 mg) : FnOk P w K mg base CX0 1 f fd ["number"] sp_written := by
  refine F.ok sc_written_number (fun vs H Q E h => ?_) (fun cdv A outer s H vs Q E hr h => ?_)
  · obtain ⟨_, rfl, _⟩ := h
    rfl
  · obtain ⟨z, rfl, z0, z1, k⟩ := h
    refine ⟨_, (pss_cons (ps_set (i := 1) sc_written_number.nd rfl (Or.inl rfl) (pe_lst pa_nil))
      (pss_cons (ps_while PassesOwn.never (pt_cmpR op_ge (pv 0) (pe_gI C2.worth) (nomark _)) (pss_cons (ps_asg (pe_callB call_divmodW (by rfl) T.b_divmod (by decide +kernel) (pa_cons (pv 0) (pa_cons (pe_gI C2.worth) pa_nil))) (pg_tup (by rfl) (pgs_cons (pg_name (i := 0) sc_written_number.nd rfl (Or.inl rfl)) (pgs_cons (pg_name (i := 2) sc_written_number.nd rfl (Or.inl rfl)) pgs_nil)))) (pss_one (ps_expr (pe_bm PySem.F.plainAttrs_list PySem.F.slot_list_append PySem.F.type_list_append mt_append (pv 1) (pa_cons (pe_bm PySem.F.plainAttrs_str PySem.F.slot_str_zfill PySem.F.type_str_zfill mt_zfill (pe_callTy call_str_int (by rfl) T.b_str (by decide +kernel) (pa_cons (pv 2) pa_nil)) (pa_cons (pe_gI C2.piece) pa_nil)) pa_nil))))))
      (pss_cons (ps_expr (pe_bm PySem.F.plainAttrs_list PySem.F.slot_list_append PySem.F.type_list_append mt_append (pv 1) (pa_cons (pe_callTy call_str_int (by rfl) T.b_str (by decide +kernel) (pa_cons (pv 0) pa_nil)) pa_nil)))
      (pss_one (ps_ret (pe_join pe_str (pe_revL (pv 1)))))))), ?_⟩
    refine ⟨by decide, fun pl np => ?_⟩
    refine while_by (fun σ H' => σ = [some (.int z), some (.ref pl), none] ∧ H' = upd H pl (.lst [])) (fun _ _ => 0) ⟨rfl, rfl⟩ ?_ ?_
    · rintro σ H1 ⟨rfl, rfl⟩
      refine ⟨_, rfl, _, _, rfl, rfl, _, rfl, ?_⟩
      refine ite2 (fun h => absurd (of_decide_eq_true h) (by omega)) (fun _ => ?_)
      have zl : z.natAbs.log2 < 1920 := by
        have q := PySem.Flt.log2_lt_of (n := z.natAbs) (k := 300) (by decide) (by omega)
        omega
      refine ⟨_, rfl, .inl ⟨rfl, _, SqL.of upd_same⟩, _, rfl, z, rfl, zl, pl, _, _, rfl, rfl, upd_same, by decide, ?_⟩
      refine ⟨⟨_, rfl⟩, _, rfl, pl, _, rfl, SqL.of upd_same, fun p np2 => ⟨_, p, [num z], rfl, rfl, .inl (SqL.of upd_same), ?_, ?_⟩⟩
      · have h1 : (num z).length ≤ 1921 := int_text_len_1921 zl
        simp only [List.map_cons, List.map_nil, List.sum_cons, List.sum_nil, List.length_cons, List.length_nil]
        have h2 : Str.length "" = 0 := by decide +kernel
        rw [h2]
        omega
      · rw [join_one]
        refine k _ fun b o e => ?_
        have n1 := ne_of_none e np
        have e2 : (upd (upd H pl (.lst [])) pl (.lst ([] ++ [V.str (num z)]))) b = some o := by rw [upd_ne n1, upd_ne n1]; exact e
        rw [upd_ne (ne_of_none e2 np2)]
        exact e2
    · rintro σ H' Q1 Q2 hq ⟨v, hv, i, j, e1, e2, b, e3, q⟩
      exact ⟨v, hv, i, j, e1, e2, b, e3, hq _ _ q⟩
end
end RV
namespace RV
open PySem L2
section
variable {P : Program} {w : World} {K : PySem.W.Frag} {mg : Str → Option Value} {base : Heap} {C : Addr}
theorem ok_without_sign {f : Addr} {fd : FuncData} (F : Fun K "_without_sign" "_without_sign" s_without_sign f fd) (T : Blt mg) (h_written_number : Fn P w K mg base "written_number" 1 ["number"] (Irr sp_written)) : FnOk P w K mg base CX0 2 f fd ["name", "number"] sp_without := by
  refine F.ok sc_without_sign (fun vs H Q E h => ?_) (fun cdv A outer s H vs Q E hr h => ?_)
  · obtain ⟨_, _, rfl, _⟩ := h
    rfl
  · obtain ⟨x, z, rfl, hx, hz, k⟩ := h
    refine ⟨_, (pss_cons (ps_if (pt_cmpR op_eq (pe_callB call_abs (by rfl) T.b_abs (by decide +kernel) (pa_cons (pv 1) pa_nil)) pe_int (nomark _)) (pss_one (ps_ret (pv 0))) pss_nil)
      (pss_one (ps_ret (pe_joined (.cons (pe_fmt (pe_fn h_written_number (hr.mono (by decide)) (pa_cons (pe_callB call_abs (by rfl) T.b_abs (by decide +kernel) (pa_cons (pv 1) pa_nil)) pa_nil))) (.cons pe_str (.cons (pe_fmt (pv 0)) .nil))))))), ?_⟩
    have lx : 1 ≤ (cd x).length ∧ (cd x).length ≤ 8 := isNm_len hx
    rw [← cd_len] at lx
    refine ⟨_, rfl, _, rfl, rfl, _, rfl, ?_⟩
    refine ite2 (fun h => ?_) (fun h => ?_)
    · have e : ab z = 1 := V.int.inj (of_decide_eq_true h)
      have := k H (Same.refl H)
      rw [wo, if_pos e] at this
      exact ⟨_, rfl, this⟩
    · have e : ¬ ab z = 1 := fun q => h (decide_eq_true (congrArg V.int q))
      have nl := num_len (ab_lt hz)
      have h2 : Str.length "*" = 1 := by decide +kernel
      have h3 : Str.length Str.empty = 0 := by decide +kernel
      refine ⟨_, rfl, z, rfl, irr ⟨ab z, rfl, (ab_lt hz).1, (ab_lt hz).2, fun H1 s1 => .inl ⟨_, rfl, Nat.le_trans nl (by decide), _, rfl, ?_, _, rfl, ?_, _, rfl, .inl ⟨_, rfl, szn (by omega), _, rfl, ?_, ?_⟩⟩⟩⟩
      · rw [sl_app, h3]; exact Nat.le_trans (show _ ≤ 5000 by omega) (by decide)
      · rw [sl_app, sl_app, h3, h2]; exact Nat.le_trans (show _ ≤ 5000 by omega) (by decide)
      · rw [sl_app, sl_app, sl_app, h3, h2]; exact Nat.le_trans (show _ ≤ 5000 by omega) (by decide)
      · have := k H1 s1
        rw [wo, if_neg e] at this
        exact this
theorem ok_written_further {f : Addr} {fd : FuncData} (F : Fun K "_written_further" "_written_further" s_written_further f fd) (h_without_sign : Fn P w K mg base "_without_sign" 2 ["name", "number"] (Irr sp_without)) : FnOk P w K mg base CX0 3 f fd ["name", "number"] sp_further := by
  refine F.ok sc_written_further (fun vs H Q E h => ?_) (fun cdv A outer s H vs Q E hr h => ?_)
  · obtain ⟨_, rfl, _⟩ := h
    rfl
  · obtain ⟨q, rfl, hx, hz, k⟩ := h
    refine ⟨_, (pss_cons (ps_set (i := 2) sc_written_further.nd rfl (Or.inl rfl) (pe_ifExp (pt_cmpR op_lt (pv 1) pe_int (nomark _)) pe_str pe_str))
      (pss_one (ps_ret (pe_joined (.cons pe_str (.cons (pe_fmt (pv 2)) (.cons pe_str (.cons (pe_fmt (pe_fn h_without_sign (hr.mono (by decide)) (pa_cons (pv 0) (pa_cons (pv 1) pa_nil)))) .nil)))))))), ?_⟩
    have wl := wo_len hx hz
    have h2 : Str.length " " = 1 := by decide +kernel
    have h3 : Str.length Str.empty = 0 := by decide +kernel
    have sl := (sg_len q.2).1
    refine seq_of (fun σ' H' => σ' = [some (.str q.1), some (.int q.2), some (.str (if q.2 < 0 then ("-" : Str) else "+"))] ∧ H' = H) ?rest (fun N hN => ?main)
    case main =>
      refine ⟨_, rfl, _, _, rfl, rfl, _, rfl, ?_⟩
      refine ite2 (fun h => ?_) (fun h => ?_)
      · exact hN _ _ ⟨by rw [if_pos (of_decide_eq_true h)]; rfl, rfl⟩
      · exact hN _ _ ⟨by rw [if_neg (fun z => h (decide_eq_true z))]; rfl, rfl⟩
    rintro σ1 H1 ⟨rfl, rfl⟩
    refine ⟨_, rfl, ?_, _, rfl, .inl ⟨_, rfl, Nat.le_trans sl (by decide), _, rfl, ?_, _, rfl, ?_, _, rfl, _, rfl, irr ⟨q.1, q.2, rfl, hx, hz, fun H2 s2 => .inl ⟨_, rfl, Nat.le_trans wl (by decide), _, rfl, ?_, k H2 s2⟩⟩⟩⟩
    · rw [sl_app, h2, h3]; decide
    · rw [sl_app, sl_app, h2, h3]; exact Nat.le_trans (show _ ≤ 5000 by omega) (by decide)
    · rw [sl_app, sl_app, sl_app, h2, h3]; exact Nat.le_trans (show _ ≤ 5000 by omega) (by decide)
    · rw [sl_app, sl_app, sl_app, sl_app, h2, h3]; exact Nat.le_trans (show _ ≤ 5000 by omega) (by decide)
end
end RV
namespace RV
open PySem L2
section
variable {P : Program} {w : World} {K : PySem.W.Frag} {mg : Str → Option Value} {base : Heap} {C : Addr}
theorem ok_written_terms {f : Addr} {fd : FuncData} (F : Fun K "_written_terms" "_written_terms" s_written_terms f fd) (h_without_sign : Fn P w K mg base "_without_sign" 2 ["name", "number"] (Irr sp_without)) (h_written_further : Fn P w K mg base "_written_further" 3 ["name", "number"] (Irr sp_further)) : FnOk P w K mg base CX0 4 f fd ["terms"] (sp_wterms K) := by
  refine F.ok sc_written_terms (fun vs H Q E h => ?_) (fun cdv A outer s H vs Q E hr h => ?_)
  · obtain ⟨_, _, rfl, _⟩ := h
    rfl
  · obtain ⟨t, us, rfl, hl, ht, hn, hlen, k⟩ := h
    refine ⟨_, (pss_cons (ps_if (pt_not (pt_truth (pv 0) (by intro _; rfl))) (pss_one (ps_ret (pe_lst (pa_cons pe_str pa_nil)))) pss_nil)
      (pss_cons (ps_asg (pe_ix ix_tup (pv 0) pe_int (fun _ _ => rfl)) (pg_tup (by rfl) (pgs_cons (pg_name (i := 1) sc_written_terms.nd rfl (Or.inl rfl)) (pgs_cons (pg_name (i := 2) sc_written_terms.nd rfl (Or.inl rfl)) pgs_nil))))
      (pss_cons (ps_set (i := 3) sc_written_terms.nd rfl (Or.inl rfl) (pe_ifExp (pt_cmpR op_lt (pv 2) pe_int (nomark _)) pe_str pe_str))
      (pss_cons (ps_set (i := 4) sc_written_terms.nd rfl (Or.inl rfl) (pe_op op_add_str (pv 3) (pe_fn h_without_sign (hr.mono (by decide)) (pa_cons (pv 1) (pa_cons (pv 2) pa_nil)))))
      (pss_one (ps_ret (pe_op op_cat (pe_lst (pa_cons (pv 4) pa_nil)) (pe_lc (own := [("name", 1), ("number", 2)]) (g := gPr K 1 2) (tt := tYes) rfl sc_written_terms.nd (pi_tup (pe_slice sl_tup (pv 0) (po_some pe_int) po_none)) (blkOk_by (N := sc_written_terms_N) (sc := defScope s_written_terms) (by decide +kernel)) (fun _ _ _ _ _ => pg_tupK (by rfl) (pgs_cons (pg_name (i := 1) sc_written_terms.nd rfl (Or.inl rfl)) (pgs_cons (pg_name (i := 2) sc_written_terms.nd rfl (Or.inl rfl)) pgs_nil))) (fun _ _ _ _ _ => pts_nil) (fun _ _ _ _ _ => (pe_fn h_written_further (hr.mono (by decide)) (pa_cons (pv 1) (pa_cons (pv 2) pa_nil)))))))))))), ?_⟩
    cases us with
    | nil =>
      refine ⟨_, rfl, false, .inr (.inl ⟨[], hl, rfl⟩), ?_⟩
      refine iteT ⟨by decide, fun m nm => ?_⟩
      exact k m _ ((Kp.start H).new nm)
    | cons u us =>
      have hu := hn u.2 List.mem_cons_self
      refine ⟨_, rfl, true, .inr (.inl ⟨_, hl, rfl⟩), iteF ?_⟩
      refine ⟨_, rfl, t, _, 0, .ref u.1, rfl, rfl, hl, atI_nat (j := 0) rfl, u.1, _, rfl, ht u List.mem_cons_self, rfl, _, _, rfl, _, _, rfl, rfl, ?_⟩
      dsimp only
      refine seq_of (fun σ' H' => σ' = [some (.ref t), some (.str u.2.1), some (.int u.2.2), some (.str (if u.2.2 < 0 then ("-" : Str) else "")), none] ∧ H' = H) ?rest (fun N hN => ?main)
      case main =>
        refine ⟨_, rfl, _, _, rfl, rfl, _, rfl, ?_⟩
        refine ite2 (fun h => ?_) (fun h => ?_)
        · exact hN _ _ ⟨by rw [if_pos (of_decide_eq_true h)]; rfl, rfl⟩
        · exact hN _ _ ⟨by rw [if_neg (fun z => h (decide_eq_true z))]; rfl, rfl⟩
      rintro σ1 H1 ⟨rfl, rfl⟩
      have wl := wo_len hu.1 hu.2
      have sl := (sg_len u.2.2).2
      refine ⟨_, rfl, _, rfl, _, rfl, irr ⟨u.2.1, u.2.2, rfl, hu.1, hu.2, fun H2 s2 => ⟨_, _, rfl, rfl, Nat.le_trans (show _ ≤ 5000 by omega) (by decide), ?_⟩⟩⟩
      refine ⟨_, rfl, (by show 1 ≤ sizeLine; decide), fun p1 n1 => ?_⟩
      have k1 : Kp H1 [(p1, .lst [V.str (fi u.2)])] (upd H2 p1 (.lst [V.str (fi u.2)])) := ((Kp.start H1).next s2).new n1
      refine ⟨_, rfl, _, rfl, t, _, rfl, hl.ext k1.sm, ?_, fun p2 n2 => ?_⟩
      · rw [sIx_none, show (some (1 : Int)) = some ((1 : Nat) : Int) from rfl, sIx_some, vP_len, List.length_cons]
        omega
      rw [show (some (1 : Int)) = some ((1 : Nat) : Int) from rfl, cutV_suf]
      have k2 := k1.new (o := .tup (vP ((u :: us).drop 1))) n2
      refine ⟨p2, rfl, ⟨_, SqT.of upd_same⟩, fun D nD => lc_pairsT (us := us) (fun q => V.str (fu q)) (SqT.of upd_same) (TPs.ext (fun v hv => ht v (List.mem_cons_of_mem _ hv)) k2.sm) nD (by rw [List.length_cons] at hlen; omega) (fun _ _ => rfl) (fun q hq H3 s3 R hR => ?_) fun H3 s3 hD => ?_⟩
      · have hq' := hn q (List.mem_cons_of_mem _ hq)
        exact ⟨_, rfl, _, rfl, irr ⟨q, rfl, hq'.1, hq'.2, hR⟩⟩
      · have k3 := k2.next s3
        refine ⟨p1, D, _, _, rfl, rfl, k3.at (List.mem_cons_of_mem _ List.mem_cons_self), hD, ?_, fun m nm => ?_⟩
        · rw [List.length_map, prs_len]
          rw [List.length_cons] at hlen
          exact Nat.le_trans (show _ ≤ 5000 by simp; omega) (by decide)
        · have k4 := (k3.new (o := .lst ([V.str (fi u.2)] ++ (prs us).map fun q => V.str (fu q))) nm).sub (L' := [(m, .lst ([V.str (fi u.2)] ++ (prs us).map fun q => V.str (fu q)))]) fun q hq => by
            rw [List.mem_singleton.mp hq]; exact List.mem_cons_self
          have e : (pieces (prs (u :: us))).map V.str = [V.str (fi u.2)] ++ (prs us).map fun q => V.str (fu q) := by
            show V.str (fi u.2) :: ((prs us).map fu).map V.str = _
            rw [List.map_map]
            rfl
          rw [← e] at k4
          have := k m _ k4
          rw [e] at this
          exact this
end
end RV
namespace RV
open PySem L2
section
variable {P : Program} {w : World} {K : PySem.W.Frag} {mg : Str → Option Value} {base : Heap} {C : Addr}
theorem ok_Sum_s {f : Addr} {fd : FuncData} (F : Fun K "__str__" "Sum.__str__" s_Sum___str__ f fd) (T : SClass K mg C) (h_written_terms : Fn P w K mg base "_written_terms" 4 ["terms"] (Irr (sp_wterms K))) : FnOk P w K mg base CX0 5 f fd ["self"] (sp_text C) := by
  refine F.ok sc_Sum___str__ (fun vs H Q E h => ?_) (fun cdv A outer s H vs Q E hr h => ?_)
  · obtain ⟨_, _, rfl, _⟩ := h
    rfl
  · obtain ⟨a, qs, rfl, ⟨dx, t, us, rfl, q⟩, hn, hl, k⟩ := h
    refine ⟨_, (pss_one (ps_ret (pe_join pe_str (pe_fn h_written_terms (hr.mono (by decide)) (pa_cons (pe_fld (pv 0) rfl) pa_nil))))), ?_⟩
    refine ⟨⟨_, rfl⟩, _, rfl, a, C, dx, _, _, rfl, q _ List.mem_cons_self, T.x.cl, T.n1, rfl, irr ⟨t, us, rfl, SqT.of (q _ (List.mem_cons_of_mem _ List.mem_cons_self)), fun u hu => SqT.of (q _ (List.mem_cons_of_mem _ (List.mem_cons_of_mem _ (List.mem_map.mpr ⟨u, hu, rfl⟩)))), hn, by rw [← prs_len]; exact hl, fun m H' kp => ⟨_, m, pieces (prs us), rfl, rfl, .inl (SqL.of (kp.at List.mem_cons_self)), ?_, k H' kp.sm⟩⟩⟩
    have h1 := pieces_sum hn
    have h2 := pieces_length (prs us)
    have h3 : Str.length "" = 0 := by decide +kernel
    rw [h3]
    omega
end
end RV
namespace RV
open PySem L2
/-! ### Sum(), Sum(t), Sum(terms=t) -/
abbrev FSum (K : PySem.W.Frag) (t0 f : Addr) (fd : FuncData) : Prop := FunD K "__init__" "Sum.__init__" (defArgs s_Sum___init__) (defBody s_Sum___init__) (defScope s_Sum___init__) [.ref t0] [] f fd
theorem chainA {f t0 : Addr} {K : PySem.W.Frag} {fd : FuncData} (F : FSum K t0 f fd) : ∃ ds, Vals [V.ref t0] ds ∧ Binds K fd ["self", "terms"] ds := by
  refine FunD.binds1 F 1 0 (by simp) rfl fun T kV doc pm an cdv ct us its h1 h2 => ?_
  match us, h1, its, h2 with
  | [x], _, [d], _ => exact ⟨_, rfl, rfl⟩
theorem chainB {f t0 : Addr} {K : PySem.W.Frag} {fd : FuncData} (F : FSum K t0 f fd) : ∃ ds, Vals [] ds ∧ Binds K fd ["self", "terms"] ds := by
  refine FunD.binds1 F 2 1 (by simp) rfl fun T kV doc pm an cdv ct us its h1 h2 => ?_
  match us, h1, its, h2 with
  | [x, y], _, [d], _ => exact ⟨_, rfl, rfl⟩
def gS' (us ws : List Value) : List Value := match us, ws with
  | [x], [t] => [x, t]
  | _, _ => []
end RV
namespace RV
open PySem L2
section
variable {P : Program} {w : World} {K : PySem.W.Frag} {mg : Str → Option Value} {base : Heap} {C : Addr}
theorem ok_is_digits {f : Addr} {fd : FuncData} (F : Fun K "is_digits" "is_digits" s_is_digits f fd) : FnOk P w K mg base CX0 1 f fd ["text"] sp_digits := by
  refine F.ok sc_is_digits (fun vs H Q E h => ?_) (fun cdv A outer s H vs Q E hr h => ?_)
  · obtain ⟨_, rfl, _⟩ := h
    rfl
  · obtain ⟨z, rfl, hz, k⟩ := h
    refine ⟨_, (pss_one (ps_ret (pe_and (pe_m0 PySem.F.slot_str_isascii PySem.F.type_str_isascii mt_isascii (pv 0)) (pe_one (pe_m0 PySem.F.slot_str_isdigit PySem.F.type_str_isdigit mt_isdigit (pv 0)))))), ?_⟩
    refine ⟨_, rfl, ⟨_, rfl⟩, _, rfl, rfl, trivial, true, congrArg V.bl (num_ascii hz), iteT ⟨_, rfl, ⟨_, rfl⟩, _, rfl, rfl, trivial, ?_⟩⟩
    rw [num_digit hz]
    exact k
theorem ok_read_number {f : Addr} {fd : FuncData} (F : Fun K "read_number" "read_number" s_read_number f fd) (T : Blt mg) (C2 : Cst2 mg) : FnOk P w K mg base CX0 1 f fd ["digits"] sp_readnum := by
  refine F.ok sc_read_number (fun vs H Q E h => ?_) (fun cdv A outer s H vs Q E hr h => ?_)
  · obtain ⟨_, rfl, _⟩ := h
    rfl
  · obtain ⟨z, rfl, hz, h1, k⟩ := h
    refine ⟨_, (pss_cons (ps_set (i := 1) sc_read_number.nd rfl (Or.inl rfl) (pe_op op_mod (pe_callB call_len_str (by rfl) T.b_len (by decide +kernel) (pa_cons (pv 0) pa_nil)) (pe_gI C2.piece)))
      (pss_cons (ps_set (i := 2) sc_read_number.nd rfl (Or.inl rfl) (pe_callTy call_int_str (by rfl) T.b_int (by decide +kernel) (pa_cons (pe_op op_add_str pe_str (pe_slice sl_str (pv 0) po_none (po_some (pv 1)))) pa_nil)))
      (pss_cons (ps_for PassesOwn.never rfl (pi_range3 (by rfl) T.b_range (pa_cons (pv 1) (pa_cons (pe_callB call_len_str (by rfl) T.b_len (by decide +kernel) (pa_cons (pv 0) pa_nil)) (pa_cons (pe_gI C2.piece) pa_nil)))) (pg_name (i := 3) sc_read_number.nd rfl (Or.inl rfl)) (pss_one (ps_set (i := 2) sc_read_number.nd rfl (Or.inl rfl) (pe_op op_add (pe_op op_mul (pv 2) (pe_gI C2.worth)) (pe_callTy call_int_str (by rfl) T.b_int (by decide +kernel) (pa_cons (pe_slice sl_str (pv 0) (po_some (pv 3)) (po_some (pe_op op_add (pv 3) (pe_gI C2.piece)))) pa_nil))))))
      (pss_one (ps_ret (pv 2)))))), ?_⟩
    have l0 := num_len0 hz
    have l1 := num_len60 hz h1
    refine ⟨_, rfl, _, rfl, szn (by omega), _, _, rfl, rfl, (by show (0 : Int) < 64; decide), ?_⟩
    dsimp only [gName]
    rw [show ((num z).length : Int) % 64 = ((num z).length : Nat) from by omega]
    refine ⟨_, rfl, _, rfl, _, rfl, _, rfl, szn (by omega), ?_⟩
    rw [cutS_all _ _ (Nat.le_refl _)]
    have l2 : Str.length "0" = 1 := by decide +kernel
    refine ⟨_, _, rfl, rfl, ?_, _, _, rfl, int_back hz h1, ?_, ?_⟩
    · rw [l2]
      exact szn (by omega)
    · rw [cd_len, cd_app, List.length_append, ← cd_len, ← cd_len, l2]
      omega
    have rg : ∀ l : Fin 61, RgC ((l.val : Nat) : Int) ((l.val : Nat) : Int) 64 0 := by
      unfold RgC
      decide +kernel
    refine ⟨_, rfl, _, rfl, _, rfl, szn (by omega), _, _, _, 0, rfl, rg ⟨(num z).length, by omega⟩, for_it (walk_rangeC) (fun _ σ H' => H' = H ∧ σ = [some (.str (num z)), some (.int ((num z).length : Nat)), some (.int z), none]) ⟨rfl, rfl⟩ (fun _ _ _ _ _ => trivial) (fun i x σ H1 H2 hi => absurd hi (Nat.not_lt_zero _)) ?_⟩
    rintro σ H' ⟨rfl, rfl⟩
    exact ⟨_, rfl, k⟩
theorem ok_with_sign_apart {f : Addr} {fd : FuncData} (F : Fun K "_with_sign_apart" "_with_sign_apart" s_with_sign_apart f fd) : FnOk P w K mg base CX0 1 f fd ["text"] sp_apart := by
  refine F.ok sc_with_sign_apart (fun vs H Q E h => ?_) (fun cdv A outer s H vs Q E hr h => ?_)
  · obtain ⟨_, rfl, _⟩ := h
    rfl
  · obtain ⟨z, rfl, hz, k⟩ := h
    refine ⟨_, (pss_cons (ps_if (pt_val (pe_bm PySem.F.plainAttrs_str PySem.F.slot_str_startswith PySem.F.type_str_startswith mt_startswith (pv 0) (pa_cons pe_str pa_nil))) (pss_one (ps_ret (pe_op op_add_str pe_str (pe_slice sl_str (pv 0) (po_some pe_int) po_none)))) pss_nil)
      (pss_one (ps_ret (pe_op op_add_str pe_str (pv 0))))), ?_⟩
    unfold apart at k
    refine ⟨_, rfl, rfl, _, _, rfl, rfl, _, rfl, ?_⟩
    have l2 : Str.length "- " = 2 := by decide +kernel
    have l3 : Str.length "+ " = 2 := by decide +kernel
    revert k
    cases Txt.startswith z "-" with
    | true =>
      intro k
      refine iteT ⟨_, rfl, _, rfl, _, rfl, Nat.le_trans hz (by decide), _, _, rfl, rfl, ?_, k⟩
      have l4 : (cutS z (some 1) none).length ≤ z.length := by
        rw [cd_len, cd_rest, List.length_drop, cd_len]
        omega
      rw [l2]
      exact Nat.le_trans (show _ ≤ 1000002 by omega) (by decide)
    | false =>
      intro k
      refine iteF ⟨_, rfl, _, _, rfl, rfl, ?_, k⟩
      rw [l3]
      exact Nat.le_trans (show _ ≤ 1000002 by omega) (by decide)
theorem ok_read_term {f : Addr} {fd : FuncData} (F : Fun K "_read_term" "_read_term" s_read_term f fd) (h_is_name : Fn P w K mg base "is_name" 1 ["value"] (Irr (sp_is_name K))) (h_is_digits : Fn P w K mg base "is_digits" 1 ["text"] (Irr sp_digits)) (h_read_number : Fn P w K mg base "read_number" 1 ["digits"] (Irr sp_readnum)) : FnOk P w K mg base CX0 2 f fd ["sign", "word"] (sp_rterm K) := by
  refine F.ok sc_read_term (fun vs H Q E h => ?_) (fun cdv A outer s H vs Q E hr h => ?_)
  · rcases h with ⟨_, rfl, _⟩ | ⟨rfl, _⟩ <;> rfl
  · obtain ⟨sg, wd, D, S, N, rfl, ep, lw, h⟩ : ∃ sg wd D S N : Str, vs = [.str sg, .str wd] ∧ Txt.rpartition wd "*" = (D, S, N) ∧ wd.length ≤ 1000 ∧ ((∃ q : Str × Int, sg = sgn q ∧ N = q.1 ∧ IsNm q.1 ∧ q.2.natAbs < 10 ^ 60 ∧ ((ab q.2 = 1 ∧ D = Str.empty ∧ S = Str.empty) ∨ (¬ ab q.2 = 1 ∧ D = num (ab q.2) ∧ S = "*")) ∧ ∀ t H', Kp H [(t, oP q)] H' → Q (.ref t) H') ∨ (N = "0" ∧ D = Str.empty ∧ S = Str.empty ∧ ∀ H', Same H H' → Q .non H')) := by
      rcases h with ⟨q, rfl, inm, hz, k⟩ | ⟨rfl, k⟩
      · have lw : (wo q.1 q.2).length ≤ 1000 := by
          unfold wo
          have hx := isNm_len inm
          rw [← cd_len] at hx
          split
          · omega
          · have := num_len60 (ab_nn q.2) (show ab q.2 < 10 ^ 60 by unfold ab; split <;> omega)
            have e1 : Str.length "*" = 1 := by decide +kernel
            have e2 : Str.length Str.empty = 0 := by decide +kernel
            rw [sl_app, sl_app, sl_app, e1, e2]
            omega
        by_cases h1 : ab q.2 = 1
        · exact ⟨_, _, _, _, _, rfl, star_one inm h1, lw, .inl ⟨q, rfl, rfl, inm, hz, .inl ⟨h1, rfl, rfl⟩, k⟩⟩
        · exact ⟨_, _, _, _, _, rfl, star_two inm h1, lw, .inl ⟨q, rfl, rfl, inm, hz, .inr ⟨h1, rfl, rfl⟩, k⟩⟩
      · exact ⟨_, _, _, _, _, rfl, star_zero, by decide +kernel, .inr ⟨rfl, rfl, rfl, k⟩⟩
    refine ⟨_, (pss_cons (ps_asg (pe_rpartition (pv 1) pe_str) (pg_tup (by rfl) (pgs_cons (pg_name (i := 2) sc_read_term.nd rfl (Or.inl rfl)) (pgs_cons (pg_name (i := 3) sc_read_term.nd rfl (Or.inl rfl)) (pgs_cons (pg_name (i := 4) sc_read_term.nd rfl (Or.inl rfl)) pgs_nil)))))
      (pss_cons (ps_if (PW.pt (pw_or (pt_not (pt_val (pe_fn h_is_name (hr.mono (by decide)) (pa_cons (pv 4) pa_nil)))) (pw_or1 (PW.pt (pw_and (pt_truth (pv 3) (by intro _; rfl)) (pw_and1 (pt_not (pt_val (pe_fn h_is_digits (hr.mono (by decide)) (pa_cons (pv 2) pa_nil)))))))))) (pss_one (ps_ret pe_non)) pss_nil)
      (pss_cons (ps_set (i := 5) sc_read_term.nd rfl (Or.inl rfl) (pe_ifExp (pt_truth (pv 3) (by intro _; rfl)) (pe_fn h_read_number (hr.mono (by decide)) (pa_cons (pv 2) pa_nil)) pe_int))
      (pss_one (ps_ret (pe_tup (pa_cons (pv 4) (pa_cons (pe_ifExp (pt_cmpR op_eq (pv 0) pe_str (nomark _)) (pe_un un_neg (pv 5)) (pv 5)) pa_nil)))))))), ?_⟩
    refine ⟨_, rfl, ⟨_, rfl⟩, _, _, rfl, rfl, by decide +kernel, szn lw, fun p np => ?_⟩
    rw [ep]
    refine ⟨p, _, rfl, SqT.of upd_same, rfl, _, _, rfl, _, _, rfl, _, _, rfl, rfl, ?_⟩
    have sp : Same H (upd H p (.tup [.str D, .str S, .str N])) := fun b o e => by rw [upd_ne (ne_of_none e np)]; exact e
    revert sp
    generalize upd H p (.tup [.str D, .str S, .str N]) = H1
    intro sp
    dsimp only
    have lN : ∀ {n : Str}, IsNm n → n.length ≤ sizeLine := fun h => by
      have := (isNm_len h).2
      rw [← cd_len] at this
      exact szn (by omega)
    rcases h with ⟨q, rfl, rfl, inm, hz, hw, k⟩ | ⟨rfl, rfl, rfl, k⟩
    · refine seq_of (fun σ' H' => σ' = [some (.str (sgn q)), some (.str wd), some (.str D), some (.str S), some (.str q.1), none] ∧ Same H H') ?rest (fun M hM => ?main)
      case main =>
        refine ⟨_, rfl, irr ⟨_, rfl, .inl ⟨q.1, rfl, lN inm, fun H2 s2 => ⟨true, congrArg V.bl inm, iteF ?_⟩⟩⟩⟩
        have s3 : Same H H2 := fun b o e => s2 b o (sp b o e)
        rcases hw with ⟨h1, rfl, rfl⟩ | ⟨h1, rfl, rfl⟩
        · exact ⟨_, rfl, false, ⟨by decide +kernel, by decide +kernel⟩, iteF (hM _ _ ⟨rfl, s3⟩)⟩
        · exact ⟨_, rfl, true, ⟨by decide +kernel, by decide +kernel⟩, iteT ⟨_, rfl, irr ⟨ab q.2, rfl, ab_nn _, true, rfl, hM _ _ ⟨rfl, s3⟩⟩⟩⟩
      rintro σ2 H2 ⟨rfl, s2⟩
      refine seq_of (fun σ' H' => σ' = [some (.str (sgn q)), some (.str wd), some (.str D), some (.str S), some (.str q.1), some (.int (ab q.2))] ∧ H' = H2) ?rest2 (fun M hM => ?main2)
      case main2 =>
        rcases hw with ⟨h1, rfl, rfl⟩ | ⟨h1, rfl, rfl⟩
        · exact ⟨_, rfl, false, ⟨by decide +kernel, by decide +kernel⟩, iteF (hM _ _ ⟨by rw [h1]; rfl, rfl⟩)⟩
        · exact ⟨_, rfl, true, ⟨by decide +kernel, by decide +kernel⟩, iteT ⟨_, rfl, irr ⟨ab q.2, rfl, ab_nn _, by unfold ab; split <;> omega, hM _ _ ⟨rfl, rfl⟩⟩⟩⟩
      rintro σ3 H3 ⟨rfl, rfl⟩
      refine ⟨_, rfl, _, rfl, rfl, _, rfl, ?_⟩
      have fin : ∀ t, H3 t = none → Q (.ref t) (upd H3 t (.tup [.str q.1, .int q.2])) := fun t nt => k t _ ⟨fun b o e => by rw [upd_ne (ne_of_none (s2 b o e) nt)]; exact s2 b o e, fun p hp => by
        rw [List.mem_singleton.mp hp]
        refine ⟨?_, upd_same⟩
        cases e : H t with
        | none => rfl
        | some o => rw [s2 t o e] at nt; cases nt⟩
      by_cases hn : q.2 < 0
      · have e : sgn q = "-" := if_pos hn
        rw [e]
        refine iteT ⟨_, rfl, _, rfl, (by show 2 ≤ sizeLine; decide), ?_⟩
        have ea : -ab q.2 = q.2 := by unfold ab; rw [if_pos hn]; omega
        dsimp only
        rw [ea]
        exact fin
      · have e : sgn q = "+" := if_neg hn
        rw [e]
        refine iteF ⟨_, rfl, (by show 2 ≤ sizeLine; decide), ?_⟩
        have ea : ab q.2 = q.2 := by unfold ab; rw [if_neg hn]
        dsimp only
        rw [ea]
        exact fin
    · refine ⟨_, rfl, irr ⟨_, rfl, .inl ⟨"0", rfl, by decide +kernel, fun H2 s2 => ⟨false, by decide +kernel, iteT ?_⟩⟩⟩⟩
      exact k H2 fun b o e => s2 b o (sp b o e)
end
end RV
namespace RV
open PySem L2
section
variable {P : Program} {w : World} {K : PySem.W.Frag} {mg : Str → Option Value} {base : Heap} {C : Addr}
theorem ok_terms_in {f : Addr} {fd : FuncData} (F : Fun K "_terms_in" "_terms_in" s_terms_in f fd) (hz : mg "zip" = none) (T2 : Blt2 mg) (h_apart : Fn P w K mg base "_with_sign_apart" 1 ["text"] (Irr sp_apart)) (h_rterm : Fn P w K mg base "_read_term" 2 ["sign", "word"] (Irr (sp_rterm K))) : FnOk P w K mg base CX0 3 f fd ["text"] (sp_termsin K) := by
  refine F.ok sc_terms_in (fun vs H Q E h => ?_) (fun cdv A outer s H vs Q E hr h => ?_)
  · obtain ⟨_, rfl, _⟩ := h
    rfl
  · obtain ⟨qs, rfl, d, k⟩ := h
    refine ⟨_, (pss_cons (ps_set (i := 1) sc_terms_in.nd rfl (Or.inl rfl) (pe_split (pe_fn h_apart (hr.mono (by decide)) (pa_cons (pv 0) pa_nil)) pe_str))
      (pss_cons (ps_setLc (i := 2) (own := [("sign", 3), ("word", 4)]) (g := gPr K 3 4) (tt := tYes) rfl sc_terms_in.nd rfl rfl (sw_true rfl rfl rfl (by decide +kernel)) (pi_zip (by rfl) hz (pa_cons (pe_sl2 (i := 0) (pv 1)) (pa_cons (pe_sl2 (i := 1) (pv 1)) pa_nil))) (blkOk_by (N := sc_terms_in_N) (sc := defScope s_terms_in) (by decide +kernel)) (fun _ _ _ _ _ => pg_tupK (by rfl) (pgs_cons (pg_name (i := 3) sc_terms_in.nd rfl (Or.inl rfl)) (pgs_cons (pg_name (i := 4) sc_terms_in.nd rfl (Or.inl rfl)) pgs_nil))) (fun _ _ _ _ _ => pts_nil) (fun _ _ _ _ _ => (pe_fn h_rterm (hr.mono (by decide)) (pa_cons (pv 3) (pa_cons (pv 4) pa_nil)))))
      (pss_one (ps_ret (pe_callTy call_tuple_of (by rfl) T2.b_tuple (by decide +kernel) (pa_cons (pe_lc (own := [("term", 5)]) (g := gName 5) rfl sc_terms_in.nd (pi_list (pv 2)) (blkOk_by (N := sc_terms_in_N) (sc := defScope s_terms_in) (by decide +kernel)) (fun _ _ _ _ _ => pg_name (i := 5) sc_terms_in.nd rfl (Or.inl rfl)) (fun _ _ _ _ _ => pts_one (pt_cmpR op_notN (pv 5) pe_non (nomark _))) (fun _ _ _ _ _ => (pv 5))) pa_nil)))))), ?_⟩
    have tl := txt_len d
    have dl := d.ln
    have al : (apart (txt qs)).length ≤ 200004 := by
      unfold apart
      have l2 : Str.length "- " = 2 := by decide +kernel
      have l3 : Str.length "+ " = 2 := by decide +kernel
      have l4 : (cutS (txt qs) (some 1) none).length ≤ (txt qs).length := by
        rw [cd_len, cd_rest, List.length_drop, cd_len]
        omega
      split
      · rw [sl_app, l2]; omega
      · rw [sl_app, l3]; omega
    refine ⟨_, rfl, irr ⟨txt qs, rfl, by omega, ⟨_, rfl⟩, _, _, rfl, rfl, by decide +kernel, Nat.le_trans (show _ ≤ 200010 by omega) (by decide), fun p np => ?_⟩⟩
    rw [apart_txt d.nm, split_apart d.nm]
    -- the pairs of a sign and a word
    obtain ⟨PS, hPS, ePS⟩ : ∃ PS : List (Str × Str), (partsZ qs).map V.str = PS.flatMap (fun q => [V.str q.1, V.str q.2]) ∧ ((qs = [] ∧ PS = [(("+" : Str), ("0" : Str))]) ∨ (qs ≠ [] ∧ PS = qs.map fun q => (sgn q, wo q.1 q.2))) := by
      by_cases hq : qs = []
      · exact ⟨[(("+" : Str), ("0" : Str))], by rw [hq]; rfl, .inl ⟨hq, rfl⟩⟩
      · refine ⟨qs.map fun q => (sgn q, wo q.1 q.2), ?_, .inr ⟨hq, rfl⟩⟩
        rw [partsZ, if_neg hq, parts, List.map_flatMap, List.flatMap_map]
        rfl
    have plen : PS.length ≤ 61 := by
      rcases ePS with ⟨_, rfl⟩ | ⟨_, rfl⟩
      · decide
      · rw [List.length_map]; omega
    rw [hPS]
    have k0 := (Kp.start H).new (o := .lst (PS.flatMap fun q => [V.str q.1, V.str q.2])) np
    dsimp only [gName]
    refine seq_of (fun σ' H' => ∃ (D : Addr) (zs : List V) (us : List TP), σ' = [some (.str (txt qs)), some (.ref p), some (.ref D), none, none, none] ∧ prs us = qs ∧ zs.filter (fun z => !decide (z = V.non)) = vP us ∧ zs.length ≤ 100 ∧ Kp H (lP us) H' ∧ H' D = some (.lst zs)) ?rest (fun M hM => ?main)
    case main =>
      refine ⟨_, rfl, p, _, rfl, SqL.of upd_same, fun p2 np2 => ?_⟩
      have k1 := k0.new (o := .lst (step2 0 (PS.flatMap fun q => [V.str q.1, V.str q.2]))) np2
      refine ⟨_, rfl, p, _, rfl, SqL.of (k1.at (List.mem_cons_of_mem _ List.mem_cons_self)), fun p3 np3 => ?_⟩
      have k2 := k1.new (o := .lst (step2 1 (PS.flatMap fun q => [V.str q.1, V.str q.2]))) np3
      rw [step2_even (fun q : Str × Str => V.str q.1) (fun q => V.str q.2), step2_odd (fun q : Str × Str => V.str q.1) (fun q => V.str q.2)] at k2 ⊢
      refine ⟨p2, p3, _, _, rfl, SqL.of (k2.at (List.mem_cons_of_mem _ List.mem_cons_self)), SqL.of (k2.at List.mem_cons_self), fun D nD => ?_⟩
      have e2 := k2.at (p := p2) (o := .lst (PS.map fun q => V.str q.1)) (List.mem_cons_of_mem _ List.mem_cons_self)
      have e3 := k2.at (p := p3) (o := .lst (PS.map fun q => V.str q.2)) List.mem_cons_self
      revert k2 e2 e3 nD
      generalize upd (upd (upd H p (HO.lst (List.flatMap (fun q : Str × Str => [V.str q.fst, V.str q.snd]) PS))) p2 (HO.lst (List.map (fun q : Str × Str => V.str q.fst) PS))) p3 (HO.lst (List.map (fun q : Str × Str => V.str q.snd) PS)) = H3
      intro k2 nD e2 e3
      refine L2.lc_it (walk_zip (K := K) (xs := PS.map fun q => V.str q.1) (ys := PS.map fun q => V.str q.2) (n := PS.length) (by simp))
        (fun i H' => ∃ (zs : List V) (us : List TP), zs.filter (fun z => !decide (z = V.non)) = vP us ∧ zs.length = i ∧ prs us = qs.take i ∧ Kp H3 (lP us) H' ∧ H' D = some (.lst zs))
        ⟨[], [], rfl, rfl, by simp [prs], (Kp.start H3).put nD fun _ hp => (nomatch hp), upd_same⟩ (fun i H' _ z => ?_) (fun i x Ha Hb hi hv y => ?_) (fun H' hv => ?_)
      · obtain ⟨_, _, _, _, _, kp, _⟩ := z
        exact ⟨SqL.of (kp.sm _ _ e2), SqL.of (kp.sm _ _ e3)⟩
      · obtain ⟨zs, us, hf, hl, hu, kp, eD⟩ := hv
        obtain ⟨T, a, b, rfl, nT, rfl, ha, hb⟩ := y
        dsimp only at ha hb
        rw [List.getElem?_map, List.getElem?_eq_getElem hi] at ha hb
        obtain rfl : V.str PS[i].1 = a := Option.some.inj ha
        obtain rfl : V.str PS[i].2 = b := Option.some.inj hb
        have kT := (kp.new (o := .tup [V.str PS[i].1, V.str PS[i].2]) nT).sub (L' := lP us) fun _ hp => List.mem_cons_of_mem _ hp
        have eT : upd Ha T (.tup [V.str PS[i].1, V.str PS[i].2]) D = some (.lst zs) := by rw [upd_ne (ne_of_none eD nT)]; exact eD
        refine ⟨T, _, rfl, SqT.of upd_same, rfl, _, _, rfl, _, _, rfl, ⟨rfl, ⟨rfl, ?_⟩⟩⟩
        have e0 : ∀ (σ : L2.St) (H : Hp) (R : Bool → Hp → Prop), R true H → tYes σ H R := fun _ _ _ r => r
        refine e0 _ _ _ ?_
        simp only [↓reduceIte]
        refine ⟨_, rfl, _, rfl, irr ?_⟩
        have zl : zs.length < sizeLine := by rw [hl]; exact Nat.lt_of_lt_of_le (show i < 100 by omega) (by decide)
        rcases ePS with ⟨hq, hPS⟩ | ⟨hq, hPS⟩
        · subst hPS
          have i0 : i = 0 := by simpa using hi
          subst i0
          refine .inr ⟨rfl, fun H' sm => ⟨zs, sm _ _ eT, zl, zs ++ [.non], us, ?_, by rw [List.length_append, hl]; rfl, by rw [hu, hq]; rfl, (kT.next sm).put nD (Kp.off (kT.next sm) (sm _ _ eT)), upd_same⟩⟩
          rw [List.filter_append, hf]
          simp
        · have hi' : i < qs.length := by rw [hPS, List.length_map] at hi; exact hi
          have e : PS[i] = (sgn qs[i], wo qs[i].1 qs[i].2) := by simp [hPS]
          rw [e]
          have hm : qs[i] ∈ qs := List.getElem_mem hi'
          refine .inl ⟨qs[i], rfl, d.nm _ hm, Nat.lt_of_le_of_lt (tot_mem hm) (Nat.lt_of_le_of_lt d.tt (by decide)), fun t H' kt => ?_⟩
          have kt2 : Kp H3 (lP (us ++ [(t, qs[i])])) H' := (kT.thn (by rw [e]; exact kt)).sub fun p hp => by
            rw [lP_app] at hp
            exact List.mem_append.mpr ((List.mem_append.mp hp).symm)
          have eD' : H' D = some (.lst zs) := kt.sm _ _ (by rw [← e]; exact eT)
          refine ⟨zs, eD', zl, zs ++ [.ref t], us ++ [(t, qs[i])], ?_, by rw [List.length_append, hl]; rfl, ?_, kt2.put nD (Kp.off kt2 eD'), upd_same⟩
          · rw [List.filter_append, hf, vP_app]
            rfl
          · rw [prs_app, hu, List.take_add_one, List.getElem?_eq_getElem hi']
            rfl
      · obtain ⟨zs, us, hf, hl, hu, kp, eD⟩ := hv
        refine hM _ _ ⟨D, zs, us, rfl, ?_, hf, by omega, ?_, eD⟩
        · rw [hu]
          rcases ePS with ⟨hq, _⟩ | ⟨_, hPS⟩
          · rw [hq]; simp
          · rw [hPS, List.length_map, List.take_length]
        · exact ⟨fun b o e => kp.sm b o (k2.sm b o e), fun p hp => ⟨k2.none0 (kp.nw p hp).1, (kp.nw p hp).2⟩⟩
    rintro σ1 H1 ⟨D, zs, us, rfl, eus, hzs, zl, k1, eD⟩
    refine ⟨_, rfl, D, rfl, ⟨_, SqL.of eD⟩, fun D2 nD2 => ?_⟩
    refine lc_list (xs := zs) (fun i H' => Same H1 H' ∧ H' D2 = some (.lst ((zs.take i).filter fun z => !decide (z = V.non)))) ⟨fun b o e => by rw [upd_ne (ne_of_none e nD2)]; exact e, upd_same⟩ (fun i H' _ z => SqL.of (z.1 _ _ eD)) ?_ ?_
    · rintro i x H' hx ⟨sm, e2⟩
      have et : zs.take (i + 1) = zs.take i ++ [x] := by rw [List.take_add_one, hx]; rfl
      refine ⟨rfl, _, rfl, rfl, _, rfl, ?_⟩
      rw [et, List.filter_append]
      by_cases hn : x = V.non
      · rw [hn]
        refine iteF ⟨sm, ?_⟩
        rw [e2]
        simp
      · have hd : (!decide (x = V.non)) = true := by rw [decide_eq_false hn]; rfl
        dsimp only
        rw [if_pos hd]
        refine ⟨_, rfl, _, e2, ?_, fun b o e => by rw [upd_ne (ne_of_none e nD2)]; exact sm b o e, ?_⟩
        · exact Nat.lt_of_le_of_lt (List.length_filter_le _ _) (Nat.lt_of_le_of_lt (List.length_take_le' _ _) (Nat.lt_of_le_of_lt zl (by decide)))
        · rw [upd_same]
          have e3 : [x].filter (fun z => !decide (z = V.non)) = [x] := by simp [hn]
          rw [e3]
    · rintro H' ⟨sm, e2⟩
      rw [List.take_length, hzs] at e2
      refine ⟨D2, vP us, rfl, .inl ⟨SqL.of e2, fun m nm => ?_⟩⟩
      exact k us m _ eus ((k1.next sm).new nm)
end
end RV
namespace RV
open PySem L2
section
variable {P : Program} {w : World} {K : PySem.W.Frag} {mg : Str → Option Value} {base : Heap} {C : Addr}
theorem ok_Sum_r {f : Addr} {fd : FuncData} (F : Fun K "read" "Sum.read" s_Sum_read f fd) (T : Blt mg) (h_Sum : Mkr P w K mg base "Sum" C 4 (Irr (sp_Sum K C)) []) (h_terms_in : Fn P w K mg base "_terms_in" 3 ["text"] (Irr (sp_termsin K))) (h_str : OwnM P w K mg base C "__str__" 5 (Irr (sp_text C))) : FnOk P w K mg base CX0 8 f fd ["cls", "text"] (sp_read C) := by
  refine F.ok sc_Sum_read (fun vs H Q E h => ?_) (fun cdv A outer s H vs Q E hr h => ?_)
  · obtain ⟨_, rfl, _⟩ := h
    rfl
  · obtain ⟨qs, rfl, d, k⟩ := h
    refine ⟨_, (pss_cons (ps_if (pt_not (pt_val (pe_callB call_isi (by rfl) T.b_isinstance (by decide +kernel) (pa_cons (pv 1) (pa_cons (pe_bltn (v := .ty "str") (by rfl) T.b_str (by decide +kernel) rfl) pa_nil))))) (pss_one ps_never) pss_nil)
      (pss_cons (ps_set (i := 2) sc_Sum_read.nd rfl (Or.inl rfl) (pe_mkL (i := 0) h_Sum (hr.mono (by decide)) rfl (Or.inl rfl) (pa_cons (pe_fn h_terms_in (hr.mono (by decide)) (pa_cons (pv 1) pa_nil)) pa_nil)))
      (pss_cons (ps_if (pt_cmpR op_ne (pe_callTy (call_strO h_str (hr.mono (by decide))) (by rfl) T.b_str (by decide +kernel) (pa_cons (pv 2) pa_nil)) (pv 1) (nomark _)) (pss_one ps_never) pss_nil)
      (pss_one (ps_ret (pv 2)))))), ?_⟩
    refine ⟨_, rfl, _, _, .type "str", .type "str", true, rfl, .ty _, .base (.str _), kit_ty (by decide +kernel), true, rfl, iteF ?_⟩
    refine ⟨rfl, _, rfl, irr ⟨qs, rfl, d, fun us m H1 eus k1 => ?_⟩⟩
    have un : ∀ q ∈ prs us, IsNm q.1 := eus ▸ d.nm
    have ul : us.length ≤ 60 := by rw [← prs_len, eus]; exact d.ln
    refine fun x dx hx hd ne => Sum_kp (us := us) ⟨SqT.of (k1.at List.mem_cons_self), fun u hu => SqT.of (k1.at (List.mem_cons_of_mem _ (List.mem_map.mpr ⟨u, hu, rfl⟩))), un, by omega⟩ hx hd ne fun ds m2 dx2 H2 md k2 => ?_
    have eds : prs ds = qs := by
      have d2 : Nrm (prs us) := eus ▸ d.nr
      rw [md.nr.uniq d2 md.co, eus]
    have k3 : Kp H (lS C x dx2 m2 ds) H2 := ⟨fun b o e => k2.sm b o (k1.sm b o e), fun p hp => ⟨k1.none0 (k2.nw p hp).1, (k2.nw p hp).2⟩⟩
    refine ⟨_, rfl, x, dx2, _, rfl, k3.at List.mem_cons_self, irr ⟨x, qs, rfl, eds ▸ SumR.of fun p hp => k3.at hp, fun q hq => ⟨d.nm q hq, Nat.lt_of_le_of_lt (tot_mem hq) (Nat.lt_of_le_of_lt d.tt (by decide))⟩, Nat.le_trans d.ln (by decide), fun H3 s3 => ?_⟩⟩
    refine ⟨_, rfl, _, rfl, rfl, _, rfl, ?_⟩
    refine ite2 (fun h => ?_) (fun _ => ?_)
    · simp at h
    exact ⟨_, rfl, k x dx2 m2 ds H3 eds (k3.next s3)⟩
end
end RV
namespace RV
open PySem L2
section
variable {P : Program} {w : World} {K : PySem.W.Frag} {mg : Str → Option Value} {base : Heap} {C : Addr}
theorem ok_sum_text {f : Addr} {fd : FuncData} (F : Fun K "_law_sum_text" "_law_sum_text" s_sum_text f fd) (T : Blt mg) : FnOk P w K mg base CX0 1 f fd ["_law_terms"] (sp_sumtext K) := by
  refine F.ok sc_sum_text (fun vs H Q E h => ?_) (fun cdv A outer s H vs Q E hr h => ?_)
  · obtain ⟨_, _, rfl, _⟩ := h
    rfl
  · obtain ⟨l, ds, rfl, hl, ht, d, k⟩ := h
    refine ⟨_, (pss_cons (ps_set (i := 1) sc_sum_text.nd rfl (Or.inl rfl) pe_str)
      (pss_cons (ps_for PassesOwn.never rfl (pi_list (pv 0)) (pg_tup (by rfl) (pgs_cons (pg_name (i := 2) sc_sum_text.nd rfl (Or.inl rfl)) (pgs_cons (pg_name (i := 3) sc_sum_text.nd rfl (Or.inl rfl)) pgs_nil))) (pss_cons (ps_set (i := 4) sc_sum_text.nd rfl (Or.inl rfl) (pe_callB call_abs (by rfl) T.b_abs (by decide +kernel) (pa_cons (pv 3) pa_nil))) (pss_cons (ps_set (i := 5) sc_sum_text.nd rfl (Or.inl rfl) (pe_ifExp (pt_cmpR op_eq (pv 4) pe_int (nomark _)) (pv 2) (pe_op op_add_str (pe_op op_add_str (pe_callTy call_str_int (by rfl) T.b_str (by decide +kernel) (pa_cons (pv 4) pa_nil)) pe_str) (pv 2)))) (pss_one (ps_if (pt_cmpR op_eq (pv 1) pe_str (nomark _)) (pss_one (ps_set (i := 1) sc_sum_text.nd rfl (Or.inl rfl) (pe_ifExp (pt_cmpR op_lt (pv 3) pe_int (nomark _)) (pe_op op_add_str pe_str (pv 5)) (pv 5)))) (pss_one (ps_set (i := 1) sc_sum_text.nd rfl (Or.inl rfl) (pe_op op_add_str (pe_op op_add_str (pv 1) (pe_ifExp (pt_cmpR op_lt (pv 3) pe_int (nomark _)) pe_str pe_str)) (pv 5)))))))))
      (pss_one (ps_ret (pe_ifExp (pt_cmpR op_eq (pv 1) pe_str (nomark _)) pe_str (pv 1)))))), ?_⟩
    have ul : ds.length ≤ 60 := by rw [← prs_len]; exact d.ln
    have dq : ∀ q ∈ prs ds, IsNm q.1 ∧ q.2.natAbs < 10 ^ 64 := fun q hq => ⟨d.nm q hq, Nat.lt_of_le_of_lt (tot_mem hq) (Nat.lt_of_le_of_lt d.tt (by decide))⟩
    have big5 : ∀ {n m : Nat}, n ≤ 200000 → m ≤ 5000 → n + m ≤ sizeLine := fun h1 h2 => Nat.le_trans (show _ ≤ 205000 by omega) (by decide)
    refine ⟨_, rfl, l, rfl, ⟨_, hl⟩, for_list (xs := vP ds) (fun i σ H' => H' = H ∧ ∃ o2 o3 o4 o5, σ = [some (.ref l), some (.str (line ((prs ds).take i))), o2, o3, o4, o5]) ⟨rfl, none, none, none, none, rfl⟩ (fun i σ H' _ h => by rw [h.1]; exact hl) ?_ ?_⟩
    · rintro i y σ H1 hy ⟨rfl, o2, o3, o4, o5, rfl⟩
      rw [vP, List.getElem?_map] at hy
      cases hu : ds[i]? with
      | none => rw [hu] at hy; cases hy
      | some u =>
        rw [hu] at hy
        obtain rfl : V.ref u.1 = y := Option.some.inj hy
        have hm := List.mem_of_getElem? hu
        have hq : u.2 ∈ prs ds := List.mem_map.mpr ⟨u, hm, rfl⟩
        have et : (prs ds).take (i + 1) = (prs ds).take i ++ [u.2] := by
          rw [List.take_add_one, prs, List.getElem?_map, hu]
          rfl
        have hx := (dq _ hq).1
        have hz := Nat.le_trans (tot_mem hq) d.tt
        have wl := wo_len hx (dq _ hq).2
        have ll : (line ((prs ds).take i)).length ≤ 200000 := line_len (fun q hq => dq q (List.mem_of_mem_take hq)) (by rw [List.length_take, prs_len]; omega)
        refine ⟨u.1, _, rfl, ht u hm, rfl, _, _, rfl, _, _, rfl, rfl, ?_⟩
        refine ⟨_, rfl, _, rfl, ?_⟩
        dsimp only [gName]
        rw [show (if u.2.2 < 0 then -u.2.2 else u.2.2) = ab u.2.2 from rfl]
        refine seq_of (fun σ' H' => σ' = [some (.ref l), some (.str (line ((prs ds).take i))), some (.str u.2.1), some (.int u.2.2), some (.int (ab u.2.2)), some (.str (wo u.2.1 u.2.2))] ∧ H' = H1) ?rest (fun M hM => ?main)
        case main =>
          refine ⟨_, rfl, rfl, _, rfl, ?_⟩
          refine ite2 (fun h => ?_) (fun h => ?_)
          · have h1 : ab u.2.2 = 1 := V.int.inj (of_decide_eq_true h)
            refine ⟨_, rfl, hM _ _ ⟨?_, rfl⟩⟩
            rw [wo, if_pos h1]
            rfl
          · have h1 : ¬ ab u.2.2 = 1 := fun e => h (decide_eq_true (congrArg V.int e))
            have lg : (ab u.2.2).natAbs ≤ 10 ^ 45 := by unfold ab; split <;> omega
            have nl := num_len (z := ab u.2.2) (ab_lt (dq _ hq).2)
            have e1 : Str.length "*" = 1 := by decide +kernel
            have hx8 := isNm_len hx
            rw [← cd_len] at hx8
            refine ⟨_, rfl, _, rfl, log_small lg, _, _, rfl, rfl, ?_, _, rfl, _, _, rfl, rfl, ?_, ?_⟩
            · show (num (ab u.2.2)).length + _ ≤ _
              rw [e1]
              exact big5 (show _ ≤ 200000 by omega) (by decide)
            · show (num (ab u.2.2) ++ ("*" : Str)).length + _ ≤ _
              rw [sl_app, e1]
              exact big5 (show _ ≤ 200000 by omega) (by omega)
            · refine hM _ _ ⟨?_, rfl⟩
              rw [← wo_law _ _ h1]
              rfl
        rintro σ2 H2 ⟨rfl, rfl⟩
        refine ⟨_, rfl, rfl, _, rfl, ?_⟩
        rw [et]
        generalize hqs : (prs ds).take i = qs at ll ⊢
        cases qs with
        | nil =>
          refine iteT ⟨_, rfl, _, _, rfl, rfl, _, rfl, ?_⟩
          refine ite2 (fun h => ?_) (fun h => ?_)
          · have hn : u.2.2 < 0 := of_decide_eq_true h
            have e1 : Str.length "-" = 1 := by decide +kernel
            refine ⟨_, rfl, _, _, rfl, rfl, ?_, ⟨rfl, some (.str u.2.1), some (.int u.2.2), some (.int (ab u.2.2)), some (.str (wo u.2.1 u.2.2)), ?_⟩⟩
            · rw [e1]
              exact big5 (by decide) (by omega)
            · rw [List.nil_append, ← line_one, if_pos hn]
              rfl
          · have hn : ¬ u.2.2 < 0 := of_decide_eq_false (by simpa using h)
            refine ⟨_, rfl, ⟨rfl, some (.str u.2.1), some (.int u.2.2), some (.int (ab u.2.2)), some (.str (wo u.2.1 u.2.2)), ?_⟩⟩
            rw [List.nil_append, ← line_one, if_neg hn]
            rfl
        | cons q r =>
          have hq0 : q ∈ prs ds := List.mem_of_mem_take (i := i) (by rw [hqs]; exact List.mem_cons_self)
          have ne : decide (V.str (line (q :: r)) = V.str "") = false := decide_eq_false fun e => line_ne (dq q hq0).1 (V.str.inj e)
          have e1 : Str.length " - " = 3 := by decide +kernel
          have e2 : Str.length " + " = 3 := by decide +kernel
          rw [ne]
          refine iteF ⟨_, rfl, _, rfl, _, _, rfl, rfl, _, rfl, ?_⟩
          refine ite2 (fun h => ?_) (fun h => ?_)
          · have hn : u.2.2 < 0 := of_decide_eq_true h
            refine ⟨_, _, rfl, rfl, ?_, _, rfl, _, _, rfl, rfl, ?_, ⟨rfl, some (.str u.2.1), some (.int u.2.2), some (.int (ab u.2.2)), some (.str (wo u.2.1 u.2.2)), ?_⟩⟩
            · rw [e1]
              exact big5 ll (by decide)
            · rw [sl_app, e1]
              exact Nat.le_trans (show _ ≤ 205000 by omega) (by decide)
            · rw [← line_more, if_pos hn]
              rfl
          · have hn : ¬ u.2.2 < 0 := of_decide_eq_false (by simpa using h)
            refine ⟨_, _, rfl, rfl, ?_, _, rfl, _, _, rfl, rfl, ?_, ⟨rfl, some (.str u.2.1), some (.int u.2.2), some (.int (ab u.2.2)), some (.str (wo u.2.1 u.2.2)), ?_⟩⟩
            · rw [e2]
              exact big5 ll (by decide)
            · rw [sl_app, e2]
              exact Nat.le_trans (show _ ≤ 205000 by omega) (by decide)
            · rw [← line_more, if_neg hn]
              rfl
    · rintro σ H1 ⟨rfl, o2, o3, o4, o5, rfl⟩
      rw [vP_len, ← prs_len, List.take_length]
      refine ⟨_, rfl, rfl, _, rfl, ?_⟩
      revert k dq
      generalize prs ds = qs
      intro dq k
      cases qs with
      | nil => exact iteT k
      | cons q r =>
        have ne : decide (V.str (line (q :: r)) = V.str "") = false := decide_eq_false fun e => line_ne (dq q List.mem_cons_self).1 (V.str.inj e)
        rw [ne]
        refine iteF ⟨_, rfl, ?_⟩
        rw [line, if_neg (by simp)]
        exact k
end
end RV
namespace RV
open PySem L2
section
variable {P : Program} {w : World} {K : PySem.W.Frag} {mg : Str → Option Value} {base : Heap} {C fr fm : Addr} {fo ro : Option Value}
theorem ok_Sum_a {f : Addr} {fd : FuncData} (F : Fun K "__add__" "Sum.__add__" s_Sum___add__ f fd) (T : SClass K mg C) (B : Blt mg) (h_Sum : Mkr P w K mg base "Sum" C 4 (Irr (sp_Sum K C)) []) : FnOk P w K mg base CX0 6 f fd ["self", "other"] (sp_addS C) := by
  refine F.ok sc_Sum___add__ (fun vs H Q E h => ?_) (fun cdv A outer s H vs Q E hr h => ?_)
  · obtain ⟨_, _, _, _, rfl, _⟩ := h
    rfl
  · obtain ⟨a, b, qs, rs, rfl, ha, hb, hn, hl, k⟩ := h
    refine ⟨_, (pss_cons (ps_if (pt_not (pt_val (pe_callB call_isi (by rfl) B.b_isinstance (by decide +kernel) (pa_cons (pv 1) (pa_cons (pe_gC T.k) pa_nil))))) (pss_one ps_never) pss_nil)
      (pss_one (ps_ret (pe_mk h_Sum (hr.mono (by decide)) (pa_cons (pe_op op_catA (pe_fld (pv 0) rfl) (pe_fld (pv 1) rfl)) pa_nil))))), ?_⟩
    obtain ⟨dx, t, us, rfl, q⟩ := ha
    obtain ⟨dy, t2, us2, rfl, q2⟩ := hb
    refine ⟨_, rfl, _, _, _, .ref C, true, rfl, .own C, T.x.ty (q2 _ List.mem_cons_self), T.me, true, rfl, iteF ?_⟩
    have e1 := q (t, .tup (vP us)) (List.mem_cons_of_mem _ List.mem_cons_self)
    have e2 := q2 (t2, .tup (vP us2)) (List.mem_cons_of_mem _ List.mem_cons_self)
    refine ⟨_, rfl, a, C, dx, _, _, rfl, q _ List.mem_cons_self, T.x.cl, T.n1, rfl, _, rfl, b, C, dy, _, _, rfl, q2 _ List.mem_cons_self, T.x.cl, T.n1, rfl, ?_⟩
    have hl' : us.length + us2.length ≤ 120 := by
      have hl := hl.1
      rw [List.length_append, prs_len, prs_len] at hl
      exact hl
    have fin : ∀ (t' : Addr) (H1 : Hp), Same H H1 → SqT K H1 t' (vP (us ++ us2)) → ∀ x dx, H1 x = none → H1 dx = none → dx ≠ x → Irr (sp_Sum K C) [.ref x, .ref t'] (upd (upd H1 dx (.own x)) x (.ins C dx [])) (fun v H2 => v = .non ∧ Q (.ref x) H2) E0 := fun t' H1 s1 ht' x dx' hx hd ne =>
      Sum_kpF (us := us ++ us2) ⟨ht', fun u hu => ?_, by rw [prs_app]; exact hn, by rw [prs_app]; exact hl⟩ hx hd ne fun ds m2 dx2 H3 md k3 => k x dx2 m2 ds H3 (by rw [prs_app] at md; exact md) ⟨fun b o e => k3.sm b o (s1 b o e), fun p hp => ⟨?_, (k3.nw p hp).2⟩⟩
    · refine ⟨t, t2, vP us, vP us2, rfl, rfl, SqT.of e1, SqT.of e2, ?_, fun e => ?_, fun _ e => ?_, fun _ _ p np => ?_⟩
      · rw [vP_len, vP_len]
        exact Nat.le_trans hl' (by decide)
      · have e0 : us = [] := List.map_eq_nil_iff.mp e
        exact fin t2 H (Same.refl H) (by rw [e0]; exact SqT.of e2)
      · have e0 : us2 = [] := List.map_eq_nil_iff.mp e
        exact fin t H (Same.refl H) (by rw [e0, List.append_nil]; exact SqT.of e1)
      · rw [← vP_app]
        exact fin p _ (fun b o e => by rw [upd_ne (ne_of_none e np)]; exact e) (SqT.of upd_same)
    · rcases List.mem_append.mp hu with hu | hu
      · exact (SqT.of (q _ (List.mem_cons_of_mem _ (List.mem_cons_of_mem _ (List.mem_map.mpr ⟨u, hu, rfl⟩))))).ext s1
      · exact (SqT.of (q2 _ (List.mem_cons_of_mem _ (List.mem_cons_of_mem _ (List.mem_map.mpr ⟨u, hu, rfl⟩))))).ext s1
    · cases e : H p.1 with
      | none => rfl
      | some o =>
        have z := s1 _ _ e
        rw [(k3.nw p hp).1] at z
        cases z
end
end RV
namespace RV
open PySem L2 StX
section
variable {P : Program} {w : World} {K : PySem.W.Frag} {mg : Str → Option Value} {base : Heap} {C : Addr}
theorem ok_Sum_of {f : Addr} {fd : FuncData} (F : Fun K "of" "Sum.of" s_Sum_of f fd) (T2 : Blt2 mg) (h_is_name : Fn P w K mg base "is_name" 1 ["value"] (Irr (sp_is_name K))) (h_Sum : Mkr P w K mg base "Sum" C 4 (Irr (sp_Sum K C)) []) : FnR P w K mg base CX0 6 f (sp_of C) := by
  obtain ⟨oc, od, kV, doc, pm, an, cdv, ct, osl, rfl, lk, hcd⟩ := F.ex
  have st := fn_star (P := P) (w := w) (mg := mg) (base := base) (k := 5) (ps := ["cls"]) (pv := "names") (sp := sp_ofB K C) (CX := CX0) lk hcd sc_Sum_of cxUp_none
    (bind_star1 (B := fun l => bindArgs (PySem.W.fnOf "of" "Sum.of" (defArgs s_Sum_of) (defBody s_Sum_of) (defScope s_Sum_of) .none kV doc pm an cdv ct) ⟨l, []⟩) (p1 := "cls") (pv := "names") (fun a => rfl) (fun a r rs => rfl)) (fun A outer s H vs Q E hr h => ?_)
  · refine st.imp fun vs H Q E z => ?_
    obtain ⟨ns, rfl, hn, hl, k⟩ := z
    refine ⟨[.ref C], ns.map V.str, rfl, rfl, by rw [List.length_map]; exact Nat.le_trans hl (by decide), fun p np => ⟨p, ns, rfl, SqT.of upd_same, hn, hl, fun x dx m ds H' md kp => k x dx m ds H' md ?_⟩⟩
    have s1 : Same H (upd H p (.tup (ns.map V.str))) := fun b o e => by rw [upd_ne (ne_of_none e np)]; exact e
    refine ⟨fun b o e => kp.sm b o (s1 b o e), fun q hq => ⟨?_, (kp.nw q hq).2⟩⟩
    cases e : H q.1 with
    | none => rfl
    | some o =>
      have z := s1 _ _ e
      rw [(kp.nw q hq).1] at z
      cases z
  · obtain ⟨p, ns, rfl, hp, hn, hl, k⟩ := h
    refine ⟨_, PSs.nox (pss_cons (ps_for PassesOwn.never rfl (pi_tup (pv 1)) (pg_name (i := 2) sc_Sum_of.nd rfl (Or.inl rfl)) (pss_one (ps_if (pt_not (pt_val (pe_fn h_is_name (hr.mono (by decide)) (pa_cons (pv 2) pa_nil)))) (pss_one ps_never) pss_nil)))
      (pss_one (ps_ret (pe_mkL (i := 0) h_Sum (hr.mono (by decide)) rfl (Or.inl rfl) (pa_cons (pe_callTy call_tuple_of (by rfl) T2.b_tuple (by decide +kernel) (pa_cons (pe_lc (own := [("name", 2)]) (g := gName 2) (tt := tYes) rfl sc_Sum_of.nd (pi_tup (pv 1)) (blkOk_by (N := sc_Sum_of_N) (sc := defScope s_Sum_of) (by decide +kernel)) (fun _ _ _ _ _ => pg_name (i := 2) sc_Sum_of.nd rfl (Or.inl rfl)) (fun _ _ _ _ _ => pts_nil) (fun _ _ _ _ _ => (pe_tup (pa_cons (pv 2) (pa_cons pe_int pa_nil))))) pa_nil)) pa_nil))))), ?_⟩
    refine ⟨_, rfl, p, rfl, ⟨_, hp⟩, for_tup (xs := ns.map V.str) (fun i σ H' => Same H H' ∧ ∃ o, σ = [some (.ref C), some (.ref p), o]) ⟨Same.refl H, none, rfl⟩ (fun i σ H' _ z => hp.ext z.1) ?_ ?_⟩
    · rintro i y σ H1 hy ⟨s1, o, rfl⟩
      obtain ⟨x, hx, rfl⟩ := List.mem_map.mp (List.mem_of_getElem? hy)
      have inm := hn x hx
      have lx : x.length ≤ sizeLine := by rw [cd_len]; exact Nat.le_trans (isNm_len inm).2 (by decide)
      exact ⟨_, rfl, irr ⟨_, rfl, .inl ⟨x, rfl, lx, fun H2 s2 => ⟨true, congrArg V.bl inm, iteF ⟨fun b o e => s2 b o (s1 b o e), _, rfl⟩⟩⟩⟩⟩
    · rintro σ H1 ⟨s1, o, rfl⟩
      refine ⟨rfl, _, rfl, p, rfl, ⟨_, hp.ext s1⟩, fun D nD => lc_tup (xs := ns.map V.str) (fun i H' => ∃ ws : List TP, prs ws = ones (ns.take i) ∧ Kp H1 (lP ws) H' ∧ H' D = some (.lst (vP ws)))
        ⟨[], by simp [prs, ones], (Kp.start H1).put nD fun _ hp => (nomatch hp), upd_same⟩ (fun i H' _ z => ?_) ?_ ?_⟩
      · obtain ⟨_, _, kp, _⟩ := z
        exact hp.ext fun b o e => kp.sm b o (s1 b o e)
      · rintro i y Ha hy ⟨ws, hw1, kp, eD⟩
        have hi : i < ns.length := by
          have := (List.getElem?_eq_some_iff.mp hy).1
          rwa [List.length_map] at this
        rw [List.getElem?_map, List.getElem?_eq_getElem hi] at hy
        obtain rfl : V.str ns[i] = y := Option.some.inj hy
        have wl : ws.length = i := by
          have := congrArg List.length hw1
          rw [prs_len, ones, List.length_map, List.length_take] at this
          omega
        have e0 : ∀ (σ : L2.St) (H : Hp) (R : Bool → Hp → Prop), R true H → tYes σ H R := fun _ _ _ r => r
        refine ⟨rfl, e0 _ _ _ ?_⟩
        simp only [↓reduceIte]
        refine ⟨_, rfl, (by show 2 ≤ sizeLine; decide), fun t nt => ?_⟩
        have eT : upd Ha t (oP (ns[i], 1)) D = some (.lst (vP ws)) := by rw [upd_ne (ne_of_none eD nt)]; exact eD
        have kT : Kp H1 (lP (ws ++ [(t, ns[i], 1)])) (upd Ha t (oP (ns[i], 1))) := (kp.new (o := oP (ns[i], 1)) nt).sub fun p hp => by
          rw [lP_app] at hp
          rcases List.mem_append.mp hp with hp | hp
          · exact List.mem_cons_of_mem _ hp
          · rw [List.mem_singleton.mp hp]
            exact List.mem_cons_self
        refine ⟨_, eT, ?_, ws ++ [(t, ns[i], 1)], ?_, kT.put nD (Kp.off kT eT), ?_⟩
        · rw [vP_len, wl]
          exact Nat.lt_of_lt_of_le (show i < 1001 by omega) (by decide)
        · rw [prs_app, hw1, List.take_add_one, List.getElem?_eq_getElem hi, ones, ones, List.map_append]
          rfl
        · rw [upd_same, vP_app]
          rfl
      · rintro H2 ⟨ws, hw1, kp, eD⟩
        rw [List.length_map, List.take_length] at hw1
        have wl : ws.length = ns.length := by
          have := congrArg List.length hw1
          rwa [prs_len, ones, List.length_map] at this
        refine ⟨D, vP ws, rfl, .inl ⟨SqL.of eD, fun m nm => ?_⟩⟩
        have k2 := kp.new (o := .tup (vP ws)) nm
        have wn : ∀ q ∈ prs ws, IsNm q.1 := by
          rw [hw1]
          intro q hq
          obtain ⟨x, hx, rfl⟩ := List.mem_map.mp hq
          exact hn x hx
        refine fun x dx' hx hd ne => Sum_kp (us := ws) ⟨SqT.of upd_same, fun u hu => SqT.of (k2.at (List.mem_cons_of_mem _ (List.mem_map.mpr ⟨u, hu, rfl⟩))), wn, by omega⟩ hx hd ne fun ds m2 dx2 H3 md k3 => ?_
        refine k x dx2 m2 ds H3 (by rw [hw1] at md; exact md) ⟨fun b o e => k3.sm b o (k2.sm b o (s1 b o e)), fun p hp => ⟨?_, (k3.nw p hp).2⟩⟩
        have z1 := k2.none0 (k3.nw p hp).1
        cases e : H p.1 with
        | none => rfl
        | some o =>
          have z := s1 _ _ e
          rw [z1] at z
          cases z
end
end RV
namespace RV
open PySem L2 TL
section
variable {P : Program} {w : World} {K : PySem.W.Frag} {mg : Str → Option Value} {base : Heap} {C : Addr}
theorem ok_give_InvalidName {f : Addr} {fd : FuncData} (F : Fun K "__init__" "InvalidName.__init__" s_InvalidName___init__ f fd) (T : OwnX K C) (t : PySem.W.takerIn K C "given" = some none) : FnOk P w K mg base CX0 1 f fd ["self", "given"] (sp_give C "given") := by
  refine F.ok sc_InvalidName___init__ (fun vs H Q E h => ?_) (fun cdv A outer s H vs Q E hr h => ?_)
  · obtain ⟨_, _, rfl, _⟩ := h
    rfl
  · obtain ⟨a, y, rfl, e, k⟩ := h
    exact ⟨_, pss_one (ps_give (pv 0) (pv 1)), _, rfl, _, rfl, a, C, rfl, T, t, e, k⟩
end
end RV
namespace RV
open PySem L2 PyProof.Rows
theorem caught_gives {X : Cx} {k j : Nat} {g CV CB CA : Addr} {cdg : Value} {q : Str} {spSaid : Addr → Value → Option Addr → Sp} {spSeen : Sp} (gs : X.A.guards = some []) (hr : Room (k + 1) X.A) (hj : j ≤ k)
    (gV : X.mg "BadValue" = some (.ref CV)) (gB : X.mg "BadName" = some (.ref CB)) (gA : X.mg "NoAnswer" = some (.ref CA))
    (h_said : FnEd X.prog X.w X.K X.mg X.base "_law_said" j ["_law_e"] spSaid) (h_seen : FnGd X.prog X.w X.K X.mg X.base "_law_seen" j ["_law_thing"] spSeen) :
    LamX.GivesTo X sc_caught_N "_law_caught" (defScope s_caught) g cdg (defBody s_caught) "_law_act" q (TTc X.K (.ref CV) (.ref CB) (.ref CA) spSaid spSeen) := by
  intro f c' s H Q tl act hc h
  have hr1 : Room k (X.A.deeper (envOfC "_law_caught" (defScope s_caught) s.heap.objs.size g cdg)) := hr.deeper _
  have rh : L2H.RoomH j (X.A.deeper (envOfC "_law_caught" (defScope s_caught) s.heap.objs.size g cdg)) := L2H.roomH_of (hr1.mono hj)
  refine ⟨_, (pss_cons (ps_try_cl (W0 := fun _ _ _ _ => False)
      (tb := fun W D σ H => ∃ Ech : XK, (∀ cls d σ' H', Ech cls d H' → σ'.length = 3 → W cls d σ' H') ∧ σ[0]? = some (some (.ref f)) ∧ H c' = some (LamX.CodeO c' q) ∧ tl Ech H (fun v H' => D.nx (σ.set 1 (some v)) H'))
      rfl rfl sc_caught.nd takes0 (fun W pn xe tk _ => ?_) (.cons (i := 2) rfl rfl (tests_three ⟨rfl, by decide, .inl gV⟩ ⟨rfl, by decide, .inl gB⟩ ⟨rfl, by decide, .inl gA⟩)
        (fun a oe cls d pn hz hf => pss_one (ps_ret (pe_fnE h_said gs ⟨rh.dp, rh.un⟩ List.mem_cons_self hz hf (pa_cons (pv 2) pa_nil)))) .nil))
    (pss_one (ps_ret (pe_lst (pa_cons pe_str (pa_cons (pe_fnG h_seen gs (hr1.mono hj) (pa_cons (pv 1) pa_nil)) pa_nil)))))), ?_⟩
  · refine ⟨fun pins s' σ H' D I h' => ?_⟩
    obtain ⟨Ech, hW, h1, h2, h3⟩ := h'
    exact (pss_one (ps_set (i := 1) sc_caught.nd rfl (Or.inl rfl) (act (fun c d σ H => σ.length = 3 → W c d σ H) pn xe Ech _ _ (takes_len tk) hW))).run pins s' σ H' D I ⟨h1, h2, h3⟩
  · refine ⟨fun cls d H' => PySem.W.exmAny X.K cls [.ref CV, .ref CB, .ref CA] = some true ∧ ∀ a, H' a = none → spSaid a cls d [.ref a] H' Q E0, fun cls d σ' H' ⟨e1, e2⟩ hl => ⟨true, e1, fun _ a na => ?_, fun z => nomatch z⟩, rfl, hc, ?_⟩
    · refine ⟨.ref a, ?_, e2 a na⟩
      show (σ'.set 2 (some (V.ref a)))[2]? = _
      rw [List.getElem?_set_self (by omega)]
    · exact h f
/-- the def that catches, as its callers see it: CV, CB, CA the classes that it catches -/
structure Ctch (P : Program) (w : World) (K : PySem.W.Frag) (mg : Str → Option Value) (base : Heap) (j : Nat) (CV CB CA : Addr) (spSaid : Addr → Value → Option Addr → Sp) (spSeen : Sp) : Prop where
  fn : ∃ g fd, mg "_law_caught" = some (.ref g) ∧ Fun K "_law_caught" "_law_caught" s_caught g fd ∧ Binds K fd ["_law_act"] []
  gV : mg "BadValue" = some (.ref CV)
  gB : mg "BadName" = some (.ref CB)
  gA : mg "NoAnswer" = some (.ref CA)
  said : FnEd P w K mg base "_law_said" j ["_law_e"] spSaid
  seen : FnGd P w K mg base "_law_seen" j ["_law_thing"] spSeen
/-- _law_caught(lambda: body) -/
theorem pe_caught {X : Cx} {j k : Nat} {CV CB CA c Pt : Addr} {spSaid : Addr → Value → Option Addr → Sp} {spSeen : Sp} {T : List (Addr × Str)} {params : Arguments} {body : Expr} {scope : Scope} {t : XK → TE} {p lpos pos : Pos}
    (h : Ctch X.prog X.w X.K X.mg X.base j CV CB CA spSaid spSeen) (gs : X.A.guards = some []) (TB : LamX.TabB X.base X.mg c Pt) (hcode : X.env.code = .ref c) (hmT : (Pt, X.env.qual ++ "<lambda>") ∈ T) (hu : ∀ p ∈ T, p.1 = Pt → p.2 = X.env.qual ++ "<lambda>") (hr : Room (k + 2) X.A) (hj : j ≤ k + 1)
    (hbody : ∀ (A : Around) (outer : List Env) (s : Shared) (H : Hp) (E : XK) (f c' : Addr), Room k (A.deeper (LamX.lamEnv X scope s.heap.objs.size f c')) → PE (LamX.lamCx X A outer s H E scope f c') body (t E))
    (hg : Gl X "_law_caught" := by rfl) (L : LamX.LamS X.env.scope scope := by exact LamX.lamS_by (by decide +kernel)) (hdef : defaultsOf params X.env = ([], []) := by rfl)
    (hbind : ∀ (q : Str) (cl : List (Str × Addr)) (pm cv ctv : Value), bindArgs (PySem.W.kla_fn "<lambda>" q params body scope cl pm cv ctv) ⟨[], []⟩ = pure [] := by exact fun _ _ _ _ _ => rfl) :
    PE X (.Call (.Name "_law_caught" p) [.Lambda params body scope lpos] [] pos) (LamX.tLam T (TTc X.K (.ref CV) (.ref CB) (.ref CA) spSaid spSeen) t) := by
  obtain ⟨⟨g, fd, hm, F, hb⟩, gV, gB, gA, h1, h2⟩ := h
  obtain ⟨oc, od, kV, doc, pm, an, cdv, ct, osl, rfl, lk, hcg⟩ := F.ex
  exact LamX.pe_lamcall hg hm F.kp lk hcg hb sc_caught rfl (.inl rfl) (caught_gives gs hr hj gV gB gA h1 h2) TB hcode hmT hu hr L hdef hbind hbody
end RV
namespace RV
open PySem L2 TL
section
variable {P : Program} {w : World} {K : PySem.W.Frag} {mg : Str → Option Value} {base : Heap}
theorem ok_oddN {f : Addr} {fd : FuncData} (F : Fun K "_law_odd" "_law_odd" s_odd f fd) (h_dip : Fn P w K mg base "_law_dip" 1 ["_law_well_here", "_law_many"] (Irr sp_dip)) : FnOk P w K mg base CX0 2 f fd ["_law_well_here"] (sp_oddN K) := by
  refine F.ok sc_odd (fun vs H Q E h => ?_) (fun cdv A outer s H vs Q E hr h => ?_)
  · obtain ⟨_, _, rfl, _⟩ := h
    rfl
  · obtain ⟨a, n, rfl, w0, hn, k⟩ := h
    refine ⟨_, (pss_cons (ps_set (i := 1) sc_odd.nd rfl (Or.inl rfl) (pe_fn h_dip (hr.mono (by decide)) (pa_cons (pv 0) (pa_cons pe_int pa_nil))))
      (pss_cons (ps_set (i := 2) sc_odd.nd rfl (Or.inl rfl) (pe_lst (pa_cons pe_non (pa_cons pe_bl (pa_cons pe_bl (pa_cons pe_int (pa_cons pe_int (pa_cons (pe_un un_neg pe_int) (pa_cons pe_int (pa_cons (pe_op op_pow pe_int pe_int) (pa_cons pe_str (pa_cons pe_str (pa_cons pe_str (pa_cons pe_str (pa_cons pe_str (pa_cons pe_str (pa_cons (pe_tup pa_nil) (pa_cons (pe_tup (pa_cons pe_str pa_nil)) (pa_cons (pe_lst pa_nil) (pa_cons (pe_lst (pa_cons pe_str pa_nil)) pa_nil))))))))))))))))))))
      (pss_one (ps_ret (pe_ix ix_list (pe_op op_cat (pv 2) (pe_lst (pa_cons pe_dnewK (pa_cons (pe_disp (pps_cons pe_str pe_int pps_nil) rfl rfl (by simp) (by decide)) pa_nil)))) (pv 1) (fun _ _ => rfl)))))), ?_⟩
    have h0 := Has.start w0
    refine ⟨_, rfl, dip_step h0 (by omega) (by decide) (by decide) fun r H1 r0 r1 h1 => ?_⟩
    refine ⟨_, rfl, _, _, rfl, rfl, ⟨by decide, by decide, by decide⟩, (by show 0 ≤ sizeLine; decide), fun t0 n1 => ⟨(by show 1 ≤ sizeLine; decide), fun t1 n2 => ⟨(by show 0 ≤ sizeLine; decide), fun l0 n3 => ⟨(by show 1 ≤ sizeLine; decide), fun l1 n4 => ⟨(by show 18 ≤ sizeLine; decide), fun A nA => ?_⟩⟩⟩⟩⟩
    have z0 := h1.none0 n1
    have k1 := h1.new n1 (o := .tup [])
    have z1 := k1.none0 n2
    have k2 := k1.new n2 (o := .tup [.str "a"])
    have z2 := k2.none0 n3
    have k3 := k2.new n3 (o := .lst [])
    have z3 := k3.none0 n4
    clear k1 k2 k3
    have hA := ((((h1.new n1 (o := .tup [])).new n2 (o := .tup [.str "a"])).new n3 (o := .lst [])).new n4 (o := .lst [.str "a"])).new nA (o := .lst [.non, .bl true, .bl false, .int 0, .int 1, .int (-1), .int 3, .int (10 ^ Int.toNat 30), .str "", .str "A", .str "1a", .str "a b", .str "a_b", .str "abcdefghi", .ref t0, .ref t1, .ref l0, .ref l1])
    dsimp only
    revert hA
    generalize hx : upd _ A _ = HA
    intro hA
    refine ⟨_, rfl, fun d0 nd0 => fun d1 nd1 => ⟨upd_same, [(.inr "a", .int 1)], rfl, by decide, ?_⟩⟩
    rw [upd_two, merge1]
    have z4 := hA.none0 nd0
    have z5 := (hA.new nd0 (o := .dK [])).none0 nd1
    have hD := (hA.new nd0 (o := .dK [])).new nd1 (o := .dK [(.inr "a", .int 1)])
    refine ⟨(by show 2 ≤ sizeLine; decide), fun B nB => ?_⟩
    have hB := hD.new nB (o := .lst [.ref d0, .ref d1])
    revert hB
    generalize upd _ B _ = HB
    intro hB
    refine ⟨A, B, _, _, rfl, rfl, hB.at (by repeat (first | assumption | exact List.mem_cons_self | apply List.mem_cons_of_mem)), hB.at (by repeat (first | assumption | exact List.mem_cons_self | apply List.mem_cons_of_mem)), (by show 18 + 2 ≤ sizeLine; decide), fun C nC => ?_⟩
    have hC := hB.new nC (o := .lst ((oddL t0 t1 l0 l1 d0 d1).map (·.1)))
    have key : ∀ HC, HC = upd HB C (.lst ((oddL t0 t1 l0 l1 d0 d1).map (·.1))) → tVar 1 [some (.ref a), some (.int r), some (.ref A)] HC (fun y H2 => rIxL K (.ref C) y H2 Q) := by
      rintro HC rfl
      obtain ⟨i, rfl⟩ : ∃ i : Nat, r = (i : Int) := ⟨r.toNat, by omega⟩
      have li : i < (oddL t0 t1 l0 l1 d0 d1).length := by show i < 20; omega
      have og := oddL_ok (K := K) (H := newOf H (upd HB C (.lst ((oddL t0 t1 l0 l1 d0 d1).map (·.1))))) (newOf_at z0 (hC.at (p := t0) (by repeat (first | assumption | exact List.mem_cons_self | apply List.mem_cons_of_mem)))) (newOf_at z1 (hC.at (p := t1) (by repeat (first | assumption | exact List.mem_cons_self | apply List.mem_cons_of_mem)))) (newOf_at z2 (hC.at (p := l0) (by repeat (first | assumption | exact List.mem_cons_self | apply List.mem_cons_of_mem)))) (newOf_at z3 (hC.at (p := l1) (by repeat (first | assumption | exact List.mem_cons_self | apply List.mem_cons_of_mem)))) (newOf_at z4 (hC.at (p := d0) (by repeat (first | assumption | exact List.mem_cons_self | apply List.mem_cons_of_mem)))) (newOf_at z5 (hC.at (p := d1) (by repeat (first | assumption | exact List.mem_cons_self | apply List.mem_cons_of_mem))))
      exact ⟨_, rfl, C, _, (i : Int), _, rfl, rfl, SqL.of (hC.at List.mem_cons_self), atI_nat (by rw [List.getElem?_map, List.getElem?_eq_getElem li]; rfl), k _ _ _ (og _ (List.getElem_mem li)) hC.gr hC.well⟩
    exact key _ rfl
end
end RV
namespace RV
open PySem L2 TL
def sp_lname : Sp := fun vs H Q _ => ∃ y : Str, vs = [.str y] ∧ y.length ≤ 1000 ∧ ∀ H', Same H H' → Q (.bl (isNm (cd y))) H'
theorem signs_in (d : Nat) : decide (d ∈ cd ("abcdefghijklmnopqrstuvwxyz0123456789" : Str)) = tailC d := by
  have e : cd ("abcdefghijklmnopqrstuvwxyz0123456789" : Str) = cd (("abcdefghijklmnopqrstuvwxyz" : Str) ++ ("0123456789" : Str)) := by decide +kernel
  rw [e]
  exact tail_in d
section
variable {P : Program} {w : World} {K : PySem.W.Frag} {mg : Str → Option Value} {base : Heap}
theorem ok_lname {f : Addr} {fd : FuncData} (F : Fun K "_law_is_name" "_law_is_name" s_lis_name f fd) (T : Blt mg) : FnOk P w K mg base CX0 1 f fd ["_law_word"] sp_lname := by
  refine F.ok sc_lis_name (fun vs H Q E h => ?_) (fun cdv A outer s H vs Q E hr h => ?_)
  · obtain ⟨_, rfl, _⟩ := h
    rfl
  · obtain ⟨y, rfl, hl, k⟩ := h
    refine ⟨_, (pss_cons (ps_set (i := 1) sc_lis_name.nd rfl (Or.inr rfl) pe_str)
      (pss_one (ps_ret (pe_and (pe_chain op_lt op_lt pe_int (pe_callB call_len_str (by rfl) T.b_len (by decide +kernel) (pa_cons (pv 0) pa_nil)) pe_int) (pe_and (pe_cmpR op_in_sign (pe_ix ix_str (pv 0) pe_int (fun _ _ => rfl)) (pe_slice sl_str (pv 1) po_none (po_some pe_int)) (by rfl)) (pe_one (pe_callB (cr_all rfl) (by rfl) T.b_all (by decide +kernel) (pa_cons (pe_lc (own := [("_law_sign_here", 2)]) (g := gName 2) (tt := tYes) rfl sc_lis_name.nd (pi_str (pv 0)) (blkOk_by (N := sc_lis_name_N) (sc := defScope s_lis_name) (by decide +kernel)) (fun _ _ _ _ _ => pg_name (i := 2) sc_lis_name.nd rfl (Or.inl rfl)) (fun _ _ _ _ _ => pts_nil) (fun _ _ _ _ _ => (pe_cmpR op_in_sign (pv 2) (pv 1) (by rfl)))) pa_nil)))))))), ?_⟩
    have out : isNm (cd y) = false → Q (.bl false) H := fun e => e ▸ k H (Same.refl H)
    have hx : y.length ≤ sizeLine := szn hl
    refine ⟨_, rfl, _, rfl, hx, _, _, rfl, rfl, _, rfl, ?_⟩
    refine ite2 (fun h1 => ?_) (fun h1 => ?_)
    · have h1' := of_decide_eq_true h1
      refine ⟨_, _, rfl, rfl, _, rfl, ?_⟩
      refine ite2 (fun h2 => ?_) (fun h2 => ?_)
      · have h2' := of_decide_eq_true h2
        obtain ⟨c, r, ec⟩ : ∃ c r, cd y = c :: r := by
          cases e : cd y with
          | nil =>
            rw [cd_len, e] at h1'
            simp at h1'
          | cons c r => exact ⟨c, r, rfl⟩
        have hr7 : r.length ≤ 7 := by
          rw [cd_len, ec, List.length_cons] at h2'
          omega
        refine ⟨_, rfl, y, _, c, rfl, rfl, hx, atI_nat (j := 0) (by show (cd y)[0]? = some c; rw [ec]; rfl), ?_⟩
        have el : decide (c ∈ cd (cutS ("abcdefghijklmnopqrstuvwxyz0123456789" : Str) none (some 26))) = lowC c := by
          rw [show cutS ("abcdefghijklmnopqrstuvwxyz0123456789" : Str) none (some 26) = ("abcdefghijklmnopqrstuvwxyz" : Str) by decide +kernel]
          exact low_in c
        refine ⟨_, rfl, _, rfl, _, rfl, by decide, c, _, rfl, rfl, _, rfl, ?_⟩
        refine ite2 (fun hl => ?_) (fun hl => ?_)
        · have hl' : lowC c = true := el.symm.trans hl
          refine ⟨_, rfl, y, rfl, fun D nD => lc_str (z := y) (fun i H' => Same H H' ∧ H' D = some (.lst ((((cd y).take i).map tailC).map V.bl))) ⟨fun b o e => by rw [upd_ne (ne_of_none e nD)]; exact e, upd_same⟩ ?_ ?_⟩
          · rintro i d H6 hi ⟨s6, h6⟩
            refine ⟨rfl, _, rfl, _, rfl, d, _, rfl, rfl, _, h6, ?_, ?_⟩
            · rw [List.length_map, List.length_map, List.length_take, ← cd_len]
              exact Nat.lt_of_lt_of_le (show _ < 1000 by omega) (by decide)
            · refine ⟨fun b o e => by rw [upd_ne (ne_of_none e nD)]; exact s6 b o e, ?_⟩
              rw [upd_same]
              obtain ⟨hl6, e'⟩ := List.getElem?_eq_some_iff.mp hi
              rw [List.take_succ_eq_append_getElem hl6, e', List.map_append, List.map_append]
              show some (HO.lst (_ ++ [V.bl (decide (d ∈ cd ("abcdefghijklmnopqrstuvwxyz0123456789" : Str)))])) = _
              rw [signs_in]
              rfl
          · rintro H6 ⟨s6, h6⟩
            rw [List.take_of_length_le (Nat.le_refl _)] at h6
            refine ⟨D, _, rfl, SqL.of h6, ?_⟩
            have e : isNm (cd y) = ((cd y).map tailC).all id := by
              rw [ec]
              show (lowC c && r.all tailC && decide (r.length ≤ 7)) = (tailC c && (r.map tailC).all id)
              rw [hl', tail_of_low hl', decide_eq_true hr7, List.all_map]
              simp
            have := k H6 s6
            rwa [e] at this
        · refine out ?_
          have hl' : lowC c = false := by
            rw [← el]
            exact Bool.eq_false_iff.mpr hl
          rw [ec]
          simp [isNm, hl']
      · refine out ?_
        cases q : isNm (cd y) with
        | false => rfl
        | true =>
          have := isNm_len q
          rw [← cd_len] at this
          have h8 := of_decide_eq_false (Bool.eq_false_iff.mpr h2)
          omega
    · refine ⟨_, rfl, out ?_⟩
      cases q : isNm (cd y) with
      | false => rfl
      | true =>
        have : 0 < (cd y).length := by
          cases e : cd y with
          | nil => rw [e] at q; cases q
          | cons c r => simp
        rw [← cd_len] at this
        have h8 := of_decide_eq_false (Bool.eq_false_iff.mpr h1)
        omega
end
end RV
namespace RV
open PySem L2 TL
theorem low_cut {z : Str} (h : Low z) (lo hi : Option Int) : Low (cutS z lo hi) := fun c hc => by
  rw [cd_cutS] at hc
  exact h c (List.mem_of_mem_drop (List.mem_of_mem_take hc))
theorem low_one {t : Str} {c : Nat} {r : Int} (h : Low t) (e : atI (cd t) r = some c) : Low ⟨#[c]⟩ := fun d hd => by
  rw [show d = c by simpa using hd]
  unfold atI at e
  cases q : ixN (cd t).length r with
  | none => rw [q] at e; cases e
  | some j =>
    rw [q] at e
    exact h c (List.mem_of_getElem? (show (cd t)[j]? = some c from e))
theorem at_any {t : Str} {r : Int} (h0 : 0 ≤ r) (h : r < t.length) : ∃ c, atI (cd t) r = some c := by
  obtain ⟨n, rfl⟩ := Int.eq_ofNat_of_zero_le h0
  have hn : n < (cd t).length := by rw [← cd_len]; omega
  exact ⟨_, atI_nat (List.getElem?_eq_getElem hn)⟩
theorem cutV_take (xs : List V) (k : Nat) : cutV xs none (some (k : Int)) = xs.take k := by
  unfold cutV
  rw [sIx_none, sIx_some, List.drop_zero, Nat.sub_zero, ← List.take_take, List.take_length]
theorem ody_low {K : PySem.W.Frag} {H : Hp} {z : Str} (h : Low z) (hl : z.length ≤ 1000) : Ody K H (.str z) (.str z) := ⟨.dat (.str z), fine_str h (by omega), fun y e => by cases e; exact hl⟩
section
variable {P : Program} {w : World} {K : PySem.W.Frag} {mg : Str → Option Value} {base : Heap}
theorem ok_sign {f : Addr} {fd : FuncData} (F : Fun K "_law_sign" "_law_sign" s_sign f fd) (T : Blt mg) (h_dip : Fn P w K mg base "_law_dip" 1 ["_law_well_here", "_law_many"] (Irr sp_dip)) : FnOk P w K mg base CX0 2 f fd ["_law_well_here", "_law_often"] sp_sign := by
  refine F.ok sc_sign (fun vs H Q E h => ?_) (fun cdv A outer s H vs Q E hr h => ?_)
  · obtain ⟨_, _, _, rfl, _⟩ := h
    rfl
  · obtain ⟨a, n, t, rfl, w0, hn, ht, t1, t2, k⟩ := h
    refine ⟨_, (pss_cons (ps_if (pt_cmpR op_eq (pe_fn h_dip (hr.mono (by decide)) (pa_cons (pv 0) (pa_cons pe_int pa_nil))) pe_int (nomark _)) (pss_one (ps_ret (pe_ix ix_str (pv 1) (pe_fn h_dip (hr.mono (by decide)) (pa_cons (pv 0) (pa_cons (pe_callB call_len_str (by rfl) T.b_len (by decide +kernel) (pa_cons (pv 1) pa_nil)) pa_nil))) (fun _ _ => rfl)))) pss_nil)
      (pss_cons (ps_set (i := 2) sc_sign.nd rfl (Or.inl rfl) pe_str)
      (pss_cons (ps_set (i := 2) sc_sign.nd rfl (Or.inl rfl) (pe_op op_add_str (pv 2) pe_str))
      (pss_one (ps_ret (pe_ix ix_str (pv 2) (pe_fn h_dip (hr.mono (by decide)) (pa_cons (pv 0) (pa_cons (pe_callB call_len_str (by rfl) T.b_len (by decide +kernel) (pa_cons (pv 2) pa_nil)) pa_nil))) (fun _ _ => rfl))))))), ?_⟩
    have h0 := Has.start w0
    have fin : ∀ {z : Str} {H1 : Hp}, Low z → 1 ≤ z.length → z.length ≤ 100 → Has H a (n + 1) [] H1 → ∀ R : VK, (∀ c H', Low c → c.length = 1 → Grow a H H' → WellAt H' a (n + 2) → R (.str c) H') → z.length ≤ sizeLine ∧ Irr sp_dip [.ref a, .int z.length] H1 (fun y H2 => rIxS (.str z) y H2 R) E0 := by
      intro z H1 lz z1 z2 h1 R kR
      refine ⟨szn (by omega), dip_step h1 (by omega) (by omega) (Int.le_trans (show (z.length : Int) ≤ 100 by omega) (by decide)) fun r H2 r0 r1 h2 => ?_⟩
      obtain ⟨c, ec⟩ := at_any r0 r1
      exact ⟨z, r, c, rfl, rfl, szn (by omega), ec, kR _ _ (low_one lz ec) rfl h2.gr h2.well⟩
    refine ⟨_, rfl, dip_step h0 (by omega) (by decide) (by decide) fun r H1 r0 r1 h1 => ⟨rfl, _, rfl, ?_⟩⟩
    refine ite2 (fun _ => ?_) fun _ => ?_
    · exact ⟨_, rfl, _, rfl, _, rfl, t, rfl, fin ht t1 t2 h1 Q k⟩
    · refine ⟨_, rfl, _, _, rfl, rfl, by decide +kernel, ?_⟩
      refine ⟨_, rfl, _, rfl, _, rfl, _, rfl, fin (low_c (by decide +kernel)) (by decide +kernel) (by decide +kernel) h1 Q k⟩
end
end RV
namespace RV
open PySem L2 TL
/-- a sum, or an odd value, is shown -/
def sp_seenS (K : PySem.W.Frag) (C : Addr) : Sp := fun vs H Q _ =>
  (∃ (x : Addr) (rs : List (Str × Int)), vs = [.ref x] ∧ SumR C H x rs ∧ Due rs ∧ (txt rs).length ≤ 300000 ∧ ∀ H', Same H H' → Q (.str ("sum " ++ txt rs)) H') ∨ (∃ (v : V) (d : PyData), vs = [v] ∧ Ody K H v d ∧ Q (.str d.shown) H)
section
variable {P : Program} {w : World} {K : PySem.W.Frag} {mg : Str → Option Value} {base : Heap} {C c0 c1 c2 c3 c4 CV : Addr}
theorem ok_seenSE {f : Addr} {fd : FuncData} (F : Fun K "_law_seen" "_law_seen" s_seen f fd) (T : Blt mg) (SC : SClass K mg C) (al : Alien K C) : FnE P w K mg base 1 f fd ["_law_thing"] (sp_seenE K) := by
  refine gFunE F sc_seen (fun a c d vs H Q E h => ?_) (fun cdv A outer s H vs Q p cls d gs hr hz hf h => ?_)
  · obtain ⟨_, _, rfl, _⟩ := h
    rfl
  · obtain ⟨v, dv, rfl, o, k⟩ := h
    have hu : (cxE P w K mg base sc_seen_N "_law_seen" s_seen f cdv A outer s H p).A.units + 64 < cLine := by
      have := hr.un
      show (A.deeper _).units + 64 < cLine
      omega
    refine ⟨_, (pss_one (ps_ret (pe_ifExp (pt_val (pe_callB call_isi (by rfl) T.b_isinstance (by decide +kernel) (pa_cons (pv 0) (pa_cons (pe_gC SC.k) pa_nil)))) pe_dead (pe_callB (call_reprOK K hu gs) (by rfl) T.b_repr (by decide +kernel) (pa_cons (pv 0) pa_nil))))), ?_⟩
    exact ⟨_, rfl, _, _, _, .ref C, false, rfl, .own C, o.o.ty, al dv, false, rfl, iteF ⟨_, rfl, reprO_of o.o o.f k⟩⟩
theorem ok_seenS {f : Addr} {fd : FuncData} (F : Fun K "_law_seen" "_law_seen" s_seen f fd) (T : Blt mg) (SC : SClass K mg C) (al : Alien K C) (h_str : OwnM P w K mg base C "__str__" 5 (Irr (sp_text C))) : FnG P w K mg base 9 f fd ["_law_thing"] (sp_seenS K C) := by
  refine gFun F sc_seen (fun vs H Q E h => ?_) (fun cdv A outer s H vs Q E gs hr h => ?_)
  · rcases h with ⟨_, _, rfl, _⟩ | ⟨_, _, rfl, _⟩ <;> rfl
  · refine ⟨_, (pss_one (ps_ret (pe_ifExp (pt_val (pe_callB call_isi (by rfl) T.b_isinstance (by decide +kernel) (pa_cons (pv 0) (pa_cons (pe_gC SC.k) pa_nil)))) (pe_op op_add_str pe_str (pe_callTy (call_strO h_str (hr.mono (by decide))) (by rfl) T.b_str (by decide +kernel) (pa_cons (pv 0) pa_nil))) (pe_callB (call_reprOK K hr.units gs) (by rfl) T.b_repr (by decide +kernel) (pa_cons (pv 0) pa_nil))))), ?_⟩
    rcases h with ⟨x, rs, rfl, sr, du, lt, k⟩ | ⟨v, dv, rfl, o, k⟩
    · obtain ⟨dx, t, us, e, kk⟩ := id sr
      have ex := kk _ List.mem_cons_self
      refine ⟨_, rfl, _, _, _, .ref C, true, rfl, .own C, SC.x.ty ex, SC.me, true, rfl, iteT ⟨_, rfl, x, dx, _, rfl, ex, irr ⟨x, rs, rfl, sr, fun q hq => ⟨du.nm q hq, Nat.lt_of_le_of_lt (tot_mem hq) (Nat.lt_of_le_of_lt du.tt (by decide))⟩, Nat.le_trans du.ln (by decide), fun H' s => ⟨_, rfl, _, _, rfl, rfl, ?_, k H' s⟩⟩⟩⟩
      have c1 : ("sum " : Str).length = 4 := by decide +kernel
      rw [c1, sizeLine_eq]
      omega
    · exact ⟨_, rfl, _, _, _, .ref C, false, rfl, .own C, o.o.ty, al dv, false, rfl, iteF ⟨_, rfl, reprO_of o.o o.f k⟩⟩
structure Five (mg : Str → Option Value) (c0 c1 c2 c3 c4 CV : Addr) : Prop where
  g0 : mg "InvalidTerms" = some (.ref c0)
  g1 : mg "InvalidName" = some (.ref c1)
  g2 : mg "InvalidText" = some (.ref c2)
  g3 : mg "InvalidNumber" = some (.ref c3)
  g4 : mg "NotASum" = some (.ref c4)
  gV : mg "BadValue" = some (.ref CV)
def fld5 (i : Nat) : Str := if i = 0 then "index" else "given"
theorem ok_said5 {f : Addr} {fd : FuncData} {CB : Addr} (F : Fun K "_law_said" "_law_said" s_said f fd) (T : Blt mg) (M : Five mg c0 c1 c2 c3 c4 CV) (h_seen : FnEd P w K mg base "_law_seen" 1 ["_law_thing"] (sp_seenE K)) :
    FnE P w K mg base 2 f fd ["_law_e"] (sp_said K [c0, c1, c2, c3, c4] CB CV (fun _ => false) (fun _ => true) fld5) := by
  refine gFunE F sc_said (fun a c d vs H Q E h => ?_) (fun cdv A outer s H vs Q p cls d gs hr hz hf h => ?_)
  · obtain ⟨_, _, _, _, _, rfl, _⟩ := h
    rfl
  · obtain ⟨a, oe⟩ := p
    obtain ⟨D, dd, i, y, dy, rfl, kp, so, o, k⟩ := h
    have hp : (a, oe) ∈ (cxE P w K mg base sc_said_N "_law_said" s_said f cdv A outer s H (a, oe)).pn := List.mem_cons_self
    have hu : (cxE P w K mg base sc_said_N "_law_said" s_said f cdv A outer s H (a, oe)).A.units + 64 < cLine := by
      have := hr.un
      show (A.deeper _).units + 64 < cLine
      omega
    refine ⟨_, (pss_cons (ps_set (i := 1) sc_said.nd rfl (Or.inl rfl) (pe_lst (pa_cons (pe_callB (call_isO hp hz hf) (by rfl) T.b_isinstance (by decide +kernel) (pa_cons (pv 0) (pa_cons (pe_gC M.g0) pa_nil))) (pa_cons (pe_callB (call_isO hp hz hf) (by rfl) T.b_isinstance (by decide +kernel) (pa_cons (pv 0) (pa_cons (pe_gC M.g1) pa_nil))) (pa_cons (pe_callB (call_isO hp hz hf) (by rfl) T.b_isinstance (by decide +kernel) (pa_cons (pv 0) (pa_cons (pe_gC M.g2) pa_nil))) pa_nil)))))
      (pss_cons (ps_set (i := 1) sc_said.nd rfl (Or.inl rfl) (pe_op op_cat (pv 1) (pe_lst (pa_cons (pe_callB (call_isO hp hz hf) (by rfl) T.b_isinstance (by decide +kernel) (pa_cons (pv 0) (pa_cons (pe_gC M.g3) pa_nil))) (pa_cons (pe_callB (call_isO hp hz hf) (by rfl) T.b_isinstance (by decide +kernel) (pa_cons (pv 0) (pa_cons (pe_gC M.g4) pa_nil))) pa_nil)))))
      (pss_cons (ps_if (PW.pt (pw_or (pt_cmpR op_ne (pe_bm PySem.F.plainAttrs_list PySem.F.slot_list_count PySem.F.type_list_count mt_lcountV (pv 1) (pa_cons pe_bl pa_nil)) pe_int (nomark _)) (pw_or1 (pt_not (pt_val (pe_callB (call_isO hp hz hf) (by rfl) T.b_isinstance (by decide +kernel) (pa_cons (pv 0) (pa_cons (pe_gC M.gV) pa_nil)))))))) pss_dead pss_nil)
      (pss_cons (ps_set (i := 2) sc_said.nd rfl (Or.inl rfl) (pe_bm PySem.F.plainAttrs_list PySem.F.slot_list_index PySem.F.type_list_index mt_index (pv 1) (pa_cons pe_bl pa_nil)))
      (pss_one (ps_ret (pe_lst (pa_cons (pv 2) (pa_cons (pe_ifExp (pt_cmpR op_eq (pv 2) pe_int (nomark _)) (pe_callB (call_reprOK K hu gs) (by rfl) T.b_repr (by decide +kernel) (pa_cons (pe_xo hp hz hf (pv 0)) pa_nil)) (pe_fnE h_seen gs (hr.mono (by decide)) hp hz hf (pa_cons (pe_xo hp hz hf (pv 0)) pa_nil))) pa_nil))))))))), ?_⟩
    refine ⟨_, rfl, rIsO_ref kp (so.so 0 c0 rfl) ⟨_, rfl, rIsO_ref kp (so.so 1 c1 rfl) ⟨_, rfl, rIsO_ref kp (so.so 2 c2 rfl) ⟨(by show 3 ≤ sizeLine; decide), fun l1 n1 => ?_⟩⟩⟩⟩
    have s1 : Same H (upd H l1 (.lst [.bl (decide (0 = i)), .bl (decide (1 = i)), .bl (decide (2 = i))])) := same_new n1
    have e1 : upd H l1 (.lst [.bl (decide (0 = i)), .bl (decide (1 = i)), .bl (decide (2 = i))]) l1 = _ := upd_same
    generalize upd H l1 (.lst [.bl (decide (0 = i)), .bl (decide (1 = i)), .bl (decide (2 = i))]) = H1 at s1 e1 ⊢
    have kp1 := kp.same s1
    refine ⟨_, rfl, _, rfl, rIsO_ref kp1 (so.so 3 c3 rfl) ⟨_, rfl, rIsO_ref kp1 (so.so 4 c4 rfl) ⟨(by show 2 ≤ sizeLine; decide), fun l2 n2 => ?_⟩⟩⟩
    have s2 : Same H1 (upd H1 l2 (.lst [.bl (decide (3 = i)), .bl (decide (4 = i))])) := same_new n2
    have e2 : upd H1 l2 (.lst [.bl (decide (3 = i)), .bl (decide (4 = i))]) l2 = _ := upd_same
    generalize upd H1 l2 (.lst [.bl (decide (3 = i)), .bl (decide (4 = i))]) = H2 at s2 e2 ⊢
    refine ⟨l1, l2, _, _, rfl, rfl, s2 _ _ e1, e2, (by show 3 + 2 ≤ sizeLine; decide), fun l5 n5 => ?_⟩
    obtain ⟨bits, hb⟩ : ∃ bits : List V, bits = [.bl (decide (0 = i)), .bl (decide (1 = i)), .bl (decide (2 = i))] ++ [.bl (decide (3 = i)), .bl (decide (4 = i))] := ⟨_, rfl⟩
    rw [← hb]
    have s5 : Same H2 (upd H2 l5 (.lst bits)) := same_new n5
    have e5 : upd H2 l5 (.lst bits) l5 = _ := upd_same
    generalize upd H2 l5 (.lst bits) = H5 at s5 e5 ⊢
    have kp5 := (kp1.same s2).same s5
    have sA : Same H H5 := (s1.trans s2).trans s5
    have lt : i < 5 := so.lt
    have c8 : i = 0 ∨ i = 1 ∨ i = 2 ∨ i = 3 ∨ i = 4 := by omega
    have cnt : bits.countP (fun z => eqV z (.bl true)) = 1 := by
      subst hb
      rcases c8 with rfl | rfl | rfl | rfl | rfl <;> decide
    have fl : bits.all flatV = true := by rw [hb]; rfl
    have ati : bits[i]? = some (.bl true) := by
      subst hb
      rcases c8 with rfl | rfl | rfl | rfl | rfl <;> rfl
    have hno : ∀ (m : Nat) (z : V), m < i → bits[m]? = some z → eqV z (.bl true) = false := by
      intro m z hm hz'
      subst hb
      have m8 : m = 0 ∨ m = 1 ∨ m = 2 ∨ m = 3 := by omega
      rcases c8 with rfl | rfl | rfl | rfl | rfl <;> rcases m8 with rfl | rfl | rfl | rfl <;> first | (exfalso; omega) | (cases hz'; rfl)
    refine ⟨_, rfl, .inl ⟨rfl, _, SqL.of e5⟩, l5, bits, .bl true, rfl, rfl, SqL.of e5, rfl, fl, ?_⟩
    rw [cnt]
    refine ⟨rfl, _, rfl, iteF ?_⟩
    refine ⟨_, rfl, rIsO_ref kp5 so.kv ⟨_, rfl, iteF ?_⟩⟩
    refine ⟨_, rfl, .inl ⟨rfl, _, SqL.of e5⟩, l5, bits, .bl true, i, .bl true, rfl, rfl, SqL.of e5, rfl, fl, ati, rfl, hno, ?_⟩
    refine ⟨_, rfl, _, rfl, rfl, _, rfl, ?_⟩
    by_cases h2 : i = 0
    · refine ite2 (fun _ => ?_) fun q => absurd (decide_eq_true (by rw [h2]; rfl)) q
      have ef : fld5 i = "index" := if_pos h2
      rw [ef] at kp5
      exact ⟨_, rfl, rfl, D, dd, y, kp5, reprO_of (o.o.same sA) o.f ⟨(by show 2 ≤ sizeLine; decide), fun l6 n6 => k _ l6 (sA.trans (same_new n6)) upd_same⟩⟩
    · refine ite2 (fun q => absurd (of_decide_eq_true q) (fun z => h2 (by have := V.int.inj z; omega))) fun _ => ?_
      have ef : fld5 i = "given" := if_neg h2
      rw [ef] at kp5
      exact ⟨_, rfl, rfl, D, dd, y, kp5, ⟨y, dy, rfl, o.same sA, (by show 2 ≤ sizeLine; decide), fun l6 n6 => k _ l6 (sA.trans (same_new n6)) upd_same⟩⟩
end
end RV
namespace RV
open PySem L2 TL StX
theorem name_odd {K : PySem.W.Frag} {H : Hp} {v : V} {d : PyData} {Q : VK} {E : XK} (h : Ody K H v d) (k : ∀ H', Same H H' → Q (.bl (nmD d)) H') : Irr (sp_is_name K) [v] H Q E := by
  refine irr ⟨v, rfl, ?_⟩
  obtain ⟨o, f, l⟩ := h
  cases hd : isS d with
  | true =>
    obtain ⟨y, rfl⟩ : ∃ y, d = .str y := by
      cases d with
      | str y => exact ⟨y, rfl⟩
      | _ => cases hd
    obtain rfl : v = .str y := by
      cases o with
      | dat o => cases o; rfl
    exact .inl ⟨y, rfl, szn (by have := l y rfl; omega), k⟩
  | false =>
    refine .inr ⟨_, o.ty, hd ▸ kit_odS K d, ?_⟩
    have e : nmD d = false := by
      cases d with
      | str y => cases hd
      | _ => rfl
    exact e ▸ k H (Same.refl H)
def sp_ofBX (K : PySem.W.Frag) (C CI : Addr) : Sp := fun vs H _ E => ∃ (p : Addr) (us : List (V × PyData)) (u : V × PyData), vs = [.ref C, .ref p] ∧ SqT K H p (us.map (·.1)) ∧ (∀ u ∈ us, Ody K H u.1 u.2) ∧ bad1 us = some u ∧ ErrS CI u.1 H E
def sp_ofX (K : PySem.W.Frag) (C CI : Addr) : Sp := fun vs H _ E => ∃ (us : List (V × PyData)) (u : V × PyData), vs = .ref C :: us.map (·.1) ∧ (∀ u ∈ us, Ody K H u.1 u.2) ∧ us.length ≤ 60 ∧ bad1 us = some u ∧ ErrS CI u.1 H E
section
variable {P : Program} {w : World} {K : PySem.W.Frag} {mg : Str → Option Value} {base : Heap} {C CI : Addr}
theorem ok_Sum_ofX {f : Addr} {fd : FuncData} (F : Fun K "of" "Sum.of" s_Sum_of f fd) (h_is_name : Fn P w K mg base "is_name" 1 ["value"] (Irr (sp_is_name K))) (EI : Err P w K mg base "InvalidName" CI "given") : FnR P w K mg base (L2.CX P w) 6 f (sp_ofX K C CI) := by
  obtain ⟨oc, od, kV, doc, pm, an, cdv, ct, osl, rfl, lk, hcd⟩ := F.ex
  have st := fn_star (P := P) (w := w) (mg := mg) (base := base) (k := 5) (ps := ["cls"]) (pv := "names") (sp := sp_ofBX K C CI) (CX := L2.CX P w) lk hcd sc_Sum_of cxUp
    (bind_star1 (B := fun l => bindArgs (PySem.W.fnOf "of" "Sum.of" (defArgs s_Sum_of) (defBody s_Sum_of) (defScope s_Sum_of) .none kV doc pm an cdv ct) ⟨l, []⟩) (p1 := "cls") (pv := "names") (fun a => rfl) (fun a r rs => rfl)) (fun A outer s H vs Q E hr h => ?_)
  · refine st.imp fun vs H Q E z => ?_
    obtain ⟨us, u, rfl, ho, hl, hb, er⟩ := z
    refine ⟨[.ref C], us.map (·.1), rfl, rfl, by rw [List.length_map]; exact Nat.le_trans hl (by decide), fun p np => ⟨p, us, u, rfl, SqT.of upd_same, fun u hu => (ho u hu).same (same_new np), hb, er.same (same_new np)⟩⟩
  · obtain ⟨p, us, u, rfl, hp, ho, hb, er⟩ := h
    obtain ⟨hu, as, bs, rfl, good⟩ := List.find?_eq_some_iff_append.mp hb
    refine ⟨_, (pss_cons (ps_for (passes_of rfl) rfl (pi_tup (pv 1)) (pg_name (i := 2) sc_Sum_of.nd rfl (Or.inl rfl)) (pss_one (ps_if (pt_not (pt_val (pe_fn h_is_name (hr.mono (by decide)) (pa_cons (pv 2) pa_nil)))) (pss_one (ps_raise rfl (takes_of rfl rfl rfl rfl) (pmk_err EI (hr.mono (by decide)) (pa_cons (pv 2) pa_nil)))) pss_nil))) pss_dead), ?_⟩
    refine ⟨_, rfl, p, rfl, ⟨_, hp⟩, for_tup (K := K) (a := p) (xs := (as ++ u :: bs).map (·.1)) (fun i σ H' => i ≤ as.length ∧ Same H H' ∧ ∃ o, σ = [some (.ref C), some (.ref p), o]) ⟨Nat.zero_le _, Same.refl H, none, rfl⟩ (fun _ _ _ _ h => hp.ext h.2.1) ?_ ?_⟩
    · rintro i v σ H' hi ⟨il, sm, o, rfl⟩
      rw [List.getElem?_map] at hi
      rcases Nat.lt_or_ge i as.length with lt | ge
      · rw [List.getElem?_append_left lt, List.getElem?_eq_getElem lt] at hi
        obtain rfl : (as[i]).1 = v := Option.some.inj hi
        have hm : as[i] ∈ as := List.getElem_mem lt
        refine ⟨_, rfl, name_odd ((ho _ (List.mem_append_left _ hm)).same sm) fun H2 s2 => ?_⟩
        have g : nmD as[i].2 = true := by simpa using good _ hm
        rw [g]
        exact ⟨true, rfl, iteF ⟨lt, sm.trans s2, _, rfl⟩⟩
      · obtain rfl : i = as.length := Nat.le_antisymm il ge
        rw [List.getElem?_append_right (Nat.le_refl _), Nat.sub_self] at hi
        obtain rfl : u.1 = v := Option.some.inj hi
        refine ⟨_, rfl, name_odd ((ho u (by simp)).same sm) fun H2 s2 => ?_⟩
        have g : nmD u.2 = false := by simpa using hu
        rw [g]
        exact ⟨false, rfl, iteT ⟨_, rfl, _, rfl, fun dd nd => (er.same (sm.trans s2)).new nd⟩⟩
    · rintro σ H' ⟨il, _⟩
      simp at il
      omega
theorem Kp.under {H H1 H' : Hp} {L : List (Addr × HO)} (s1 : Same H H1) (kp : Kp H1 L H') : Kp H L H' := by
  refine ⟨fun b o e => kp.sm b o (s1 b o e), fun q hq => ⟨?_, (kp.nw q hq).2⟩⟩
  cases e : H q.1 with
  | none => rfl
  | some o =>
    have z := s1 _ _ e
    rw [(kp.nw q hq).1] at z
    cases z
/-- _law_of(row): all of them names; one of them none -/
def sp_lof (K : PySem.W.Frag) (C : Addr) : Sp := fun vs H Q _ => ∃ (l : Addr) (ns : List Str), vs = [.ref l] ∧ SqL K H l (ns.map V.str) ∧ (∀ x ∈ ns, IsNm x) ∧ ns.length ≤ 5 ∧ ∀ (x dx m : Addr) (ds : List TP) H', Mad (ones ns) (prs ds) → Kp H (lS C x dx m ds) H' → Q (.ref x) H'
def sp_lofX (K : PySem.W.Frag) (CI : Addr) : Sp := fun vs H _ E => ∃ (l : Addr) (us : List (V × PyData)) (u : V × PyData), vs = [.ref l] ∧ SqL K H l (us.map (·.1)) ∧ (∀ u ∈ us, Ody K H u.1 u.2) ∧ us.length ≤ 5 ∧ bad1 us = some u ∧ ErrS CI u.1 H E
theorem ok_lof {f : Addr} {fd : FuncData} (F : Fun K "_law_of" "_law_of" s_of f fd) (T : Blt mg) (SC : SClass K mg C) (h_of : ClsR P w K mg base C "of" 6 (Irr (sp_of C))) : FnOk P w K mg base CX0 7 f fd ["_law_row_here"] (sp_lof K C) := by
  refine F.ok sc_of (fun vs H Q E h => ?_) (fun cdv A outer s H vs Q E hr h => ?_)
  · obtain ⟨_, _, rfl, _⟩ := h
    rfl
  · obtain ⟨l, ns, rfl, hl, hn, len, k⟩ := h
    refine ⟨_, (pss_cons (ps_if (pt_cmpR op_lt (pe_callB call_len_seq (by rfl) T.b_len (by decide +kernel) (pa_cons (pv 0) pa_nil)) pe_int (nomark _)) (pss_one (ps_ret (pe_ifExp (pt_cmpR (op_eq0 (Nat.lt_of_le_of_lt (Nat.le_add_right _ 64) hr.units)) (pv 0) (pe_lst pa_nil) (nomark _)) (pe_cmR0 h_of (hr.mono (by decide)) (pe_gC SC.k)) (pe_cmR h_of (hr.mono (by decide)) (pe_gC SC.k) (pa_cons (pe_ix ix_list (pv 0) pe_int (fun _ _ => rfl)) pa_nil))))) pss_nil)
      (pss_cons (ps_if (pt_cmpR op_eq (pe_callB call_len_seq (by rfl) T.b_len (by decide +kernel) (pa_cons (pv 0) pa_nil)) pe_int (nomark _)) (pss_one (ps_ret (pe_cmR h_of (hr.mono (by decide)) (pe_gC SC.k) (pa_cons (pe_ix ix_list (pv 0) pe_int (fun _ _ => rfl)) (pa_cons (pe_ix ix_list (pv 0) pe_int (fun _ _ => rfl)) pa_nil))))) pss_nil)
      (pss_cons (ps_if (pt_cmpR op_eq (pe_callB call_len_seq (by rfl) T.b_len (by decide +kernel) (pa_cons (pv 0) pa_nil)) pe_int (nomark _)) (pss_one (ps_ret (pe_cmR h_of (hr.mono (by decide)) (pe_gC SC.k) (pa_cons (pe_ix ix_list (pv 0) pe_int (fun _ _ => rfl)) (pa_cons (pe_ix ix_list (pv 0) pe_int (fun _ _ => rfl)) (pa_cons (pe_ix ix_list (pv 0) pe_int (fun _ _ => rfl)) pa_nil)))))) pss_nil)
      (pss_cons (ps_if (pt_cmpR op_eq (pe_callB call_len_seq (by rfl) T.b_len (by decide +kernel) (pa_cons (pv 0) pa_nil)) pe_int (nomark _)) (pss_one (ps_ret (pe_cmR h_of (hr.mono (by decide)) (pe_gC SC.k) (pa_cons (pe_ix ix_list (pv 0) pe_int (fun _ _ => rfl)) (pa_cons (pe_ix ix_list (pv 0) pe_int (fun _ _ => rfl)) (pa_cons (pe_ix ix_list (pv 0) pe_int (fun _ _ => rfl)) (pa_cons (pe_ix ix_list (pv 0) pe_int (fun _ _ => rfl)) pa_nil))))))) pss_nil)
      (pss_one (ps_ret (pe_cmR h_of (hr.mono (by decide)) (pe_gC SC.k) (pa_cons (pe_ix ix_list (pv 0) pe_int (fun _ _ => rfl)) (pa_cons (pe_ix ix_list (pv 0) pe_int (fun _ _ => rfl)) (pa_cons (pe_ix ix_list (pv 0) pe_int (fun _ _ => rfl)) (pa_cons (pe_ix ix_list (pv 0) pe_int (fun _ _ => rfl)) (pa_cons (pe_ix ix_list (pv 0) pe_int (fun _ _ => rfl)) pa_nil)))))))))))), ?_⟩
    match ns, hl, hn, len, k with
    | [], hl, hn, len, k => exact ⟨_, rfl, l, _, rfl, .inl hl, _, _, rfl, rfl, _, rfl, iteT ⟨_, rfl, (by show 0 ≤ sizeLine; decide), fun e ne => ⟨l, e, _, rfl, rfl, hl.ext (same_new ne), SqL.of upd_same, _, rfl, iteT ⟨rfl, irr ⟨[], rfl, hn, by simp, fun x dx m ds H' md kp => k x dx m ds H' md (Kp.under (same_new ne) kp)⟩⟩⟩⟩⟩
    | [x0], hl, hn, len, k => exact ⟨_, rfl, l, _, rfl, .inl hl, _, _, rfl, rfl, _, rfl, iteT ⟨_, rfl, (by show 0 ≤ sizeLine; decide), fun e ne => ⟨l, e, _, rfl, rfl, hl.ext (same_new ne), SqL.of upd_same, _, rfl, iteF ⟨rfl, _, rfl, l, _, _, _, rfl, rfl, hl.ext (same_new ne), rfl, irr ⟨[x0], rfl, hn, by simp, fun x dx m ds H' md kp => k x dx m ds H' md (Kp.under (same_new ne) kp)⟩⟩⟩⟩⟩
    | [x0, x1], hl, hn, len, k => exact ⟨_, rfl, l, _, rfl, .inl hl, _, _, rfl, rfl, _, rfl, iteF ⟨_, rfl, l, _, rfl, .inl hl, rfl, _, rfl, iteT ⟨rfl, _, rfl, l, _, _, _, rfl, rfl, hl, rfl, _, rfl, l, _, _, _, rfl, rfl, hl, rfl, irr ⟨[x0, x1], rfl, hn, by simp, k⟩⟩⟩⟩
    | [x0, x1, x2], hl, hn, len, k => exact ⟨_, rfl, l, _, rfl, .inl hl, _, _, rfl, rfl, _, rfl, iteF ⟨_, rfl, l, _, rfl, .inl hl, rfl, _, rfl, iteF ⟨_, rfl, l, _, rfl, .inl hl, rfl, _, rfl, iteT ⟨rfl, _, rfl, l, _, _, _, rfl, rfl, hl, rfl, _, rfl, l, _, _, _, rfl, rfl, hl, rfl, _, rfl, l, _, _, _, rfl, rfl, hl, rfl, irr ⟨[x0, x1, x2], rfl, hn, by simp, k⟩⟩⟩⟩⟩
    | [x0, x1, x2, x3], hl, hn, len, k => exact ⟨_, rfl, l, _, rfl, .inl hl, _, _, rfl, rfl, _, rfl, iteF ⟨_, rfl, l, _, rfl, .inl hl, rfl, _, rfl, iteF ⟨_, rfl, l, _, rfl, .inl hl, rfl, _, rfl, iteF ⟨_, rfl, l, _, rfl, .inl hl, rfl, _, rfl, iteT ⟨rfl, _, rfl, l, _, _, _, rfl, rfl, hl, rfl, _, rfl, l, _, _, _, rfl, rfl, hl, rfl, _, rfl, l, _, _, _, rfl, rfl, hl, rfl, _, rfl, l, _, _, _, rfl, rfl, hl, rfl, irr ⟨[x0, x1, x2, x3], rfl, hn, by simp, k⟩⟩⟩⟩⟩⟩
    | [x0, x1, x2, x3, x4], hl, hn, len, k => exact ⟨_, rfl, l, _, rfl, .inl hl, _, _, rfl, rfl, _, rfl, iteF ⟨_, rfl, l, _, rfl, .inl hl, rfl, _, rfl, iteF ⟨_, rfl, l, _, rfl, .inl hl, rfl, _, rfl, iteF ⟨_, rfl, l, _, rfl, .inl hl, rfl, _, rfl, iteF ⟨rfl, _, rfl, l, _, _, _, rfl, rfl, hl, rfl, _, rfl, l, _, _, _, rfl, rfl, hl, rfl, _, rfl, l, _, _, _, rfl, rfl, hl, rfl, _, rfl, l, _, _, _, rfl, rfl, hl, rfl, _, rfl, l, _, _, _, rfl, rfl, hl, rfl, irr ⟨[x0, x1, x2, x3, x4], rfl, hn, by simp, k⟩⟩⟩⟩⟩⟩
    | _ :: _ :: _ :: _ :: _ :: _ :: _, _, _, len, _ => simp at len
theorem ok_lofX {f : Addr} {fd : FuncData} (F : Fun K "_law_of" "_law_of" s_of f fd) (T : Blt mg) (SC : SClass K mg C) (h_of : ClsRX P w K mg base C "of" 6 (Irr (sp_ofX K C CI))) : FnOk P w K mg base (L2.CX P w) 7 f fd ["_law_row_here"] (sp_lofX K CI) := by
  refine F.okX sc_of (fun vs H Q E h => ?_) (fun cdv A outer s H vs Q E hr h => ?_)
  · obtain ⟨_, _, _, rfl, _⟩ := h
    rfl
  · obtain ⟨l, us, u, rfl, hl, ho, len, hb, er⟩ := h
    refine ⟨_, (pss_cons (ps_if (pt_cmpR op_lt (pe_callB call_len_seq (by rfl) T.b_len (by decide +kernel) (pa_cons (pv 0) pa_nil)) pe_int (nomark _)) (pss_one (ps_ret (pe_ifExp (pt_cmpR (op_eq0 (Nat.lt_of_le_of_lt (Nat.le_add_right _ 64) hr.units)) (pv 0) (pe_lst pa_nil) (nomark _)) pe_dead (pe_cmRX h_of (hr.mono (by decide)) (passes_call (takes_of rfl rfl rfl rfl) fun _ _ _ _ z => z) (pe_gC SC.k) (pa_cons (pe_ix ix_list (pv 0) pe_int (fun _ _ => rfl)) pa_nil))))) pss_nil)
      (pss_cons (ps_if (pt_cmpR op_eq (pe_callB call_len_seq (by rfl) T.b_len (by decide +kernel) (pa_cons (pv 0) pa_nil)) pe_int (nomark _)) (pss_one (ps_ret (pe_cmRX h_of (hr.mono (by decide)) (passes_call (takes_of rfl rfl rfl rfl) fun _ _ _ _ z => z) (pe_gC SC.k) (pa_cons (pe_ix ix_list (pv 0) pe_int (fun _ _ => rfl)) (pa_cons (pe_ix ix_list (pv 0) pe_int (fun _ _ => rfl)) pa_nil))))) pss_nil)
      (pss_cons (ps_if (pt_cmpR op_eq (pe_callB call_len_seq (by rfl) T.b_len (by decide +kernel) (pa_cons (pv 0) pa_nil)) pe_int (nomark _)) (pss_one (ps_ret (pe_cmRX h_of (hr.mono (by decide)) (passes_call (takes_of rfl rfl rfl rfl) fun _ _ _ _ z => z) (pe_gC SC.k) (pa_cons (pe_ix ix_list (pv 0) pe_int (fun _ _ => rfl)) (pa_cons (pe_ix ix_list (pv 0) pe_int (fun _ _ => rfl)) (pa_cons (pe_ix ix_list (pv 0) pe_int (fun _ _ => rfl)) pa_nil)))))) pss_nil)
      (pss_cons (ps_if (pt_cmpR op_eq (pe_callB call_len_seq (by rfl) T.b_len (by decide +kernel) (pa_cons (pv 0) pa_nil)) pe_int (nomark _)) (pss_one (ps_ret (pe_cmRX h_of (hr.mono (by decide)) (passes_call (takes_of rfl rfl rfl rfl) fun _ _ _ _ z => z) (pe_gC SC.k) (pa_cons (pe_ix ix_list (pv 0) pe_int (fun _ _ => rfl)) (pa_cons (pe_ix ix_list (pv 0) pe_int (fun _ _ => rfl)) (pa_cons (pe_ix ix_list (pv 0) pe_int (fun _ _ => rfl)) (pa_cons (pe_ix ix_list (pv 0) pe_int (fun _ _ => rfl)) pa_nil))))))) pss_nil)
      (pss_one (ps_ret (pe_cmRX h_of (hr.mono (by decide)) (passes_call (takes_of rfl rfl rfl rfl) fun _ _ _ _ z => z) (pe_gC SC.k) (pa_cons (pe_ix ix_list (pv 0) pe_int (fun _ _ => rfl)) (pa_cons (pe_ix ix_list (pv 0) pe_int (fun _ _ => rfl)) (pa_cons (pe_ix ix_list (pv 0) pe_int (fun _ _ => rfl)) (pa_cons (pe_ix ix_list (pv 0) pe_int (fun _ _ => rfl)) (pa_cons (pe_ix ix_list (pv 0) pe_int (fun _ _ => rfl)) pa_nil)))))))))))), ?_⟩
    match us, hl, ho, len, hb with
    | [], hl, ho, len, hb => cases hb
    | [x0], hl, ho, len, hb => exact ⟨_, rfl, l, _, rfl, .inl hl, _, _, rfl, rfl, _, rfl, iteT ⟨_, rfl, (by show 0 ≤ sizeLine; decide), fun e ne => ⟨l, e, _, rfl, rfl, hl.ext (same_new ne), SqL.of upd_same, _, rfl, iteF ⟨rfl, _, rfl, l, _, _, _, rfl, rfl, hl.ext (same_new ne), rfl, irr ⟨[x0], u, rfl, fun u hu => (ho u hu).same (same_new ne), by simp, hb, er.same (same_new ne)⟩⟩⟩⟩⟩
    | [x0, x1], hl, ho, len, hb => exact ⟨_, rfl, l, _, rfl, .inl hl, _, _, rfl, rfl, _, rfl, iteF ⟨_, rfl, l, _, rfl, .inl hl, rfl, _, rfl, iteT ⟨rfl, _, rfl, l, _, _, _, rfl, rfl, hl, rfl, _, rfl, l, _, _, _, rfl, rfl, hl, rfl, irr ⟨[x0, x1], u, rfl, ho, by simp, hb, er⟩⟩⟩⟩
    | [x0, x1, x2], hl, ho, len, hb => exact ⟨_, rfl, l, _, rfl, .inl hl, _, _, rfl, rfl, _, rfl, iteF ⟨_, rfl, l, _, rfl, .inl hl, rfl, _, rfl, iteF ⟨_, rfl, l, _, rfl, .inl hl, rfl, _, rfl, iteT ⟨rfl, _, rfl, l, _, _, _, rfl, rfl, hl, rfl, _, rfl, l, _, _, _, rfl, rfl, hl, rfl, _, rfl, l, _, _, _, rfl, rfl, hl, rfl, irr ⟨[x0, x1, x2], u, rfl, ho, by simp, hb, er⟩⟩⟩⟩⟩
    | [x0, x1, x2, x3], hl, ho, len, hb => exact ⟨_, rfl, l, _, rfl, .inl hl, _, _, rfl, rfl, _, rfl, iteF ⟨_, rfl, l, _, rfl, .inl hl, rfl, _, rfl, iteF ⟨_, rfl, l, _, rfl, .inl hl, rfl, _, rfl, iteF ⟨_, rfl, l, _, rfl, .inl hl, rfl, _, rfl, iteT ⟨rfl, _, rfl, l, _, _, _, rfl, rfl, hl, rfl, _, rfl, l, _, _, _, rfl, rfl, hl, rfl, _, rfl, l, _, _, _, rfl, rfl, hl, rfl, _, rfl, l, _, _, _, rfl, rfl, hl, rfl, irr ⟨[x0, x1, x2, x3], u, rfl, ho, by simp, hb, er⟩⟩⟩⟩⟩⟩
    | [x0, x1, x2, x3, x4], hl, ho, len, hb => exact ⟨_, rfl, l, _, rfl, .inl hl, _, _, rfl, rfl, _, rfl, iteF ⟨_, rfl, l, _, rfl, .inl hl, rfl, _, rfl, iteF ⟨_, rfl, l, _, rfl, .inl hl, rfl, _, rfl, iteF ⟨_, rfl, l, _, rfl, .inl hl, rfl, _, rfl, iteF ⟨rfl, _, rfl, l, _, _, _, rfl, rfl, hl, rfl, _, rfl, l, _, _, _, rfl, rfl, hl, rfl, _, rfl, l, _, _, _, rfl, rfl, hl, rfl, _, rfl, l, _, _, _, rfl, rfl, hl, rfl, _, rfl, l, _, _, _, rfl, rfl, hl, rfl, irr ⟨[x0, x1, x2, x3, x4], u, rfl, ho, by simp, hb, er⟩⟩⟩⟩⟩⟩
    | _ :: _ :: _ :: _ :: _ :: _ :: _, _, _, len, _ => simp at len
end
end RV
namespace RV
open PySem L2
/-- short, of low signs -/
def Sm (x : Str) : Prop := Low x ∧ x.length ≤ 8
theorem sm_nm {x : Str} (h : IsNm x) : Sm x := ⟨low_nm h, by
  have := isNm_len h
  rw [← cd_len] at this
  omega⟩
theorem low_cutS {z : Str} (h : Low z) (lo hi : Option Int) : Low (cutS z lo hi) := fun c hc => by
  rw [cd_cutS] at hc
  exact h c (List.mem_of_mem_drop (List.mem_of_mem_take hc))
theorem sm_pre {z : Str} {k : Nat} (h : Low z) (hk : k ≤ 8) : Sm (cutS z none (some (k : Int))) := ⟨low_cutS h _ _, by
  rw [cd_len, cd_pre, List.length_take]
  omega⟩
theorem cands_sm {x : Str} (h : Sm x) : ∀ y ∈ cands x, Sm y := by
  intro y hy
  obtain ⟨c, hc, rfl⟩ := List.mem_map.mp hy
  have hl : Low (⟨#[c]⟩ : Str) := by
    have a : ((cd signs).all fun c => decide (c < 1000)) = true := by rw [cd_signs]; decide
    intro d hd
    rw [show d = c by simpa using hd]
    exact of_decide_eq_true (List.all_eq_true.mp a c hc)
  refine ⟨low_app (low_cutS h.1 _ _) hl, ?_⟩
  rw [cd_len, cand_cd, List.length_append, List.length_take]
  have : [c].length = 1 := rfl
  omega
def sp_freshL : Sp := fun vs H Q _ => ∃ (a t : Addr) (n : Nat) (xs : List Str), vs = [.ref a, .ref t] ∧ WellAt H a n ∧ n < 800000 ∧ H t = some (.lst (xs.map V.str)) ∧ t ≠ a ∧ (∀ x ∈ xs, Low x ∧ x.length ≤ 20) ∧ xs.length ≤ 35 ∧
  ∀ (x : Str) H', Sm x → Grow a H H' → WellAt H' a (n + 13) → Q (.str x) H'
section
variable {P : Program} {w : World} {K : PySem.W.Frag} {mg : Str → Option Value} {base : Heap}
theorem ok_freshL {f : Addr} {fd : FuncData} (F : Fun K "_law_fresh" "_law_fresh" s_fresh f fd) (T : Blt mg) (h_dip : Fn P w K mg base "_law_dip" 1 ["_law_well_here", "_law_many"] sp_dip) (h_name : Fn P w K mg base "_law_name" 2 ["_law_well_here"] sp_name) : FnOk P w K mg base CX0 3 f fd ["_law_well_here", "_law_taken"] sp_freshL := by
  refine F.ok sc_fresh (fun vs H Q E h => ?_) (fun cdv A outer s H vs Q E hr h => ?_)
  · obtain ⟨_, _, _, _, rfl, _⟩ := h
    rfl
  · obtain ⟨a, t, n, xs, rfl, wl, hn, ht, nta, hxs, hlen, k⟩ := h
    refine ⟨_, (pss_cons (ps_asg (pe_tup (pa_cons (pe_fn h_dip (hr.mono (by decide)) (pa_cons (pv 0) (pa_cons pe_int pa_nil))) (pa_cons (pe_fn h_name (hr.mono (by decide)) (pa_cons (pv 0) pa_nil)) pa_nil))) (pg_tup (by rfl) (pgs_cons (pg_name (i := 2) sc_fresh.nd rfl (Or.inl rfl)) (pgs_cons (pg_name (i := 3) sc_fresh.nd rfl (Or.inr rfl)) pgs_nil))))
      (pss_cons (ps_if (PW.pt (pw_and (pt_cmpR (op_ne0 (Nat.lt_of_le_of_lt (Nat.le_add_right _ 64) hr.units)) (pv 1) (pe_lst pa_nil) (nomark _)) (pw_and1 (pt_cmpR op_lt (pv 2) pe_int (nomark _))))) (pss_cons (ps_set (i := 4) sc_fresh.nd rfl (Or.inl rfl) (pe_ix ix_list (pv 1) (pe_fn h_dip (hr.mono (by decide)) (pa_cons (pv 0) (pa_cons (pe_callB call_len_seq (by rfl) T.b_len (by decide +kernel) (pa_cons (pv 1) pa_nil)) pa_nil))) (fun _ _ => rfl))) (pss_one (ps_set (i := 3) sc_fresh.nd rfl (Or.inr rfl) (pe_ifExp (pt_cmpR op_eq (pv 2) pe_int (nomark _)) (pe_slice sl_str (pe_op op_add_str (pv 4) (pv 3)) po_none (po_some pe_int)) (pe_slice sl_str (pv 4) po_none (po_some (pe_op op_add pe_int (pe_fn h_dip (hr.mono (by decide)) (pa_cons (pv 0) (pa_cons pe_int pa_nil)))))))))) pss_nil)
      (pss_cons (ps_if (pt_cmpR op_notIn_seq (pv 3) (pv 1) (by rfl)) (pss_one (ps_ret (pv 3))) pss_nil)
      (pss_cons (ps_setLc (i := 5) (own := [("_law_sign_here", 6)]) (g := gName 6) (tt := tYes) rfl sc_fresh.nd rfl rfl (sw_true rfl rfl rfl (by decide +kernel)) (pi_str pe_str) (blkOk_by (N := sc_fresh_N) (sc := defScope s_fresh) (by decide +kernel)) (fun _ _ _ _ _ => pg_name (i := 6) sc_fresh.nd rfl (Or.inl rfl)) (fun _ _ _ _ _ => pts_nil) (fun _ _ _ _ _ => (pe_op op_add_str (pe_slice sl_str (pv 3) po_none (po_some pe_int)) (pv 6))))
      (pss_one (ps_ret (pe_ix ix_list (pe_lc (own := [("_law_each", 7)]) (g := gName 7) rfl sc_fresh.nd (pi_list (pv 5)) (blkOk_by (N := sc_fresh_N) (sc := defScope s_fresh) (by decide +kernel)) (fun _ _ _ _ _ => pg_name (i := 7) sc_fresh.nd rfl (Or.inl rfl)) (fun _ _ _ _ _ => pts_one (pt_cmpR (op_notInK (K := K)) (pv 7) (pv 1) (by rfl))) (fun _ _ _ _ _ => (pv 7))) pe_int (fun _ _ => rfl)))))))), ?_⟩
    refine ⟨_, rfl, a, 4, n, rfl, wl, by omega, by decide, by decide, fun way H1 wy0 wy4 g1 w1 => ?_⟩
    refine ⟨_, rfl, a, n + 1, rfl, w1, by omega, fun x H2 hx g2 w2 => ⟨(by show 2 ≤ sizeLine; decide), fun p np => ?_⟩⟩
    refine ⟨p, _, rfl, SqT.of upd_same, rfl, _, _, rfl, _, _, rfl, rfl, ?_⟩
    have g3 : Grow a H (upd H2 p (.tup [.int way, .str x])) := (g1.trans g2).trans (Grow.new np)
    have w3 := w2.new (o := .tup [.int way, .str x]) np
    revert g3 w3
    generalize upd H2 p (.tup [.int way, .str x]) = H3
    intro g3 w3
    -- the title as it stands behind the if
    dsimp only
    refine seq_of (fun σ' H' => ∃ (x : Str) (o : Option V), σ' = [some (.ref a), some (.ref t), some (.int way), some (.str x), o, none, none, none] ∧ Sm x ∧ Grow a H H' ∧ WellAt H' a (n + 13)) ?rest (fun N hN => ?main)
    case main =>
      have ht3 := g3 t _ nta ht
      have st : N [some (.ref a), some (.ref t), some (.int way), some (.str x), none, none, none, none] H3 := hN _ _ ⟨x, none, rfl, sm_nm hx, g3, w3.mono (by omega)⟩
      refine ⟨_, rfl, by decide, fun p2 np2 => ?_⟩
      have g4 : Grow a H (upd H3 p2 (.lst [])) := g3.trans (Grow.new np2)
      have w4 := w3.new (o := .lst []) np2
      have np2' : t ≠ p2 := ne_of_none ht3 np2
      have ht4 : (upd H3 p2 (.lst [])) t = some (.lst (xs.map V.str)) := by rw [upd_ne np2']; exact ht3
      refine ⟨t, p2, _, rfl, rfl, SqL.of ht4, SqL.of upd_same, _, rfl, ?_⟩
      rw [List.isEmpty_map]
      revert g4 w4 ht4
      generalize upd H3 p2 (.lst []) = H4
      intro g4 w4 ht4
      cases he : xs.isEmpty with
      | true => exact iteF (iteF (hN _ _ ⟨x, none, rfl, sm_nm hx, g4, w4.mono (by omega)⟩))
      | false =>
        refine iteT ⟨_, rfl, _, _, rfl, rfl, _, rfl, ?_⟩
        refine ite2 (fun hw => ?_) (fun _ => hN _ _ ⟨x, none, rfl, sm_nm hx, g4, w4.mono (by omega)⟩)
        have hpos : 0 < xs.length := by cases xs with | nil => cases he | cons x0 xr => simp
        refine ⟨_, rfl, _, rfl, _, rfl, t, _, rfl, .inl (SqL.of ht4), a, _, n + 11, rfl, w4, by omega, ?_, ?_, fun r H5 r0 r1 g5 w5 => ?_⟩
        · rw [List.length_map]; omega
        · rw [List.length_map]; omega
        rw [List.length_map] at r1
        obtain ⟨y, hy, hynm, _⟩ := at_of_list hxs r0 r1
        have ht5 := g5 t _ nta ht4
        refine ⟨t, _, r, .str y, rfl, rfl, SqL.of ht5, ?_, ?_⟩
        · unfold atI at hy ⊢
          rw [List.length_map]
          revert hy
          cases ixN xs.length r with
          | none => intro hy; cases hy
          | some j =>
            intro hy
            show (xs.map V.str)[j]? = _
            rw [List.getElem?_map, show xs[j]? = some y from hy]
            rfl
        · have ly := hynm.2
          have lx := (isNm_len hx)
          rw [← cd_len] at lx
          refine ⟨_, rfl, rfl, _, rfl, ?_⟩
          refine ite2 (fun _ => ?_) (fun _ => ?_)
          · refine ⟨_, rfl, _, rfl, _, _, rfl, rfl, szn (by omega), _, rfl, _, rfl, ?_, ?_⟩
            · rw [cd_len, cd_app, List.length_append, ← cd_len, ← cd_len]
              exact szn (by omega)
            · exact hN _ _ ⟨_, _, rfl, sm_pre (low_app hynm.1 (low_nm hx)) (by decide : 8 ≤ 8), g4.trans g5, w5.mono (by omega)⟩
          · refine ⟨_, rfl, _, rfl, a, 7, n + 12, rfl, w5, by omega, by decide, by decide, fun r6 H6 r60 r67 g6 w6 => ?_⟩
            obtain ⟨m, rfl⟩ := Int.eq_ofNat_of_zero_le r60
            refine ⟨_, _, rfl, rfl, _, rfl, _, rfl, szn (by omega), ?_⟩
            refine hN _ _ ⟨_, _, rfl, ?_, (g4.trans g5).trans g6, w6.mono (by omega)⟩
            rw [show (1 : Int) + ((m : Nat) : Int) = ((1 + m : Nat) : Int) by omega]
            exact sm_pre hynm.1 (by omega)
    case rest =>
      rintro σ' H5 ⟨x, o, rfl, hx, g5, w5⟩
      have ht5 := g5 t _ nta ht
      have lx := hx.2
      refine ⟨_, rfl, _, rfl, t, _, rfl, .inl (SqL.of ht5), rfl, flat_str xs, _, rfl, ?_⟩
      rw [inV_str]
      refine ite2 (fun hin => ?_) (fun _ => ?_)
      · exact ⟨_, rfl, k x H5 hx g5 w5⟩
      -- the free ones
      refine ⟨signs, rfl, fun D nD => lc_str (z := signs) (fun i H' => Grow a H H' ∧ WellAt H' a (n + 13) ∧ H' D = some (.lst (((cands x).take i).map V.str))) ⟨g5.trans (Grow.new nD), w5.new nD, upd_same⟩ ?_ ?_⟩
      · rintro i c H6 hi ⟨g6, w6, h6⟩
        have nDa : D ≠ a := (w5.ne nD).symm
        refine ⟨rfl, _, rfl, _, rfl, _, rfl, szn (by omega), _, rfl, _, _, rfl, rfl, ?_, _, h6, ?_, ?_⟩
        · rw [show cutS x none (some 7) = cutS x none (some ((7 : Nat) : Int)) from rfl, cd_len, cd_pre, List.length_take, ← cd_len]
          have e2 : Str.length ⟨#[c]⟩ = 1 := rfl
          rw [e2]
          exact szn (by omega)
        · rw [List.length_map, List.length_take]
          exact Nat.lt_of_lt_of_le (show min i (cands x).length < 1000 by rw [cands_len]; omega) (by decide)
        · refine ⟨fun b o hb eb => ?_, ?_, ?_⟩
          · rw [upd_ne (ne_of_none (g5 b o hb eb) nD)]
            exact g6 b o hb eb
          · obtain ⟨x1, y1, z1, e1, r1⟩ := w6
            exact ⟨x1, y1, z1, by rw [upd_ne nDa.symm]; exact e1, r1⟩
          · rw [upd_same]
            have e : (cands x)[i]? = some (cutS x none (some 7) ++ ⟨#[c]⟩) := by
              unfold cands
              rw [List.getElem?_map, hi]
              rfl
            obtain ⟨hl, e'⟩ := List.getElem?_eq_some_iff.mp e
            rw [List.take_succ_eq_append_getElem hl, e', List.map_append]
            rfl
      · intro H6 ⟨g6, w6, h6⟩
        rw [List.take_of_length_le (by rw [cands_len, cd_signs]; decide)] at h6
        have ht6 := g6 t _ nta ht
        refine ⟨_, rfl, D, rfl, ⟨_, SqL.of h6⟩, fun D2 nD2 => lc_list (K := K) (a := D) (xs := (cands x).map V.str) (fun i H' => Grow a H H' ∧ WellAt H' a (n + 13) ∧ H' D = some (.lst ((cands x).map V.str)) ∧ H' t = some (.lst (xs.map V.str)) ∧ H' D2 = some (.lst ((((cands x).take i).filter (fun y => decide (y ∉ xs))).map V.str)))
          ⟨g6.trans (Grow.new nD2), w6.new nD2, by rw [upd_ne (ne_of_none h6 nD2)]; exact h6, by rw [upd_ne (ne_of_none ht6 nD2)]; exact ht6, upd_same⟩ (fun _ _ _ h => SqL.of h.2.2.1) ?_ ?_⟩
        · rintro i v H7 hi ⟨g7, w7, h7, t7, d7⟩
          obtain ⟨y, rfl, hy⟩ : ∃ y, v = V.str y ∧ (cands x)[i]? = some y := by
            rw [List.getElem?_map] at hi
            cases e : (cands x)[i]? with
            | none => rw [e] at hi; cases hi
            | some y => rw [e] at hi; exact ⟨y, (Option.some.inj hi).symm, rfl⟩
          have eT : (cands x).take (i + 1) = (cands x).take i ++ [y] := by
            obtain ⟨hl, e'⟩ := List.getElem?_eq_some_iff.mp hy
            rw [List.take_succ_eq_append_getElem hl, e']
          refine ⟨rfl, _, rfl, _, rfl, t, _, rfl, .inl (SqL.of t7), rfl, flat_str xs, _, rfl, ?_⟩
          rw [inV_str]
          refine ite2 (fun hin => ?_) (fun hin => ?_)
          · have hn' : y ∉ xs := by simpa using hin
            refine ⟨_, rfl, _, d7, ?_, ?_⟩
            · rw [List.length_map]
              have := List.length_filter_le (fun y => decide (y ∉ xs)) ((cands x).take i)
              rw [List.length_take, cands_len] at this
              exact Nat.lt_of_lt_of_le (show _ < 1000 by omega) (by decide)
            · refine ⟨fun b o hb eb => ?_, ?_, ?_, ?_, ?_⟩
              · rw [upd_ne (ne_of_none (g6 b o hb eb) nD2)]
                exact g7 b o hb eb
              · obtain ⟨x1, y1, z1, e1, r1⟩ := w7
                exact ⟨x1, y1, z1, by rw [upd_ne (w6.ne nD2)]; exact e1, r1⟩
              · rw [upd_ne (ne_of_none h6 nD2)]; exact h7
              · rw [upd_ne (ne_of_none ht6 nD2)]; exact t7
              · rw [upd_same, eT, List.filter_append, List.map_append]
                simp [hn']
          · have hn' : y ∈ xs := by simpa using hin
            refine ⟨g7, w7, h7, t7, ?_⟩
            rw [d7, eT, List.filter_append]
            simp [hn']
        · rintro H7 ⟨g7, w7, h7, t7, d7⟩
          rw [List.length_map, List.take_of_length_le (Nat.le_refl _)] at d7
          obtain ⟨y, hy, hyx⟩ := one_free (cands_nodup x) (xs := xs) (by rw [cands_len]; omega)
          have hm : y ∈ (cands x).filter (fun y => decide (y ∉ xs)) := List.mem_filter.mpr ⟨hy, decide_eq_true hyx⟩
          cases ef : (cands x).filter (fun y => decide (y ∉ xs)) with
          | nil => rw [ef] at hm; cases hm
          | cons z zs =>
            rw [ef] at d7
            have hz : z ∈ (cands x).filter (fun y => decide (y ∉ xs)) := by rw [ef]; exact List.mem_cons_self
            obtain ⟨hz1, hz2⟩ := List.mem_filter.mp hz
            exact ⟨D2, _, 0, .str z, rfl, rfl, SqL.of d7, atI_nat (j := 0) rfl, k z H7 (cands_sm hx z hz1) g7 w7⟩
end
end RV
namespace RV
open PySem L2 TL
theorem cut_two (y : Str) {k : Int} (h : 0 ≤ k) : (cutS y none (some k)).length + (cutS y (some k) none).length ≤ y.length := by
  obtain ⟨n, rfl⟩ := Int.eq_ofNat_of_zero_le h
  rw [cd_len (cutS y none _), cd_len (cutS y (some _) none), cd_pre, cd_cutS, sIx_some, sIx_none, List.length_take, List.length_take, List.length_drop, ← cd_len]
  omega
section
variable {K : PySem.W.Frag} {H H' : Hp} {a D : Addr} {v : V} {d : PyData} {o : HO}
theorem del2_same (h : ∀ b u, b ≠ a → b ≠ D → H b = some u → H' b = some u) : Same (del (del H a) D) (del (del H' a) D) := fun b u e => by
  by_cases h1 : b = D
  · subst h1
    rw [L2.del_same] at e
    cases e
  · rw [del_ne h1] at e ⊢
    by_cases h2 : b = a
    · subst h2
      rw [L2.del_same] at e
      cases e
    · rw [del_ne h2] at e ⊢
      exact h b u h2 h1 e
theorem new_del2 {u w : HO} (ha : H a = some u) (hD : H D = some w) : Same (newOf H H') (del (del H' a) D) := fun b x e => by
  obtain ⟨n, e'⟩ := newOf_of e
  rw [del_ne (fun z => by rw [z, hD] at n; cases n), del_ne (fun z => by rw [z, ha] at n; cases n)]
  exact e'
theorem del2_del : Same (del (del H a) D) (del H a) := delS
end
/-- names, and values that are none -/
def sp_rowN (K : PySem.W.Frag) : Sp := fun vs H Q _ => ∃ (a : Addr) (n m : Nat), vs = [.ref a, .int (m : Nat)] ∧ WellAt H a n ∧ n < 500000 ∧ m ≤ 5 ∧
  ∀ (l : Addr) (us : List (V × PyData)) H', l ≠ a → H' l = some (.lst (us.map (·.1))) → (∀ u ∈ us, Ody K (del H' a) u.1 u.2) → us.length ≤ 5 → Grow a H H' → WellAt H' a (n + 400) → Q (.ref l) H'
section
variable {P : Program} {w : World} {K : PySem.W.Frag} {mg : Str → Option Value} {base : Heap}
theorem ok_row {f : Addr} {fd : FuncData} (F : Fun K "_law_row" "_law_row" s_row f fd) (T : Blt mg) (h_dip : Fn P w K mg base "_law_dip" 1 ["_law_well_here", "_law_many"] (Irr sp_dip)) (h_fresh : Fn P w K mg base "_law_fresh" 3 ["_law_well_here", "_law_taken"] (Irr sp_freshL))
    (h_sign : Fn P w K mg base "_law_sign" 2 ["_law_well_here", "_law_often"] (Irr sp_sign)) (h_odd : Fn P w K mg base "_law_odd" 2 ["_law_well_here"] (Irr (sp_oddN K))) : FnOk P w K mg base CX0 4 f fd ["_law_well_here", "_law_many"] (sp_rowN K) := by
  refine F.ok sc_row (fun vs H Q E h => ?_) (fun cdv A outer s H vs Q E hr h => ?_)
  · obtain ⟨_, _, _, rfl, _⟩ := h
    rfl
  · obtain ⟨a, n, m, rfl, w0, hn, hm, k⟩ := h
    refine ⟨_, (pss_cons (ps_asg (pe_tup (pa_cons (pe_lst pa_nil) (pa_cons (pe_cmpR op_eq (pe_fn h_dip (hr.mono (by decide)) (pa_cons (pv 0) (pa_cons pe_int pa_nil))) pe_int (nomark _)) pa_nil))) (pg_tup (by rfl) (pgs_cons (pg_name (i := 2) sc_row.nd rfl (Or.inl rfl)) (pgs_cons (pg_name (i := 3) sc_row.nd rfl (Or.inr rfl)) pgs_nil))))
      (pss_cons (ps_for PassesOwn.never rfl (pi_range1 rfl T.b_range (pa_cons (pv 1) pa_nil)) (pg_name (i := 4) sc_row.nd rfl (Or.inl rfl)) (pss_cons (ps_par3 (i := 5) (j := 6) (l := 7) (by rfl) sc_row.nd rfl rfl rfl (by decide) (by decide) (by decide) rfl rfl rfl (pa_cons (pe_fn h_dip (hr.mono (by decide)) (pa_cons (pv 0) (pa_cons pe_int pa_nil))) (pa_cons (pe_fn h_dip (hr.mono (by decide)) (pa_cons (pv 0) (pa_cons pe_int pa_nil))) (pa_cons (pe_fn h_fresh (hr.mono (by decide)) (pa_cons (pv 0) (pa_cons (pe_slice sl_list (pv 2) po_none (po_some pe_int)) pa_nil))) pa_nil))) (by rfl)) (pss_cons (ps_if (PW.pt (pw_and (pt_cmpR op_lt (pv 5) pe_int (nomark _)) (pw_and1 (pt_cmpR (op_ne0 (Nat.lt_of_le_of_lt (Nat.le_add_right _ 64) hr.units)) (pv 2) (pe_lst pa_nil) (nomark _))))) (pss_one (ps_set (i := 7) sc_row.nd rfl (Or.inl rfl) (pe_ix ix_list (pv 2) (pe_fn h_dip (hr.mono (by decide)) (pa_cons (pv 0) (pa_cons (pe_callB call_len_seq (by rfl) T.b_len (by decide +kernel) (pa_cons (pv 2) pa_nil)) pa_nil))) (fun _ _ => rfl)))) pss_nil) (pss_cons (ps_if (PW.pt (pw_and (pt_cmpR op_eq (pv 5) pe_int (nomark _)) (pw_and1 (pt_val (pv 3))))) (pss_one (ps_set (i := 7) sc_row.nd rfl (Or.inl rfl) (pe_op op_add_str (pe_op op_add_str (pe_slice sl_str (pv 7) po_none (po_some (pv 6))) (pe_fn h_sign (hr.mono (by decide)) (pa_cons (pv 0) (pa_cons pe_str pa_nil)))) (pe_slice sl_str (pv 7) (po_some (pv 6)) po_none)))) pss_nil) (pss_one (ps_expr (pe_bm PySem.F.plainAttrs_list PySem.F.slot_list_append PySem.F.type_list_append mt_append (pv 2) (pa_cons (pv 7) pa_nil))))))))
      (pss_one (ps_ret (pe_lc (own := [("_law_name_here", 7)]) (g := gName 7) (tt := tYes) rfl sc_row.nd (pi_list (pv 2)) (blkOk_by (N := sc_row_N) (sc := defScope s_row) (by decide +kernel)) (fun _ _ _ _ _ => pg_name (i := 7) sc_row.nd rfl (Or.inl rfl)) (fun _ _ _ _ _ => pts_nil) (fun _ _ _ _ _ => (pe_ifExp (PW.pt (pw_and (pt_val (pv 3)) (pw_and1 (pt_cmpR op_eq (pe_fn h_dip (hr.mono (by decide)) (pa_cons (pv 0) (pa_cons pe_int pa_nil))) pe_int (nomark _))))) (pe_fn h_odd (hr.mono (by decide)) (pa_cons (pv 0) pa_nil)) (pv 7)))))))), ?_⟩
    have h0 := Has.start w0
    refine ⟨(by show 0 ≤ sizeLine; decide), fun l nl => ?_⟩
    have h1 := h0.new nl (o := .lst [])
    refine ⟨_, rfl, dip_step h1 (by omega) (by decide) (by decide) fun r H2 r0 r1 h2 => ⟨rfl, (by show 2 ≤ sizeLine; decide), fun p np => ?_⟩⟩
    have h3 := h2.new np (o := .tup [.ref l, .bl (decide ((V.int r) = .int 0))])
    refine ⟨p, _, rfl, SqT.of upd_same, rfl, _, _, rfl, _, _, rfl, rfl, ?_⟩
    obtain ⟨sp, hsp⟩ : ∃ sp : Bool, sp = decide ((V.int r) = .int 0) := ⟨_, rfl⟩
    rw [← hsp] at h3 ⊢
    have h3 := h3.sub (L' := [(l, .lst [])]) (by simp)
    revert h3
    generalize upd H2 p (.tup [.ref l, .bl sp]) = H3
    intro h3
    dsimp only [gName, gCons, gNil]
    refine ⟨_, rfl, (m : Int), rfl, by omega, by omega, for_range (lo := 0) (n := m) (fun i σ H' => ∃ (zs : List Str) (o4 o5 o6 o7 : Option V), σ = [some (.ref a), some (.int (m : Nat)), some (.ref l), some (.bl sp), o4, o5, o6, o7] ∧ zs.length = i ∧ (∀ z ∈ zs, Low z ∧ z.length ≤ 8 + i) ∧ Has H a (n + 1 + 40 * i) [(l, .lst (zs.map V.str))] H')
      ⟨[], none, none, none, none, rfl, rfl, (fun _ hz => (nomatch hz)), h3⟩ ?_ ?_⟩
    · rintro i σ H4 hi ⟨zs, o4, o5, o6, o7, rfl, zl, zk, h4⟩
      have lla : l ≠ a := h0.off nl
      refine ⟨_, rfl, dip_step h4 (by omega) (by decide) (by decide) fun way H5 y0 y1 h5 => ⟨_, rfl, dip_step h5 (by omega) (by decide) (by decide) fun at_ H6 t0 t1 h6 => ?_⟩⟩
      refine ⟨_, rfl, _, rfl, _, rfl, l, _, rfl, SqL.of (h6.at List.mem_cons_self), fun q nq => ?_⟩
      have h7 := h6.new nq (o := .lst ((zs.take 1).map V.str))
      have e7 : upd H6 q (.lst (cutV (zs.map V.str) none (some 1))) = upd H6 q (.lst ((zs.take 1).map V.str)) := by
        rw [show (some (1 : Int)) = some ((1 : Nat) : Int) from rfl, cutV_take, List.map_take]
      rw [e7]
      refine irr ⟨a, q, n + 1 + 40 * i + 1 + 1, zs.take 1, rfl, h7.well, by omega, upd_same, h6.off nq, fun x hx => ?_, ?_, fun x H8 sx g8 w8 => ?_⟩
      · obtain ⟨c1, c2⟩ := zk x (List.mem_of_mem_take hx)
        exact ⟨c1, by omega⟩
      · rw [List.length_take]
        omega
      have h8 := (h7.grow g8 w8).sub (L' := [(l, .lst (zs.map V.str))]) (by simp)
      refine ⟨_, _, _, rfl, ?_⟩
      have mem : ∀ {z}, z ∈ zs → Low z ∧ z.length ≤ 8 + i := fun hz => zk _ hz
      dsimp only
      refine seq_of (fun σ' H' => ∃ y : Str, Low y ∧ y.length ≤ 8 + i ∧ σ' = [some (.ref a), some (.int (m : Nat)), some (.ref l), some (.bl sp), some (.int (0 + (i : Int))), some (.int way), some (.int at_), some (.str y)] ∧ Has H a (n + 1 + 40 * i + 16) [(l, .lst (zs.map V.str))] H') ?r1 (fun N hN => ?m1)
      case m1 =>
        have go : ∀ H', Has H a (n + 1 + 40 * i + 1 + 1 + 13) [(l, .lst (zs.map V.str))] H' → N [some (.ref a), some (.int (m : Nat)), some (.ref l), some (.bl sp), some (.int (0 + (i : Int))), some (.int way), some (.int at_), some (.str x)] H' := fun H' h' => hN _ _ ⟨x, sx.1, by have := sx.2; omega, rfl, h'.wm (by omega)⟩
        refine ⟨_, rfl, _, _, rfl, rfl, _, rfl, ?_⟩
        refine ite2 (fun _ => ?_) fun _ => iteF (go _ h8)
        refine ⟨_, rfl, (by show 0 ≤ sizeLine; decide), fun e ne => ?_⟩
        have h9 := h8.new ne (o := .lst [])
        refine ⟨l, e, _, rfl, rfl, SqL.of (h9.at (List.mem_cons_of_mem _ List.mem_cons_self)), SqL.of upd_same, _, rfl, ?_⟩
        have h9 := h9.sub (L' := [(l, .lst (zs.map V.str))]) (by simp)
        rw [List.isEmpty_map]
        cases he : zs.isEmpty with
        | true => exact iteF (go _ h9)
        | false =>
          have hp : 0 < zs.length := by cases zs with | nil => cases he | cons z zs => simp
          refine iteT ⟨_, rfl, _, rfl, _, rfl, l, _, rfl, .inl (SqL.of (h9.at List.mem_cons_self)), dip_step h9 (by omega) (by rw [List.length_map]; omega) (by rw [List.length_map]; omega) fun j Ha j0 j1 ha => ?_⟩
          rw [List.length_map] at j1
          obtain ⟨jn, rfl⟩ := Int.eq_ofNat_of_zero_le j0
          have hj : jn < zs.length := by omega
          exact ⟨l, _, (jn : Int), .str zs[jn], rfl, rfl, SqL.of (ha.at List.mem_cons_self), atI_nat (by rw [List.getElem?_map, List.getElem?_eq_getElem hj]; rfl), hN _ _ ⟨zs[jn], (mem (List.getElem_mem hj)).1, (mem (List.getElem_mem hj)).2, rfl, ha.wm (by omega)⟩⟩
      rintro σ' H9 ⟨y, ly, yl, rfl, h9⟩
      refine seq_of (fun σ' H' => ∃ y : Str, Low y ∧ y.length ≤ 8 + (i + 1) ∧ σ' = [some (.ref a), some (.int (m : Nat)), some (.ref l), some (.bl sp), some (.int (0 + (i : Int))), some (.int way), some (.int at_), some (.str y)] ∧ Has H a (n + 1 + 40 * i + 18) [(l, .lst (zs.map V.str))] H') ?r2 (fun N hN => ?m2)
      case m2 =>
        have go : N [some (.ref a), some (.int (m : Nat)), some (.ref l), some (.bl sp), some (.int (0 + (i : Int))), some (.int way), some (.int at_), some (.str y)] H9 := hN _ _ ⟨y, ly, by omega, rfl, h9.wm (by omega)⟩
        refine ⟨_, rfl, rfl, _, rfl, ?_⟩
        refine ite2 (fun _ => ?_) fun _ => iteF go
        refine ⟨_, rfl, sp, rfl, ?_⟩
        cases sp with
        | false => exact iteF go
        | true =>
          have c1 := cutS_length y none (some at_)
          have c2 := cutS_length y (some at_) none
          have cc : (cutS y none (some at_)).length + (cutS y (some at_) none).length ≤ y.length := cut_two y t0
          refine iteT ⟨_, rfl, _, rfl, at_, rfl, y, rfl, szn (by omega), ?_⟩
          refine ⟨_, rfl, irr ⟨a, n + 1 + 40 * i + 16, _, rfl, h9.well, by omega, low_c (by decide +kernel), by decide +kernel, by decide +kernel, fun c Hb lc cl gb wb => ?_⟩⟩
          refine ⟨_, _, rfl, rfl, szn (by omega), _, rfl, _, rfl, at_, rfl, y, rfl, szn (by omega), _, _, rfl, rfl, szn (by rw [sl_app]; omega), ?_⟩
          exact hN _ _ ⟨_, low_app (low_app (low_cut ly _ _) lc) (low_cut ly _ _), by rw [sl_app, sl_app]; omega, rfl, (h9.grow gb wb)⟩
      rintro σ' Hc ⟨y, ly, yl, rfl, hc⟩
      refine ⟨_, rfl, .inl ⟨rfl, _, SqL.of (hc.at List.mem_cons_self)⟩, _, rfl, l, _, _, rfl, rfl, hc.at List.mem_cons_self, ?_, ?_⟩
      · rw [List.length_map]
        exact Nat.lt_of_lt_of_le (show _ < 1000 by omega) (by decide)
      · refine ⟨zs ++ [y], _, _, _, _, rfl, by simp [zl], fun z hz => ?_, ?_⟩
        · rcases List.mem_append.mp hz with hz | hz
          · obtain ⟨c1, c2⟩ := mem hz
            exact ⟨c1, by omega⟩
          · rw [List.mem_singleton.mp hz]
            exact ⟨ly, yl⟩
        · rw [List.map_append]
          exact (((hc.sub (L' := []) (by simp)).put nl (fun _ hq => nomatch hq) lla).add lla upd_same).wm (by omega)
    · rintro σ H4 ⟨zs, o4, o5, o6, o7, rfl, zl, zk, h4⟩
      refine ⟨_, rfl, l, rfl, ⟨_, SqL.of (h4.at List.mem_cons_self)⟩, fun D nD => lc_list (K := K) (a := l) (xs := zs.map V.str) (fun i H' => ∃ us : List (V × PyData), us.length = i ∧ Has H a (n + 1 + 40 * m + 2 * i) [(l, .lst (zs.map V.str)), (D, .lst (us.map (·.1)))] H' ∧ ∀ u ∈ us, Ody K (del (del H' a) D) u.1 u.2)
        ⟨[], rfl, (h4.new nD (o := .lst [])).sub (by simp), fun _ hu => (nomatch hu)⟩ (fun i H' _ z => ?_) ?_ ?_⟩
      · obtain ⟨_, _, hz, _⟩ := z
        exact SqL.of (hz.at List.mem_cons_self)
      · have Dl : D ≠ l := fun z => by rw [z, h4.at List.mem_cons_self] at nD; cases nD
        have Da : D ≠ a := h4.off nD
        have HD : H D = none := h4.none0 nD
        rintro i v H5 hi ⟨us, ul, h5, ho⟩
        rw [List.getElem?_map] at hi
        obtain ⟨z, hz, rfl⟩ : ∃ z, zs[i]? = some z ∧ V.str z = v := by
          cases q : zs[i]? with
          | none => rw [q] at hi; cases hi
          | some z => rw [q] at hi; exact ⟨z, rfl, Option.some.inj hi⟩
        have hm := List.mem_of_getElem? hz
        have il : i < zs.length := (List.getElem?_eq_some_iff.mp hz).1
        -- the value that comes next
        have next : ∀ (v : V) (d : PyData) (H6 : Hp), Grow a H5 H6 → WellAt H6 a (n + 1 + 40 * m + 2 * i + 2) → Ody K (del (del H6 a) D) v d → ∃ acc, H6 D = some (.lst acc) ∧ acc.length < sizeLine ∧ ∃ us : List (V × PyData), us.length = i + 1 ∧ Has H a (n + 1 + 40 * m + 2 * (i + 1)) [(l, .lst (zs.map V.str)), (D, .lst (us.map (·.1)))] (upd H6 D (.lst (acc ++ [v]))) ∧ ∀ u ∈ us, Ody K (del (del (upd H6 D (.lst (acc ++ [v]))) a) D) u.1 u.2 := by
          intro v d H6 g6 w6 o6
          have h6 := h5.grow g6 w6
          have up : Same (del (del H6 a) D) (del (del (upd H6 D (.lst (us.map (·.1) ++ [v]))) a) D) := del2_same fun b u _ hb e => by rw [upd_ne hb]; exact e
          refine ⟨us.map (·.1), h6.at (by simp), ?_, us ++ [(v, d)], by simp [ul], ?_, fun u hu => ?_⟩
          · rw [List.length_map]
            exact Nat.lt_of_lt_of_le (show _ < 1000 by omega) (by decide)
          · have h7 := ((h6.sub (L' := [(l, .lst (zs.map V.str))]) (by simp)).put (o := .lst (us.map (·.1) ++ [v])) HD (fun q hq z => Dl (by rw [List.mem_singleton.mp hq] at z; exact z.symm)) Da).add Da upd_same
            rw [List.map_append]
            exact (h7.sub (by simp)).wm (by omega)
          · rcases List.mem_append.mp hu with hu | hu
            · exact ((ho u hu).same (del2_same fun b x hb _ e => g6 b x hb e)).same up
            · rw [List.mem_singleton.mp hu]
              exact o6.same up
        have keep : ∀ H6, Grow a H5 H6 → WellAt H6 a (n + 1 + 40 * m + 2 * i + 2) → _ := fun H6 g6 w6 => next (.str z) (.str z) H6 g6 w6 (ody_low (zk z hm).1 (by have := (zk z hm).2; omega))
        refine ⟨rfl, _, rfl, sp, rfl, ?_⟩
        cases sp with
        | false => exact iteF ⟨_, rfl, keep H5 (Grow.refl _ _) (h5.well.mono (by omega))⟩
        | true =>
          refine iteT ⟨_, rfl, irr ⟨a, 5, n + 1 + 40 * m + 2 * i, rfl, h5.well, by omega, by decide, by decide, fun r H6 r0 r1 g6 w6 => ⟨rfl, _, rfl, ?_⟩⟩⟩
          refine ite2 (fun _ => ?_) fun _ => ⟨_, rfl, keep H6 g6 (w6.mono (by omega))⟩
          have h6 := h5.grow g6 w6
          refine ⟨_, rfl, irr ⟨a, n + 1 + 40 * m + 2 * i + 1, rfl, w6, by omega, fun v d H7 o7 g7 w7 => next v d H7 (g6.trans g7) (w7.mono (by omega)) ?_⟩⟩
          obtain ⟨_, _, _, ew, _⟩ := w6
          exact o7.same (new_del2 ew (h6.at (p := D) (o := .lst (us.map (·.1))) (by simp)))
      · rintro H5 ⟨us, ul, h5, ho⟩
        have e5 : (zs.map V.str).length = zs.length := List.length_map ..
        rw [e5] at ul h5
        exact k D us H5 (h4.off nD) (h5.at (by simp)) (fun u hu => (ho u hu).same del2_del) (by omega) h5.gr (h5.well.mono (by omega))
end
end RV
namespace RV
open PySem L2 TL LamX
/-- a law's own look: True, whatever is drawn; the tables grow -/
def sp_lright (T : List (Addr × Str)) (b m : Nat) : Sp := fun vs H Q _ => ∃ (a : Addr) (n : Nat), vs = [.ref a] ∧ WellAt H a n ∧ n < b ∧ Tabs T H ∧ ∀ H', ExtA a H H' → Tabs T H' → WellAt H' a (n + m) → Q (.bl true) H'
section
variable {P : Program} {w : World} {K : PySem.W.Frag} {mg : Str → Option Value} {base : Heap} {C t0 CI CB CV CA : Addr} {cs : List Addr} {nm vl : Nat → Bool} {fld : Nat → Str} {T : List (Addr × Str)}
theorem ok_right {f : Addr} {fd : FuncData} {c Pt : Addr} (F : FunC K "_law_right" "_law_right" s_right f fd c) (B : Blt mg) (T2 : Blt2 mg) (SC : SClass K mg C) (SK : SKinds K C) (hc : PySem.W.selfFirst K C = true) (TB : TabB base mg c Pt) (hmT : (Pt, ("_law_right" : Str) ++ ".<locals>." ++ "<lambda>") ∈ T) (hu : ∀ p ∈ T, p.1 = Pt → p.2 = ("_law_right" : Str) ++ ".<locals>." ++ "<lambda>")
    (MI : ErrC K cs CB CV CA nm vl fld CI 1)
    (h_dip : Fn P w K mg base "_law_dip" 1 ["_law_well_here", "_law_many"] (Irr sp_dip)) (h_row : Fn P w K mg base "_law_row" 4 ["_law_well_here", "_law_many"] (Irr (sp_rowN K))) (h_lname : Fn P w K mg base "_law_is_name" 1 ["_law_word"] (Irr sp_lname))
    (h_of : Fn P w K mg base "_law_of" 7 ["_law_row_here"] (Irr (sp_lof K C))) (h_ofX : Fx P w K mg base "_law_of" 7 ["_law_row_here"] (Irr (orS (sp_lof K C) (sp_lofX K CI))))
    (h_caught : Ctch P w K mg base 9 CV CB CA (sp_said K cs CB CV nm vl fld) (Irr (sp_seenS K C))) (h_sum_text : Fn P w K mg base "_law_sum_text" 1 ["_law_terms"] (Irr (sp_sumtext K)))
    (h_terms : Prp P w K mg base C "terms" 1 (Irr (sp_terms C))) (h_Sum : Mkr P w K mg base "Sum" C 4 (Irr (sp_Sum K C)) []) (h_Sum0 : Mkr P w K mg base "Sum" C 4 (Irr (sp_Sum K C)) [.ref t0]) (h_one : ClsR P w K mg base C "of" 6 (Irr (sp_of C))) (h_add : OwnM P w K mg base C "__add__" 6 (Irr (sp_addS C)))
    (h_read : ClsM P w K mg base C "read" 8 ["cls", "text"] (Irr (sp_read C))) (o_S : OwnEq P w K mg base C 2 (sp_eqS K C)) (ht0 : ∀ H, SqT K H t0 []) :
    FnG P w K mg base 13 f fd ["_law_well_here"] (sp_lright T 400000 500) := by
  refine gFunL F sc_right (fun vs H Q E h => ?_) (fun A outer s H vs Q E gs hr h => ?_)
  · obtain ⟨_, _, rfl, _⟩ := h
    rfl
  · obtain ⟨a, n, rfl, w0, hn, hT, k⟩ := h
    refine ⟨_, (pss_cons (ps_set (i := 1) sc_right.nd rfl (Or.inr rfl) (pe_fn h_row (hr.mono (by decide)) (pa_cons (pv 0) (pa_cons (pe_fn h_dip (hr.mono (by decide)) (pa_cons (pv 0) (pa_cons pe_int pa_nil))) pa_nil))))
      (pss_cons (ps_setLc (i := 2) (own := [("_law_each", 7)]) (g := gName 7) rfl sc_right.nd rfl rfl (sw_true rfl rfl rfl (by decide +kernel)) (pi_list (pv 1)) (blkOk_by (N := sc_right_N) (sc := defScope s_right) (by decide +kernel)) (fun _ _ _ _ _ => pg_name (i := 7) sc_right.nd rfl (Or.inl rfl)) (fun _ _ _ _ _ => pts_one (PW.pt (pw_or (pt_not (pt_val (pe_callB (call_isiK (K := K)) (by rfl) B.b_isinstance (by decide +kernel) (pa_cons (pv 7) (pa_cons (pe_bltn (v := .ty "str") (by rfl) B.b_str (by decide +kernel) rfl) pa_nil))))) (pw_or1 (pt_not (pt_val (pe_fn h_lname (hr.mono (by decide)) (pa_cons (pv 7) pa_nil)))))))) (fun _ _ _ _ _ => (pv 7)))
      (pss_cons (ps_set (i := 3) sc_right.nd rfl (Or.inl rfl) (pe_caught h_caught gs TB rfl hmT hu (k := 10) hr (by decide) (fun A outer s H E f c' hr' => pe_fx h_ofX (hr'.mono (by decide)) (passes_call (takes_of rfl rfl rfl rfl) fun _ _ _ _ z => z) (pa_cons (pv 1) pa_nil)) (L := LamX.lamS_by (sc := defScope s_right) (by decide +kernel))))
      (pss_cons (ps_if (pt_cmpR (op_ne0 (Nat.lt_of_le_of_lt (Nat.le_add_right _ 64) hr.units)) (pv 2) (pe_lst pa_nil) (nomark _)) (pss_one (ps_ret (pe_cmpR (op_eqD hr.units) (pv 3) (pe_lst (pa_cons pe_int (pa_cons (pe_callB (call_reprOK K hr.units gs) (by rfl) B.b_repr (by decide +kernel) (pa_cons (pe_ix ix_list (pv 2) pe_int (fun _ _ => rfl)) pa_nil)) pa_nil))) (nomark _)))) pss_nil)
      (pss_cons (ps_setLc (i := 4) (own := [("_law_name_here", 6)]) (g := gName 6) (tt := tYes) rfl sc_right.nd rfl rfl (sw_true rfl rfl rfl (by decide +kernel)) (pi_list (pe_callB (cr_sortS rfl) (by rfl) T2.b_sorted (by decide +kernel) (pa_cons (pe_callTy (cr_setS rfl) (by rfl) T2.b_set (by decide +kernel) (pa_cons (pv 1) pa_nil)) pa_nil))) (blkOk_by (N := sc_right_N) (sc := defScope s_right) (by decide +kernel)) (fun _ _ _ _ _ => pg_name (i := 6) sc_right.nd rfl (Or.inl rfl)) (fun _ _ _ _ _ => pts_nil) (fun _ _ _ _ _ => (pe_tup (pa_cons (pv 6) (pa_cons (pe_bmK (K := K) rfl PySem.F.plainAttrs_list PySem.F.slot_list_count PySem.F.type_list_count (mt_lcountVK (K := K)) (pv 1) (pa_cons (pv 6) pa_nil)) pa_nil)))))
      (pss_cons (ps_if (PW.pt (pw_or (pt_cmpR (op_neD hr.units) (pv 3) (pe_lst (pa_cons pe_str (pa_cons (pe_op op_add_str pe_str (pe_fn h_sum_text (hr.mono (by decide)) (pa_cons (pv 4) pa_nil))) pa_nil))) (nomark _)) (pw_or1 (pt_cmpR op_ne (pe_callB (call_reprD hr.units gs) (by rfl) B.b_repr (by decide +kernel) (pa_cons (pe_propN h_terms (hr.mono (by decide)) (pe_fn h_of (hr.mono (by decide)) (pa_cons (pv 1) pa_nil))) pa_nil)) (pe_callB (call_reprD hr.units gs) (by rfl) B.b_repr (by decide +kernel) (pa_cons (pe_callTy call_tuple_of (by rfl) T2.b_tuple (by decide +kernel) (pa_cons (pv 4) pa_nil)) pa_nil)) (nomark _))))) (pss_one (ps_ret pe_bl)) pss_nil)
      (pss_cons (ps_set (i := 5) sc_right.nd rfl (Or.inl rfl) (pe_mkZ h_Sum0 (hr.mono (by decide))))
      (pss_cons (ps_for PassesOwn.never rfl (pi_list (pv 1)) (pg_name (i := 6) sc_right.nd rfl (Or.inl rfl)) (pss_one (ps_set (i := 5) sc_right.nd rfl (Or.inl rfl) (pe_op (op_binO h_add rfl hc (hr.mono (by decide))) (pv 5) (pe_cmR h_one (hr.mono (by decide)) (pe_gC SC.k) (pa_cons (pv 6) pa_nil))))))
      (pss_one (ps_ret (pe_and (pe_cmpR (op_eqOK o_S (hr.mono (by decide))) (pv 5) (pe_fn h_of (hr.mono (by decide)) (pa_cons (pv 1) pa_nil)) (nomark _)) (pe_and (pe_cmpR (op_eqOK o_S (hr.mono (by decide))) (pe_fn h_of (hr.mono (by decide)) (pa_cons (pv 1) pa_nil)) (pe_mk h_Sum (hr.mono (by decide)) (pa_cons (pe_callTy call_tuple_of (by rfl) T2.b_tuple (by decide +kernel) (pa_cons (pv 4) pa_nil)) pa_nil)) (nomark _)) (pe_one (pe_cmpR (op_eqOK o_S (hr.mono (by decide))) (pe_cm h_read (hr.mono (by decide)) (pe_gC SC.k) (pa_cons (pe_fn h_sum_text (hr.mono (by decide)) (pa_cons (pv 4) pa_nil)) pa_nil)) (pv 5) (nomark _))))))))))))))), ?_⟩
    have h0 := Has.start w0
    refine ⟨_, rfl, _, rfl, dip_step h0 (by omega) (by decide) (by decide) fun r H1 r0 r1 h1 => ?_⟩
    obtain ⟨m, rfl⟩ := Int.eq_ofNat_of_zero_le r0
    refine irr ⟨a, n + 1, m, rfl, h1.well, by omega, by omega, fun l us H2 lla el ho len g2 w2 => ?_⟩
    have h2 : Has H a (n + 401) [(l, .lst (us.map (·.1)))] H2 := ((h1.grow g2 (w2.mono (by omega))).sub (by simp)).add lla el
    have T2_ : Tabs T H2 := RV.Tabs.grow hT w0 h2.gr
    dsimp only [gName]
    refine ⟨_, rfl, l, rfl, ⟨_, SqL.of el⟩, fun D nD => lc_keepP (us := us) (fun u => !nmD u.2) walk_list nD (by omega) (fun H' s' => SqL.of (s' _ _ el)) (fun _ => rfl) (fun u hu H3 s3 R kR => ?_) (fun u hu H3 R r => ⟨_, rfl, r⟩) fun H3 s3 hD => ?_⟩
    · have o := (ho u hu).up.same s3
      refine ⟨_, rfl, _, _, _, .type "str", isS u.2, rfl, .ty _, o.o.ty, kit_odS K u.2, isS u.2, rfl, ?_⟩
      cases hs : isS u.2 with
      | false =>
        have e : nmD u.2 = false := by
          cases q : u.2 with
          | str y => rw [q] at hs; cases hs
          | _ => rfl
        refine iteT ?_
        have := kR H3 (Same.refl H3)
        rw [e] at this
        exact this
      | true =>
        obtain ⟨v, dv⟩ := u
        obtain ⟨y, rfl⟩ : ∃ y, dv = .str y := by
          cases dv with
          | str y => exact ⟨y, rfl⟩
          | _ => cases hs
        obtain rfl : v = .str y := by
          cases o.o with
          | dat o => cases o; rfl
        exact iteF ⟨_, rfl, irr ⟨y, rfl, o.l y rfl, fun H4 s4 => ⟨_, rfl, kR H4 s4⟩⟩⟩
    have Da : D ≠ a := h2.off nD
    have h3 := (h2.same s3).add Da hD
    have T3 : Tabs T H3 := Tabs.ext T2_ s3
    have o3 : ∀ u ∈ us, Ody K (del H3 a) u.1 u.2 := fun u hu => (ho u hu).grow (Same.growA s3)
    have g03 : ExtA a H H3 := ExtA.ofG h3.gr
    dsimp only [gName]
    clear s3 T2_ h2 el w2 g2 ho h1 h0
    cases hb : bad1 us with
    | some u =>
      have hm : u ∈ us := List.mem_of_find?_eq_some hb
      obtain ⟨br, ebr⟩ := bad1_some hb
      rw [ebr] at hD h3
      refine ⟨T3, fun H4 e4 T4 fa => ⟨_, rfl, irr (.inr ⟨l, us, u, rfl, SqL.extN (SqL.of (h3.at (by simp))) e4, fun v hv => ((o3 v hv).growN e4).up, len, hb, errS_said MI ((o3 u hm).growN e4).up fun H5 l5 s5 e5 => ?_⟩)⟩⟩
      have h4 := h3.extN e4 (by
        intro p hp ps q
        simp only [List.mem_cons, List.not_mem_nil, or_false] at hp
        rcases hp with rfl | rfl <;> cases q)
      have h5 := (h4.same s5).add ((h4.same s5).len3 e5 (by show 2 ≠ 3; decide)) e5
      have ou : Ody K H5 u.1 u.2 := (((o3 u hm).growN e4).grow (Same.growA s5)).up
      refine ⟨_, rfl, (by show 0 ≤ sizeLine; decide), fun e ne => ?_⟩
      have s6 := same_new (o := .lst []) ne
      have eD := (h5.same s6).at (p := D) (o := .lst (u.1 :: br)) (by simp)
      have e6 := s6 _ _ e5
      have T6 : Tabs T (upd H5 e (.lst [])) := Tabs.ext T4 (s5.trans s6)
      have g6 : ExtA a H (upd H5 e (.lst [])) := (g03.trans (ExtA.ofN e4)).trans (ExtA.ofG (Same.growA (s5.trans s6)))
      have w6 := (h5.same s6).well
      have o6 := ou.same s6
      refine ⟨D, e, _, rfl, rfl, SqL.of eD, SqL.of upd_same, _, rfl, iteT ?_⟩
      revert eD e6 T6 g6 w6 o6
      generalize upd H5 e (.lst []) = H6
      intro eD e6 T6 g6 w6 o6
      have okO : OkOut (.int 1, u.2.shown) := ⟨.inl ⟨1, rfl⟩, o6.f.sk⟩
      refine ⟨_, rfl, _, rfl, D, _, 0, u.1, rfl, rfl, SqL.of eD, atI_nat (j := 0) rfl, reprO_of o6.o o6.f ⟨(by show 2 ≤ sizeLine; decide), fun q nq => ?_⟩⟩
      have s7 := same_new (o := .lst [.int 1, .str u.2.shown]) nq
      refine ⟨_, _, okO.row (s7 _ _ e6), okO.row upd_same, okO.row1, okO.row1, ?_⟩
      rw [SeqAt.eqv_refl _ (SeqAt.canLay_of_shaped okO.row1)]
      obtain ⟨x, y, z, ew, rr⟩ := w6
      exact k _ (g6.trans (ExtA.ofG (Same.growA s7))) (Tabs.ext T6 s7) ⟨x, y, z, s7 _ _ ew, rr.1, rr.2.1, by have := rr.2.2; omega⟩
    | none =>
      obtain ⟨ns, rfl, hn'⟩ := names_of (fun u hu => (o3 u hu).up) hb
      have eb := bad1_none hb
      rw [eb] at hD h3
      have hns : ns.length ≤ 5 := by rw [List.length_map] at len; exact len
      rw [strU_map] at h3
      refine ⟨T3, fun H4 e4 T4 fa => ⟨_, rfl, irr (.inl ⟨l, ns, rfl, SqL.extN (SqL.of (h3.at (by simp))) e4, hn', hns, fun x dx tm ds H5 md kp => tOld_of (irr (.inl ⟨x, prs ds, rfl, ?_, ?_, ?_, fun H6 s6 => toldK_of fun l5 n5 => ?_⟩))⟩)⟩⟩
      · exact ⟨dx, tm, ds, rfl, fun p hp => (kp.nw p hp).2⟩
      · exact ones_due hn' (by omega) md
      · have := txt_len (ones_due hn' (by omega) md)
        omega
      have du : Due (prs ds) := ones_due hn' (by omega) md
      have sr : SumR C H5 x (prs ds) := ⟨dx, tm, ds, rfl, fun p hp => (kp.nw p hp).2⟩
      have s47 : Same H4 (upd H6 l5 (.lst [.str "told", .str ("sum " ++ txt (prs ds))])) := (Same.trans (show Same H4 H5 from fun b o e => kp.sm b o e) s6).trans (same_new n5)
      have e7 : upd H6 l5 (.lst [.str "told", .str ("sum " ++ txt (prs ds))]) l5 = some (.lst [.str "told", .str ("sum " ++ txt (prs ds))]) := upd_same
      have h4 := h3.extN e4 (by
        intro p hp ps q
        simp only [List.mem_cons, List.not_mem_nil, or_false] at hp
        rcases hp with rfl | rfl <;> cases q)
      have h7 := h4.same s47
      have T7 := Tabs.ext T4 s47
      have g7 : ExtA a H (upd H6 l5 (.lst [.str "told", .str ("sum " ++ txt (prs ds))])) := (g03.trans (ExtA.ofN e4)).trans (ExtA.ofG (Same.growA s47))
      clear s6 n5 s47 kp sr h4 T4 e4 g03 o3 T3 h3 len
      revert e7 h7 T7 g7
      generalize upd H6 l5 (.lst [.str "told", .str ("sum " ++ txt (prs ds))]) = H7
      intro e7 h7 T7 g7
      have el7 : H7 l = some (.lst (ns.map V.str)) := h7.at (by simp)
      have eD7 : H7 D = some (.lst []) := h7.at (by simp)
      -- the end, from any heap that holds all that H7 holds
      have fin : ∀ HX, Same H7 HX → Q (.bl true) HX := fun HX s => k HX (g7.trans (ExtA.ofG (Same.growA s))) (Tabs.ext T7 s) ((h7.same s).well.mono (by omega))
      refine ⟨_, rfl, (by show 0 ≤ sizeLine; decide), fun e ne => ⟨D, e, [], rfl, rfl, SqL.of (same_new ne _ _ eD7), SqL.of upd_same, _, rfl, iteF ?_⟩⟩
      have s8 : Same H7 (upd H7 e (.lst [])) := same_new ne
      generalize upd H7 e (.lst []) = H8 at s8 ⊢
      have el8 := s8 _ _ el7
      refine ⟨_, rfl, l, ns, rfl, SqL.of el8, by omega, fun sa sn na hsn => ⟨sa, _, sn, rfl, upd_same, fun xs xl sx nx mx lx nxl => ?_⟩⟩
      have fin2 : ∀ HX, Same H8 HX → Q (.bl true) HX := fun HX s => fin HX (s8.trans s)
      have ax := asc_of sx nx
      have mx' : ∀ k, k ∈ xs ↔ k ∈ ns := fun k => by rw [mx k]; simp
      have lxl : xs.length ≤ 5 := by omega
      have s9 := (same_new na).trans (same_new (o := .lst (xs.map V.str)) nxl)
      have e78 := s8 _ _ e7
      clear fin e7 h7 T7 g7 el7 eD7 s8 sx lx hsn mx
      refine ⟨xl, rfl, ⟨_, SqL.of upd_same⟩, fun D2 nD2 => ?_⟩
      have nDx : xl ≠ D2 := ne_of_none upd_same nD2
      have nD8 : H8 D2 = none := by
        cases e : H8 D2 with
        | none => rfl
        | some o => exact nomatch (nD2.symm.trans (s9 _ _ e))
      refine lc_list (K := K) (a := xl) (xs := xs.map V.str) (fun i H' => ∃ ws : List TP, prs ws = counts (xs.take i) ns ∧ Kp H8 (lP ws) H' ∧ H' xl = some (.lst (xs.map V.str)) ∧ H' D2 = some (.lst (vP ws)))
        ⟨[], by simp [prs, counts], Kp.under s9 ((Kp.start _).put nD2 fun _ hp => (nomatch hp)), same_new nD2 _ _ upd_same, upd_same⟩ (fun i H' _ z => ?_) ?_ ?_
      · obtain ⟨_, _, _, ex, _⟩ := z
        exact SqL.of ex
      · rintro i y Ha hy ⟨ws, hw1, kp, ex, eD⟩
        have hi : i < xs.length := by
          have := (List.getElem?_eq_some_iff.mp hy).1
          rwa [List.length_map] at this
        rw [List.getElem?_map, List.getElem?_eq_getElem hi] at hy
        obtain rfl : V.str xs[i] = y := Option.some.inj hy
        have wl : ws.length = i := by
          have := congrArg List.length hw1
          rw [prs_len, counts, List.length_map, List.length_take] at this
          omega
        have e0 : ∀ (σ : L2.St) (H : Hp) (R : Bool → Hp → Prop), R true H → tYes σ H R := fun _ _ _ r => r
        refine ⟨rfl, e0 _ _ _ ?_⟩
        simp only [↓reduceIte]
        refine ⟨_, rfl, _, rfl, .inl ⟨rfl, _, SqL.of (kp.sm _ _ el8)⟩, _, rfl, l, ns.map V.str, .str xs[i], rfl, rfl, SqL.of (kp.sm _ _ el8), rfl, List.all_eq_true.mpr fun z hz => by obtain ⟨x, _, rfl⟩ := List.mem_map.mp hz; rfl, ?_⟩
        rw [cnt_str]
        refine ⟨(by show 2 ≤ sizeLine; decide), fun t nt => ?_⟩
        have eT : upd Ha t (oP (xs[i], ((ns.count xs[i] : Nat) : Int))) D2 = some (.lst (vP ws)) := by rw [upd_ne (ne_of_none eD nt)]; exact eD
        have kT : Kp H8 (lP (ws ++ [(t, xs[i], ((ns.count xs[i] : Nat) : Int))])) (upd Ha t (oP (xs[i], ((ns.count xs[i] : Nat) : Int)))) := (kp.new (o := oP (xs[i], ((ns.count xs[i] : Nat) : Int))) nt).sub fun p hp => by
          rw [lP_app] at hp
          rcases List.mem_append.mp hp with hp | hp
          · exact List.mem_cons_of_mem _ hp
          · rw [List.mem_singleton.mp hp]
            exact List.mem_cons_self
        refine ⟨_, eT, ?_, ws ++ [(t, xs[i], ((ns.count xs[i] : Nat) : Int))], ?_, kT.put nD8 (Kp.off kT eT), ?_, ?_⟩
        · rw [vP_len, wl]
          exact Nat.lt_of_lt_of_le (show i < 1001 by omega) (by decide)
        · rw [prs_app, hw1, List.take_add_one, List.getElem?_eq_getElem hi, counts, counts, List.map_append]
          rfl
        · rw [upd_ne nDx, upd_ne (ne_of_none ex nt)]
          exact ex
        · rw [upd_same, vP_app]
          rfl
      · rintro HA ⟨ws, hw1, kp, _, eD2⟩
        rw [List.length_map, List.take_length] at hw1
        have hd : counts xs ns = prs ds := counts_is ax mx' (by assumption)
        rw [hd] at hw1
        have dn : (prs ds).length ≤ 60 := du.ln
        have wn : ws.length ≤ 60 := by rw [← prs_len, hw1]; exact dn
        have sA : Same H8 HA := fun b o e => kp.sm b o e
        have tA : TPs K HA ws := fun u hu => SqT.of (kp.at (List.mem_map.mpr ⟨u, hu, rfl⟩))
        have lsA : Lsp K HA D2 ws := ⟨eD2, tA⟩
        have duw : Due (prs ws) := hw1 ▸ du
        have fin3 : ∀ HX, Same HA HX → Q (.bl true) HX := fun HX s => fin2 HX (sA.trans s)
        have elA := sA _ _ el8
        have eA := sA _ _ e78
        have nw : ∀ q ∈ prs ws, IsNm q.1 := hw1 ▸ du.nm
        have low : Low (txt (prs ds)) := txt_low du
        clear kp sA fin2 el8 e78
        -- what the try told
        have okT : OkOut (.str "told", "sum " ++ txt (prs ds)) := ⟨.inr ⟨_, rfl, by decide +kernel⟩, strOk_low (low_app (by unfold Low; decide) low)⟩
        have lt := txt_len du
        refine ⟨_, rfl, _, rfl, sumtext_step lsA.sL tA duw ⟨_, _, rfl, rfl, ?_, (by show 2 ≤ sizeLine; decide), fun q nq => ?_⟩⟩
        · rw [hw1]
          exact Nat.le_trans (Nat.add_le_add_left lt _) (by decide)
        rw [hw1]
        have sQ : Same HA (upd HA q (.lst [.str "told", .str ("sum " ++ txt (prs ds))])) := same_new nq
        refine ⟨_, _, okT.row (sQ _ _ eA), okT.row upd_same, okT.row1, okT.row1, ?_⟩
        rw [SeqAt.eqv_refl _ (SeqAt.canLay_of_shaped okT.row1)]
        have fin4 : ∀ HX, Same (upd HA q (.lst [.str "told", .str ("sum " ++ txt (prs ds))])) HX → Q (.bl true) HX := fun HX s => fin3 HX (sQ.trans s)
        have elB := sQ _ _ elA
        have lsB := lsA.ext sQ
        clear fin3 elA lsA tA eA nq sQ
        revert fin4 elB lsB
        generalize upd HA q (.lst [.str "told", .str ("sum " ++ txt (prs ds))]) = HB
        intro fin4 elB lsB
        have lof : ∀ {HX : Hp} {R : V → Hp → Prop} {E : XK}, Same HB HX → (∀ x dx tm us H', prs us = prs ds → SumR C H' x (prs ds) → (∀ p ∈ lS C x dx tm us, H' p.1 = some p.2) → Same HX H' → R (.ref x) H') → Irr (sp_lof K C) [.ref l] HX R E := fun s k => irr ⟨l, ns, rfl, SqL.of (s _ _ elB), hn', hns, fun x dx tm us H' md' kp => by
          have e := md'.same md fun _ => rfl
          exact k x dx tm us H' e ⟨dx, tm, us, e, fun p hp => (kp.nw p hp).2⟩ (fun p hp => (kp.nw p hp).2) fun b o e => kp.sm b o e⟩
        refine ⟨false, rfl, iteF ⟨_, rfl, lof (Same.refl _) fun x2 dx2 tm2 d2 HC e2 sr2 q2 sC => ⟨x2, dx2, _, rfl, q2 _ List.mem_cons_self, irr ⟨x2, dx2, tm2, d2, rfl, q2, ?_⟩⟩⟩⟩
        refine repr_pairs (us := d2) (SqT.of (q2 _ (List.mem_cons_of_mem _ List.mem_cons_self))) (fun u hu => SqT.of (q2 _ (List.mem_cons_of_mem _ (List.mem_cons_of_mem _ (List.mem_map.mpr ⟨u, hu, rfl⟩))))) (e2 ▸ du.nm) (e2 ▸ du.tt) (by rw [← prs_len, e2]; omega) ?_
        refine ⟨_, rfl, D2, _, rfl, .inl ⟨(lsB.ext sC).sL, fun t3 nt3 => ?_⟩⟩
        have s3 := same_new (o := .tup (vP ws)) nt3
        refine repr_pairs (us := ws) (SqT.of upd_same) ((lsB.ext sC).ps.ext s3) nw duw.tt (by omega) ⟨rfl, _, rfl, ?_⟩
        rw [e2, hw1]
        refine ite2 (fun h => ?_) (fun _ => ?_)
        · simp at h
        have sD := sC.trans s3
        clear q2 sr2 e2 sC s3
        revert sD
        generalize upd HC t3 (.tup (vP ws)) = HD
        intro sD
        refine fun x6 d6 hx6 hd6 ne6 => made_step (us := []) (n := 0) (c := 0) (ht0 HD) (fun _ hu => nomatch hu) (Raw.nil _ _) (by decide) hx6 hd6 ne6 fun H6 o6 s6 => ?_
        have sE := sD.trans s6
        clear hx6 hd6 nt3 sD
        dsimp only [gName]
        refine ⟨_, rfl, l, rfl, ⟨_, SqL.of (sE _ _ elB)⟩, for_list (xs := ns.map V.str) (fun i σ H' => Same HB H' ∧ ∃ x o, Own C H' x (ones (ns.take i)) ∧ σ = [some (.ref a), some (.ref l), some (.ref D), some (.ref l5), some (.ref D2), some (.ref x), o, none]) ⟨sE, x6, none, o6, rfl⟩ (fun i σ H' _ z => SqL.of (z.1 _ _ elB)) ?_ ?_⟩
        · rintro i y σ H7 hy ⟨s7, x, o, ox, rfl⟩
          obtain ⟨z, hz, rfl⟩ : ∃ z, ns[i]? = some z ∧ y = V.str z := by
            rw [List.getElem?_map] at hy
            cases e : ns[i]? with
            | none => rw [e] at hy; cases hy
            | some z => rw [e] at hy; exact ⟨z, rfl, (Option.some.inj hy).symm⟩
          have hi : i < ns.length := (List.getElem?_eq_some_iff.mp hz).1
          have nz : IsNm z := hn' z (List.mem_of_getElem? hz)
          refine ⟨_, rfl, rfl, _, rfl, irr ⟨[z], rfl, fun q hq => by rw [List.mem_singleton.mp hq]; exact nz, by simp, fun x2 dx2 m2 d2 H8 md2 kp2 => ?_⟩⟩
          have s8 : Same H7 H8 := fun b o e => kp2.sm b o e
          refine add_step (ox.ext s8) ⟨_, ⟨dx2, m2, d2, rfl, fun p hp => (kp2.nw p hp).2⟩, md2⟩ (ones_raw (k := 5) (fun q hq => hn' q (List.mem_of_mem_take hq)) (by rw [List.length_take]; omega)) (ones_raw (k := 1) (fun q hq => by rw [List.mem_singleton.mp hq]; exact nz) (by simp)) (by decide) (by decide) (by decide) fun x9 H9 o9 s9 => ⟨(s7.trans s8).trans s9, x9, _, ?_, rfl⟩
          have : ones (ns.take (i + 1)) = ones (ns.take i) ++ ones [z] := by
            rw [List.take_add_one, hz, ones, ones, List.map_append]
            rfl
          rw [this]
          exact o9
        · rintro σ H7 ⟨s7, x, o, ox, rfl⟩
          rw [List.length_map, List.take_length] at ox
          obtain ⟨rs, sr, mr⟩ := ox
          obtain rfl : rs = prs ds := mr.same md fun _ => rfl
          refine ⟨_, rfl, _, rfl, lof s7 fun y1 e1 f1 u1 H8 _ r1 _ t1 => eqS_sum (r := true) (sr.ext t1) r1 du.nm du.nm SK (by simp) ⟨true, rfl, iteT ⟨_, rfl, lof (s7.trans t1) fun y2 e2 f2 u2 H9 _ r2 _ t2 => ⟨_, rfl, D2, _, rfl, .inl ⟨(lsB.ext ((s7.trans t1).trans t2)).sL, fun t3 nt3 => ?_⟩⟩⟩⟩⟩
          have s3 := same_new (o := .tup (vP ws)) nt3
          refine fun x8 d8 hx8 hd8 ne8 => made_step (us := ws) (n := 60) (c := 10 ^ 45) (SqT.of upd_same) ((lsB.ext ((s7.trans t1).trans t2)).ps.ext s3) ⟨nw, by rw [hw1]; exact dn, by rw [hw1]; exact du.tt⟩ (by decide) hx8 hd8 ne8 fun HE oE sE' => ?_
          obtain ⟨rs, srE, mrE⟩ := oE
          obtain rfl : rs = prs ds := mrE.nr.uniq md.nr fun z => by rw [mrE.co, hw1]
          have tE : Same HB HE := ((s7.trans t1).trans t2).trans (s3.trans sE')
          refine eqS_sum (r := true) ((r2.ext s3).ext sE') srE du.nm du.nm SK (by simp) ⟨true, rfl, iteT ⟨rfl, _, rfl, sumtext_step (lsB.ext tE).sL (lsB.ext tE).ps duw ?_⟩⟩
          rw [hw1]
          refine irr ⟨prs ds, rfl, du, fun x4 d4 m4 u4 HF e4 kp4 => ⟨_, rfl, ?_⟩⟩
          have tF : Same HE HF := fun b o e => kp4.sm b o e
          exact eqS_sum (r := true) ⟨d4, m4, u4, e4, fun p hp => (kp4.nw p hp).2⟩ (sr.ext ((((t1.trans t2).trans (s3.trans sE')).trans tF))) du.nm du.nm SK (by simp) (fin4 _ (tE.trans tF))
end
end RV
namespace RV
open PySem L2 TL LamX
section
variable {P : Program} {w : World} {K : PySem.W.Frag} {mg : Str → Option Value} {base : Heap} {C : Addr}
theorem ok_law {f : Addr} {fd : FuncData} {c1 P1 : Addr} (F : Fun K "law" "law" s_law f fd) (B : Blt mg) (SC : SClass K mg C)
    (h_well : Fn P w K mg base "_law_well" 1 ["_law_cells", "_law_k"] (sp_well K))
    (h_terms : Prp P w K mg base C "terms" 1 (Irr (sp_terms C))) (h_one : ClsR P w K mg base C "of" 6 (Irr (sp_of C)))
    (h_right : ∀ T, T = [(P1, ("_law_right" : Str) ++ ".<locals>." ++ "<lambda>")] → FnGd P w K mg base "_law_right" 13 ["_law_well_here"] (Irr (sp_lright T 400000 500))) :
    FnG P w K mg base 14 f fd ["_law_cells"] (spLawT K [(c1, P1)]) := by
  obtain ⟨T, hT⟩ : ∃ T, T = [(P1, ("_law_right" : Str) ++ ".<locals>." ++ "<lambda>")] := ⟨_, rfl⟩
  have h_right := h_right T hT
  refine gFun F sc_law (fun vs H Q E h => ?_) (fun cdv A outer s H vs Q E gs hr h => ?_)
  · obtain ⟨_, _, rfl, _⟩ := h
    rfl
  · obtain ⟨c, ns, rfl, hS, hl, ht, k⟩ := h
    refine ⟨_, (pss_cons (ps_if (PW.pt (pw_or (pt_cmpR op_ne (pe_callB (call_reprD hr.units gs) (by rfl) B.b_repr (by decide +kernel) (pa_cons (pe_propN h_terms (hr.mono (by decide)) (pe_cmR0 h_one (hr.mono (by decide)) (pe_gC SC.k))) pa_nil)) pe_str (nomark _)) (pw_or1 (pt_cmpR op_ne (pe_callB (call_reprD hr.units gs) (by rfl) B.b_repr (by decide +kernel) (pa_cons (pe_propN h_terms (hr.mono (by decide)) (pe_cmR h_one (hr.mono (by decide)) (pe_gC SC.k) (pa_cons pe_str (pa_cons pe_str (pa_cons pe_str pa_nil))))) pa_nil)) pe_str (nomark _))))) (pss_one (ps_ret pe_bl)) pss_nil)
      (pss_cons (ps_for PassesOwn.never rfl (pi_range1 rfl B.b_range (pa_cons (pe_callB (call_max2 rfl) (by rfl) B.b_max (by decide +kernel) (pa_cons pe_int (pa_cons (pe_callB (call_min2 rfl) (by rfl) B.b_min (by decide +kernel) (pa_cons (pe_callB call_len_seq (by rfl) B.b_len (by decide +kernel) (pa_cons (pv 0) pa_nil)) (pa_cons pe_int pa_nil))) pa_nil))) pa_nil)) (pg_name (i := 1) sc_law.nd rfl (Or.inl rfl)) (pss_cons (ps_set (i := 2) sc_law.nd rfl (Or.inr rfl) (pe_fn h_well (hr.mono (by decide)) (pa_cons (pv 0) (pa_cons (pv 1) pa_nil)))) (pss_one (ps_if (pt_not (pt_val (pe_callB (cr_all rfl) (by rfl) B.b_all (by decide +kernel) (pa_cons (pe_lc (own := [("_law_turn", 3)]) (g := gName 3) (tt := tYes) rfl sc_law.nd (pi_range1 rfl B.b_range (pa_cons pe_int pa_nil)) (blkOk_by (N := sc_law_N) (sc := defScope s_law) (by decide +kernel)) (fun _ _ _ _ _ => pg_name (i := 3) sc_law.nd rfl (Or.inl rfl)) (fun _ _ _ _ _ => pts_nil) (fun _ _ _ _ _ => (pe_fnG h_right gs hr (pa_cons (pv 2) pa_nil)))) pa_nil)))) (pss_one (ps_ret pe_bl)) pss_nil))))
      (pss_one (ps_ret pe_bl)))), ?_⟩
    have T0 : Tabs T H := by
      intro p hp
      rw [hT] at hp
      simp only [List.mem_cons, List.not_mem_nil, or_false] at hp
      subst hp
      exact TabS.nil (ht (c1, P1) (by simp))
    have nA : IsNm "a" := by
      show _ = true
      decide +kernel
    have nB : IsNm "b" := by
      show _ = true
      decide +kernel
    refine ⟨rfl, irr ⟨[], rfl, by simp, by simp, fun x dx m ds H1 md kp => ⟨x, dx, _, rfl, (kp.nw _ List.mem_cons_self).2, irr ⟨x, dx, m, ds, rfl, fun p hp => (kp.nw p hp).2, ?_⟩⟩⟩⟩
    have e1 : prs ds = [] := (counts_is (xs := []) (ns := []) .nil (by simp) md).symm
    refine repr_pairs (us := ds) (SqT.of (kp.nw _ (List.mem_cons_of_mem _ List.mem_cons_self)).2) (fun u hu => SqT.of (kp.nw _ (List.mem_cons_of_mem _ (List.mem_cons_of_mem _ (List.mem_map.mpr ⟨u, hu, rfl⟩)))).2) (by rw [e1]; exact fun _ h => nomatch h) (by rw [e1]; decide) (by rw [← prs_len, e1]; decide) ⟨rfl, _, rfl, ?_⟩
    rw [e1]
    refine ite2 (fun h => absurd h (by decide +kernel)) (fun _ => ?_)
    have s1 : Same H H1 := fun b o e => kp.sm b o e
    clear kp md e1
    refine ⟨rfl, irr ⟨["b", "a", "b"], rfl, ?_, by decide, fun x dx m ds H2 md kp => ⟨x, dx, _, rfl, (kp.nw _ List.mem_cons_self).2, irr ⟨x, dx, m, ds, rfl, fun p hp => (kp.nw p hp).2, ?_⟩⟩⟩⟩
    · intro q hq
      simp only [List.mem_cons, List.not_mem_nil, or_false] at hq
      rcases hq with rfl | rfl | rfl <;> assumption
    have mm : ∀ k : Str, k ∈ (["a", "b"] : List Str) ↔ k ∈ (["b", "a", "b"] : List Str) := by
      intro k
      simp only [List.mem_cons, List.not_mem_nil, or_false]
      constructor
      · rintro (h | h)
        · exact .inr (.inl h)
        · exact .inl h
      · rintro (h | h | h)
        · exact .inr h
        · exact .inl h
        · exact .inr h
    have e2 : prs ds = [(("a" : Str), (1 : Int)), (("b" : Str), (2 : Int))] := (counts_is (xs := ["a", "b"]) (ns := ["b", "a", "b"]) (asc_of (by decide +kernel) (by decide +kernel)) mm md).symm.trans (by decide +kernel)
    have s2 : Same H1 H2 := fun b o e => kp.sm b o e
    refine repr_pairs (us := ds) (SqT.of (kp.nw _ (List.mem_cons_of_mem _ List.mem_cons_self)).2) (fun u hu => SqT.of (kp.nw _ (List.mem_cons_of_mem _ (List.mem_cons_of_mem _ (List.mem_map.mpr ⟨u, hu, rfl⟩)))).2) ?_ (by rw [e2]; decide) (by rw [← prs_len, e2]; decide) ⟨rfl, _, rfl, ?_⟩
    · rw [e2]
      intro q hq
      simp only [List.mem_cons, List.not_mem_nil, or_false] at hq
      rcases hq with rfl | rfl <;> assumption
    rw [e2]
    refine ite2 (fun h => absurd h (by decide +kernel)) (fun _ => ?_)
    have e3 : ExtN H H2 := ExtN.of (s1.trans s2)
    have T3 : Tabs T H2 := Tabs.ext T0 (s1.trans s2)
    clear kp md e2 s1 s2
    refine ⟨_, rfl, c, _, rfl, .inl (SqL.extN hS e3), _, _, rfl, _, _, rfl, ?_⟩
    rw [List.length_map]
    generalize hj : (if (if (6 : Int) < (ns.length : Int) then (6 : Int) else (ns.length : Int)) > 2 then (if (6 : Int) < (ns.length : Int) then (6 : Int) else (ns.length : Int)) else 2) = j
    have hj2 : 2 ≤ j ∧ j ≤ 6 := by
      subst hj
      constructor <;> (repeat' split) <;> omega
    clear hj
    refine ⟨j, rfl, by omega, by omega, for_range (lo := 0) (n := j.toNat) (fun i σ H' => ExtN H H' ∧ Tabs T H' ∧ ∃ o1 o2 o3, σ = [some (.ref c), o1, o2, o3]) ⟨e3, T3, none, none, none, rfl⟩ ?_ ?_⟩
    · rintro i σ H4 hi ⟨e4, T4, o1, o2, o3, rfl⟩
      refine ⟨_, rfl, _, rfl, c, ns, i, by rw [Int.zero_add]; rfl, SqL.extN hS e4, hl, by omega, fun a H5 na s5 w5 => ?_⟩
      have T5 : Tabs T H5 := Tabs.ext T4 s5
      refine ⟨3, rfl, by decide, by decide, fun D nD => lc_range (lo := 0) (n := 3) (fun i H' => ExtA a H5 H' ∧ Tabs T H' ∧ WellAt H' a (500 * i) ∧ H' D = some (.lst ((List.replicate i true).map V.bl))) ⟨fun b o _ e _ => same_new nD _ _ e, Tabs.ext T5 (same_new nD), w5.new nD, upd_same⟩ ?_ ?_⟩
      · rintro i H6 hi ⟨g6, T6, w6, d6⟩
        have nDa : D ≠ a := (w5.ne nD).symm
        refine ⟨rfl, _, rfl, irr ⟨a, 500 * i, rfl, w6, by omega, T6, fun H8 g8 T8 w8 => ?_⟩⟩
        have d8 : H8 D = some (.lst ((List.replicate i true).map V.bl)) := g8 D _ nDa d6 fun _ z => nomatch z
        refine ⟨_, d8, ?_, ?_⟩
        · rw [List.length_map, List.length_replicate]
          exact Nat.lt_of_lt_of_le (show i < 4 by omega) (by decide)
        · refine ⟨fun b o hb e t => ?_, Tabs.put T8 d8, ?_, ?_⟩
          · rw [upd_ne (ne_of_none e nD)]
            exact g8 b o hb (g6 b o hb e t) t
          · obtain ⟨x, y, z, ew, r⟩ := w8.mono (show 500 * i + 500 ≤ 500 * (i + 1) by omega)
            exact ⟨x, y, z, by rw [upd_ne nDa.symm]; exact ew, r⟩
          · rw [upd_same, List.replicate_succ', List.map_append]
            rfl
      · rintro H6 ⟨g6, T6, w6, d6⟩
        refine ⟨D, _, rfl, SqL.of d6, true, rfl, iteF ?_⟩
        refine ⟨fun b o e t => g6 b o ?_ (s5 b o (e4 b o e t)) t, T6, _, _, _, rfl⟩
        exact ne_of_none (e4 b o e t) na
    · rintro σ H4 ⟨e4, T4, o1, o2, o3, rfl⟩
      exact k H4
end
end RV
namespace RV
open PySem L2
theorem all_mk {l : PySem.W.OpenLaw} {w : World} {K : PySem.W.Frag} {h : Heap} {mg : Str → Option Value} {fa : Addr} (X : K.In h) (G : h.Ns mainGlobals mg) (hfa : mg "law" = some (.ref fa))
    {tkA : Tok}
    {tkB : Tok}
    {tkC : Tok}
    {tkD : Tok}
    {tkE : Tok}
    {fIn : Addr}
    {odIn anIn : Option Addr} {slIn : Array (Option Value)} {ocIn kVIn dcIn pmIn cdIn ctIn : Value}
    {fNu : Addr}
    {odNu anNu : Option Addr} {slNu : Array (Option Value)} {ocNu kVNu dcNu pmNu cdNu ctNu : Value}
    {fWn : Addr}
    {odWn anWn : Option Addr} {slWn : Array (Option Value)} {ocWn kVWn dcWn pmWn cdWn ctWn : Value}
    {fIt : Addr}
    {odIt anIt : Option Addr} {slIt : Array (Option Value)} {ocIt kVIt dcIt pmIt cdIt ctIt : Value}
    {fCk : Addr}
    {odCk anCk : Option Addr} {slCk : Array (Option Value)} {ocCk kVCk dcCk pmCk cdCk ctCk : Value}
    {fCo : Addr}
    {odCo anCo : Option Addr} {slCo : Array (Option Value)} {ocCo kVCo dcCo pmCo cdCo ctCo : Value}
    {fWs : Addr}
    {odWs anWs : Option Addr} {slWs : Array (Option Value)} {ocWs kVWs dcWs pmWs cdWs ctWs : Value}
    {fWf : Addr}
    {odWf anWf : Option Addr} {slWf : Array (Option Value)} {ocWf kVWf dcWf pmWf cdWf ctWf : Value}
    {fWt : Addr}
    {odWt anWt : Option Addr} {slWt : Array (Option Value)} {ocWt kVWt dcWt pmWt cdWt ctWt : Value}
    {CS : Addr}
    {fSi : Addr}
    {tD : Addr}
    {odSi anSi odT : Option Addr} {slSi slT : Array (Option Value)} {ocSi kVSi dcSi pmSi cdSi ctSi : Value} {nT : Nat}
    {t0 : Addr}
    {od0 : Option Addr} {sl0 : Array (Option Value)} {n0 : Nat}
    {fSl : Addr}
    {odSl anSl : Option Addr} {slSl : Array (Option Value)} {ocSl kVSl dcSl pmSl cdSl ctSl : Value}
    {fSb : Addr}
    {odSb anSb : Option Addr} {slSb : Array (Option Value)} {ocSb kVSb dcSb pmSb cdSb ctSb : Value}
    {fSg : Addr}
    {odSg anSg : Option Addr} {slSg : Array (Option Value)} {ocSg kVSg dcSg pmSg cdSg ctSg : Value}
    {fSc : Addr}
    {odSc anSc : Option Addr} {slSc : Array (Option Value)} {ocSc kVSc dcSc pmSc cdSc ctSc : Value}
    {fSs : Addr}
    {odSs anSs : Option Addr} {slSs : Array (Option Value)} {ocSs kVSs dcSs pmSs cdSs ctSs : Value}
    {fSq : Addr}
    {odSq anSq : Option Addr} {slSq : Array (Option Value)} {ocSq kVSq dcSq pmSq cdSq ctSq : Value}
    {pSt : Addr}
    {fSt : Addr}
    {rSt : List Value}
    {odSt anSt : Option Addr} {slSt : Array (Option Value)} {ocSt kVSt dcSt pmSt cdSt ctSt : Value}
    {fDg : Addr}
    {odDg anDg : Option Addr} {slDg : Array (Option Value)} {ocDg kVDg dcDg pmDg cdDg ctDg : Value}
    {fRn : Addr}
    {odRn anRn : Option Addr} {slRn : Array (Option Value)} {ocRn kVRn dcRn pmRn cdRn ctRn : Value}
    {fAp : Addr}
    {odAp anAp : Option Addr} {slAp : Array (Option Value)} {ocAp kVAp dcAp pmAp cdAp ctAp : Value}
    {fRt : Addr}
    {odRt anRt : Option Addr} {slRt : Array (Option Value)} {ocRt kVRt dcRt pmRt cdRt ctRt : Value}
    {fTi : Addr}
    {odTi anTi : Option Addr} {slTi : Array (Option Value)} {ocTi kVTi dcTi pmTi cdTi ctTi : Value}
    {pSr : Addr}
    {fSr : Addr}
    {rSr : List Value}
    {odSr anSr : Option Addr} {slSr : Array (Option Value)} {ocSr kVSr dcSr pmSr cdSr ctSr : Value}
    {pSo : Addr}
    {fSo : Addr}
    {rSo : List Value}
    {odSo anSo : Option Addr} {slSo : Array (Option Value)} {ocSo kVSo dcSo pmSo cdSo ctSo : Value}
    {CY0 : Addr}
    {CY1 : Addr}
    {fiY1 : Addr}
    {odiY1 aniY1 : Option Addr} {sliY1 : Array (Option Value)} {ociY1 kViY1 dciY1 pmiY1 cdiY1 ctiY1 : Value}
    {CY2 : Addr}
    {CY3 : Addr}
    {CY4 : Addr}
    {CYV : Addr}
    {CYB : Addr}
    {CYA : Addr}
    {fSad : Addr}
    {odSad anSad : Option Addr} {slSad : Array (Option Value)} {ocSad kVSad dcSad pmSad cdSad ctSad : Value}
    {fWe : Addr}
    {odWe anWe : Option Addr} {slWe : Array (Option Value)} {ocWe kVWe dcWe pmWe cdWe ctWe : Value}
    {fDi : Addr}
    {odDi anDi : Option Addr} {slDi : Array (Option Value)} {ocDi kVDi dcDi pmDi cdDi ctDi : Value}
    {fNa : Addr}
    {odNa anNa : Option Addr} {slNa : Array (Option Value)} {ocNa kVNa dcNa pmNa cdNa ctNa : Value}
    {fFr : Addr}
    {odFr anFr : Option Addr} {slFr : Array (Option Value)} {ocFr kVFr dcFr pmFr cdFr ctFr : Value}
    {fZg : Addr}
    {odZg anZg : Option Addr} {slZg : Array (Option Value)} {ocZg kVZg dcZg pmZg cdZg ctZg : Value}
    {fOd : Addr}
    {odOd anOd : Option Addr} {slOd : Array (Option Value)} {ocOd kVOd dcOd pmOd cdOd ctOd : Value}
    {fSe : Addr}
    {odSe anSe : Option Addr} {slSe : Array (Option Value)} {ocSe kVSe dcSe pmSe cdSe ctSe : Value}
    {fSa : Addr}
    {odSa anSa : Option Addr} {slSa : Array (Option Value)} {ocSa kVSa dcSa pmSa cdSa ctSa : Value}
    {fCg : Addr}
    {odCg anCg : Option Addr} {slCg : Array (Option Value)} {ocCg kVCg dcCg pmCg cdCg ctCg : Value}
    {fTx : Addr}
    {odTx anTx : Option Addr} {slTx : Array (Option Value)} {ocTx kVTx dcTx pmTx cdTx ctTx : Value}
    {fLn : Addr}
    {odLn anLn : Option Addr} {slLn : Array (Option Value)} {ocLn kVLn dcLn pmLn cdLn ctLn : Value}
    {fOf : Addr}
    {odOf anOf : Option Addr} {slOf : Array (Option Value)} {ocOf kVOf dcOf pmOf cdOf ctOf : Value}
    {fRo : Addr}
    {odRo anRo : Option Addr} {slRo : Array (Option Value)} {ocRo kVRo dcRo pmRo cdRo ctRo : Value}
    {fRi : Addr}
    {cRi : Addr}
    {tRi : Addr}
    {odRi anRi : Option Addr} {slRi : Array (Option Value)} {ocRi kVRi dcRi pmRi ctRi : Value}
    {eRi : Value} {ddRi : Option Addr} {vsRi : Array Value} {svRi : Array (Option Value)}
    {fLa : Addr}
    {odLa anLa : Option Addr} {slLa : Array (Option Value)} {ocLa kVLa dcLa pmLa cdLa ctLa : Value}
    (b_len : PySem.W.nsIn K mainGlobals "len" = some none)
    (b_int : PySem.W.nsIn K mainGlobals "int" = some none)
    (b_abs : PySem.W.nsIn K mainGlobals "abs" = some none)
    (b_max : PySem.W.nsIn K mainGlobals "max" = some none)
    (b_min : PySem.W.nsIn K mainGlobals "min" = some none)
    (b_all : PySem.W.nsIn K mainGlobals "all" = some none)
    (b_any : PySem.W.nsIn K mainGlobals "any" = some none)
    (b_repr : PySem.W.nsIn K mainGlobals "repr" = some none)
    (b_range : PySem.W.nsIn K mainGlobals "range" = some none)
    (b_divmod : PySem.W.nsIn K mainGlobals "divmod" = some none)
    (b_isinstance : PySem.W.nsIn K mainGlobals "isinstance" = some none)
    (b_str : PySem.W.nsIn K mainGlobals "str" = some none)
    (b_sum : PySem.W.nsIn K mainGlobals "sum" = some none)
    (b_sorted : PySem.W.nsIn K mainGlobals "sorted" = some none)
    (b_set : PySem.W.nsIn K mainGlobals "set" = some none)
    (b_tuple : PySem.W.nsIn K mainGlobals "tuple" = some none)
    (b_enumerate : PySem.W.nsIn K mainGlobals "enumerate" = some none)
    (b_bool : PySem.W.nsIn K mainGlobals "bool" = some none)
    (g__LETTERS : PySem.W.nsIn K mainGlobals "_LETTERS" = some (some (.str "abcdefghijklmnopqrstuvwxyz" tkA)))
    (g__DIGITS : PySem.W.nsIn K mainGlobals "_DIGITS" = some (some (.str "0123456789" tkB)))
    (g__LONGEST_NAME : PySem.W.nsIn K mainGlobals "_LONGEST_NAME" = some (some (.int 8 tkC)))
    (g__PIECE_WORTH : PySem.W.nsIn K mainGlobals "_PIECE_WORTH" = some (some (.int 10000000000000000000000000000000000000000000000000000000000000000 tkD)))
    (g__PIECE : PySem.W.nsIn K mainGlobals "_PIECE" = some (some (.int 64 tkE)))
    (aIn : PySem.W.nsIn K mainGlobals "is_name" = some (some (.ref fIn)))
    (lIn : K.lookup fIn = some ⟨ocIn, odIn, .func (PySem.W.fnOf "is_name" "is_name" (defArgs s_is_name) (defBody s_is_name) (defScope s_is_name) .none kVIn dcIn pmIn anIn cdIn ctIn), slIn⟩)
    (cIn : PySem.W.codeIn K cdIn "is_name" = true)
    (kIn : PySem.W.keepIn K (.ref fIn) = true)
    (aNu : PySem.W.nsIn K mainGlobals "is_number" = some (some (.ref fNu)))
    (lNu : K.lookup fNu = some ⟨ocNu, odNu, .func (PySem.W.fnOf "is_number" "is_number" (defArgs s_is_number) (defBody s_is_number) (defScope s_is_number) .none kVNu dcNu pmNu anNu cdNu ctNu), slNu⟩)
    (cNu : PySem.W.codeIn K cdNu "is_number" = true)
    (kNu : PySem.W.keepIn K (.ref fNu) = true)
    (aWn : PySem.W.nsIn K mainGlobals "written_number" = some (some (.ref fWn)))
    (lWn : K.lookup fWn = some ⟨ocWn, odWn, .func (PySem.W.fnOf "written_number" "written_number" (defArgs s_written_number) (defBody s_written_number) (defScope s_written_number) .none kVWn dcWn pmWn anWn cdWn ctWn), slWn⟩)
    (cWn : PySem.W.codeIn K cdWn "written_number" = true)
    (kWn : PySem.W.keepIn K (.ref fWn) = true)
    (aIt : PySem.W.nsIn K mainGlobals "_is_term" = some (some (.ref fIt)))
    (lIt : K.lookup fIt = some ⟨ocIt, odIt, .func (PySem.W.fnOf "_is_term" "_is_term" (defArgs s_is_term) (defBody s_is_term) (defScope s_is_term) .none kVIt dcIt pmIt anIt cdIt ctIt), slIt⟩)
    (cIt : PySem.W.codeIn K cdIt "_is_term" = true)
    (kIt : PySem.W.keepIn K (.ref fIt) = true)
    (aCk : PySem.W.nsIn K mainGlobals "_check_terms" = some (some (.ref fCk)))
    (lCk : K.lookup fCk = some ⟨ocCk, odCk, .func (PySem.W.fnOf "_check_terms" "_check_terms" (defArgs s_check_terms) (defBody s_check_terms) (defScope s_check_terms) .none kVCk dcCk pmCk anCk cdCk ctCk), slCk⟩)
    (cCk : PySem.W.codeIn K cdCk "_check_terms" = true)
    (kCk : PySem.W.keepIn K (.ref fCk) = true)
    (aCo : PySem.W.nsIn K mainGlobals "_collected" = some (some (.ref fCo)))
    (lCo : K.lookup fCo = some ⟨ocCo, odCo, .func (PySem.W.fnOf "_collected" "_collected" (defArgs s_collected) (defBody s_collected) (defScope s_collected) .none kVCo dcCo pmCo anCo cdCo ctCo), slCo⟩)
    (cCo : PySem.W.codeIn K cdCo "_collected" = true)
    (kCo : PySem.W.keepIn K (.ref fCo) = true)
    (aWs : PySem.W.nsIn K mainGlobals "_without_sign" = some (some (.ref fWs)))
    (lWs : K.lookup fWs = some ⟨ocWs, odWs, .func (PySem.W.fnOf "_without_sign" "_without_sign" (defArgs s_without_sign) (defBody s_without_sign) (defScope s_without_sign) .none kVWs dcWs pmWs anWs cdWs ctWs), slWs⟩)
    (cWs : PySem.W.codeIn K cdWs "_without_sign" = true)
    (kWs : PySem.W.keepIn K (.ref fWs) = true)
    (aWf : PySem.W.nsIn K mainGlobals "_written_further" = some (some (.ref fWf)))
    (lWf : K.lookup fWf = some ⟨ocWf, odWf, .func (PySem.W.fnOf "_written_further" "_written_further" (defArgs s_written_further) (defBody s_written_further) (defScope s_written_further) .none kVWf dcWf pmWf anWf cdWf ctWf), slWf⟩)
    (cWf : PySem.W.codeIn K cdWf "_written_further" = true)
    (kWf : PySem.W.keepIn K (.ref fWf) = true)
    (aWt : PySem.W.nsIn K mainGlobals "_written_terms" = some (some (.ref fWt)))
    (lWt : K.lookup fWt = some ⟨ocWt, odWt, .func (PySem.W.fnOf "_written_terms" "_written_terms" (defArgs s_written_terms) (defBody s_written_terms) (defScope s_written_terms) .none kVWt dcWt pmWt anWt cdWt ctWt), slWt⟩)
    (cWt : PySem.W.codeIn K cdWt "_written_terms" = true)
    (kWt : PySem.W.keepIn K (.ref fWt) = true)
    (nS : PySem.W.nsIn K mainGlobals "Sum" = some (some (.ref CS)))
    (pgS : PySem.W.plainGet K CS Str.empty = true)
    (hdS : PySem.W.hasDictIn K CS = true)
    (poS : PySem.W.plainOver K CS = true)
    (saS : PySem.W.findIn K (.ref CS) "__setattr__" = some (some (.builtin "object.__setattr__")))
    (mkS : PySem.W.makesIn K CS = true)
    (kcS : PySem.W.keepIn K (.ref CS) = true)
    (haS : PySem.W.findIn K (.ref CS) "__class__" = some (some (.builtin "object.__class__")))
    (hmS : PySem.W.mroIn K CS (.type "object") = some true)
    (tyS : PySem.W.typeIn K (.ref CS) = some (.type "type"))
    (suS : PySem.W.subIn K (.ref CS) (.ref CS) = some true)
    (obS : PySem.W.subIn K (.ref CS) (.type "object") = some true)
    (noS0 : PySem.W.findIn K (.ref CS) "_terms" = some none)
    (hn : PySem.W.specialIn K (.builtin "object.__class__") "__get__" = some (some (.builtin "getset_descriptor.__get__")))
    (htk : PySem.W.takesIn K (.builtin "object.__class__") = some true)
    (neS : PySem.W.findIn K (.ref CS) "__ne__" = some (some (.builtin "object.__ne__")))
    (z_si : PySem.W.subIn K (.type "int") (.ref CS) = some false)
    (z_ft : PySem.W.notFirst K CS (.type "tuple") = true)
    (z_st : PySem.W.subIn K (.type "tuple") (.ref CS) = some false)
    (z_fx : PySem.W.notFirst K CS (.type "str") = true)
    (z_sx : PySem.W.subIn K (.type "str") (.ref CS) = some false)
    (z_fn : PySem.W.notFirst K CS (.type "NoneType") = true)
    (z_sn : PySem.W.subIn K (.type "NoneType") (.ref CS) = some false)
    (z_ci : PySem.W.subIn K (.ref CS) (.type "int") = some false)
    (aSi : PySem.W.findIn K (.ref CS) "__init__" = some (some (.ref fSi)))
    (iSi : PySem.W.isFn K (.ref fSi) = true)
    (lSi : K.lookup fSi = some ⟨ocSi, odSi, .func (PySem.W.fnOf "__init__" "Sum.__init__" (defArgs s_Sum___init__) (defBody s_Sum___init__) (defScope s_Sum___init__) (.ref tD) kVSi dcSi pmSi anSi cdSi ctSi), slSi⟩)
    (cSi : PySem.W.codeIn K cdSi "Sum.__init__" = true)
    (kSi : PySem.W.keepIn K (.ref fSi) = true)
    (lT : K.lookup tD = some ⟨.type "tuple", odT, .seq #[.ref t0] nT, slT⟩)
    (l0 : K.lookup t0 = some ⟨.type "tuple", od0, .seq #[] n0, sl0⟩)
    (aSl : PySem.W.findIn K (.ref CS) "__len__" = some (some (.ref fSl)))
    (iSl : PySem.W.isFn K (.ref fSl) = true)
    (lSl : K.lookup fSl = some ⟨ocSl, odSl, .func (PySem.W.fnOf "__len__" "Sum.__len__" (defArgs s_Sum___len__) (defBody s_Sum___len__) (defScope s_Sum___len__) .none kVSl dcSl pmSl anSl cdSl ctSl), slSl⟩)
    (cSl : PySem.W.codeIn K cdSl "Sum.__len__" = true)
    (kSl : PySem.W.keepIn K (.ref fSl) = true)
    (fiSl : PySem.W.fnIn K fSl = true)
    (aSb : PySem.W.findIn K (.ref CS) "__bool__" = some (some (.ref fSb)))
    (iSb : PySem.W.isFn K (.ref fSb) = true)
    (lSb : K.lookup fSb = some ⟨ocSb, odSb, .func (PySem.W.fnOf "__bool__" "Sum.__bool__" (defArgs s_Sum___bool__) (defBody s_Sum___bool__) (defScope s_Sum___bool__) .none kVSb dcSb pmSb anSb cdSb ctSb), slSb⟩)
    (cSb : PySem.W.codeIn K cdSb "Sum.__bool__" = true)
    (kSb : PySem.W.keepIn K (.ref fSb) = true)
    (fiSb : PySem.W.fnIn K fSb = true)
    (aSg : PySem.W.findIn K (.ref CS) "__getitem__" = some (some (.ref fSg)))
    (iSg : PySem.W.isFn K (.ref fSg) = true)
    (lSg : K.lookup fSg = some ⟨ocSg, odSg, .func (PySem.W.fnOf "__getitem__" "Sum.__getitem__" (defArgs s_Sum___getitem__) (defBody s_Sum___getitem__) (defScope s_Sum___getitem__) .none kVSg dcSg pmSg anSg cdSg ctSg), slSg⟩)
    (cSg : PySem.W.codeIn K cdSg "Sum.__getitem__" = true)
    (kSg : PySem.W.keepIn K (.ref fSg) = true)
    (fiSg : PySem.W.fnIn K fSg = true)
    (aSc : PySem.W.findIn K (.ref CS) "__contains__" = some (some (.ref fSc)))
    (iSc : PySem.W.isFn K (.ref fSc) = true)
    (lSc : K.lookup fSc = some ⟨ocSc, odSc, .func (PySem.W.fnOf "__contains__" "Sum.__contains__" (defArgs s_Sum___contains__) (defBody s_Sum___contains__) (defScope s_Sum___contains__) .none kVSc dcSc pmSc anSc cdSc ctSc), slSc⟩)
    (cSc : PySem.W.codeIn K cdSc "Sum.__contains__" = true)
    (kSc : PySem.W.keepIn K (.ref fSc) = true)
    (fiSc : PySem.W.fnIn K fSc = true)
    (aSs : PySem.W.findIn K (.ref CS) "__str__" = some (some (.ref fSs)))
    (iSs : PySem.W.isFn K (.ref fSs) = true)
    (lSs : K.lookup fSs = some ⟨ocSs, odSs, .func (PySem.W.fnOf "__str__" "Sum.__str__" (defArgs s_Sum___str__) (defBody s_Sum___str__) (defScope s_Sum___str__) .none kVSs dcSs pmSs anSs cdSs ctSs), slSs⟩)
    (cSs : PySem.W.codeIn K cdSs "Sum.__str__" = true)
    (kSs : PySem.W.keepIn K (.ref fSs) = true)
    (fiSs : PySem.W.fnIn K fSs = true)
    (aSq : PySem.W.findIn K (.ref CS) "__eq__" = some (some (.ref fSq)))
    (iSq : PySem.W.isFn K (.ref fSq) = true)
    (lSq : K.lookup fSq = some ⟨ocSq, odSq, .func (PySem.W.fnOf "__eq__" "Sum.__eq__" (defArgs s_Sum___eq__) (defBody s_Sum___eq__) (defScope s_Sum___eq__) .none kVSq dcSq pmSq anSq cdSq ctSq), slSq⟩)
    (cSq : PySem.W.codeIn K cdSq "Sum.__eq__" = true)
    (kSq : PySem.W.keepIn K (.ref fSq) = true)
    (fiSq : PySem.W.fnIn K fSq = true)
    (aSt : PySem.W.findIn K (.ref CS) "terms" = some (some (.ref pSt)))
    (gSt : PySem.W.specialIn K (.ref pSt) "__get__" = some (some (.builtin "property.__get__")))
    (tSt : PySem.W.takesIn K (.ref pSt) = some true)
    (rSt_ : PySem.W.recIn K pSt "property" = some (.ref fSt :: rSt))
    (lSt : K.lookup fSt = some ⟨ocSt, odSt, .func (PySem.W.fnOf "terms" "Sum.terms" (defArgs s_Sum_terms) (defBody s_Sum_terms) (defScope s_Sum_terms) .none kVSt dcSt pmSt anSt cdSt ctSt), slSt⟩)
    (cSt : PySem.W.codeIn K cdSt "Sum.terms" = true)
    (kSt : PySem.W.keepIn K (.ref fSt) = true)
    (b_zip : PySem.W.nsIn K mainGlobals "zip" = some none)
    (aDg : PySem.W.nsIn K mainGlobals "is_digits" = some (some (.ref fDg)))
    (lDg : K.lookup fDg = some ⟨ocDg, odDg, .func (PySem.W.fnOf "is_digits" "is_digits" (defArgs s_is_digits) (defBody s_is_digits) (defScope s_is_digits) .none kVDg dcDg pmDg anDg cdDg ctDg), slDg⟩)
    (cDg : PySem.W.codeIn K cdDg "is_digits" = true)
    (kDg : PySem.W.keepIn K (.ref fDg) = true)
    (aRn : PySem.W.nsIn K mainGlobals "read_number" = some (some (.ref fRn)))
    (lRn : K.lookup fRn = some ⟨ocRn, odRn, .func (PySem.W.fnOf "read_number" "read_number" (defArgs s_read_number) (defBody s_read_number) (defScope s_read_number) .none kVRn dcRn pmRn anRn cdRn ctRn), slRn⟩)
    (cRn : PySem.W.codeIn K cdRn "read_number" = true)
    (kRn : PySem.W.keepIn K (.ref fRn) = true)
    (aAp : PySem.W.nsIn K mainGlobals "_with_sign_apart" = some (some (.ref fAp)))
    (lAp : K.lookup fAp = some ⟨ocAp, odAp, .func (PySem.W.fnOf "_with_sign_apart" "_with_sign_apart" (defArgs s_with_sign_apart) (defBody s_with_sign_apart) (defScope s_with_sign_apart) .none kVAp dcAp pmAp anAp cdAp ctAp), slAp⟩)
    (cAp : PySem.W.codeIn K cdAp "_with_sign_apart" = true)
    (kAp : PySem.W.keepIn K (.ref fAp) = true)
    (aRt : PySem.W.nsIn K mainGlobals "_read_term" = some (some (.ref fRt)))
    (lRt : K.lookup fRt = some ⟨ocRt, odRt, .func (PySem.W.fnOf "_read_term" "_read_term" (defArgs s_read_term) (defBody s_read_term) (defScope s_read_term) .none kVRt dcRt pmRt anRt cdRt ctRt), slRt⟩)
    (cRt : PySem.W.codeIn K cdRt "_read_term" = true)
    (kRt : PySem.W.keepIn K (.ref fRt) = true)
    (aTi : PySem.W.nsIn K mainGlobals "_terms_in" = some (some (.ref fTi)))
    (lTi : K.lookup fTi = some ⟨ocTi, odTi, .func (PySem.W.fnOf "_terms_in" "_terms_in" (defArgs s_terms_in) (defBody s_terms_in) (defScope s_terms_in) .none kVTi dcTi pmTi anTi cdTi ctTi), slTi⟩)
    (cTi : PySem.W.codeIn K cdTi "_terms_in" = true)
    (kTi : PySem.W.keepIn K (.ref fTi) = true)
    (rdS : PySem.W.readsIn K CS (.type "type") = true)
    (gaS : PySem.W.specialIn K (.ref CS) "__getattribute__" = some (some (.builtin "type.__getattribute__")))
    (aSr : PySem.W.findCls K (.ref CS) (.type "type") "read" = some (.get (.builtin "classmethod.__get__") (.ref pSr) .none (.ref CS)))
    (rSr_ : PySem.W.recIn K pSr "classmethod" = some (.ref fSr :: rSr))
    (fiSr : PySem.W.fnIn K fSr = true)
    (lSr : K.lookup fSr = some ⟨ocSr, odSr, .func (PySem.W.fnOf "read" "Sum.read" (defArgs s_Sum_read) (defBody s_Sum_read) (defScope s_Sum_read) .none kVSr dcSr pmSr anSr cdSr ctSr), slSr⟩)
    (cSr : PySem.W.codeIn K cdSr "Sum.read" = true)
    (kSr : PySem.W.keepIn K (.ref fSr) = true)
    (aSo : PySem.W.findCls K (.ref CS) (.type "type") "of" = some (.get (.builtin "classmethod.__get__") (.ref pSo) .none (.ref CS)))
    (rSo_ : PySem.W.recIn K pSo "classmethod" = some (.ref fSo :: rSo))
    (fiSo : PySem.W.fnIn K fSo = true)
    (lSo : K.lookup fSo = some ⟨ocSo, odSo, .func (PySem.W.fnOf "of" "Sum.of" (defArgs s_Sum_of) (defBody s_Sum_of) (defScope s_Sum_of) .none kVSo dcSo pmSo anSo cdSo ctSo), slSo⟩)
    (cSo : PySem.W.codeIn K cdSo "Sum.of" = true)
    (kSo : PySem.W.keepIn K (.ref fSo) = true)
    (nY0 : PySem.W.nsIn K mainGlobals "InvalidTerms" = some (some (.ref CY0)))
    (hdY0 : PySem.W.hasDictIn K CY0 = true)
    (tyY0 : PySem.W.typeIn K (.ref CY0) = some (.type "type"))
    (suY0 : PySem.W.subIn K (.ref CY0) (.ref CY0) = some true)
    (nY1 : PySem.W.nsIn K mainGlobals "InvalidName" = some (some (.ref CY1)))
    (hdY1 : PySem.W.hasDictIn K CY1 = true)
    (tyY1 : PySem.W.typeIn K (.ref CY1) = some (.type "type"))
    (suY1 : PySem.W.subIn K (.ref CY1) (.ref CY1) = some true)
    (inY1 : PySem.W.excInitIn K CY1 [.type "ValueError", .type "Exception", .type "BaseException", .type "object"] "ValueError.__new__" = true)
    (ovY1 : PySem.W.excOver K CY1 [.type "ValueError", .type "Exception", .type "BaseException", .type "object"] = true)
    (saY1 : PySem.W.findIn K (.ref CY1) "__setattr__" = some (some (.builtin "object.__setattr__")))
    (ebY1 : PySem.W.subIn K (.ref CY1) (.type "BaseException") = some true)
    (kpY1 : PySem.W.keepIn K (.ref CY1) = true)
    (gaY1 : PySem.W.findIn K (.ref CY1) "__getattribute__" = some (some (.builtin "BaseException.__getattribute__")))
    (ggY1 : PySem.W.findIn K (.ref CY1) "__getattr__" = some none)
    (haY1 : PySem.W.findIn K (.ref CY1) "__class__" = some (some (.builtin "object.__class__")))
    (hmY1 : PySem.W.mroIn K CY1 (.type "object") = some true)
    (tkY1 : PySem.W.takerIn K CY1 "given" = some none)
    (noY1 : PySem.W.findIn K (.ref CY1) "given" = some none)
    (aiY1 : PySem.W.findIn K (.ref CY1) "__init__" = some (some (.ref fiY1)))
    (iiY1 : PySem.W.isFn K (.ref fiY1) = true)
    (liY1 : K.lookup fiY1 = some ⟨ociY1, odiY1, .func (PySem.W.fnOf "__init__" "InvalidName.__init__" (defArgs s_InvalidName___init__) (defBody s_InvalidName___init__) (defScope s_InvalidName___init__) .none kViY1 dciY1 pmiY1 aniY1 cdiY1 ctiY1), sliY1⟩)
    (ciY1 : PySem.W.codeIn K cdiY1 "InvalidName.__init__" = true)
    (kiY1 : PySem.W.keepIn K (.ref fiY1) = true)
    (tiY1 : PySem.W.typeIn K (.ref fiY1) = some (.type "function"))
    (nY2 : PySem.W.nsIn K mainGlobals "InvalidText" = some (some (.ref CY2)))
    (hdY2 : PySem.W.hasDictIn K CY2 = true)
    (tyY2 : PySem.W.typeIn K (.ref CY2) = some (.type "type"))
    (suY2 : PySem.W.subIn K (.ref CY2) (.ref CY2) = some true)
    (nY3 : PySem.W.nsIn K mainGlobals "InvalidNumber" = some (some (.ref CY3)))
    (hdY3 : PySem.W.hasDictIn K CY3 = true)
    (tyY3 : PySem.W.typeIn K (.ref CY3) = some (.type "type"))
    (suY3 : PySem.W.subIn K (.ref CY3) (.ref CY3) = some true)
    (nY4 : PySem.W.nsIn K mainGlobals "NotASum" = some (some (.ref CY4)))
    (hdY4 : PySem.W.hasDictIn K CY4 = true)
    (tyY4 : PySem.W.typeIn K (.ref CY4) = some (.type "type"))
    (suY4 : PySem.W.subIn K (.ref CY4) (.ref CY4) = some true)
    (nYV : PySem.W.nsIn K mainGlobals "BadValue" = some (some (.ref CYV)))
    (hdYV : PySem.W.hasDictIn K CYV = true)
    (tyYV : PySem.W.typeIn K (.ref CYV) = some (.type "type"))
    (suYV : PySem.W.subIn K (.ref CYV) (.ref CYV) = some true)
    (ebYV : PySem.W.subIn K (.ref CYV) (.type "BaseException") = some true)
    (nYB : PySem.W.nsIn K mainGlobals "BadName" = some (some (.ref CYB)))
    (hdYB : PySem.W.hasDictIn K CYB = true)
    (tyYB : PySem.W.typeIn K (.ref CYB) = some (.type "type"))
    (suYB : PySem.W.subIn K (.ref CYB) (.ref CYB) = some true)
    (ebYB : PySem.W.subIn K (.ref CYB) (.type "BaseException") = some true)
    (nYA : PySem.W.nsIn K mainGlobals "NoAnswer" = some (some (.ref CYA)))
    (hdYA : PySem.W.hasDictIn K CYA = true)
    (tyYA : PySem.W.typeIn K (.ref CYA) = some (.type "type"))
    (suYA : PySem.W.subIn K (.ref CYA) (.ref CYA) = some true)
    (ebYA : PySem.W.subIn K (.ref CYA) (.type "BaseException") = some true)
    (s_Y1_Y0 : PySem.W.subIn K (.ref CY1) (.ref CY0) = some false)
    (s_Y1_Y2 : PySem.W.subIn K (.ref CY1) (.ref CY2) = some false)
    (s_Y1_Y3 : PySem.W.subIn K (.ref CY1) (.ref CY3) = some false)
    (s_Y1_Y4 : PySem.W.subIn K (.ref CY1) (.ref CY4) = some false)
    (s_Y1_YB : PySem.W.subIn K (.ref CY1) (.ref CYB) = some false)
    (s_Y1_YV : PySem.W.subIn K (.ref CY1) (.ref CYV) = some true)
    (s_Y1_YA : PySem.W.subIn K (.ref CY1) (.ref CYA) = some false)
    (sfS : PySem.W.selfFirst K CS = true)
    (aSad : PySem.W.findIn K (.ref CS) "__add__" = some (some (.ref fSad)))
    (iSad : PySem.W.isFn K (.ref fSad) = true)
    (lSad : K.lookup fSad = some ⟨ocSad, odSad, .func (PySem.W.fnOf "__add__" "Sum.__add__" (defArgs s_Sum___add__) (defBody s_Sum___add__) (defScope s_Sum___add__) .none kVSad dcSad pmSad anSad cdSad ctSad), slSad⟩)
    (cSad : PySem.W.codeIn K cdSad "Sum.__add__" = true)
    (kSad : PySem.W.keepIn K (.ref fSad) = true)
    (fiSad : PySem.W.fnIn K fSad = true)
    (aWe : PySem.W.nsIn K mainGlobals "_law_well" = some (some (.ref fWe)))
    (lWe : K.lookup fWe = some ⟨ocWe, odWe, .func (PySem.W.fnOf "_law_well" "_law_well" (defArgs s_well) (defBody s_well) (defScope s_well) .none kVWe dcWe pmWe anWe cdWe ctWe), slWe⟩)
    (cWe : PySem.W.codeIn K cdWe "_law_well" = true)
    (kWe : PySem.W.keepIn K (.ref fWe) = true)
    (aDi : PySem.W.nsIn K mainGlobals "_law_dip" = some (some (.ref fDi)))
    (lDi : K.lookup fDi = some ⟨ocDi, odDi, .func (PySem.W.fnOf "_law_dip" "_law_dip" (defArgs s_dip) (defBody s_dip) (defScope s_dip) .none kVDi dcDi pmDi anDi cdDi ctDi), slDi⟩)
    (cDi : PySem.W.codeIn K cdDi "_law_dip" = true)
    (kDi : PySem.W.keepIn K (.ref fDi) = true)
    (aNa : PySem.W.nsIn K mainGlobals "_law_name" = some (some (.ref fNa)))
    (lNa : K.lookup fNa = some ⟨ocNa, odNa, .func (PySem.W.fnOf "_law_name" "_law_name" (defArgs s_name) (defBody s_name) (defScope s_name) .none kVNa dcNa pmNa anNa cdNa ctNa), slNa⟩)
    (cNa : PySem.W.codeIn K cdNa "_law_name" = true)
    (kNa : PySem.W.keepIn K (.ref fNa) = true)
    (aFr : PySem.W.nsIn K mainGlobals "_law_fresh" = some (some (.ref fFr)))
    (lFr : K.lookup fFr = some ⟨ocFr, odFr, .func (PySem.W.fnOf "_law_fresh" "_law_fresh" (defArgs s_fresh) (defBody s_fresh) (defScope s_fresh) .none kVFr dcFr pmFr anFr cdFr ctFr), slFr⟩)
    (cFr : PySem.W.codeIn K cdFr "_law_fresh" = true)
    (kFr : PySem.W.keepIn K (.ref fFr) = true)
    (aZg : PySem.W.nsIn K mainGlobals "_law_sign" = some (some (.ref fZg)))
    (lZg : K.lookup fZg = some ⟨ocZg, odZg, .func (PySem.W.fnOf "_law_sign" "_law_sign" (defArgs s_sign) (defBody s_sign) (defScope s_sign) .none kVZg dcZg pmZg anZg cdZg ctZg), slZg⟩)
    (cZg : PySem.W.codeIn K cdZg "_law_sign" = true)
    (kZg : PySem.W.keepIn K (.ref fZg) = true)
    (aOd : PySem.W.nsIn K mainGlobals "_law_odd" = some (some (.ref fOd)))
    (lOd : K.lookup fOd = some ⟨ocOd, odOd, .func (PySem.W.fnOf "_law_odd" "_law_odd" (defArgs s_odd) (defBody s_odd) (defScope s_odd) .none kVOd dcOd pmOd anOd cdOd ctOd), slOd⟩)
    (cOd : PySem.W.codeIn K cdOd "_law_odd" = true)
    (kOd : PySem.W.keepIn K (.ref fOd) = true)
    (alS_NoneType : PySem.W.subIn K (.type "NoneType") (.ref CS) = some false)
    (alS_bool : PySem.W.subIn K (.type "bool") (.ref CS) = some false)
    (alS_int : PySem.W.subIn K (.type "int") (.ref CS) = some false)
    (alS_str : PySem.W.subIn K (.type "str") (.ref CS) = some false)
    (alS_list : PySem.W.subIn K (.type "list") (.ref CS) = some false)
    (alS_tuple : PySem.W.subIn K (.type "tuple") (.ref CS) = some false)
    (alS_dict : PySem.W.subIn K (.type "dict") (.ref CS) = some false)
    (aSe : PySem.W.nsIn K mainGlobals "_law_seen" = some (some (.ref fSe)))
    (lSe : K.lookup fSe = some ⟨ocSe, odSe, .func (PySem.W.fnOf "_law_seen" "_law_seen" (defArgs s_seen) (defBody s_seen) (defScope s_seen) .none kVSe dcSe pmSe anSe cdSe ctSe), slSe⟩)
    (cSe : PySem.W.codeIn K cdSe "_law_seen" = true)
    (kSe : PySem.W.keepIn K (.ref fSe) = true)
    (aSa : PySem.W.nsIn K mainGlobals "_law_said" = some (some (.ref fSa)))
    (lSa : K.lookup fSa = some ⟨ocSa, odSa, .func (PySem.W.fnOf "_law_said" "_law_said" (defArgs s_said) (defBody s_said) (defScope s_said) .none kVSa dcSa pmSa anSa cdSa ctSa), slSa⟩)
    (cSa : PySem.W.codeIn K cdSa "_law_said" = true)
    (kSa : PySem.W.keepIn K (.ref fSa) = true)
    (aCg : PySem.W.nsIn K mainGlobals "_law_caught" = some (some (.ref fCg)))
    (lCg : K.lookup fCg = some ⟨ocCg, odCg, .func (PySem.W.fnOf "_law_caught" "_law_caught" (defArgs s_caught) (defBody s_caught) (defScope s_caught) .none kVCg dcCg pmCg anCg cdCg ctCg), slCg⟩)
    (cCg : PySem.W.codeIn K cdCg "_law_caught" = true)
    (kCg : PySem.W.keepIn K (.ref fCg) = true)
    (aTx : PySem.W.nsIn K mainGlobals "_law_sum_text" = some (some (.ref fTx)))
    (lTx : K.lookup fTx = some ⟨ocTx, odTx, .func (PySem.W.fnOf "_law_sum_text" "_law_sum_text" (defArgs s_sum_text) (defBody s_sum_text) (defScope s_sum_text) .none kVTx dcTx pmTx anTx cdTx ctTx), slTx⟩)
    (cTx : PySem.W.codeIn K cdTx "_law_sum_text" = true)
    (kTx : PySem.W.keepIn K (.ref fTx) = true)
    (aLn : PySem.W.nsIn K mainGlobals "_law_is_name" = some (some (.ref fLn)))
    (lLn : K.lookup fLn = some ⟨ocLn, odLn, .func (PySem.W.fnOf "_law_is_name" "_law_is_name" (defArgs s_lis_name) (defBody s_lis_name) (defScope s_lis_name) .none kVLn dcLn pmLn anLn cdLn ctLn), slLn⟩)
    (cLn : PySem.W.codeIn K cdLn "_law_is_name" = true)
    (kLn : PySem.W.keepIn K (.ref fLn) = true)
    (aOf : PySem.W.nsIn K mainGlobals "_law_of" = some (some (.ref fOf)))
    (lOf : K.lookup fOf = some ⟨ocOf, odOf, .func (PySem.W.fnOf "_law_of" "_law_of" (defArgs s_of) (defBody s_of) (defScope s_of) .none kVOf dcOf pmOf anOf cdOf ctOf), slOf⟩)
    (cOf : PySem.W.codeIn K cdOf "_law_of" = true)
    (kOf : PySem.W.keepIn K (.ref fOf) = true)
    (aRo : PySem.W.nsIn K mainGlobals "_law_row" = some (some (.ref fRo)))
    (lRo : K.lookup fRo = some ⟨ocRo, odRo, .func (PySem.W.fnOf "_law_row" "_law_row" (defArgs s_row) (defBody s_row) (defScope s_row) .none kVRo dcRo pmRo anRo cdRo ctRo), slRo⟩)
    (cRo : PySem.W.codeIn K cdRo "_law_row" = true)
    (kRo : PySem.W.keepIn K (.ref fRo) = true)
    (aRi : PySem.W.nsIn K mainGlobals "_law_right" = some (some (.ref fRi)))
    (lRi : K.lookup fRi = some ⟨ocRi, odRi, .func (PySem.W.fnOf "_law_right" "_law_right" (defArgs s_right) (defBody s_right) (defScope s_right) .none kVRi dcRi pmRi anRi (.ref cRi) ctRi), slRi⟩)
    (cRi_ : PySem.W.codeIn K (.ref cRi) "_law_right" = true)
    (kRi : PySem.W.keepIn K (.ref fRi) = true)
    (lcRi : K.lookup cRi = some ⟨eRi, ddRi, .fields vsRi, svRi⟩)
    (vRi : vsRi[11]? = some (.ref tRi))
    (n_Ri : K.lookup tRi = none)
    (aLa : PySem.W.nsIn K mainGlobals "law" = some (some (.ref fLa)))
    (lLa : K.lookup fLa = some ⟨ocLa, odLa, .func (PySem.W.fnOf "law" "law" (defArgs s_law) (defBody s_law) (defScope s_law) .none kVLa dcLa pmLa anLa cdLa ctLa), slLa⟩)
    (cLa : PySem.W.codeIn K cdLa "law" = true)
    (kLa : PySem.W.keepIn K (.ref fLa) = true)
    : ∃ (cs : List (Addr × Addr)) (fd : FuncData), (∀ p ∈ cs, (∃ y ∈ (["_law_right"] : List Str), PySem.W.tabIn K y = some p) ∧ K.lookup p.2 = none) ∧ (∀ (s : Shared) (v : Value), BindsTo s fd ⟨[v], []⟩ [("_law_cells", v)]) ∧ ∀ base : Heap, K.In base → base.Ns mainGlobals mg → (∀ p ∈ cs, LamX.TabB base mg p.1 p.2) → FnG l.prog w K mg base 14 fa fd ["_law_cells"] (spLawT K cs) := by
  have e := hfa.symm.trans (PySem.W.mg_of X G aLa)
  cases e
  have T : Blt mg := ⟨PySem.W.mg_none_of X G b_len, PySem.W.mg_none_of X G b_int, PySem.W.mg_none_of X G b_abs, PySem.W.mg_none_of X G b_max, PySem.W.mg_none_of X G b_min, PySem.W.mg_none_of X G b_all, PySem.W.mg_none_of X G b_any, PySem.W.mg_none_of X G b_repr, PySem.W.mg_none_of X G b_range, PySem.W.mg_none_of X G b_divmod, PySem.W.mg_none_of X G b_isinstance, PySem.W.mg_none_of X G b_str⟩
  have T2 : Blt2 mg := ⟨PySem.W.mg_none_of X G b_sum, PySem.W.mg_none_of X G b_sorted, PySem.W.mg_none_of X G b_set, PySem.W.mg_none_of X G b_tuple, PySem.W.mg_none_of X G b_enumerate, PySem.W.mg_none_of X G b_bool⟩
  have Cs : Cst mg := ⟨⟨_, PySem.W.mg_of X G g__LETTERS, _, rfl⟩, ⟨_, PySem.W.mg_of X G g__DIGITS, _, rfl⟩, ⟨_, PySem.W.mg_of X G g__LONGEST_NAME, _, rfl⟩⟩
  have Cs2 : Cst2 mg := ⟨⟨_, PySem.W.mg_of X G g__PIECE_WORTH, _, rfl⟩, ⟨_, PySem.W.mg_of X G g__PIECE, _, rfl⟩⟩
  have FIn := fun_mk (st := s_is_name) lIn cIn kIn
  have bIn : Binds K _ ["value"] [] := FIn.binds (ps := ["value"]) fun _ _ _ _ _ _ us hl => match us, hl with | [_], _ => rfl
  have FNu := fun_mk (st := s_is_number) lNu cNu kNu
  have bNu : Binds K _ ["value"] [] := FNu.binds (ps := ["value"]) fun _ _ _ _ _ _ us hl => match us, hl with | [_], _ => rfl
  have FWn := fun_mk (st := s_written_number) lWn cWn kWn
  have bWn : Binds K _ ["number"] [] := FWn.binds (ps := ["number"]) fun _ _ _ _ _ _ us hl => match us, hl with | [_], _ => rfl
  have FIt := fun_mk (st := s_is_term) lIt cIt kIt
  have bIt : Binds K _ ["value"] [] := FIt.binds (ps := ["value"]) fun _ _ _ _ _ _ us hl => match us, hl with | [_], _ => rfl
  have FCk := fun_mk (st := s_check_terms) lCk cCk kCk
  have bCk : Binds K _ ["terms"] [] := FCk.binds (ps := ["terms"]) fun _ _ _ _ _ _ us hl => match us, hl with | [_], _ => rfl
  have FCo := fun_mk (st := s_collected) lCo cCo kCo
  have bCo : Binds K _ ["terms"] [] := FCo.binds (ps := ["terms"]) fun _ _ _ _ _ _ us hl => match us, hl with | [_], _ => rfl
  have FWs := fun_mk (st := s_without_sign) lWs cWs kWs
  have bWs : Binds K _ ["name", "number"] [] := FWs.binds (ps := ["name", "number"]) fun _ _ _ _ _ _ us hl => match us, hl with | [_, _], _ => rfl
  have FWf := fun_mk (st := s_written_further) lWf cWf kWf
  have bWf : Binds K _ ["name", "number"] [] := FWf.binds (ps := ["name", "number"]) fun _ _ _ _ _ _ us hl => match us, hl with | [_, _], _ => rfl
  have FWt := fun_mk (st := s_written_terms) lWt cWt kWt
  have bWt : Binds K _ ["terms"] [] := FWt.binds (ps := ["terms"]) fun _ _ _ _ _ _ us hl => match us, hl with | [_], _ => rfl
  have clS : Cls K CS := ⟨pgS, hdS, poS, saS⟩
  have SC : SClass K mg CS := ⟨⟨clS, haS, hn, htk, hmS⟩, PySem.W.mg_of X G nS, noS0, kit_self K CS⟩
  have SK : SKinds K CS := ⟨z_ci, nf_self _ _, z_ft, z_fx, z_fn, kit_sub hdS tyS suS z_st, kit_sub hdS tyS suS z_sx, kit_sub hdS tyS suS z_sn, kit_sub hdS tyS suS z_si⟩
  have FSi : FunD K "__init__" "Sum.__init__" (defArgs s_Sum___init__) (defBody s_Sum___init__) (defScope s_Sum___init__) [.ref t0] [] fSi _ := ⟨⟨_, _, _, _, _, _, _, _, _, _, rfl, lSi, cSi, .inr ⟨by simp, tD, _, [.ref t0], nT, rfl, lT, rfl, .cons rfl .nil⟩, .inl rfl⟩, kSi⟩
  have ht0 : ∀ H, SqT K H t0 [] := fun H => .inr ⟨_, #[], n0, l0, rfl, rfl, by decide, .nil⟩
  obtain ⟨dsA, vdA, bA⟩ := chainA FSi
  obtain ⟨dsB, vdB, bB⟩ := chainB FSi
  have MkS : Mk K CS fSi := ⟨mkS, aSi, iSi, kcS⟩
  have FSl := fun_mk (st := s_Sum___len__) lSl cSl kSl
  have bSl : Binds K _ ["self"] [] := FSl.binds (ps := ["self"]) fun _ _ _ _ _ _ us hl => match us, hl with | [_], _ => rfl
  have FSb := fun_mk (st := s_Sum___bool__) lSb cSb kSb
  have bSb : Binds K _ ["self"] [] := FSb.binds (ps := ["self"]) fun _ _ _ _ _ _ us hl => match us, hl with | [_], _ => rfl
  have FSg := fun_mk (st := s_Sum___getitem__) lSg cSg kSg
  have bSg : Binds K _ ["self", "at"] [] := FSg.binds (ps := ["self", "at"]) fun _ _ _ _ _ _ us hl => match us, hl with | [_, _], _ => rfl
  have FSc := fun_mk (st := s_Sum___contains__) lSc cSc kSc
  have bSc : Binds K _ ["self", "x"] [] := FSc.binds (ps := ["self", "x"]) fun _ _ _ _ _ _ us hl => match us, hl with | [_, _], _ => rfl
  have FSs := fun_mk (st := s_Sum___str__) lSs cSs kSs
  have bSs : Binds K _ ["self"] [] := FSs.binds (ps := ["self"]) fun _ _ _ _ _ _ us hl => match us, hl with | [_], _ => rfl
  have FSq := fun_mk (st := s_Sum___eq__) lSq cSq kSq
  have bSq : Binds K _ ["self", "other"] [] := FSq.binds (ps := ["self", "other"]) fun _ _ _ _ _ _ us hl => match us, hl with | [_, _], _ => rfl
  have FSt := fun_mk (st := s_Sum_terms) lSt cSt kSt
  have bSt : Binds K _ ["self"] [] := FSt.binds (ps := ["self"]) fun _ _ _ _ _ _ us hl => match us, hl with | [_], _ => rfl
  have hz : mg "zip" = none := PySem.W.mg_none_of X G b_zip
  have FDg := fun_mk (st := s_is_digits) lDg cDg kDg
  have bDg : Binds K _ ["text"] [] := FDg.binds (ps := ["text"]) fun _ _ _ _ _ _ us hl => match us, hl with | [_], _ => rfl
  have FRn := fun_mk (st := s_read_number) lRn cRn kRn
  have bRn : Binds K _ ["digits"] [] := FRn.binds (ps := ["digits"]) fun _ _ _ _ _ _ us hl => match us, hl with | [_], _ => rfl
  have FAp := fun_mk (st := s_with_sign_apart) lAp cAp kAp
  have bAp : Binds K _ ["text"] [] := FAp.binds (ps := ["text"]) fun _ _ _ _ _ _ us hl => match us, hl with | [_], _ => rfl
  have FRt := fun_mk (st := s_read_term) lRt cRt kRt
  have bRt : Binds K _ ["sign", "word"] [] := FRt.binds (ps := ["sign", "word"]) fun _ _ _ _ _ _ us hl => match us, hl with | [_, _], _ => rfl
  have FTi := fun_mk (st := s_terms_in) lTi cTi kTi
  have bTi : Binds K _ ["text"] [] := FTi.binds (ps := ["text"]) fun _ _ _ _ _ _ us hl => match us, hl with | [_], _ => rfl
  have RS : ClX.CRead K CS (.type "type") := ⟨rdS, gaS⟩
  have FSr := fun_mk (st := s_Sum_read) lSr cSr kSr
  have bSr : Binds K _ ["cls", "text"] [] := FSr.binds (ps := ["cls", "text"]) fun _ _ _ _ _ _ us hl => match us, hl with | [_, _], _ => rfl
  have FSo := fun_mk (st := s_Sum_of) lSo cSo kSo
  have FiY1 := fun_mk (st := s_InvalidName___init__) liY1 ciY1 kiY1
  have biY1 : Binds K _ ["self", "given"] [] := FiY1.binds (ps := ["self", "given"]) fun _ _ _ _ _ _ us hl => match us, hl with | [_, _], _ => rfl
  have OY1 : OwnX K CY1 := ⟨_, _, _, _, ⟨PySem.F.excBase_ValueError, PySem.F.store_ValueError, inY1, ovY1, hdY1, saY1, ebY1, tyY1, kpY1, gaY1, ggY1, haY1, hn, htk, hmY1⟩⟩
  have V5 : Five mg CY0 CY1 CY2 CY3 CY4 CYV := ⟨PySem.W.mg_of X G nY0, PySem.W.mg_of X G nY1, PySem.W.mg_of X G nY2, PySem.W.mg_of X G nY3, PySem.W.mg_of X G nY4, PySem.W.mg_of X G nYV⟩
  have Q1 : ErrC K [CY0, CY1, CY2, CY3, CY4] CYB CYV CYA (fun _ => false) (fun _ => true) fld5 CY1 1 := ⟨OY1, noY1, ⟨by show 1 < 5; decide, so5 (kit_eq hdY0 tyY0 suY0 s_Y1_Y0) (kit_eq hdY1 tyY1 suY1 suY1) (kit_eq hdY2 tyY2 suY2 s_Y1_Y2) (kit_eq hdY3 tyY3 suY3 s_Y1_Y3) (kit_eq hdY4 tyY4 suY4 s_Y1_Y4), kit_eq hdYB tyYB suYB s_Y1_YB, kit_eq hdYV tyYV suYV s_Y1_YV⟩, ex3 (exm_eq ebYV hdYV tyYV s_Y1_YV) (exm_eq ebYB hdYB tyYB s_Y1_YB) (exm_eq ebYA hdYA tyYA s_Y1_YA) rfl, rfl⟩
  have FSad := fun_mk (st := s_Sum___add__) lSad cSad kSad
  have bSad : Binds K _ ["self", "other"] [] := FSad.binds (ps := ["self", "other"]) fun _ _ _ _ _ _ us hl => match us, hl with | [_, _], _ => rfl
  have FWe := fun_mk (st := s_well) lWe cWe kWe
  have bWe : Binds K _ ["_law_cells", "_law_k"] [] := FWe.binds (ps := ["_law_cells", "_law_k"]) fun _ _ _ _ _ _ us hl => match us, hl with | [_, _], _ => rfl
  have FDi := fun_mk (st := s_dip) lDi cDi kDi
  have bDi : Binds K _ ["_law_well_here", "_law_many"] [] := FDi.binds (ps := ["_law_well_here", "_law_many"]) fun _ _ _ _ _ _ us hl => match us, hl with | [_, _], _ => rfl
  have FNa := fun_mk (st := s_name) lNa cNa kNa
  have bNa : Binds K _ ["_law_well_here"] [] := FNa.binds (ps := ["_law_well_here"]) fun _ _ _ _ _ _ us hl => match us, hl with | [_], _ => rfl
  have FFr := fun_mk (st := s_fresh) lFr cFr kFr
  have bFr : Binds K _ ["_law_well_here", "_law_taken"] [] := FFr.binds (ps := ["_law_well_here", "_law_taken"]) fun _ _ _ _ _ _ us hl => match us, hl with | [_, _], _ => rfl
  have FZg := fun_mk (st := s_sign) lZg cZg kZg
  have bZg : Binds K _ ["_law_well_here", "_law_often"] [] := FZg.binds (ps := ["_law_well_here", "_law_often"]) fun _ _ _ _ _ _ us hl => match us, hl with | [_, _], _ => rfl
  have FOd := fun_mk (st := s_odd) lOd cOd kOd
  have bOd : Binds K _ ["_law_well_here"] [] := FOd.binds (ps := ["_law_well_here"]) fun _ _ _ _ _ _ us hl => match us, hl with | [_], _ => rfl
  have alS : Alien K CS := fun d => by cases d <;> first | exact kit_eq hdS tyS suS alS_NoneType | exact kit_eq hdS tyS suS alS_bool | exact kit_eq hdS tyS suS alS_int | exact kit_eq hdS tyS suS alS_str | exact kit_eq hdS tyS suS alS_list | exact kit_eq hdS tyS suS alS_tuple | exact kit_eq hdS tyS suS alS_dict
  have FSe := fun_mk (st := s_seen) lSe cSe kSe
  have bSe : Binds K _ ["_law_thing"] [] := FSe.binds (ps := ["_law_thing"]) fun _ _ _ _ _ _ us hl => match us, hl with | [_], _ => rfl
  have FSa := fun_mk (st := s_said) lSa cSa kSa
  have bSa : Binds K _ ["_law_e"] [] := FSa.binds (ps := ["_law_e"]) fun _ _ _ _ _ _ us hl => match us, hl with | [_], _ => rfl
  have FCg := fun_mk (st := s_caught) lCg cCg kCg
  have bCg : Binds K _ ["_law_act"] [] := FCg.binds (ps := ["_law_act"]) fun _ _ _ _ _ _ us hl => match us, hl with | [_], _ => rfl
  have FTx := fun_mk (st := s_sum_text) lTx cTx kTx
  have bTx : Binds K _ ["_law_terms"] [] := FTx.binds (ps := ["_law_terms"]) fun _ _ _ _ _ _ us hl => match us, hl with | [_], _ => rfl
  have FLn := fun_mk (st := s_lis_name) lLn cLn kLn
  have bLn : Binds K _ ["_law_word"] [] := FLn.binds (ps := ["_law_word"]) fun _ _ _ _ _ _ us hl => match us, hl with | [_], _ => rfl
  have FOf := fun_mk (st := s_of) lOf cOf kOf
  have bOf : Binds K _ ["_law_row_here"] [] := FOf.binds (ps := ["_law_row_here"]) fun _ _ _ _ _ _ us hl => match us, hl with | [_], _ => rfl
  have FRo := fun_mk (st := s_row) lRo cRo kRo
  have bRo : Binds K _ ["_law_well_here", "_law_many"] [] := FRo.binds (ps := ["_law_well_here", "_law_many"]) fun _ _ _ _ _ _ us hl => match us, hl with | [_, _], _ => rfl
  have FRi := funC_mk (st := s_right) lRi cRi_ kRi
  have bRi : Binds K _ ["_law_well_here"] [] := FRi.fn.binds (ps := ["_law_well_here"]) fun _ _ _ _ _ _ us hl => match us, hl with | [_], _ => rfl
  refine ⟨[(cRi, tRi)], PySem.W.fnOf "law" "law" (defArgs s_law) (defBody s_law) (defScope s_law) .none kVLa dcLa pmLa anLa cdLa ctLa, fun p hp => ?_, fun s v => .of_eq rfl, fun base _ _ tb => ?_⟩
  · simp only [List.mem_cons, List.not_mem_nil, or_false] at hp
    subst hp
    exact ⟨⟨_, by simp, tabIn_of FRi aRi lcRi vRi⟩, n_Ri⟩
  have tbRi := tb (cRi, tRi) (by simp)
  have GIn : Fn l.prog w K mg base "is_name" 1 ["value"] (sp_is_name K) := ⟨_, _, PySem.W.mg_of X G aIn, kIn, bIn, ok_is_name FIn T Cs⟩
  have GNu : Fn l.prog w K mg base "is_number" 1 ["value"] (sp_is_number K) := ⟨_, _, PySem.W.mg_of X G aNu, kNu, bNu, ok_is_number FNu T T2⟩
  have GWn : Fn l.prog w K mg base "written_number" 1 ["number"] (sp_written) := ⟨_, _, PySem.W.mg_of X G aWn, kWn, bWn, ok_written_number FWn T Cs2⟩
  have GIt : Fn l.prog w K mg base "_is_term" 2 ["value"] (sp_is_term K) := ⟨_, _, PySem.W.mg_of X G aIt, kIt, bIt, ok_is_term FIt T T2 GIn.irr GNu.irr⟩
  have GCk : Fn l.prog w K mg base "_check_terms" 3 ["terms"] (sp_check_terms K) := ⟨_, _, PySem.W.mg_of X G aCk, kCk, bCk, ok_check_terms FCk T T2 GIt.irr⟩
  have GCo : Fn l.prog w K mg base "_collected" 1 ["terms"] (sp_collected K) := ⟨_, _, PySem.W.mg_of X G aCo, kCo, bCo, ok_collected FCo T2⟩
  have GWs : Fn l.prog w K mg base "_without_sign" 2 ["name", "number"] (sp_without) := ⟨_, _, PySem.W.mg_of X G aWs, kWs, bWs, ok_without_sign FWs T GWn.irr⟩
  have GWf : Fn l.prog w K mg base "_written_further" 3 ["name", "number"] (sp_further) := ⟨_, _, PySem.W.mg_of X G aWf, kWf, bWf, ok_written_further FWf GWs.irr⟩
  have GWt : Fn l.prog w K mg base "_written_terms" 4 ["terms"] (sp_wterms K) := ⟨_, _, PySem.W.mg_of X G aWt, kWt, bWt, ok_written_terms FWt GWs.irr GWf.irr⟩
  have OSi : FnOk l.prog w K mg base CX0 4 fSi _ ["self", "terms"] (sp_Sum K CS) := ok_Sum_i FSi SC GCk.irr GCo.irr
  have S1 : Mkr l.prog w K mg base "Sum" CS 4 (sp_Sum K CS) [] := ⟨SC.k, _, _, _, dsB, MkS, bB, vdB, OSi⟩
  have S0 : Mkr l.prog w K mg base "Sum" CS 4 (sp_Sum K CS) [.ref t0] := ⟨SC.k, _, _, _, dsA, MkS, bA, vdA, OSi⟩
  have GSl : OwnM l.prog w K mg base CS "__len__" 1 (sp_len CS) := ⟨_, _, _, aSl, iSl, fiSl, bSl, ok_Sum_l FSl SC T⟩
  have GSb : OwnM l.prog w K mg base CS "__bool__" 1 (sp_yes) := ⟨_, _, _, aSb, iSb, fiSb, bSb, ok_Sum_b FSb ⟩
  have GSg : OwnM l.prog w K mg base CS "__getitem__" 2 (sp_get CS) := ⟨_, _, _, aSg, iSg, fiSg, bSg, ok_Sum_g FSg SC GIn.irr⟩
  have GSc : OwnM l.prog w K mg base CS "__contains__" 4 (sp_has CS) := ⟨_, _, _, aSc, iSc, fiSc, bSc, ok_Sum_c FSc GIn.irr GSg.irr⟩
  have GSs : OwnM l.prog w K mg base CS "__str__" 5 (sp_text CS) := ⟨_, _, _, aSs, iSs, fiSs, bSs, ok_Sum_s FSs SC GWt.irr⟩
  have GSq : OwnM l.prog w K mg base CS "__eq__" 1 (sp_eqS K CS) := ⟨_, _, _, aSq, iSq, fiSq, bSq, ok_Sum_q FSq SC T⟩
  have GSt : Prp l.prog w K mg base CS "terms" 1 (sp_terms CS) := ⟨clS, _, _, _, _, ⟨aSt, gSt, tSt, _, rSt_⟩, bSt, ok_Sum_t FSt SC⟩
  have qS : OwnEq l.prog w K mg base CS 1 (sp_eqS K CS) := ⟨⟨_, _, _, aSq, iSq, bSq, ok_Sum_q FSq SC T⟩, neS, obS⟩
  have GDg : Fn l.prog w K mg base "is_digits" 1 ["text"] (sp_digits) := ⟨_, _, PySem.W.mg_of X G aDg, kDg, bDg, ok_is_digits FDg ⟩
  have GRn : Fn l.prog w K mg base "read_number" 1 ["digits"] (sp_readnum) := ⟨_, _, PySem.W.mg_of X G aRn, kRn, bRn, ok_read_number FRn T Cs2⟩
  have GAp : Fn l.prog w K mg base "_with_sign_apart" 1 ["text"] (sp_apart) := ⟨_, _, PySem.W.mg_of X G aAp, kAp, bAp, ok_with_sign_apart FAp ⟩
  have GRt : Fn l.prog w K mg base "_read_term" 2 ["sign", "word"] (sp_rterm K) := ⟨_, _, PySem.W.mg_of X G aRt, kRt, bRt, ok_read_term FRt GIn.irr GDg.irr GRn.irr⟩
  have GTi : Fn l.prog w K mg base "_terms_in" 3 ["text"] (sp_termsin K) := ⟨_, _, PySem.W.mg_of X G aTi, kTi, bTi, ok_terms_in FTi hz T2 GAp.irr GRt.irr⟩
  have OSr := ok_Sum_r (P := l.prog) (w := w) (mg := mg) (base := base) FSr T S1.irr GTi.irr GSs.irr
  have GSr : ClsM l.prog w K mg base CS "read" 8 ["cls", "text"] (sp_read CS) := ⟨.type "type", pSr, fSr, _, RS, ⟨aSr, ⟨_, rSr_⟩, fiSr⟩, bSr, OSr⟩
  have GSo : ClsR l.prog w K mg base CS "of" 6 (sp_of CS) := ⟨.type "type", pSo, fSo, RS, ⟨aSo, ⟨_, rSo_⟩, fiSo⟩, ok_Sum_of FSo T2 GIn.irr S1.irr⟩
  have EY1 : Err l.prog w K mg base "InvalidName" CY1 "given" := ⟨PySem.W.mg_of X G nY1, OY1, tkY1, noY1, fiY1, _, ["self", "given"], aiY1, tiY1, biY1, ok_give_InvalidName FiY1 OY1 tkY1⟩
  have GSad : OwnM l.prog w K mg base CS "__add__" 6 (sp_addS CS) := ⟨_, _, _, aSad, iSad, fiSad, bSad, ok_Sum_a FSad SC T S1.irr⟩
  have qS2 : OwnEq l.prog w K mg base CS 2 (sp_eqS K CS) := ⟨⟨_, _, _, aSq, iSq, bSq, (ok_Sum_q FSq SC T).mono (by decide)⟩, neS, obS⟩
  have GWe : Fn l.prog w K mg base "_law_well" 1 ["_law_cells", "_law_k"] (sp_well K) := ⟨_, _, PySem.W.mg_of X G aWe, kWe, bWe, ok_well FWe T⟩
  have GDi : Fn l.prog w K mg base "_law_dip" 1 ["_law_well_here", "_law_many"] (sp_dip) := ⟨_, _, PySem.W.mg_of X G aDi, kDi, bDi, ok_dip FDi T⟩
  have GNa : Fn l.prog w K mg base "_law_name" 2 ["_law_well_here"] (sp_name) := ⟨_, _, PySem.W.mg_of X G aNa, kNa, bNa, ok_name FNa T GDi⟩
  have GFr : Fn l.prog w K mg base "_law_fresh" 3 ["_law_well_here", "_law_taken"] (sp_freshL) := ⟨_, _, PySem.W.mg_of X G aFr, kFr, bFr, ok_freshL FFr T GDi GNa⟩
  have GZg : Fn l.prog w K mg base "_law_sign" 2 ["_law_well_here", "_law_often"] (sp_sign) := ⟨_, _, PySem.W.mg_of X G aZg, kZg, bZg, ok_sign FZg T GDi.irr⟩
  have GOd : Fn l.prog w K mg base "_law_odd" 2 ["_law_well_here"] (sp_oddN K) := ⟨_, _, PySem.W.mg_of X G aOd, kOd, bOd, ok_oddN FOd GDi.irr⟩
  have GSe : FnGd l.prog w K mg base "_law_seen" 9 ["_law_thing"] (sp_seenS K CS) := ⟨_, _, PySem.W.mg_of X G aSe, kSe, bSe, ok_seenS FSe T SC alS GSs.irr⟩
  have HSe : FnEd l.prog w K mg base "_law_seen" 1 ["_law_thing"] (sp_seenE K) := ⟨_, _, PySem.W.mg_of X G aSe, kSe, bSe, ok_seenSE FSe T SC alS⟩
  have HSa : FnEd l.prog w K mg base "_law_said" 2 ["_law_e"] (sp_said K [CY0, CY1, CY2, CY3, CY4] CYB CYV (fun _ => false) (fun _ => true) fld5) := ⟨_, _, PySem.W.mg_of X G aSa, kSa, bSa, ok_said5 FSa T V5 HSe⟩
  have HSa9 : FnEd l.prog w K mg base "_law_said" 9 ["_law_e"] (sp_said K [CY0, CY1, CY2, CY3, CY4] CYB CYV (fun _ => false) (fun _ => true) fld5) := HSa.mono (by decide)
  have GC : Ctch l.prog w K mg base 9 CYV CYB CYA (sp_said K [CY0, CY1, CY2, CY3, CY4] CYB CYV (fun _ => false) (fun _ => true) fld5) (Irr (sp_seenS K CS)) := ⟨⟨_, _, PySem.W.mg_of X G aCg, FCg, bCg⟩, V5.gV, PySem.W.mg_of X G nYB, PySem.W.mg_of X G nYA, HSa9, GSe.irr⟩
  have GTx : Fn l.prog w K mg base "_law_sum_text" 1 ["_law_terms"] (sp_sumtext K) := ⟨_, _, PySem.W.mg_of X G aTx, kTx, bTx, ok_sum_text FTx T⟩
  have GLn : Fn l.prog w K mg base "_law_is_name" 1 ["_law_word"] (sp_lname) := ⟨_, _, PySem.W.mg_of X G aLn, kLn, bLn, ok_lname FLn T⟩
  have XSo : ClsRX l.prog w K mg base CS "of" 6 (sp_ofX K CS CY1) := ⟨.type "type", pSo, fSo, RS, ⟨aSo, ⟨_, rSo_⟩, fiSo⟩, ok_Sum_ofX FSo GIn.irr EY1⟩
  have GOf : Fn l.prog w K mg base "_law_of" 7 ["_law_row_here"] (sp_lof K CS) := ⟨_, _, PySem.W.mg_of X G aOf, kOf, bOf, ok_lof FOf T SC GSo.irr⟩
  have XOf : Fx l.prog w K mg base "_law_of" 7 ["_law_row_here"] (orS (sp_lof K CS) (sp_lofX K CY1)) := ⟨_, _, PySem.W.mg_of X G aOf, kOf, bOf, fok_or (ok_lof FOf T SC GSo.irr) (ok_lofX FOf T SC XSo.irr)⟩
  have GRo : Fn l.prog w K mg base "_law_row" 4 ["_law_well_here", "_law_many"] (sp_rowN K) := ⟨_, _, PySem.W.mg_of X G aRo, kRo, bRo, ok_row FRo T GDi.irr GFr.irr GZg.irr GOd.irr⟩
  have GRi : ∀ T, T = [(tRi, ("_law_right" : Str) ++ ".<locals>." ++ "<lambda>")] → FnGd l.prog w K mg base "_law_right" 13 ["_law_well_here"] (Irr (sp_lright T 400000 500)) := fun TT e => FnGd.irr ⟨_, _, PySem.W.mg_of X G aRi, kRi, bRi, ok_right FRi T T2 SC SK sfS tbRi (by rw [e]; simp) (by
      intro p hp q
      rw [e] at hp
      simp only [List.mem_cons, List.not_mem_nil, or_false] at hp
      subst hp
      rfl) Q1 GDi.irr GRo.irr GLn.irr GOf.irr XOf.irr GC GTx.irr GSt.irr S1.irr S0.irr GSo.irr GSad.irr GSr.irr qS2 ht0⟩
  exact ok_law (fun_mk (st := s_law) lLa cLa kLa) T SC GWe GSt.irr GSo.irr GRi
end RV
open PySem PySem.W PyProof.Rows in
set_option maxRecDepth 100000 in
set_option maxHeartbeats 0 in
theorem PySem.Challenge.cw_ringvotes_k08_sums_of_names_holds : PySem.Challenge.rw_ringvotes_k08_sums_of_names.Holds := by
  w_on; o_law; k_head; (case hw => w_witness2)
  k_fill
  refine RV.walkGT "_law_cells" 14 ["_law_right"] (l := PySem.Challenge.rw_ringvotes_k08_sums_of_names) ⟨rfl, by decide, by decide⟩ rfl rfl ?XS (fun w h Y => PySem.W.km_in_of Y) ?F
  case XS =>
    intro y hy
    simp only [List.mem_cons, List.not_mem_nil, or_false] at hy
    subst hy
    exact ⟨_, rfl⟩
  case F =>
    intro w mg fa h KX G hmg
    refine' RV.all_mk KX G hmg ?b_len ?b_int ?b_abs ?b_max ?b_min ?b_all ?b_any ?b_repr ?b_range ?b_divmod ?b_isinstance ?b_str ?b_sum ?b_sorted ?b_set ?b_tuple ?b_enumerate ?b_bool ?g__LETTERS ?g__DIGITS ?g__LONGEST_NAME ?g__PIECE_WORTH ?g__PIECE ?aIn ?lIn ?cIn ?kIn ?aNu ?lNu ?cNu ?kNu ?aWn ?lWn ?cWn ?kWn ?aIt ?lIt ?cIt ?kIt ?aCk ?lCk ?cCk ?kCk ?aCo ?lCo ?cCo ?kCo ?aWs ?lWs ?cWs ?kWs ?aWf ?lWf ?cWf ?kWf ?aWt ?lWt ?cWt ?kWt ?nS ?pgS ?hdS ?poS ?saS ?mkS ?kcS ?haS ?hmS ?tyS ?suS ?obS ?noS0 ?hn ?htk ?neS ?z_si ?z_ft ?z_st ?z_fx ?z_sx ?z_fn ?z_sn ?z_ci ?aSi ?iSi ?lSi ?cSi ?kSi ?lT ?l0 ?aSl ?iSl ?lSl ?cSl ?kSl ?fiSl ?aSb ?iSb ?lSb ?cSb ?kSb ?fiSb ?aSg ?iSg ?lSg ?cSg ?kSg ?fiSg ?aSc ?iSc ?lSc ?cSc ?kSc ?fiSc ?aSs ?iSs ?lSs ?cSs ?kSs ?fiSs ?aSq ?iSq ?lSq ?cSq ?kSq ?fiSq ?aSt ?gSt ?tSt ?rSt_ ?lSt ?cSt ?kSt ?b_zip ?aDg ?lDg ?cDg ?kDg ?aRn ?lRn ?cRn ?kRn ?aAp ?lAp ?cAp ?kAp ?aRt ?lRt ?cRt ?kRt ?aTi ?lTi ?cTi ?kTi ?rdS ?gaS ?aSr ?rSr_ ?fiSr ?lSr ?cSr ?kSr ?aSo ?rSo_ ?fiSo ?lSo ?cSo ?kSo ?nY0 ?hdY0 ?tyY0 ?suY0 ?nY1 ?hdY1 ?tyY1 ?suY1 ?inY1 ?ovY1 ?saY1 ?ebY1 ?kpY1 ?gaY1 ?ggY1 ?haY1 ?hmY1 ?tkY1 ?noY1 ?aiY1 ?iiY1 ?liY1 ?ciY1 ?kiY1 ?tiY1 ?nY2 ?hdY2 ?tyY2 ?suY2 ?nY3 ?hdY3 ?tyY3 ?suY3 ?nY4 ?hdY4 ?tyY4 ?suY4 ?nYV ?hdYV ?tyYV ?suYV ?ebYV ?nYB ?hdYB ?tyYB ?suYB ?ebYB ?nYA ?hdYA ?tyYA ?suYA ?ebYA ?s_Y1_Y0 ?s_Y1_Y2 ?s_Y1_Y3 ?s_Y1_Y4 ?s_Y1_YB ?s_Y1_YV ?s_Y1_YA ?sfS ?aSad ?iSad ?lSad ?cSad ?kSad ?fiSad ?aWe ?lWe ?cWe ?kWe ?aDi ?lDi ?cDi ?kDi ?aNa ?lNa ?cNa ?kNa ?aFr ?lFr ?cFr ?kFr ?aZg ?lZg ?cZg ?kZg ?aOd ?lOd ?cOd ?kOd ?alS_NoneType ?alS_bool ?alS_int ?alS_str ?alS_list ?alS_tuple ?alS_dict ?aSe ?lSe ?cSe ?kSe ?aSa ?lSa ?cSa ?kSa ?aCg ?lCg ?cCg ?kCg ?aTx ?lTx ?cTx ?kTx ?aLn ?lLn ?cLn ?kLn ?aOf ?lOf ?cOf ?kOf ?aRo ?lRo ?cRo ?kRo ?aRi ?lRi ?cRi_ ?kRi ?lcRi ?vRi ?n_Ri ?aLa ?lLa ?cLa ?kLa
    (case b_len => k_is)
    (case b_int => k_is)
    (case b_abs => k_is)
    (case b_max => k_is)
    (case b_min => k_is)
    (case b_all => k_is)
    (case b_any => k_is)
    (case b_repr => k_is)
    (case b_range => k_is)
    (case b_divmod => k_is)
    (case b_isinstance => k_is)
    (case b_str => k_is)
    (case b_sum => k_is)
    (case b_sorted => k_is)
    (case b_set => k_is)
    (case b_tuple => k_is)
    (case b_enumerate => k_is)
    (case b_bool => k_is)
    (case g__LETTERS => k_is)
    (case g__DIGITS => k_is)
    (case g__LONGEST_NAME => k_is)
    (case g__PIECE_WORTH => k_is)
    (case g__PIECE => k_is)
    (case aIn => k_is)
    (case lIn => k_is)
    (case cIn => k_is)
    (case kIn => k_is)
    (case aNu => k_is)
    (case lNu => k_is)
    (case cNu => k_is)
    (case kNu => k_is)
    (case aWn => k_is)
    (case lWn => k_is)
    (case cWn => k_is)
    (case kWn => k_is)
    (case aIt => k_is)
    (case lIt => k_is)
    (case cIt => k_is)
    (case kIt => k_is)
    (case aCk => k_is)
    (case lCk => k_is)
    (case cCk => k_is)
    (case kCk => k_is)
    (case aCo => k_is)
    (case lCo => k_is)
    (case cCo => k_is)
    (case kCo => k_is)
    (case aWs => k_is)
    (case lWs => k_is)
    (case cWs => k_is)
    (case kWs => k_is)
    (case aWf => k_is)
    (case lWf => k_is)
    (case cWf => k_is)
    (case kWf => k_is)
    (case aWt => k_is)
    (case lWt => k_is)
    (case cWt => k_is)
    (case kWt => k_is)
    (case nS => k_is)
    (case pgS => k_is)
    (case hdS => k_is)
    (case poS => k_is)
    (case saS => k_is)
    (case mkS => k_is)
    (case kcS => k_is)
    (case haS => k_is)
    (case hmS => k_is)
    (case tyS => k_is)
    (case suS => k_is)
    (case obS => k_is)
    (case noS0 => k_is)
    (case hn => k_is)
    (case htk => k_is)
    (case neS => k_is)
    (case z_si => k_is)
    (case z_ft => k_is)
    (case z_st => k_is)
    (case z_fx => k_is)
    (case z_sx => k_is)
    (case z_fn => k_is)
    (case z_sn => k_is)
    (case z_ci => k_is)
    (case aSi => k_is)
    (case iSi => k_is)
    (case lSi => k_is)
    (case cSi => k_is)
    (case kSi => k_is)
    (case lT => k_is)
    (case l0 => k_is)
    (case aSl => k_is)
    (case iSl => k_is)
    (case lSl => k_is)
    (case cSl => k_is)
    (case kSl => k_is)
    (case fiSl => k_is)
    (case aSb => k_is)
    (case iSb => k_is)
    (case lSb => k_is)
    (case cSb => k_is)
    (case kSb => k_is)
    (case fiSb => k_is)
    (case aSg => k_is)
    (case iSg => k_is)
    (case lSg => k_is)
    (case cSg => k_is)
    (case kSg => k_is)
    (case fiSg => k_is)
    (case aSc => k_is)
    (case iSc => k_is)
    (case lSc => k_is)
    (case cSc => k_is)
    (case kSc => k_is)
    (case fiSc => k_is)
    (case aSs => k_is)
    (case iSs => k_is)
    (case lSs => k_is)
    (case cSs => k_is)
    (case kSs => k_is)
    (case fiSs => k_is)
    (case aSq => k_is)
    (case iSq => k_is)
    (case lSq => k_is)
    (case cSq => k_is)
    (case kSq => k_is)
    (case fiSq => k_is)
    (case aSt => k_is)
    (case gSt => k_is)
    (case tSt => k_is)
    (case rSt_ => k_is)
    (case lSt => k_is)
    (case cSt => k_is)
    (case kSt => k_is)
    (case b_zip => k_is)
    (case aDg => k_is)
    (case lDg => k_is)
    (case cDg => k_is)
    (case kDg => k_is)
    (case aRn => k_is)
    (case lRn => k_is)
    (case cRn => k_is)
    (case kRn => k_is)
    (case aAp => k_is)
    (case lAp => k_is)
    (case cAp => k_is)
    (case kAp => k_is)
    (case aRt => k_is)
    (case lRt => k_is)
    (case cRt => k_is)
    (case kRt => k_is)
    (case aTi => k_is)
    (case lTi => k_is)
    (case cTi => k_is)
    (case kTi => k_is)
    (case rdS => k_is)
    (case gaS => k_is)
    (case aSr => k_is)
    (case rSr_ => k_is)
    (case fiSr => k_is)
    (case lSr => k_is)
    (case cSr => k_is)
    (case kSr => k_is)
    (case aSo => k_is)
    (case rSo_ => k_is)
    (case fiSo => k_is)
    (case lSo => k_is)
    (case cSo => k_is)
    (case kSo => k_is)
    (case nY0 => k_is)
    (case hdY0 => k_is)
    (case tyY0 => k_is)
    (case suY0 => k_is)
    (case nY1 => k_is)
    (case hdY1 => k_is)
    (case tyY1 => k_is)
    (case suY1 => k_is)
    (case inY1 => kx_is)
    (case ovY1 => kx_is)
    (case saY1 => k_is)
    (case ebY1 => k_is)
    (case kpY1 => k_is)
    (case gaY1 => k_is)
    (case ggY1 => k_is)
    (case haY1 => k_is)
    (case hmY1 => k_is)
    (case tkY1 => k_is)
    (case noY1 => k_is)
    (case aiY1 => k_is)
    (case iiY1 => k_is)
    (case liY1 => k_is)
    (case ciY1 => k_is)
    (case kiY1 => k_is)
    (case tiY1 => k_is)
    (case nY2 => k_is)
    (case hdY2 => k_is)
    (case tyY2 => k_is)
    (case suY2 => k_is)
    (case nY3 => k_is)
    (case hdY3 => k_is)
    (case tyY3 => k_is)
    (case suY3 => k_is)
    (case nY4 => k_is)
    (case hdY4 => k_is)
    (case tyY4 => k_is)
    (case suY4 => k_is)
    (case nYV => k_is)
    (case hdYV => k_is)
    (case tyYV => k_is)
    (case suYV => k_is)
    (case ebYV => k_is)
    (case nYB => k_is)
    (case hdYB => k_is)
    (case tyYB => k_is)
    (case suYB => k_is)
    (case ebYB => k_is)
    (case nYA => k_is)
    (case hdYA => k_is)
    (case tyYA => k_is)
    (case suYA => k_is)
    (case ebYA => k_is)
    (case s_Y1_Y0 => k_is)
    (case s_Y1_Y2 => k_is)
    (case s_Y1_Y3 => k_is)
    (case s_Y1_Y4 => k_is)
    (case s_Y1_YB => k_is)
    (case s_Y1_YV => k_is)
    (case s_Y1_YA => k_is)
    (case sfS => k_is)
    (case aSad => k_is)
    (case iSad => k_is)
    (case lSad => k_is)
    (case cSad => k_is)
    (case kSad => k_is)
    (case fiSad => k_is)
    (case aWe => k_is)
    (case lWe => k_is)
    (case cWe => k_is)
    (case kWe => k_is)
    (case aDi => k_is)
    (case lDi => k_is)
    (case cDi => k_is)
    (case kDi => k_is)
    (case aNa => k_is)
    (case lNa => k_is)
    (case cNa => k_is)
    (case kNa => k_is)
    (case aFr => k_is)
    (case lFr => k_is)
    (case cFr => k_is)
    (case kFr => k_is)
    (case aZg => k_is)
    (case lZg => k_is)
    (case cZg => k_is)
    (case kZg => k_is)
    (case aOd => k_is)
    (case lOd => k_is)
    (case cOd => k_is)
    (case kOd => k_is)
    (case alS_NoneType => k_is)
    (case alS_bool => k_is)
    (case alS_int => k_is)
    (case alS_str => k_is)
    (case alS_list => k_is)
    (case alS_tuple => k_is)
    (case alS_dict => k_is)
    (case aSe => k_is)
    (case lSe => k_is)
    (case cSe => k_is)
    (case kSe => k_is)
    (case aSa => k_is)
    (case lSa => k_is)
    (case cSa => k_is)
    (case kSa => k_is)
    (case aCg => k_is)
    (case lCg => k_is)
    (case cCg => k_is)
    (case kCg => k_is)
    (case aTx => k_is)
    (case lTx => k_is)
    (case cTx => k_is)
    (case kTx => k_is)
    (case aLn => k_is)
    (case lLn => k_is)
    (case cLn => k_is)
    (case kLn => k_is)
    (case aOf => k_is)
    (case lOf => k_is)
    (case cOf => k_is)
    (case kOf => k_is)
    (case aRo => k_is)
    (case lRo => k_is)
    (case cRo => k_is)
    (case kRo => k_is)
    (case aRi => k_is)
    (case lRi => k_is)
    (case cRi_ => k_is)
    (case kRi => k_is)
    (case lcRi => k_is)
    (case vRi => exact rfl)
    (case n_Ri => exact rfl)
    (case aLa => k_is)
    (case lLa => k_is)
    (case cLa => k_is)
    (case kLa => k_is)
