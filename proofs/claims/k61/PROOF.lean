import PyProof.Rows.All
import Wide.All
import OpenK.AllK
import Wide.FinOn
import HandS.ForMost
import HandS.WideBits
import HandS.Wide
import HandS.IsInst
import HandS.Property
import HandS.MakeKwOnly
import HandS.Defaults
import HandS.OwnEq
import HandS.Steps
import HandS.TupLe
import KE.GoesMore
import HandS.TupSets
import HandS.SetFor
import HandS.Strs
import PyProof.Rows.SortShellAny
import HandS.Words
import HandS.Style
import HandS.WordsDict
import HandS.More
import PyProof.Rows.RegStrFacts
import HandS.RaiseMore
import HandS.Text
import HandS.StrMore
import HandS.FStr
import KE.KCallOwn
import PyProof.EqKinds
import PyProof.Raises
import HandS.ClsMeth
import HandS.CallLocal
import HandS.Walk
import HandS.Iter
import KE.KOpsOwn
import PyProof.TwoTypes
import HandS.TupAny
import HandS.Star
import HandS.Zip
import KE.KTupSum
import HandS.SetBool
import KE.GoesNew
import HandS.DictComp
import HandS.SortRule
import KE.KSortedM
import PySem.Challenge.RW_ringvotes_k61_whole_cheapest_pipes
set_option Elab.async false
set_option maxRecDepth 100000
set_option maxHeartbeats 8000000
/-! What every law of this program shares: the well from which it draws, what is known of the heap, the end. -/
namespace RV
open PySem L2

/-! ### what is known of the heap -/
/-- a list of three ints from which numbers are drawn, at a; at most n draws so far -/
def WellAt (H : Hp) (a : Addr) (n : Nat) : Prop :=
  ∃ x y z : Int, H a = some (.lst [.int x, .int y, .int z]) ∧ (0 ≤ x ∧ x < 2147483629) ∧ 0 ≤ y ∧ (0 ≤ z ∧ z ≤ n)
/-- all but the well stands as it stood -/
def Grow (a : Addr) (H H' : Hp) : Prop := ∀ b o, b ≠ a → H b = some o → H' b = some o
theorem Grow.refl (a : Addr) (H : Hp) : Grow a H H := fun _ _ _ h => h
theorem Grow.trans {a : Addr} {H H1 H2 : Hp} (g : Grow a H H1) (k : Grow a H1 H2) : Grow a H H2 := fun b o n h => k b o n (g b o n h)
theorem Grow.new {a p : Addr} {H : Hp} {o : HO} (np : H p = none) : Grow a H (upd H p o) := fun b u _ h => by
  rw [upd_ne (ne_of_none h np)]
  exact h
/-- from the heap H0 on all but the well at a is kept; the well; things that stand elsewhere -/
structure Has (H0 : Hp) (a : Addr) (n : Nat) (L : List (Addr × HO)) (H : Hp) : Prop where
  gr : Grow a H0 H
  well : WellAt H a n
  here : ∀ p ∈ L, p.1 ≠ a ∧ H p.1 = some p.2
section
variable {a p : Addr} {n m : Nat} {L : List (Addr × HO)} {H0 H H' : Hp} {o : HO}
end

/-! ### the end -/
def spLaw (K : PySem.W.Frag) : Sp := fun vs H Q _ => ∃ (a : Addr) (ns : List Int), vs = [.ref a] ∧ SqL K H a (ns.map V.int) ∧ ns.length ≤ 63 ∧ ∀ H', Q (.bl true) H'
end RV
namespace RV
open PySem L2
section
variable {σ : L2.St} {H : Hp} {t : TT} {ta tb : TE} {Q : VK} {b : Bool}
/-- an int on either way: what follows is shown once -/
theorem tif_int (ht : Ans t σ H b) (ha : b = true → ∃ z : Int, Val ta σ H (.int z)) (hb : b = false → ∃ z : Int, Val tb σ H (.int z)) (k : ∀ z : Int, Q (.int z) H) : tIf t ta tb σ H Q := by
  refine ht _ ?_
  cases b with
  | true => exact iteT (let ⟨z, h⟩ := ha rfl; h _ (k z))
  | false => exact iteF (let ⟨z, h⟩ := hb rfl; h _ (k z))
end
/-- a function of the module, as its callers see it -/
def Fn (P : Program) (w : World) (K : PySem.W.Frag) (mg : Str → Option Value) (base : Heap) (x : Str) (k : Nat) (ps : List Str) (sp : Sp) : Prop :=
  ∃ f fd, mg x = some (.ref f) ∧ PySem.W.keepIn K (.ref f) = true ∧ Binds K fd ps [] ∧ FnOk P w K mg base CX0 k f fd ps sp
section
variable {X : Cx} {x : Str} {k : Nat} {ps : List Str} {sp : Sp} {e : Expr} {es : List Expr} {t : TA} {p pos : Pos}
theorem pe_fn (h : Fn X.prog X.w X.K X.mg X.base x k ps sp) (hr : Room k X.A) (ha : PA X (e :: es) t) (hg : Gl X x := by rfl) (hdb : (x == ("__debug__" : Str)) = false := by decide)
    (he : starEach (e :: es) X.env = (false, eval e X.env) :: starEach es X.env := by rfl) (hpl : (backTo pos (starEach es X.env)).any (·.1) = false := by rfl) :
    PE X (.Call (.Name x p) (e :: es) [] pos) (tCall sp [] E0 t) := by
  obtain ⟨f, fd, hm, hk, hb, F⟩ := h
  exact pe_call F hr hg hm hk hb .nil pass0 ha hdb he hpl
/-- a text, an int of the module's top -/
theorem pe_gS {z : Str} (h : ∃ u, X.mg x = some u ∧ RelV (.str z) u) (hg : Gl X x := by rfl) (hd : (x == ("__debug__" : Str)) = false := by decide) : PE X (.Name x pos) (tC (.str z)) := by
  obtain ⟨u, hm, r⟩ := h
  exact pe_glob hg hm r hd
theorem pe_gI {z : Int} (h : ∃ u, X.mg x = some u ∧ RelV (.int z) u) (hg : Gl X x := by rfl) (hd : (x == ("__debug__" : Str)) = false := by decide) : PE X (.Name x pos) (tC (.int z)) := by
  obtain ⟨u, hm, r⟩ := h
  exact pe_glob hg hm r hd
theorem pe_gC {C : Addr} (hm : X.mg x = some (.ref C)) (hg : Gl X x := by rfl) (hd : (x == ("__debug__" : Str)) = false := by decide) : PE X (.Name x pos) (tC (.ref C)) := pe_glob hg hm rfl hd
end
end RV
namespace RV
open PySem L2
/-! the same rules where the written part is a letter (within a comprehension's block) -/
section
variable {X : Cx} {K : PySem.W.Frag}
theorem op_inK (h : X.K = K := by rfl) : OpR X (compareOp .In) (rIn K false) := h ▸ op_in_seq
theorem op_notInK (h : X.K = K := by rfl) : OpR X (compareOp .NotIn) (rIn K true) := h ▸ op_notIn_seq
theorem ix_listK (h : X.K = K := by rfl) : IxR X (rIxL K) := h ▸ ix_list
theorem ix_tupK (h : X.K = K := by rfl) : IxR X (rIxT K) := h ▸ ix_tup
def rLenQ (K : PySem.W.Frag) : List V → Hp → VK → Prop := fun xs H Q => ∃ p ys, xs = [.ref p] ∧ (SqL K H p ys ∨ SqT K H p ys) ∧ Q (.int ys.length) H
theorem call_lenK (h : X.K = K := by rfl) : CallR X (.builtin "len") (rLenQ K) := h ▸ call_len_seq
end
end RV
/-! Names: what they are, by their signs. -/
namespace RV
open PySem L2
def lowC (c : Nat) : Bool := decide (97 ≤ c) && decide (c ≤ 122)
def digC (c : Nat) : Bool := decide (48 ≤ c) && decide (c ≤ 57)
def tailC (c : Nat) : Bool := lowC c || digC c
/-- one to eight signs, letters and digits, a letter first -/
def isNm : List Nat → Bool
  | [] => false
  | c :: r => lowC c && r.all tailC && decide (r.length ≤ 7)
def IsNm (x : Str) : Prop := isNm x.cps.toList = true
abbrev cd (x : Str) : List Nat := x.cps.toList
theorem cd_inj {x y : Str} (h : cd x = cd y) : x = y := PyProof.Rows.ext_toList h
theorem cd_app (x y : Str) : cd (x ++ y) = cd x ++ cd y := by
  show (x ++ y).cps.toList = _
  exact Array.toList_append
theorem cd_len (x : Str) : x.length = (cd x).length := by
  show x.cps.size = x.cps.toList.length
  rw [Array.length_toList]
theorem cd_one (c : Nat) : cd ⟨#[c]⟩ = [c] := rfl
theorem isNm_iff {l : List Nat} : isNm l = true ↔ ∃ c r, l = c :: r ∧ lowC c = true ∧ r.all tailC = true ∧ r.length ≤ 7 := by
  cases l with
  | nil => simp [isNm]
  | cons c r =>
    constructor
    · intro h
      simp only [isNm, Bool.and_eq_true, decide_eq_true_eq] at h
      exact ⟨c, r, rfl, h.1.1, h.1.2, h.2⟩
    · rintro ⟨c', r', e, h1, h2, h3⟩
      cases e
      simp [isNm, h1, h2, h3]
theorem isNm_len {l : List Nat} (h : isNm l = true) : 1 ≤ l.length ∧ l.length ≤ 8 := by
  obtain ⟨c, r, rfl, _, _, h3⟩ := isNm_iff.mp h
  simp
  omega
theorem isNm_snoc {l : List Nat} {c : Nat} (h : isNm l = true) (hl : l.length ≤ 7) (hc : tailC c = true) : isNm (l ++ [c]) = true := by
  obtain ⟨d, r, rfl, h1, h2, _⟩ := isNm_iff.mp h
  refine isNm_iff.mpr ⟨d, r ++ [c], rfl, h1, ?_, ?_⟩
  · rw [List.all_append, h2]
    simp [hc]
  · simp at hl ⊢
    omega
theorem tail_of_low {c : Nat} (h : lowC c = true) : tailC c = true := by simp [tailC, h]
theorem isNm_all {l : List Nat} (h : isNm l = true) : l.all tailC = true := by
  obtain ⟨d, r, rfl, h1, h2, _⟩ := isNm_iff.mp h
  simp only [List.all_cons, tail_of_low h1, h2, Bool.and_self]
theorem all_take {l : List Nat} {k : Nat} (h : l.all tailC = true) : (l.take k).all tailC = true := by
  rw [List.all_eq_true] at h ⊢
  exact fun x hx => h x (List.mem_of_mem_take hx)
/-- the first signs of a name with more signs behind it -/
theorem isNm_cut {l m : List Nat} {k : Nat} (h : isNm l = true) (hm : m.all tailC = true) (h1 : 1 ≤ k) (h8 : k ≤ 8) : isNm ((l ++ m).take k) = true := by
  obtain ⟨d, r, rfl, a1, a2, _⟩ := isNm_iff.mp h
  obtain ⟨j, rfl⟩ : ∃ j, k = j + 1 := ⟨k - 1, by omega⟩
  refine isNm_iff.mpr ⟨d, (r ++ m).take j, by simp, a1, all_take ?_, ?_⟩
  · rw [List.all_append, a2, hm]
    rfl
  · rw [List.length_take]
    omega
theorem isNm_take {l : List Nat} {k : Nat} (h : isNm l = true) (h1 : 1 ≤ k) (h8 : k ≤ 8) : isNm (l.take k) = true := by
  have := isNm_cut (m := []) h rfl h1 h8
  rwa [List.append_nil] at this
def signs : Str := "abcdefghijklmnopqrstuvwxyz0123456789"
theorem cd_signs : cd signs = [97, 98, 99, 100, 101, 102, 103, 104, 105, 106, 107, 108, 109, 110, 111, 112, 113, 114, 115, 116, 117, 118, 119, 120, 121, 122, 48, 49, 50, 51, 52, 53, 54, 55, 56, 57] := by decide +kernel
theorem sign_low : ∀ i : Fin 26, ∃ c, (cd signs)[i.val]? = some c ∧ lowC c = true := by
  rw [cd_signs]
  intro i
  have h : ∀ i : Fin 26, (match ([97, 98, 99, 100, 101, 102, 103, 104, 105, 106, 107, 108, 109, 110, 111, 112, 113, 114, 115, 116, 117, 118, 119, 120, 121, 122, 48, 49, 50, 51, 52, 53, 54, 55, 56, 57] : List Nat)[i.val]? with | some c => lowC c | none => false) = true := by decide
  have hi := h i
  split at hi
  · rename_i c e
    exact ⟨c, e, hi⟩
  · cases hi
theorem sign_tail : ∀ i : Fin 36, ∃ c, (cd signs)[i.val]? = some c ∧ tailC c = true := by
  rw [cd_signs]
  intro i
  have h : ∀ i : Fin 36, (match ([97, 98, 99, 100, 101, 102, 103, 104, 105, 106, 107, 108, 109, 110, 111, 112, 113, 114, 115, 116, 117, 118, 119, 120, 121, 122, 48, 49, 50, 51, 52, 53, 54, 55, 56, 57] : List Nat)[i.val]? with | some c => tailC c | none => false) = true := by decide
  have hi := h i
  split at hi
  · rename_i c e
    exact ⟨c, e, hi⟩
  · cases hi
theorem at_low {r : Int} (h0 : 0 ≤ r) (h : r < 26) : ∃ c, atI (cd signs) r = some c ∧ lowC c = true := by
  obtain ⟨n, rfl⟩ := Int.eq_ofNat_of_zero_le h0
  obtain ⟨c, e, hc⟩ := sign_low ⟨n, by omega⟩
  exact ⟨c, atI_nat e, hc⟩
theorem at_tail {r : Int} (h0 : 0 ≤ r) (h : r < 36) : ∃ c, atI (cd signs) r = some c ∧ tailC c = true := by
  obtain ⟨n, rfl⟩ := Int.eq_ofNat_of_zero_le h0
  obtain ⟨c, e, hc⟩ := sign_tail ⟨n, by omega⟩
  exact ⟨c, atI_nat e, hc⟩
/-! slices of texts -/
theorem cd_cutS (z : Str) (lo hi : Option Int) : cd (cutS z lo hi) = ((cd z).drop (HT.sIx z.length 0 lo)).take (HT.sIx z.length z.length hi - HT.sIx z.length 0 lo) := by
  show (((z.cps.toList.drop _).take _).toArray).toList = _
  rfl
theorem sIx_some (n d : Nat) (k : Nat) : HT.sIx n d (some (k : Int)) = min k n := by
  unfold HT.sIx
  simp
  omega
theorem sIx_none (n d : Nat) : HT.sIx n d none = d := rfl
theorem cd_pre (z : Str) (k : Nat) : cd (cutS z none (some (k : Int))) = (cd z).take k := by
  rw [cd_cutS, sIx_none, sIx_some, List.drop_zero, Nat.sub_zero, cd_len]
  rw [← List.take_take, List.take_length]
theorem inV_str (x : Str) (xs : List Str) : inV (.str x) (xs.map V.str) = decide (x ∈ xs) := by
  induction xs with
  | nil => rfl
  | cons y ys ih =>
    show (eqV (.str y) (.str x) || inV (.str x) (ys.map V.str)) = _
    rw [ih]
    show ((y == x) || decide (x ∈ ys)) = _
    by_cases e : y = x
    · subst e
      simp
    · have e' : ¬ x = y := fun h => e h.symm
      simp [e, e']
theorem flat_str (xs : List Str) : (xs.map V.str).all flatV = true := by
  rw [List.all_eq_true]
  intro v hv
  obtain ⟨x, _, rfl⟩ := List.mem_map.mp hv
  rfl
/-- of more different things than a list has one is not in it -/
theorem one_free {α : Type} [DecidableEq α] : ∀ {ys xs : List α}, ys.Nodup → xs.length < ys.length → ∃ y ∈ ys, y ∉ xs
  | [], xs, _, h => by simp at h
  | y :: ys, xs, hn, h => by
    by_cases hy : y ∈ xs
    · obtain ⟨hy', hn'⟩ := List.nodup_cons.mp hn
      have hl : (xs.erase y).length < ys.length := by
        rw [List.length_erase_of_mem hy]
        have : 0 < xs.length := List.length_pos_of_mem hy
        simp at h
        omega
      obtain ⟨z, hz, hzx⟩ := one_free hn' hl
      refine ⟨z, List.mem_cons_of_mem _ hz, fun q => hzx ?_⟩
      have hne : z ≠ y := fun e => hy' (e ▸ hz)
      exact (List.mem_erase_of_ne hne).mpr q
    · exact ⟨y, List.mem_cons_self, hy⟩
/-! walks over any thing that is walked in order -/
theorem lc_it {J : It} {n : Nat} {g : TG} {tt : TT} {te : TE} {vs : List Nat} {σ : L2.St} {H1 : Hp} {D : Addr} {Qd : Hp → Prop} (Pv : Nat → Hp → Prop)
    (hgo : ∀ i H, i < n → Pv i H → J.go i H) (hst : ∀ H, Pv n H → J.stop n H) (h0 : Pv 0 (upd H1 D (.lst [])))
    (hs : ∀ i x H H', i < n → Pv i H → J.yld i H x H' → g x (wipe σ vs) H' fun σ2 H2 => wipe σ2 vs = wipe σ vs ∧ tt σ2 H2 fun b H3 =>
      if b = true then te σ2 H3 fun y H4 => ∃ acc, H4 D = some (.lst acc) ∧ acc.length < sizeLine ∧ Pv (i + 1) (upd H4 D (.lst (acc ++ [y]))) else Pv (i + 1) H3) (hd : ∀ H, Pv n H → Qd H) :
    ∃ W : Nat → Nat → Hp → Prop, (∃ m, W 0 m (upd H1 D (.lst []))) ∧ ∀ i m H, W i m H →
      (J.stop i H ∧ Qd H) ∨ (J.go i H ∧ ∃ Nx : Hp → Prop, (∀ H', Nx H' → ∃ m', m' < m ∧ W (i + 1) m' H') ∧ ∀ x H', J.yld i H x H' → g x (wipe σ vs) H' fun σ2 H2 => wipe σ2 vs = wipe σ vs ∧ tt σ2 H2 fun b H3 =>
        if b = true then te σ2 H3 fun y H4 => ∃ acc, H4 D = some (.lst acc) ∧ acc.length < sizeLine ∧ Nx (upd H4 D (.lst (acc ++ [y]))) else Nx H3) := by
  refine ⟨fun i m H => m = n - i ∧ i ≤ n ∧ Pv i H, ⟨n, by simp, Nat.zero_le _, h0⟩, ?_⟩
  rintro i m H ⟨rfl, hi, p⟩
  by_cases hlt : i < n
  · refine .inr ⟨hgo i H hlt p, Pv (i + 1), fun H' p' => ⟨n - (i + 1), by omega, rfl, hlt, p'⟩, fun x H' y => ?_⟩
    exact hs i x H H' hlt p y
  · have e : i = n := by omega
    subst e
    exact .inl ⟨hst H p, hd H p⟩
theorem lc_str {z : Str} {g : TG} {tt : TT} {te : TE} {vs : List Nat} {σ : L2.St} {H1 : Hp} {D : Addr} {Qd : Hp → Prop} (Pv : Nat → Hp → Prop) (h0 : Pv 0 (upd H1 D (.lst [])))
    (hs : ∀ i c H, (cd z)[i]? = some c → Pv i H → g (.str ⟨#[c]⟩) (wipe σ vs) H fun σ2 H2 => wipe σ2 vs = wipe σ vs ∧ tt σ2 H2 fun b H3 =>
      if b = true then te σ2 H3 fun y H4 => ∃ acc, H4 D = some (.lst acc) ∧ acc.length < sizeLine ∧ Pv (i + 1) (upd H4 D (.lst (acc ++ [y]))) else Pv (i + 1) H3) (hd : ∀ H, Pv (cd z).length H → Qd H) :
    ∃ W : Nat → Nat → Hp → Prop, (∃ m, W 0 m (upd H1 D (.lst []))) ∧ ∀ i m H, W i m H →
      ((Its z).stop i H ∧ Qd H) ∨ ((Its z).go i H ∧ ∃ Nx : Hp → Prop, (∀ H', Nx H' → ∃ m', m' < m ∧ W (i + 1) m' H') ∧ ∀ x H', (Its z).yld i H x H' → g x (wipe σ vs) H' fun σ2 H2 => wipe σ2 vs = wipe σ vs ∧ tt σ2 H2 fun b H3 =>
        if b = true then te σ2 H3 fun y H4 => ∃ acc, H4 D = some (.lst acc) ∧ acc.length < sizeLine ∧ Nx (upd H4 D (.lst (acc ++ [y]))) else Nx H3) :=
  lc_it (J := Its z) (n := (cd z).length) Pv (fun i _ h _ => by
    show i < z.cps.size
    rwa [← Array.length_toList]) (fun _ _ => by
    show z.cps.size ≤ (cd z).length
    rw [← Array.length_toList]
    exact Nat.le_refl _) h0 (fun i x H H' hi p y => by
    obtain ⟨e, c, hc, ex⟩ := y
    subst e ex
    exact hs i c H' (by rw [← hc]; exact Array.getElem?_toList ..) p) hd
end RV
namespace RV
open PySem L2
/-- what follows a statement is shown once, from what the statement leaves -/
theorem seq_of {t R : TS} {D : Ends} {σ : L2.St} {H : Hp} (mid : L2.St → Hp → Prop) (h2 : ∀ σ' H', mid σ' H' → R D σ' H') (h1 : ∀ N : L2.St → Hp → Prop, (∀ σ' H', mid σ' H' → N σ' H') → t { D with nx := N } σ H) : tSeq t R D σ H := h1 (R D) h2
theorem szn {n : Nat} (h : n ≤ 1000) : n ≤ sizeLine := Nat.le_trans h (by decide)
theorem strOk_nm {x : Str} (h : IsNm x) : PyData.strOk x = true := by
  have h1 := List.all_eq_true.mp (isNm_all h)
  unfold PyData.strOk
  rw [← Array.all_toList, List.all_eq_true]
  intro c hc
  have q := h1 c hc
  simp only [tailC, lowC, digC, Bool.or_eq_true, Bool.and_eq_true, decide_eq_true_eq] at q
  exact decide_eq_true (by omega)
theorem shaped_strs {xs : List Str} (h : ∀ x ∈ xs, IsNm x) : SeqAt.shaped (.list (xs.map PyData.str)) = true := by
  have h1 : ∀ xs : List Str, (∀ x ∈ xs, IsNm x) → PyData.canLayAll0 (xs.map PyData.str) = true := by
    intro xs
    induction xs with
    | nil => intro _; simp [PyData.canLayAll0]
    | cons x xs ih =>
      intro h
      have a := strOk_nm (h x List.mem_cons_self)
      have b := ih fun y hy => h y (List.mem_cons_of_mem _ hy)
      simp [PyData.canLayAll0, PyData.canLay0, a, b]
  have h2 : ∀ xs : List Str, PyData.depthAll (xs.map PyData.str) = 0 := by
    intro xs
    induction xs with
    | nil => simp [PyData.depthAll]
    | cons x xs ih => simp [PyData.depthAll, PyData.depth, ih]
  simp [SeqAt.shaped, PyData.canLay0, PyData.depth, h1 xs h, h2]
theorem shaped_nil : SeqAt.shaped (.list []) = true := by simp [SeqAt.shaped, PyData.canLay0, PyData.canLayAll0, PyData.depth, PyData.depthAll]
end RV
/-! Rules for own classes: ==, !=, truth; repr of data. -/
namespace PySem.W
open PySem PySem.Calls PyProof.Rows Builtin
section
variable {prog : Program} {w : World} {A : Around} {E : Value → Shared → Prop} {s : Shared} {K : Frag} {x C L f : Addr} {h₀ : Heap} {m : Str → Option Value} {ox : Obj} {od : Option Obj} {b tb : Value}
/-- the default !=, by the class's own == that gives a bool -/
theorem rv_ne_K {Q : Value → Shared → Prop} (hu : A.units + 1 < cLine) (F : Fr h₀ L s.heap m) (X₀ : K.In h₀) (I : InstAt s.heap x ox C od) (hb : Looks (model prog w) s.heap (typeOf b) tb) (hn : notFirst K C tb = true)
    (hs : findIn K (.ref C) "__eq__" = some (some (.ref f))) (hf : isFn K (.ref f) = true) (hne : findIn K (.ref C) "__ne__" = some (some (.builtin "object.__ne__"))) (hob : subIn K (.ref C) (.type "object") = some true)
    (h : wpAny (model prog w) A.in1 (call (.ref f) [.ref x, b]) (fun v s' => ∃ c, v = .bool c ∧ Q (.bool (!c)) s') E s) : wpAny (model prog w) A (richCompare .NotEq (.ref x) b) Q E s := by
  have X := X₀.keeps F.keep
  have entry : wpAny (model prog w) A.in1 (Builtin.«object.__ne__» ⟨[.ref x, b], []⟩) (fun fin s' => ∃ v, fin = .done (.ret v) ∧ ∃ c, v = .bool (!c) ∧ Q (.bool (!c)) s') E s := by
    unfold Builtin.«object.__ne__»
    refine wpAny_bind (m := slotArgs "__ne__" 1 _) (wpAny_pure ?_)
    refine wpAny_bind (wpAny_cRoomFor (show A.units + 1 < cLine from hu) ?_)
    refine wpAny_bind (m := callSpecialIfBound? (.ref x) (Str.ofString "__eq__") [b]) (ifBound_K X I hs hf (wpAny_mono h (fun v s' hv => ?_) fun _ _ e => e))
    obtain ⟨c, rfl, hq⟩ := hv
    refine wpAny_bind (m := truthy (.bool c)) (wpAny_truthy_bool ?_)
    exact wpAny_pure ⟨_, rfl, c, rfl, hq⟩
  have chk : wpAny (model prog w) A.in1 (checkBuiltinCall "object.__ne__" ⟨[.ref x, b], []⟩) (fun _ s1 => s1 = s) E s := by
    simp only [checkBuiltinCall, PySem.F.cmpKind_ne, PySem.F.cmpSplit_ne]
    refine wpAny_bind ?_
    unfold isInstance
    refine wpAny_bind (I.type.here ?_)
    refine (looks_subIn X hob).here ?_
    have ha : argsOk "object.__ne__" ⟨[.ref x, b], []⟩ := PySem.F.cmpArgs_ne _ _
    cases hsig : Manifest.signature? "object.__ne__" with
    | none => exact wpAny_pure rfl
    | some sig =>
      simp only [argsOk, hsig] at ha
      have h2 : Bind.checkArgs "object.__ne__" sig ⟨[.ref x, b], []⟩ = pure () := ha
      show wpAny _ A.in1 (Bind.checkArgs "object.__ne__" sig ⟨[.ref x, b], []⟩) _ E _
      rw [h2]
      exact wpAny_pure rfl
  have callne : wpAny (model prog w) A (call (.builtin "object.__ne__") [.ref x, b]) (fun v s' => ∃ c, v = .bool (!c) ∧ Q (.bool (!c)) s') E s := by
    refine wpAny_call (codeAny_call_builtin PySem.F.slot_object_ne.plain PySem.F.cmpEntry_ne (wpAny_mono chk (fun _ s1 e => ?_) fun _ _ e => e))
    subst e
    refine wpAny_mono entry (fun fin s' hq => ?_) fun _ _ e => e
    obtain ⟨v, rfl, c, rfl, q⟩ := hq
    exact ⟨c, rfl, q⟩
  have one : wpAny (model prog w) A (tryCompare (.ref x) "__ne__" b) (fun r s' => ∃ v, r = some v ∧ Q v s') E s := by
    unfold tryCompare
    refine wpAny_bind (m := callSpecialIfBound? (.ref x) (Str.ofString "__ne__") [b]) ?_
    simp only [callSpecialIfBound?, bindSpecialIfBound?]
    refine wpAny_holding (wpAny_bind (wpAny_bind (wpAny_bind (I.type.here ((looks_findIn X hne).here ?_)))))
    simp only [PySem.F.slot_object_ne.bind]
    refine wpAny_bind (wpAny_askSetting (wpAny_ite ?_))
    have fin : ∀ R : Option Value → Shared → Prop, (∀ (c : Bool) s', Q (.bool (!c)) s' → R (some (.bool (!c))) s') → wpAny (model prog w) A (call (.builtin "object.__ne__") ([.ref x] ++ [b]) >>= fun v => pure (some v)) R E s := by
      intro R hR
      refine wpAny_bind (wpAny_mono callne (fun v s' hq => ?_) fun _ _ e => e)
      obtain ⟨c, rfl, q⟩ := hq
      exact wpAny_pure (hR c s' q)
    split
    · exact wpAny_bind (wpAny_pure (wpAny_pure (fin _ fun c s' q => wpAny_pure ⟨_, rfl, q⟩)))
    · exact wpAny_tryCatch (wpAny_bind (wpAny_pure (wpAny_pure (fin _ fun c s' q => wpAny_pure ⟨_, rfl, q⟩))))
  unfold richCompare
  simp only [oneThing_ref]
  refine wpAny_holding (wpAny_bind (wpAny_cRoomFor (Nat.lt_of_succ_lt hu) ?_))
  rw [cmpInfo_NotEq]
  dsimp only
  refine wpAny_bind (I.type.here (wpAny_bind (hb.here ?_)))
  split
  · rename_i q
    have e : subIn K tb (.ref C) = some false := by
      rcases Bool.or_eq_true_iff.mp hn with e | e
      · rw [beq_iff_eq.mp e] at q; simp at q
      · exact beq_iff_eq.mp e
    refine wpAny_bind ((looks_subIn X e).here ?_)
    simp only [Bool.false_eq_true, if_false]
    refine wpAny_bind (wpAny_mono one (fun r s' z => ?_) fun _ _ e => e)
    obtain ⟨v, rfl, hq⟩ := z
    exact wpAny_pure hq
  · refine wpAny_bind (wpAny_pure ?_)
    simp only [Bool.false_eq_true, if_false]
    refine wpAny_bind (wpAny_mono one (fun r s' z => ?_) fun _ _ e => e)
    obtain ⟨v, rfl, hq⟩ := z
    exact wpAny_pure hq
end
end PySem.W

namespace RV
open PySem L2
/-- the kind of a value, for a comparison -/
inductive TyL (H : Hp) : V → Value → Prop where
  | non : TyL H .non (.type "NoneType")
  | bl (b : Bool) : TyL H (.bl b) (.type "bool")
  | int (i : Int) : TyL H (.int i) (.type "int")
  | str (x : Str) : TyL H (.str x) (.type "str")
  | lst {a : Addr} {xs : List V} (e : H a = some (.lst xs)) : TyL H (.ref a) (.type "list")
  | tup {a : Addr} {xs : List V} (e : H a = some (.tup xs)) : TyL H (.ref a) (.type "tuple")
  | dK {a : Addr} {kvs : List (Key × V)} (e : H a = some (.dK kvs)) : TyL H (.ref a) (.type "dict")
  | ins {a C dx : Addr} {fs : List (Str × V)} (e : H a = some (.ins C dx fs)) : TyL H (.ref a) (.ref C)
section
variable {X : Cx} {pins : List (Addr × Obj)} {σ : L2.St} {H : Hp} {s : Shared}
/-- the class C has an own == that promises sp, and no own != -/
structure OwnEq (P : Program) (w : World) (K : PySem.W.Frag) (mg : Str → Option Value) (base : Heap) (C : Addr) (k : Nat) (sp : Sp) : Prop where
  fn : ∃ f fd ps, PySem.W.findIn K (.ref C) "__eq__" = some (some (.ref f)) ∧ PySem.W.isFn K (.ref f) = true ∧ Binds K fd ps [] ∧ FnOk P w K mg base CX0 k f fd ps sp
  ne : PySem.W.findIn K (.ref C) "__ne__" = some (some (.builtin "object.__ne__"))
  ob : PySem.W.subIn K (.ref C) (.type "object") = some true
@[irreducible] def rEqO (neg : Bool) (K : PySem.W.Frag) (C : Addr) (sp : Sp) : R2 := fun x y H Q => ∃ a dx fs t, x = .ref a ∧ H a = some (.ins C dx fs) ∧ TyL H y t ∧ PySem.W.notFirst K C t = true ∧
  sp [x, y] H (fun v H' => ∃ b, v = .bl b ∧ Q (.bl (if neg then !b else b)) H') E0
variable {P : Program} {w : World} {K : PySem.W.Frag} {mg : Str → Option Value} {base : Heap} {C : Addr} {k : Nat} {sp : Sp}
/-- an instance of a class without a truth or a length of its own is true -/
def rTrO (C : Addr) : V → Hp → (Bool → Hp → Prop) → Prop := fun x H Q => ∃ a dx fs, x = .ref a ∧ H a = some (.ins C dx fs) ∧ Q true H
/-! ### repr -/
mutual
theorem Dp.noDict {K : PySem.W.Frag} {H : Hp} : ∀ {v : V} {d : PyData}, Dp K H v d → d.hasDict = false
  | _, _, .non => by simp [PyData.hasDict]
  | _, _, .bl _ => by simp [PyData.hasDict]
  | _, _, .int _ => by simp [PyData.hasDict]
  | _, _, .str _ => by simp [PyData.hasDict]
  | _, _, .lst _ h => by simp [PyData.hasDict, DpAll.noDict h]
  | _, _, .tup _ h => by simp [PyData.hasDict, DpAll.noDict h]
theorem DpAll.noDict {K : PySem.W.Frag} {H : Hp} : ∀ {vs : List V} {ds : List PyData}, DpAll K H vs ds → PyData.hasDictAll ds = false
  | _, _, .nil => by simp [PyData.hasDictAll]
  | _, _, .cons h t => by simp [PyData.hasDictAll, Dp.noDict h, DpAll.noDict t]
end
@[irreducible] def rRepr (K : PySem.W.Frag) : List V → Hp → VK → Prop := fun xs H Q => ∃ a d, xs = [.ref a] ∧ Dp K H (.ref a) d ∧ d.showable = true ∧ d.depth ≤ 60 ∧ d.shown.length ≤ sizeLine ∧ Q (.str d.shown) H
theorem call_reprD (hu : X.A.units + 64 < cLine) (hg : X.A.guards = some []) : CallR X (.builtin "repr") (rRepr X.K) := by
  intro pins s σ H xs us Q I r h
  unfold rRepr at h
  obtain ⟨a, d, rfl, hd, hs, hdp, hsz, q⟩ := h
  obtain ⟨as, rd⟩ := Dp.reads I d _ _ hd (rfl : RelV (.ref a) (.ref a))
  have eu : us = [.ref a] := by
    cases r with
    | cons r1 r2 => cases r2; cases r1; rfl
  subst eu
  have nod : d.hasDict = true → sysModules ∉ as := fun hh => by
    rw [Dp.noDict hd] at hh
    cases hh
  refine repr_of_reads' rd hs nod hg (by omega) (fun _ _ e => e) (fun h' u tk hk => ⟨.str d.shown, H, I.kept hk, ⟨u, rfl⟩, q⟩) hsz
end
end RV
/-! Defs that must not run within a repr: as FnOk, but only where no repr is under way. -/
namespace RV
open PySem L2 PyProof.Rows
section
variable {P : Program} {w : World} {K : PySem.W.Frag} {mg : Str → Option Value} {base : Heap}
structure FnG (P : Program) (w : World) (K : PySem.W.Frag) (mg : Str → Option Value) (base : Heap) (k : Nat) (f : Addr) (fd : FuncData) (ps : List Str) (sp : Sp) : Prop where
  len : ∀ vs H Q E, sp vs H Q E → vs.length = ps.length
  run : ∀ (A : Around) (outer : List Env) (s : Shared) (H : Hp) (args : Args) (us : List Value) (vs : List V) (Q : VK) (E : XK), A.guards = some [] → Room k A → Env0 P w K mg base A outer s H → BindsTo s fd args (ps.zip us) → Vals vs us → sp vs H Q E →
    codeAny (model P w) A (.call (.ref f) args) (CR CX0 outer P w H s Q E) s
theorem gFun {x qual : Str} {st : Stmt} {f : Addr} {fd : FuncData} {N ps : List Str} {k : Nat} {sp : Sp} (F : Fun K x qual st f fd) (S : FnScope N ps (defScope st)) (len : ∀ vs H Q E, sp vs H Q E → vs.length = ps.length)
    (hbody : ∀ (cdv : Value) (A : Around) (outer : List Env) (s : Shared) (H : Hp) (vs : List V) (Q : VK) (E : XK), (A.deeper (envOfC qual (defScope st) s.heap.objs.size f cdv)).guards = some [] → Room k (A.deeper (envOfC qual (defScope st) s.heap.objs.size f cdv)) → sp vs H Q E →
      ∃ t, PSs (cxOf CX0 P w K mg base N qual (defScope st) f cdv A outer s H E).nox (defBody st) t ∧ t { nx := fun _ H' => Q .non H', rt := Q } (start N vs) H) : FnG P w K mg base (k + 1) f fd ps sp := by
  refine ⟨len, fun A outer s H args us vs Q E gs hr e0 hb r hsp => ?_⟩


  obtain ⟨oc, od, kV, doc, pm, an, cdv, ct, osl, rfl, lk, hcd⟩ := F.ex
  have hl := len _ _ _ _ hsp
  have KX : K.In s.heap := e0.mod.kin.keeps fun b o e => (e0.bs b o e).1
  have lim := e0.mod.nolimit.keeps fun b o e => (e0.bs b o e).1
  refine codeAny_call_function hr.depth (KX _ _ lk) rfl S.co S.gen rfl (PySem.W.codeRec_of KX hcd) (hb _ _ _ _ ?_)
  refine wpAny_newFunctionEnv_cells S.kind (fun y hy => ?_) fun env he s1 x => ?_
  · have hin : y.1 ∈ ps := by
      obtain ⟨n, v⟩ := y
      exact (List.of_mem_zip hy).1
    exact (S.par _ hin).imp id fun q => ⟨q, PySem.W.cellsFrom_some _ _ _ (.inl q)⟩
  subst he
  refine ⟨lim.keeps x.toInCall.keep, codeAny_func ?_⟩
  obtain ⟨t, ht, hq⟩ := hbody cdv A outer s H vs Q E gs (hr.deeper _) hsp
  have I := inv_start (CX := CX0) (cd := cdv) (E := E) S hr.hd e0 hl r x
  refine wpAny_mono (ht.nox.run [] s1 (start N vs) H _ I hq) (fun fl s' hs => ?_) fun _ _ hs => hs
  match fl, hs with
  | .ret u, ⟨v, _, H', J, rv, q⟩ => exact ⟨v, H', J.os, J.bare, J.base, J.hok, rv, q⟩
  | .next, ⟨_, H', J, q⟩ => exact ⟨V.non, H', J.os, J.bare, J.base, J.hok, rfl, q⟩
  | .brk, ⟨_, _, _, q⟩ => exact q.elim
  | .cont, ⟨_, _, _, q⟩ => exact q.elim
/-- such a function of the module, as its callers see it -/
def FnGd (P : Program) (w : World) (K : PySem.W.Frag) (mg : Str → Option Value) (base : Heap) (x : Str) (k : Nat) (ps : List Str) (sp : Sp) : Prop :=
  ∃ f fd, mg x = some (.ref f) ∧ PySem.W.keepIn K (.ref f) = true ∧ Binds K fd ps [] ∧ FnG P w K mg base k f fd ps sp
end
section
variable {X : Cx} {x : Str} {k : Nat} {ps : List Str} {sp : Sp} {e : Expr} {es : List Expr} {t : TA} {p pos : Pos}
theorem pe_fnG (h : FnGd X.prog X.w X.K X.mg X.base x k ps sp) (gs : X.A.guards = some []) (hr : Room k X.A) (ha : PA X (e :: es) t) (hg : Gl X x := by rfl) (hdb : (x == ("__debug__" : Str)) = false := by decide)
    (he : starEach (e :: es) X.env = (false, eval e X.env) :: starEach es X.env := by rfl) (hpl : (backTo pos (starEach es X.env)).any (·.1) = false := by rfl) :
    PE X (.Call (.Name x p) (e :: es) [] pos) (tCall sp [] E0 t) := by
  obtain ⟨f, fd, hm, hk, hb, F⟩ := h
  refine ⟨fun pins s σ H Q I h => wpAny_Call_Name_kw (ld_glob I hg hm ?_ hdb)⟩
  refine PySem.W.callWith_K (h₀ := X.base) I.ok.mod.kin hk (thn (ha.run pos pins s σ H _ I h) fun us s1 ⟨vs, H1, I1, r, q⟩ => ⟨I1.kIn, ?_⟩) he hpl
  have q' : sp vs H1 Q E0 := by rw [← List.append_nil vs]; exact q
  have hl : us.length = ps.length := r.length ▸ F.len _ _ _ _ q'
  have hbb : BindsTo s1 fd ⟨us, []⟩ (ps.zip us) := by
    have z := hb s1 us I1.kIn (by rw [List.append_nil]; exact hl)
    rwa [List.append_nil] at z
  refine wpAny_call (codeAny_mono (F.run X.A X.stack s1 H1 ⟨us, []⟩ us vs Q E0 gs hr I1.env0 hbb r q') fun res s' hq => ?_)
  match res, hq with
  | .ok (.ret u), hq => exact I1.after hq
  | .ok .next, hq => exact False.elim hq
  | .ok .brk, hq => exact False.elim hq
  | .ok .cont, hq => exact False.elim hq
  | .error e, hq => exact False.elim hq
end
/-- the law's own call: nothing is tracked but the script -/
theorem callG {P : Program} {w : World} {K : PySem.W.Frag} {mg mb : Str → Option Value} {k : Nat} {fa a : Addr} {fd : FuncData} {x : Str} {sp : Sp} {s₁ : Shared} {vs : List Value} {ns : List Int}
    (KX : K.In s₁.heap) (hns : s₁.heap.Ns mainGlobals mg) (hb : s₁.heap.Ns builtinsNs mb) (hbb : ∀ x : Str, x ≠ "__name__" → mb x = bootBuiltins x) (hlim : s₁.heap.NoLimit) (hg : s₁.gens = #[])
    (ha : s₁.heap.get? a = some { cls := .type "list", data := .seq vs.toArray }) (hi : IntsAre vs ns) (hl : ns.length ≤ sizeLine) (hr : Room k callerA)
    (F : ∀ base : Heap, K.In base → base.Ns mainGlobals mg → FnG P w K mg base k fa fd [x] sp) (hbind : ∀ (s : Shared) (u : Value), BindsTo s fd ⟨[u], []⟩ [(x, u)])
    (hsp : ∀ H : Hp, SqL K H a (ns.map V.int) → sp [.ref a] H (fun v _ => v = .bl true) E0) :
    codeAny (model P w) callerA (.call (.ref fa) ⟨[.ref a], []⟩) (fun r s' => r = .ok (.ret (.bool true)) ∧ OldK s₁.heap s'.heap ∧ s'.os = s₁.os ∧ AllBare s'.gens) s₁ := by
  have rv := vals_ints hi
  let scr : Obj := { cls := .type "list", data := .seq vs.toArray }
  -- H tracks at most the script, locked
  have core : ∀ H : Hp, (∀ b u, H b = some u → b = a ∧ u = .frz scr (.lst (ns.map V.int)) ∧ K.lookup a = none) → SqL K H a (ns.map V.int) →
      codeAny (model P w) callerA (.call (.ref fa) ⟨[.ref a], []⟩) (fun r s' => r = .ok (.ret (.bool true)) ∧ OldK s₁.heap s'.heap ∧ s'.os = s₁.os ∧ AllBare s'.gens) s₁ := by
    intro H hO hS
    have hok : HOk P w H s₁.heap := fun b u e => by
      obtain ⟨rfl, rfl, _⟩ := hO b u e
      exact ⟨ha, by rw [List.length_map]; exact hl, vs, _, rv, ha⟩
    have other : ∀ {b : Addr} {o : Obj}, s₁.heap.get? b = some o → o ≠ scr → H b = none := fun {b o} e d => by
      cases q : H b with
      | none => rfl
      | some u =>
        obtain ⟨rfl, _, _⟩ := hO b u q
        rw [ha] at e
        exact absurd (Option.some.inj e).symm d
    have spaces : ∀ {b : Addr} {m : Str → Option Value}, s₁.heap.Ns b m → (hidT s₁.heap H).Ns b m := fun {b m} z => by
      obtain ⟨o, es, ep, e, d, r⟩ := z
      refine ⟨o, es, ep, hidT_get e (other e fun q => ?_), d, r⟩
      subst q
      obtain ⟨_, d'⟩ := d
    have kin : K.In (hidT s₁.heap H) := fun b o e => hidT_get (KX b o e) (by
      cases q : H b with
      | none => rfl
      | some u =>
        obtain ⟨rfl, _, z⟩ := hO b u q
        rw [z] at e
        cases e)
    obtain ⟨mc, l1, l2⟩ := hlim
    have e0 : Env0 P w K mg (hidT s₁.heap H) callerA [] s₁ H :=
      { frames := rfl, mod := ⟨kin, spaces hns, ⟨mb, spaces hb, hbb⟩, ⟨mc, spaces l1, l2⟩⟩, bs := fun _ _ e => of_hidT e, bsz := Nat.le_of_eq (hidT_size _ _), funs := trivial, frf := fun _ hb => (nomatch hb), hok := hok, bare := .of_eq hg }
    refine codeAny_mono ((F _ kin (spaces hns)).run callerA [] s₁ H ⟨[.ref a], []⟩ [.ref a] [.ref a] _ _ rfl hr e0 (hbind s₁ (.ref a)) (.cons rfl .nil) (hsp H hS)) fun res s' z => ?_
    match res, z with
    | .ok (.ret u), ⟨v, H', os, bare, un, hok', rel, ev⟩ =>
      have ev' : v = .bl true := ev
      subst ev'
      have eu : u = Value.bool true := rel
      subst eu
      refine ⟨rfl, OldK.of_keep fun b o e => ?_, os, bare⟩
      cases q : H b with
      | none => exact un.keep b o e q (fun z => nomatch z) (fun z => nomatch z)
      | some u =>
        obtain ⟨rfl, rfl, _⟩ := hO b u q
        have z1 := (hok' b _ (un.frzs b _ _ q)).1
        rw [ha] at e
        rw [← e]
        exact z1
    | .ok .next, z => exact False.elim z
    | .ok .brk, z => exact False.elim z
    | .ok .cont, z => exact False.elim z
    | .error e, z => exact False.elim z
  cases hk : K.lookup a with
  | some o =>
    have e := KX a o hk
    rw [ha] at e
    cases e
    exact core (fun _ => none) (fun _ _ z => nomatch z) (.inr ⟨_, vs.toArray, _, hk, rfl, rfl, rfl, by rw [List.size_toArray, hi.length]; exact hl, by simpa using rv⟩)
  | none =>
    refine core (fun b => if b = a then some (.frz scr (.lst (ns.map V.int))) else none) (fun b u z => ?_) (.inl (.inr ⟨scr, if_pos rfl⟩))
    by_cases hb : b = a
    · rw [if_pos hb] at z
      exact ⟨hb, (Option.some.inj z).symm, hk⟩
    · rw [if_neg hb] at z
      cases z
theorem walkG (k : Nat) {l : PySem.W.OpenLaw} {q : Program} {loose : List Str} {XP : (Str → Option Value) → Heap → Prop} {YP : World → Heap → Prop} {d : DefRec} {K : Params → PySem.W.Frag} (hr : Room k callerA) (hn : l.most = some 63) (hdf : d.params.defaults = [])
    (hY : ∀ (w : World) (h : Heap), YP w h → (K w.params).In h)
    (F : ∀ (w : World) (mg : Str → Option Value) (fa : Addr) (h : Heap), (K w.params).In h → h.Ns mainGlobals mg → mg d.name = some (.ref fa) →
      ∃ fd : FuncData, (∀ (s : Shared) (u : Value), BindsTo s fd ⟨[u], []⟩ [("_law_cells", u)]) ∧ ∀ base : Heap, (K w.params).In base → base.Ns mainGlobals mg → FnG l.prog w (K w.params) mg base k fa fd ["_law_cells"] (spLaw (K w.params))) :
    PySem.W.WalkO q loose XP YP l.row.toRowW d [] (fun f vs => PySem.call f vs) := by
  refine Att.attach_call hn hdf fun w s₀ s₁ mg mb fa o pm cd doc a vs ns G Y ho hd hcd hmg hobj hints hlen hg => ?_
  obtain ⟨fd, hb, hF⟩ := F w mg fa _ (hY w _ Y) G.T.g hmg
  exact callG (hY w _ Y) G.T.g G.T.b G.T.builtins G.T.nolimit hg hobj hints (Nat.le_trans hlen (by decide)) hr hF hb fun H hS => ⟨a, ns, rfl, hS, hlen, fun _ => rfl⟩
end RV
/-! Classes of the text, as their callers see them. -/
namespace RV
open PySem L2 PyProof.Rows
/-- the class x of the module stands at C; C(..) of positional values, the defaults dvs behind them -/
def Mkr (P : Program) (w : World) (K : PySem.W.Frag) (mg : Str → Option Value) (base : Heap) (x : Str) (C : Addr) (k : Nat) (sp : Sp) (dvs : List V) : Prop :=
  mg x = some (.ref C) ∧ ∃ f fd ps ds, Mk K C f ∧ Binds K fd ps ds ∧ Vals dvs ds ∧ FnOk P w K mg base CX0 k f fd ps sp
def MkrK (P : Program) (w : World) (K : PySem.W.Frag) (mg : Str → Option Value) (base : Heap) (x : Str) (C : Addr) (k n : Nat) (ks : List Str) (sp : Sp) (gV : List V → List V → List V) : Prop :=
  mg x = some (.ref C) ∧ ∃ f fd ps g, Mk K C f ∧ KBn K fd ps (n + 1) ks g gV ∧ FnOk P w K mg base CX0 k f fd ps sp
/-- what isinstance asks of a class of the text -/
structure ClsX (K : PySem.W.Frag) (C : Addr) : Prop where
  cl : Cls K C
  ha : PySem.W.findIn K (.ref C) "__class__" = some (some (.builtin "object.__class__"))
  hn : PySem.W.specialIn K (.builtin "object.__class__") "__get__" = some (some (.builtin "getset_descriptor.__get__"))
  htk : PySem.W.takesIn K (.builtin "object.__class__") = some true
  hm : PySem.W.mroIn K C (.type "object") = some true
theorem ClsX.ty {K : PySem.W.Frag} {C a dx : Addr} {H : Hp} {fs : List (Str × V)} (c : ClsX K C) (e : H a = some (.ins C dx fs)) : TyX K H (.ref a) (.ref C) := .base (.ins e c.cl c.ha c.hn c.htk c.hm)
/-- a property -/
def Prp (P : Program) (w : World) (K : PySem.W.Frag) (mg : Str → Option Value) (base : Heap) (C : Addr) (f : Str) (k : Nat) (sp : Sp) : Prop :=
  Cls K C ∧ ∃ p g fd ps, PropOf K C f p g ∧ Binds K fd ps [] ∧ FnOk P w K mg base CX0 k g fd ps sp
section
variable {X : Cx} {x f : Str} {C : Addr} {k n : Nat} {ks : List Str} {sp : Sp} {dvs : List V} {gV : List V → List V → List V} {e : Expr} {es : List Expr} {kws : List Keyword} {t tk : TA} {ta : TE} {p pos : Pos}
theorem pe_mk (h : Mkr X.prog X.w X.K X.mg X.base x C k sp dvs) (hr : Room (k + 1) X.A) (ha : PA X (e :: es) t) (hg : Gl X x := by rfl) (hdb : (x == ("__debug__" : Str)) = false := by decide)
    (he : starEach (e :: es) X.env = (false, eval e X.env) :: starEach es X.env := by rfl) (hpl : (backTo pos (starEach es X.env)).any (·.1) = false := by rfl) : PE X (.Call (.Name x p) (e :: es) [] pos) (tMake C sp dvs E0 t) := by
  obtain ⟨hm, f, fd, ps, ds, M, hb, hd, F⟩ := h
  exact pe_make M F hr hg hm hb hd pass0 ha hdb he hpl
theorem pe_mkK (h : MkrK X.prog X.w X.K X.mg X.base x C k n ks sp gV) (hr : Room (k + 1) X.A) (ha : PA X (e :: es) t) (hkw : PK X kws tk) (hg : Gl X x := by rfl)
    (hall : (backToKw pos (keywordEach kws X.env)).all (·.1.isSome) = true := by rfl) (hks : (backToKw pos (keywordEach kws X.env)).filterMap (·.1) = ks := by rfl) (hdb : (x == ("__debug__" : Str)) = false := by decide)
    (he : starEach (e :: es) X.env = (false, eval e X.env) :: starEach es X.env := by rfl) (hpl : ((backTo pos (starEach (e :: es) X.env)).any (·.1) || (backToKw pos (keywordEach kws X.env)).any (·.1.isNone)) = false := by rfl) :
    PE X (.Call (.Name x p) (e :: es) kws pos) (tMakeK C n ks.length sp gV E0 t tk) := by
  obtain ⟨hm, f, fd, ps, g, M, hb, F⟩ := h
  exact pe_makeK M F hr hg hm hb pass0 ha hkw hall hks hdb he hpl
theorem pe_propN (h : Prp X.prog X.w X.K X.mg X.base C f k sp) (hr : Room (k + 1) X.A) (he : PE X e ta) (hab : attributeBase e f X.env (eval e X.env) = eval e X.env := by rfl) : PE X (.Attribute e f pos) (tProp C sp [] E0 ta) := by
  obtain ⟨c, q, g, fd, ps, hp, hb, F⟩ := h
  exact pe_prop he c hp F hr hb .nil pass0 hab
end
end RV
/-! What is known of the heap, step by step; repr of lists of short things. -/
namespace RV
open PySem L2 PyProof.Rows
/-- the built-in names that the text uses are still the built-ins -/
structure Blt (mg : Str → Option Value) : Prop where
  b_len : mg "len" = none
  b_int : mg "int" = none
  b_abs : mg "abs" = none
  b_max : mg "max" = none
  b_min : mg "min" = none
  b_all : mg "all" = none
  b_any : mg "any" = none
  b_repr : mg "repr" = none
  b_range : mg "range" = none
  b_divmod : mg "divmod" = none
  b_isinstance : mg "isinstance" = none
  b_str : mg "str" = none

/-! ### the well -/
def sp_well (K : PySem.W.Frag) : Sp := fun vs H Q _ => ∃ (c : Addr) (ns : List Int) (k : Nat), vs = [.ref c, .int k] ∧ SqL K H c (ns.map V.int) ∧ ns.length ≤ 63 ∧ k ≤ 100 ∧
  ∀ a H', H a = none → Same H H' → WellAt H' a 0 → Q (.ref a) H'
def sp_dip : Sp := fun vs H Q _ => ∃ (a : Addr) (m : Int) (n : Nat), vs = [.ref a, .int m] ∧ WellAt H a n ∧ n < 1000000 ∧ 0 < m ∧ m ≤ 10 ^ 60 ∧
  ∀ (r : Int) H', 0 ≤ r → r < m → Grow a H H' → WellAt H' a (n + 1) → Q (.int r) H'
theorem WellAt.mono {H : Hp} {a : Addr} {n m : Nat} (w : WellAt H a n) (h : n ≤ m) : WellAt H a m := by
  obtain ⟨x, y, z, e, hx, hy, hz⟩ := w
  exact ⟨x, y, z, e, hx, hy, by omega, by omega⟩
theorem WellAt.new {H : Hp} {a p : Addr} {n : Nat} {o : HO} (w : WellAt H a n) (np : H p = none) : WellAt (upd H p o) a n := by
  obtain ⟨x, y, z, e, hx, hy, hz⟩ := w
  exact ⟨x, y, z, by rw [upd_ne (ne_of_none e np)]; exact e, hx, hy, hz⟩
theorem WellAt.ne {H : Hp} {a p : Addr} {n : Nat} (w : WellAt H a n) (np : H p = none) : a ≠ p := by
  obtain ⟨x, y, z, e, _⟩ := w
  exact ne_of_none e np
def sp_name : Sp := fun vs H Q _ => ∃ (a : Addr) (n : Nat), vs = [.ref a] ∧ WellAt H a n ∧ n < 900000 ∧
  ∀ (x : Str) H', IsNm x → Grow a H H' → WellAt H' a (n + 10) → Q (.str x) H'
def sp_fresh : Sp := fun vs H Q _ => ∃ (a t : Addr) (n : Nat) (xs : List Str), vs = [.ref a, .ref t] ∧ WellAt H a n ∧ n < 800000 ∧ H t = some (.lst (xs.map V.str)) ∧ t ≠ a ∧ (∀ x ∈ xs, IsNm x) ∧ xs.length ≤ 35 ∧
  ∀ (x : Str) H', IsNm x → x ∉ xs → Grow a H H' → WellAt H' a (n + 13) → Q (.str x) H'
/-- the names that differ from x in their last sign alone -/
def cands (x : Str) : List Str := (cd signs).map fun c => cutS x none (some 7) ++ ⟨#[c]⟩
theorem cand_cd (x : Str) (c : Nat) : cd (cutS x none (some 7) ++ ⟨#[c]⟩) = (cd x).take 7 ++ [c] := by
  rw [cd_app, cd_one]
  exact congrArg (· ++ [c]) (cd_pre x 7)
theorem cands_nm {x : Str} (h : IsNm x) : ∀ y ∈ cands x, IsNm y := by
  intro y hy
  obtain ⟨c, hc, rfl⟩ := List.mem_map.mp hy
  have ht : tailC c = true := by
    have : ((cd signs).all tailC) = true := by rw [cd_signs]; decide
    exact List.all_eq_true.mp this c hc
  show isNm (cd _) = true
  rw [cand_cd]
  exact isNm_snoc (isNm_take h (by decide) (by decide)) (by rw [List.length_take]; omega) ht
theorem nodup_map {α β : Type} {f : α → β} (hf : ∀ a b, f a = f b → a = b) : ∀ {l : List α}, l.Nodup → (l.map f).Nodup
  | [], _ => List.nodup_nil
  | a :: l, h => by
    obtain ⟨h1, h2⟩ := List.nodup_cons.mp h
    rw [List.map_cons, List.nodup_cons]
    refine ⟨fun hm => ?_, nodup_map hf h2⟩
    obtain ⟨b, hb, e⟩ := List.mem_map.mp hm
    exact h1 (hf _ _ e ▸ hb)
theorem cands_nodup (x : Str) : (cands x).Nodup := by
  refine nodup_map (fun a b e => ?_) (by rw [cd_signs]; decide)
  have e2 := congrArg cd e
  rw [cand_cd, cand_cd] at e2
  have e3 := List.append_cancel_left e2
  exact (List.cons.inj e3).1
theorem cands_len (x : Str) : (cands x).length = 36 := by
  unfold cands
  rw [List.length_map, cd_signs]
  rfl
/-- what is_name says of any value whose kind is known -/
def sp_is_name (K : PySem.W.Frag) : Sp := fun vs H Q _ => ∃ v, vs = [v] ∧ ((∃ x : Str, v = .str x ∧ x.length ≤ sizeLine ∧ ∀ H', Same H H' → Q (.bl (isNm (cd x))) H') ∨
  (∃ t, TyX K H v t ∧ PySem.W.kitOne K t (.type "str") = some false ∧ Q (.bl false) H))
structure Cst (mg : Str → Option Value) : Prop where
  c__LETTERS : ∃ u, mg "_LETTERS" = some u ∧ RelV (.str "abcdefghijklmnopqrstuvwxyz") u
  c__DIGITS : ∃ u, mg "_DIGITS" = some u ∧ RelV (.str "0123456789") u
  c__LONGEST_NAME : ∃ u, mg "_LONGEST_NAME" = some u ∧ RelV (.int 8) u
theorem cd_letters : cd "abcdefghijklmnopqrstuvwxyz" = [97, 98, 99, 100, 101, 102, 103, 104, 105, 106, 107, 108, 109, 110, 111, 112, 113, 114, 115, 116, 117, 118, 119, 120, 121, 122] := by decide +kernel
theorem cd_digits : cd "0123456789" = [48, 49, 50, 51, 52, 53, 54, 55, 56, 57] := by decide +kernel
theorem low_in (c : Nat) : decide (c ∈ cd "abcdefghijklmnopqrstuvwxyz") = lowC c := by
  rw [cd_letters]
  simp only [lowC]
  by_cases h : 97 ≤ c ∧ c ≤ 122
  · have : c = 97 ∨ c = 98 ∨ c = 99 ∨ c = 100 ∨ c = 101 ∨ c = 102 ∨ c = 103 ∨ c = 104 ∨ c = 105 ∨ c = 106 ∨ c = 107 ∨ c = 108 ∨ c = 109 ∨ c = 110 ∨ c = 111 ∨ c = 112 ∨ c = 113 ∨ c = 114 ∨ c = 115 ∨ c = 116 ∨ c = 117 ∨ c = 118 ∨ c = 119 ∨ c = 120 ∨ c = 121 ∨ c = 122 := by omega
    rcases this with e | e | e | e | e | e | e | e | e | e | e | e | e | e | e | e | e | e | e | e | e | e | e | e | e | e <;> subst e <;> decide
  · have h1 : (decide (97 ≤ c) && decide (c ≤ 122)) = false := by
      simp only [Bool.and_eq_false_iff, decide_eq_false_iff_not]
      omega
    rw [h1]
    simp only [decide_eq_false_iff_not, List.mem_cons, List.not_mem_nil, or_false]
    omega
theorem tail_in (c : Nat) : decide (c ∈ cd (("abcdefghijklmnopqrstuvwxyz" : Str) ++ ("0123456789" : Str))) = tailC c := by
  rw [cd_app]
  have h2 : decide (c ∈ cd "0123456789") = digC c := by
    rw [cd_digits]
    simp only [digC]
    by_cases h : 48 ≤ c ∧ c ≤ 57
    · have : c = 48 ∨ c = 49 ∨ c = 50 ∨ c = 51 ∨ c = 52 ∨ c = 53 ∨ c = 54 ∨ c = 55 ∨ c = 56 ∨ c = 57 := by omega
      rcases this with e | e | e | e | e | e | e | e | e | e <;> subst e <;> decide
    · have h1 : (decide (48 ≤ c) && decide (c ≤ 57)) = false := by
        simp only [Bool.and_eq_false_iff, decide_eq_false_iff_not]
        omega
      rw [h1]
      simp only [decide_eq_false_iff_not, List.mem_cons, List.not_mem_nil, or_false]
      omega
  rw [tailC, ← low_in, ← h2]
  by_cases a : c ∈ cd "abcdefghijklmnopqrstuvwxyz" <;> by_cases b : c ∈ cd "0123456789" <;> simp [a, b]
/-- a promise that the unifier does not open -/
@[irreducible] def Irr (sp : Sp) : Sp := sp
theorem irr {sp : Sp} {vs : List V} {H : Hp} {Q : VK} {E : XK} (h : sp vs H Q E) : Irr sp vs H Q E := by unfold Irr; exact h
theorem irr_of {sp : Sp} {vs : List V} {H : Hp} {Q : VK} {E : XK} (h : Irr sp vs H Q E) : sp vs H Q E := by unfold Irr at h; exact h
theorem Fn.irr {P : Program} {w : World} {K : PySem.W.Frag} {mg : Str → Option Value} {base : Heap} {x : Str} {k : Nat} {ps : List Str} {sp : Sp} (h : Fn P w K mg base x k ps sp) : Fn P w K mg base x k ps (Irr sp) := by
  obtain ⟨f, fd, a, b, c, F⟩ := h
  exact ⟨f, fd, a, b, c, F.imp fun _ _ _ _ z => irr_of z⟩
theorem Mkr.irr {P : Program} {w : World} {K : PySem.W.Frag} {mg : Str → Option Value} {base : Heap} {x : Str} {C : Addr} {k : Nat} {sp : Sp} {dvs : List V} (h : Mkr P w K mg base x C k sp dvs) : Mkr P w K mg base x C k (Irr sp) dvs := by
  obtain ⟨m, f, fd, ps, ds, a, b, c, F⟩ := h
  exact ⟨m, f, fd, ps, ds, a, b, c, F.imp fun _ _ _ _ z => irr_of z⟩
theorem MkrK.irr {P : Program} {w : World} {K : PySem.W.Frag} {mg : Str → Option Value} {base : Heap} {x : Str} {C : Addr} {k n : Nat} {ks : List Str} {sp : Sp} {gV : List V → List V → List V} (h : MkrK P w K mg base x C k n ks sp gV) : MkrK P w K mg base x C k n ks (Irr sp) gV := by
  obtain ⟨m, f, fd, ps, g, a, b, F⟩ := h
  exact ⟨m, f, fd, ps, g, a, b, F.imp fun _ _ _ _ z => irr_of z⟩
section
variable {a p x : Addr} {n m : Nat} {L : List (Addr × HO)} {H0 H : Hp} {o : HO} {Q : VK} {E : XK}
end
/-! ### short data -/
structure Short (d : PyData) : Prop where
  sh : d.showable = true
  dp : d.depth = 0
  ln : d.shown.length ≤ 100
theorem short_nm {x : Str} (h : IsNm x) : Short (.str x) := by
  refine ⟨by simp [PyData.showable], by simp [PyData.depth], ?_⟩
  have h1 := StrLaws.reprText_len x (fun c hc => by
    have q := List.all_eq_true.mp (isNm_all h) c hc
    simp only [tailC, lowC, digC, Bool.or_eq_true, Bool.and_eq_true, decide_eq_true_eq] at q
    omega)
  have h2 := isNm_len h
  rw [← cd_len] at h2
  have : (PyData.str x).shown = reprText x := by simp only [PyData.shown]
  rw [this]
  omega
end RV
/-! for i, x in enumerate(t), t a tuple. -/
namespace PySem
open AutoSeq1 (wpAny_loadPart')
set_option maxHeartbeats 4000000 in
theorem rv_meets_enum_tuple (l : Addr) (items : Array Value) (n : Nat) (dct : Option Addr) (sl : Array (Option Value)) :
    Meets (Builtin.«enumerate.__new__» ⟨[.type "enumerate", .ref l], []⟩) (fun _ R s => s.heap.get? l = some { cls := .type "tuple", dict := dct, data := .seq items n, slots := sl } ∧
      R (.ok (.ret (.ref (s.heap.push { cls := .type "tuple_iterator", data := .fields #[.ref l, .int 0 0] }).objs.size)))
        { s with heap := (s.heap.push { cls := .type "tuple_iterator", data := .fields #[.ref l, .int 0 0] }).push { cls := .type "enumerate", data := .fields #[.none, .bool false, .ref s.heap.objs.size, rawInt 0, .none, .none] } }) :=
  .of_wp fun prog w A R s h => by
    obtain ⟨hp, g, d, tk, os⟩ := s
    obtain ⟨hl, h⟩ := h
    have q := sub_enumerate
    have hT : Heap.IsTuple (Shared.heap ⟨hp, g, d, tk, os⟩) l items := ⟨_, hl, rfl, n, rfl⟩
    wp_walk using wpAny_loadPart' hl
    refine wpAny_stack_any fun st => wpAny_pure ?_
    split
    · rename_i c _ _ _ _ _
      cases (c == Value.type "enumerate") <;> (wp_walk using wpAny_loadPart' hl, wpAny_pyIter_tuple hT; exact ⟨_, rfl, h⟩)
    · wp_walk using wpAny_loadPart' hl, wpAny_pyIter_tuple hT
      exact ⟨_, rfl, h⟩
section
variable {prog : Program} {w : World} {A : Around} {E : Value → Shared → Prop} {s : Shared}
theorem rv_call_enum_tuple {l : Addr} {items : Array Value} {Q : Value → Shared → Prop} (hT : s.heap.IsTuple l items)
    (h : ∀ h', IsEnum h' (s.heap.objs.size + 1) s.heap.objs.size 0 .none → h'.IsTupleIter s.heap.objs.size l 0 → h'.objs.size = s.heap.objs.size + 2 → (∀ b o, s.heap.get? b = some o → h'.get? b = some o) → Q (.ref (s.heap.objs.size + 1)) { s with heap := h' }) :
    wpAny (model prog w) A (call (.type "enumerate") [.ref l]) Q E s := by
  obtain ⟨⟨c, dct, dt, sl⟩, hl, hc, n, hd⟩ := hT
  obtain rfl : c = .type "tuple" := hc
  obtain rfl : dt = .seq items n := hd
  refine callType_new F.called_enumerate (by decide) (F.typeCall_enumerate_1 _) (F.newCall_enumerate_1 _) (fun obj => F.args_object_init_2 obj _) F.entry_enumerate_new (rv_meets_enum_tuple l items n dct sl) ⟨hl, ?_⟩
  let h1 := s.heap.push { cls := .type "tuple_iterator", data := .fields #[.ref l, .int 0 0] }
  have z1 : h1.objs.size = s.heap.objs.size + 1 := Heap.size_push ..
  show _ ∧ _
  rw [show (s.heap.push { cls := .type "tuple_iterator", data := .fields #[.ref l, .int 0 0] }).objs.size = s.heap.objs.size + 1 from z1]
  have he : IsEnum (h1.push { cls := .type "enumerate", data := .fields #[.none, .bool false, .ref s.heap.objs.size, rawInt 0, .none, .none] }) (s.heap.objs.size + 1) s.heap.objs.size 0 .none := by
    have t := Heap.get?_push_size h1 (o := { cls := .type "enumerate", data := .fields #[.none, .bool false, .ref s.heap.objs.size, rawInt 0, .none, .none] }) rfl
    rw [z1] at t
    exact t
  exact ⟨⟨_, he, rfl⟩, h _ he ⟨_, Heap.get?_push_of_some _ (Heap.get?_push_size _ rfl), rfl, rfl⟩ (by rw [Heap.size_push, z1]) fun b o x => Heap.get?_push_of_some _ (Heap.get?_push_of_some _ x)⟩
end
end PySem
namespace RV
open PySem L2 PyProof.Rows
/-- the tuple at a, each item in a new pair with its number -/
def Iet (K : PySem.W.Frag) (a : Addr) : It :=
  ⟨fun i H => ∃ (xs : List V) (x : V), SqT K H a xs ∧ xs[i]? = some x, fun i H v H' => ∃ T x, v = .ref T ∧ H T = none ∧ H' = upd H T (.tup [.int (i : Nat), x]) ∧ ∀ xs, SqT K H a xs → xs[i]? = some x, fun i H => ∃ xs : List V, SqT K H a xs ∧ xs.length = i⟩
theorem turn_enumT {P : Program} {w : World} {K : PySem.W.Frag} {elts : List Expr} {kk : Nat} {tpos : Pos} (a e it : Addr) :
    Turn P w K (.Tuple elts kk tpos) (Iet K a) [e, it] e (fun i h => (∃ old, IsEnum h e it ((i : Nat) : Int) old) ∧ h.IsTupleIter it a i ∧ e ≠ it) where
  mem := List.Mem.head _
  obj := fun i h st b hb => by
    obtain ⟨⟨old, he⟩, ⟨o, ho, hc, hd⟩, _⟩ := st
    rcases (by simpa using hb : b = e ∨ b = it) with rfl | rfl
    · exact ⟨_, he, fun v q => nomatch q⟩
    · exact ⟨o, ho, fun v q => by rw [hd] at q; cases q⟩
  keep := fun i h h' st k => by
    obtain ⟨⟨old, he⟩, hi, hne⟩ := st
    exact ⟨⟨old, k e (List.Mem.head _) _ he⟩, hi.at fun o q => k it (.tail _ (.head _)) o q, hne⟩
  item := by
    intro X hP hw hK hc i pins s σ H E I hf st hg
    subst hP hw hK
    obtain ⟨⟨old, he⟩, hit, hne⟩ := st
    obtain ⟨xs, x, hq, hx⟩ := hg
    obtain ⟨its, rv, p, hz⟩ := I.tuple hq
    obtain ⟨u, hu, ru⟩ := rv.get hx
    have hel : e < s.heap.objs.size := Heap.lt_size he
    have hil : it < s.heap.objs.size := by obtain ⟨_, q, _⟩ := hit; exact Heap.lt_size q
    have pt : s.heap.IsTuple a its.toArray := p
    have ait : a ≠ it := fun z => by
      obtain ⟨o, ho, hc, _⟩ := hit
      obtain ⟨o', ho', hc', _⟩ := pt
      rw [z, ho] at ho'
      cases ho'
      rw [hc] at hc'
      injection hc' with q
      exact absurd q (by decide)
    have ae : a ≠ e := fun z => by
      obtain ⟨o', ho', hc', _⟩ := pt
      rw [z, he] at ho'
      cases ho'
      injection hc' with q
      exact absurd q (by decide)
    have lt : i < its.toArray.size := by
      have := (List.getElem?_eq_some_iff.mp hu).1
      simpa using this
    refine wpAny_pyNext_enum_itemD (Draws.tuple (A := X.A.in1) (I.ok.hd hc) it a ait its.toArray) he ⟨hit, pt⟩ lt hne (by simp [hne, ae.symm]) fun y h' tk hy ho hst hT hsz hk => ?_
    have ey : y = u := by
      have e1 : its.toArray[i]? = some u := by simpa using hu
      rw [e1] at hy
      exact (Option.some.inj hy).symm
    subst ey
    refine ⟨_, rfl, wpAny_letOwnedTupleGo_enum (s := { s with heap := h', toks := tk + 1 }) ho fun h'' he' sb => ?_⟩
    have hT2 : h''.get? s.heap.objs.size = some { cls := .type "tuple", data := .seq #[.int i tk, y] } := (sb.2 _ (Nat.ne_of_gt hel)).trans hT
    have new : ObjOk X.prog X.w (upd H s.heap.objs.size (.tup [.int (i : Nat), x])) h'' s.heap.objs.size (.tup [.int (i : Nat), x]) :=
      ⟨by show 2 ≤ sizeLine; decide, [.int i tk, y], .cons ⟨_, rfl⟩ (.cons ru .nil), ⟨_, hT2, rfl, _, rfl⟩⟩
    have I1 : Inv X pins σ (upd H s.heap.objs.size (.tup [.int (i : Nat), x])) { s with heap := h'', toks := tk + 1 } :=
      I.turnedNew (ch := [e, it]) (fun b ob hb q => (sb.2 b (fun z => hb (by simp [z]))).trans (hk b ob (fun z => hb (by simp [z])) (fun z => hb (by simp [z])) q)) hf (Nat.le_refl _) new
    refine ⟨.ref s.heap.objs.size, _, I1, rfl, ⟨_, x, rfl, I.hok.fresh (Nat.le_refl _), rfl, fun ys hy => by rw [I.tuple_inj hy hq]; exact hx⟩, ⟨⟨y, ?_⟩, hst.1.at fun o q => (sb.2 it (Ne.symm hne)).trans q, hne⟩, fun b hb => ?_⟩
    · rw [show ((i + 1 : Nat) : Int) = (i : Int) + 1 by omega]
      exact he'
    · have hb' : b < s.heap.objs.size := by
        rcases (by simpa using hb : b = e ∨ b = it) with rfl | rfl
        · exact hel
        · exact hil
      rw [upd_ne (Nat.ne_of_lt hb')]
      exact (hf b hb).1
  done := by
    intro X hP hw hK hc i pins s σ H E I hf st hg
    subst hP hw hK
    obtain ⟨⟨old, he⟩, hit, hne⟩ := st
    obtain ⟨xs, hq, hx⟩ := hg
    obtain ⟨its, rv, p, hz⟩ := I.tuple hq
    obtain ⟨f0, f1, f2, f3, f4, f5⟩ := hf it (by simp)
    have pt : s.heap.IsTuple a its.toArray := p
    have ait : a ≠ it := fun z => by
      obtain ⟨o, ho, hc, _⟩ := hit
      obtain ⟨o', ho', hc', _⟩ := pt
      rw [z, ho] at ho'
      cases ho'
      rw [hc] at hc'
      injection hc' with q
      exact absurd q (by decide)
    have en : i = its.toArray.size := by
      rw [List.size_toArray, ← rv.length]
      exact hx.symm
    subst en
    exact wpAny_pyNext_enum_endD (Draws.tuple (A := X.A.in1) (I.ok.hd hc) it a ait its.toArray) he ⟨hit, pt⟩ fun h' eb => ⟨rfl, I.turned (t' := s.toks) (fun b o hb q => eb b o hb q) f0 f1 f3 f4 f5⟩
  self := fun A i s Q E st h => let ⟨⟨_, he⟩, _⟩ := st; wpAny_pyIter_enum he h
def iEnumT (K : PySem.W.Frag) (ta : TA) : TI := fun σ H R => ta σ H fun vs H1 => ∃ a xs, vs = [.ref a] ∧ SqT K H1 a xs ∧ R (Iet K a) H1
theorem pi_enumT {X : Cx} {e : Expr} {ta : TA} {p pos tpos : Pos} {elts : List Expr} {kk : Nat} (hg : Gl X "enumerate") (hm : X.mg "enumerate" = none) (ha : PA X [e] ta) (hs : starEach [e] X.env = [(false, eval e X.env)] := by rfl) :
    PI X (.Tuple elts kk tpos) (.Call (.Name "enumerate" p) [e] [] pos) (iEnumT X.K ta) := by
  refine ⟨fun pins s σ H R I h => ?_⟩
  refine Call_ (ld_blt I hg hm boot_enumerate (PyProof.Rows.callWith_type1 (thn (ha.run pos pins s σ H _ I h) fun us s1 ⟨vs, H1, I1, r1, q1⟩ => ?_) hs rfl))
  obtain ⟨a, xs, ex, hq, q⟩ := q1
  subst ex
  have eu : us = [.ref a] := by
    cases r1 with
    | cons r2 r3 => cases r3; cases r2; rfl
  subst eu
  obtain ⟨its, rv, p', hz⟩ := I1.tuple hq
  refine rv_call_enum_tuple (show s1.heap.IsTuple a its.toArray from p') fun h' he hit hsz hk => wpAny_pyIter_enum he ?_
  have I2 : Inv X pins σ H1 { s1 with heap := h' } := I1.kept (t' := s1.toks) hk
  refine ⟨s1.heap.objs.size + 1, [s1.heap.objs.size + 1, s1.heap.objs.size], _, _, H1, rfl, I2, turn_enumT a (s1.heap.objs.size + 1) s1.heap.objs.size, ⟨⟨.none, he⟩, hit, Nat.succ_ne_self _⟩, fun b hb => ?_, q⟩
  have hle : s1.heap.objs.size ≤ b := by
    rcases (by simpa using hb : b = s1.heap.objs.size + 1 ∨ b = s1.heap.objs.size) with rfl | rfl
    · exact Nat.le_succ _
    · exact Nat.le_refl _
  exact I1.fpOk hle (I1.hok.fresh hle)
/-- a loop over the numbered items of a tuple that stands still -/
theorem for_enumT {K : PySem.W.Frag} {a : Addr} {xs : List V} {g : TG} {tb : TS} {D : Ends} {σ : L2.St} {H : Hp} (Pv : Nat → L2.St → Hp → Prop) (h0 : Pv 0 σ H) (hl : ∀ i σ H, i ≤ xs.length → Pv i σ H → SqT K H a xs)
    (hs : ∀ i x σ H T, xs[i]? = some x → Pv i σ H → H T = none → g (.ref T) σ (upd H T (.tup [.int (i : Nat), x])) fun σ2 H2 => tb { D with nx := Pv (i + 1), ct := Pv (i + 1), bk := D.nx } σ2 H2) (hd : ∀ σ H, Pv xs.length σ H → D.nx σ H) :
    ∃ W : Nat → Nat → L2.St → Hp → Prop, (∃ m, W 0 m σ H) ∧ ∀ i m σ H, W i m σ H →
      ((Iet K a).stop i H ∧ D.nx σ H) ∨ ((Iet K a).go i H ∧ ∃ N : L2.St → Hp → Prop, (∀ σ' H', N σ' H' → ∃ m', m' < m ∧ W (i + 1) m' σ' H') ∧ ∀ x H', (Iet K a).yld i H x H' → g x σ H' fun σ2 H2 => tb { D with nx := N, ct := N, bk := D.nx } σ2 H2) := by
  refine ⟨fun i m σ H => m = xs.length - i ∧ i ≤ xs.length ∧ Pv i σ H, ⟨xs.length, by simp, Nat.zero_le _, h0⟩, ?_⟩
  rintro i m σ H ⟨rfl, hi, p⟩
  have q := hl i σ H hi p
  by_cases hlt : i < xs.length
  · refine .inr ⟨⟨xs, xs[i], q, List.getElem?_eq_getElem hlt⟩, Pv (i + 1), fun σ' H' p' => ⟨xs.length - (i + 1), by omega, rfl, hlt, p'⟩, fun x H' y => ?_⟩
    obtain ⟨T, y, rfl, hT, rfl, hy⟩ := y
    exact hs i y σ H T (hy xs q) p hT
  · have e : i = xs.length := by omega
    subst e
    exact .inl ⟨⟨xs, q, rfl⟩, hd σ H p⟩
end RV
set_option linter.all false
/-! Sets of keys of one kind that can be walked and sorted: set(list of texts), sorted(set of texts). -/
namespace RV
open PySem L2 PySem.Spec PyProof.Rows
section
variable {P : Program} {w : World} {κ : Type} [DecidableEq κ] {knd : KeyKind P w κ}
/-- no two of them are the same key -/
def Apart (knd : KeyKind P w κ) (l : List (Int × Value)) : Prop := l.Pairwise fun e f => ∀ k, ¬ (knd.is k e.2 = true ∧ knd.is k f.2 = true)
/-- a set at a with the members S, n of them, whose table rises -/
def SetX (knd : KeyKind P w κ) (h : Heap) (a : Addr) (S : κ → Bool) (n : Nat) : Prop :=
  ∃ o es ep t, (h.get? a = some o ∧ o.ExactSet ∧ o.data = .set es ep t) ∧ (ElemsOf knd es.toList ∧ Apart knd es.toList ∧ ∀ k, S k = true ↔ ∃ e ∈ es.toList, knd.is k e.2 = true) ∧
    es.size < scanBound ∧ t.fits es.size = true ∧ es.size = n ∧ Ris t.place.toList ∧ (w.params.followText "set-order" = true ∨ t.led = true)
theorem Apart.perm {l l' : List (Int × Value)} (h : Apart knd l) (p : l'.Perm l) : Apart knd l' :=
  (p.pairwise_iff (fun {_ _} z k q => z k ⟨q.2, q.1⟩)).mpr h
theorem SetX.at {h h' : Heap} {a : Addr} {S : κ → Bool} {n : Nat} (R : SetX knd h a S n) (k : ∀ o, h.get? a = some o → h'.get? a = some o) : SetX knd h' a S n := by
  obtain ⟨o, es, ep, t, ⟨ho, r1⟩, r⟩ := R
  exact ⟨o, es, ep, t, ⟨k o ho, r1⟩, r⟩
theorem SetX.congr {h : Heap} {a : Addr} {S S' : κ → Bool} {n : Nat} (R : SetX knd h a S n) (e : ∀ k, S' k = S k) : SetX knd h a S' n := by
  rw [show S' = S from funext e]
  exact R
theorem SetX.fresh {h : Heap} {a : Addr} (ho : h.get? a = some { cls := .type "set", dict := none, data := .set #[] 0 (.fresh 0 0 (!w.params.followText "set-order")) }) : SetX knd h a (fun _ => false) 0 := by
  refine ⟨_, #[], 0, _, ⟨ho, ⟨rfl, rfl, rfl⟩, rfl⟩, ⟨fun e he => (by simp at he), List.Pairwise.nil, fun k => (by simp)⟩, by decide, rfl, rfl, List.Pairwise.nil, ?_⟩
  show _ ∨ (!w.params.followText "set-order") = true
  cases w.params.followText "set-order" <;> simp
variable {A : Around} {E : Value → Shared → Prop} {s : Shared} {a : Addr}
/-- what is stored once the new entry has its place -/
theorem setX_store {g : Bool → Sem Unit} (hg : ∀ (b : Bool) (s₁ : Shared) (Q' : Unit → Shared → Prop), Q' () s₁ → wpAny (model P w) A (g b) Q' E s₁)
    {o : Obj} {es es1 : Array (Int × Value)} {ep : Nat} {t t1 : SetTable} {S' : κ → Bool} (ho : s.heap.get? a = some o ∧ o.ExactSet ∧ o.data = .set es ep t)
    (hm : ElemsOf knd es1.toList ∧ Apart knd es1.toList ∧ ∀ k, S' k = true ↔ ∃ e ∈ es1.toList, knd.is k e.2 = true) (hb : es1.size < scanBound) (hf : t1.fits es1.size = true)
    (hr : Ris t1.place.toList) (hl : w.params.followText "set-order" = true ∨ t1.led = true) {wasDummy : Bool} {R : Option Bool → Shared → Prop}
    (hR : ∀ h', Heap.SameBut a s.heap h' → SetX knd h' a S' es1.size → R (some true) { s with heap := h' }) :
    wpAny (model P w) A (do
        storeSet a es1 t1
        if (!wasDummy && t1.tooFull) = true then do
            g (relayAll t1 es1 (SetTable.grown es1.size)).2.2
            storeSet a (relayAll t1 es1 (SetTable.grown es1.size)).1 (relayAll t1 es1 (SetTable.grown es1.size)).2.1
            pure (some true)
          else pure (some true)) R E s := by
  obtain ⟨ho, hex, hd⟩ := ho
  obtain ⟨hel, hap, hmem⟩ := hm
  have same := Heap.SameBut.update s.heap a (Obj.putSet es1 t1)
  have o1 := store_at (es' := es1) (t' := t1) ho hd
  refine wpAny_bind (wpAny_storeSet_of ho hd ?_ (fits_of_scanBound hb))
  split
  · obtain ⟨p, f, r, l⟩ := (⟨relayAll_perm t1 es1 (SetTable.grown es1.size), relayAll_fits t1 es1 (SetTable.grown es1.size), relayAll_ris t1 es1 (SetTable.grown es1.size), relayAll_led t1 es1 (SetTable.grown es1.size)⟩ : _ ∧ _ ∧ _ ∧ _)
    generalize relayAll t1 es1 (SetTable.grown es1.size) = Z at p f r l ⊢
    obtain ⟨es2, t2, gv⟩ := Z
    dsimp only at p f r l ⊢
    have sz : es2.size = es1.size := by rw [← Array.length_toList, p.length_eq, Array.length_toList]
    have hb2 : es2.size < scanBound := by omega
    refine wpAny_bind (hg _ _ _ (wpAny_bind (wpAny_storeSet_of o1 rfl ?_ (fits_of_scanBound hb2))))
    refine wpAny_pure (hR _ (same.trans (Heap.SameBut.update _ a _)) ⟨_, es2, _, t2, ⟨store_at o1 rfl, hex, rfl⟩, ⟨hel.perm p, hap.perm p, fun k => (hmem k).trans ?_⟩, hb2, f, sz, r, hl.imp id fun z => by rw [l]; exact z⟩)
    exact ⟨fun ⟨e, he, q⟩ => ⟨e, p.mem_iff.mpr he, q⟩, fun ⟨e, he, q⟩ => ⟨e, p.mem_iff.mp he, q⟩⟩
  · exact wpAny_pure (hR _ same ⟨_, es1, _, t1, ⟨o1, hex, rfl⟩, ⟨hel, hap, hmem⟩, hb, hf, rfl, hr, hl⟩)
theorem setX_add {S : κ → Bool} {n : Nat} {k : κ} {x : Value} {Q : Bool → Shared → Prop} (hk : knd.is k x = true) (hs : x.scannable = true) (R : SetX knd s.heap a S n) (room : n + 1 < scanBound)
    (hQ : ∀ h', Heap.SameBut a s.heap h' → SetX knd h' a (fun j => S j || decide (j = k)) (if S k = true then n else n + 1) → Q (!S k) { s with heap := h' }) :
    wpAny (model P w) A (setAddHashed a x (knd.hash k)) Q E s := by
  obtain ⟨o, es, ep, t, ⟨ho, hex, hd⟩, ⟨hel, hap, hmem⟩, hb, hf, hn, hr, hl⟩ := R
  unfold setAddHashed setAddHashedIn
  refine wpAny_holding (wpAny_bind (wpAny_setState_of ho hd hf ?_))
  dsimp only
  rw [byScan_of hs hb hel]
  simp only [↓reduceIte]
  unfold setAddByScan
  refine wpAny_bind (wpAny_bind (wpAny_rule (wpAny_bind (wpAny_setScan_of hk ho hd hf hel ?_))))
  cases hfi : List.findIdx? (fun e => knd.is k e.2) es.toList with
  | some j =>
    dsimp only
    obtain ⟨hj, pj, _⟩ := List.findIdx?_eq_some_iff_getElem.mp hfi
    have hSk : S k = true := (hmem k).2 ⟨_, List.getElem_mem hj, pj⟩
    have q := hQ s.heap (Heap.SameBut.refl a s.heap)
    rw [if_pos hSk, hSk] at q
    refine wpAny_pure (wpAny_pure (q ⟨o, es, ep, t, ⟨ho, hex, hd⟩, ⟨hel, hap, fun i => ?_⟩, hb, hf, hn, hr, hl⟩))
    rw [← hmem i, Bool.or_eq_true, decide_eq_true_eq]
    exact ⟨fun z => z.elim id fun e => e ▸ hSk, .inl⟩
  | none =>
    dsimp only
    have out : ∀ e ∈ es.toList, knd.is k e.2 = false := fun e he => by
      have := List.findIdx?_eq_none_iff.mp hfi e he
      simpa using this
    have hSk : S k = false := by
      cases q : S k with
      | false => rfl
      | true =>
        obtain ⟨e, he, z⟩ := (hmem k).1 q
        rw [out e he] at z
        cases z
    have gw : ∀ (b : Bool) {s₁ : Shared} {Q' : Unit → Shared → Prop}, Q' () s₁ → wpAny (model P w) A (match b with | true => rule "set.scan.the-table-gave-way" | false => pure ()) Q' E s₁ := fun b _ _ q => by
      cases b <;> first | exact wpAny_pure q | exact wpAny_rule q
    obtain ⟨p, f, r, l⟩ := (⟨layNew_perm t es (knd.hash k) x, layNew_fits t es (knd.hash k) x, layNew_ris t es (knd.hash k) x hr, layNew_led t es (knd.hash k) x⟩ : _ ∧ _ ∧ _ ∧ _)
    generalize layNew t es (knd.hash k) x = Z at p f r l ⊢
    obtain ⟨es1, t1, wasDummy, gv⟩ := Z
    dsimp only at p f r l ⊢
    rw [Array.toList_push] at p
    have pc : es1.toList.Perm ((knd.hash k, x) :: es.toList) := p.trans (List.perm_append_singleton _ _)
    have hm1 : ElemsOf knd es1.toList ∧ Apart knd es1.toList ∧ ∀ i, (S i || decide (i = k)) = true ↔ ∃ e ∈ es1.toList, knd.is i e.2 = true := by
      refine ⟨(hel.push hk hs).perm p, Apart.perm (List.pairwise_cons.mpr ⟨fun e he i z => ?_, hap⟩) pc, mem_push_iff hk hmem p⟩
      have ei : i = k := knd.inj x i k z.1 hk
      have q := z.2
      rw [ei, out e he] at q
      cases q
    have sz : es1.size = n + 1 := by rw [← Array.length_toList, pc.length_eq, List.length_cons, Array.length_toList, hn]
    have fin : ∀ h', Heap.SameBut a s.heap h' → SetX knd h' a (fun j => S j || decide (j = k)) es1.size → Q true { s with heap := h' } := fun h' sb r => by
      have q := hQ h' sb
      rw [hSk, if_neg (by decide)] at q
      exact q (sz ▸ r)
    have hl1 : w.params.followText "set-order" = true ∨ t1.led = true := hl.imp id fun z => by rw [l]; exact z
    refine wpAny_bind (gw _ ?_)
    split
    · refine wpAny_bind ?_
      rw [hashByValue_scannable 8 hs]
      refine wpAny_pure (setX_store (fun b s₁ Q' q => ?_) ⟨ho, hex, hd⟩ hm1 (by omega) ?_ ?_ ?_ fun h' sb r => ?_)
      · cases b <;> first | exact wpAny_pure q | exact wpAny_rule q
      · first | (split <;> first | exact f | exact SetTable.fits_plain_off f) | exact f
      · first | (split <;> exact r) | exact r
      · first | (split <;> exact hl1) | exact hl1
      · dsimp only
        exact wpAny_pure (fin h' sb r)
    · refine wpAny_bind (wpAny_pure ?_)
      simp only [↓reduceIte]
      refine setX_store (fun b s₁ Q' q => ?_) ⟨ho, hex, hd⟩ hm1 (by omega) f r hl1 fun h' sb r => ?_
      · cases b <;> first | exact wpAny_pure q | exact wpAny_rule q
      · dsimp only
        exact wpAny_pure (fin h' sb r)
end
end RV
set_option linter.all false
/-! set(list of texts), sorted(set of texts). -/
namespace RV
open PySem L2 PySem.Spec PyProof.Rows
section
variable {P : Program} {w : World} {A : Around} {E : Value → Shared → Prop} {s : Shared}
abbrev SetS (P : Program) (w : World) (h : Heap) (a : Addr) (S : Str → Bool) (n : Nat) : Prop := SetX (PySem.strKind P w) h a S n
theorem fill_loop {I : Addr} {fp wr : List Addr} {G : Array GenState → Array GenState → Prop} {n : Nat} {Pv : Nat → Value → Prop} {St : Nat → Shared → Prop} {R : Result → Shared → Prop}
    (W : WalksS P w A.in1 I fp wr G n Pv St) (S : Addr) (off : S ∉ fp) (xs : List Str) (hn : n = xs.length) (room : xs.length + 1 < scanBound) (hval : ∀ i v, Pv i v → ∃ x t, xs[i]? = some x ∧ v = .str x t) :
    ∀ (k i : Nat) (s : Shared), n - i = k → i ≤ n → St i s → (∃ c, c ≤ i ∧ SetS P w s.heap S (fun x => decide (x ∈ xs.take i)) c) →
      (∀ s' c, Moved (S :: wr) G s s' → c ≤ n → SetS P w s'.heap S (fun x => decide (x ∈ xs)) c → R (.ok (.ret .none)) s') →
      codeAny (model P w) A (.builtin "set.update.loop" ⟨[.ref S, .ref I], []⟩) R s := by
  have offw : S ∉ wr := fun z => off (W.sub _ z)
  have more : ∀ b ∈ wr, b ∈ S :: wr := fun b hb => List.mem_cons_of_mem _ hb
  intro k
  induction k with
  | zero =>
    rintro i s hk hi st ⟨c, hc, x⟩ hR
    obtain rfl : i = n := by omega
    refine codeAny_builtin F.entry_set_update_loop ?_
    rw [Around.under_plainId F.plain_set_update_loop _]
    show wpAny _ A.in1 (pyNext (.ref I) >>= _) _ _ s
    refine wpAny_bind (W.done s _ _ st fun s' m => ?_)
    show wpAny _ A.in1 (ret Value.none) _ _ s'
    rw [List.take_of_length_le (by omega)] at x
    exact wpAny_pure (hR s' c (m.mono more) hc (x.at fun o e => m.heap S o offw e))
  | succ k ih =>
    rintro i s hk hi st ⟨c, hc, x⟩ hR
    have hlt : i < n := by omega
    refine codeAny_builtin F.entry_set_update_loop ?_
    rw [Around.under_plainId F.plain_set_update_loop _]
    show wpAny _ A.in1 (pyNext (.ref I) >>= _) _ _ s
    refine wpAny_bind (W.item i s _ _ hlt st fun v s' pv st' m => ?_)
    obtain ⟨y, t, hy, rfl⟩ := hval i v pv
    have x' := x.at (h' := s'.heap) fun o e => m.heap S o offw e
    show wpAny _ A.in1 (holding [Value.str y t] (setAdd S (.str y t)) >>= _) _ _ s'
    refine wpAny_bind (wpAny_holding ?_)
    unfold setAdd
    refine wpAny_holding (wpAny_bind ((PySem.strKind P w).pyHash (k := y) (strKind_is _ _ _ _) ?_))
    refine setX_add (knd := PySem.strKind P w) (s := { s' with toks := s'.toks + 1 }) (strKind_is _ _ _ _) rfl x' (by omega) fun h' sb x2 => ?_
    refine wpAny_pure ⟨plainId_quiet F.plain_set_update_loop _, ih (i + 1) _ (by omega) hlt (W.frame _ s' _ _ st' (Nat.le_succ _) fun b hb o e => ?_) ⟨_, ?_, x2.congr fun j => ?_⟩ fun s2 c2 m2 hc2 x3 => ?_⟩
    · rw [sb.2 b (fun z => off (z ▸ hb))]
      exact e
    · split <;> omega
    · rw [List.take_add_one, hy]
      simp [List.mem_append]
    · refine hR s2 c2 (Moved.trans W.gtrans ((m.mono more).then_heap (Nat.le_succ _) fun b o hb e => ?_) m2) hc2 x3
      rw [sb.2 b (fun z => hb (by rw [z]; exact List.mem_cons_self))]
      exact e
abbrev emptySet (w : World) : Obj := { cls := .type "set", dict := none, data := .set #[] 0 (.fresh 0 0 (!w.params.followText "set-order")) }
set_option maxHeartbeats 8000000 in
end
end RV
set_option linter.all false
/-! the rules: set(list of texts), sorted(set of texts) -/
namespace RV
open PySem L2 PySem.Spec PyProof.Rows
section
variable {P : Program} {w : World} {A : Around} {E : Value → Shared → Prop} {s : Shared}
theorem str_of_is {k : Str} {v : Value} (h : (PySem.strKind P w).is k v = true) : ∃ t, v = .str k t := by
  cases v <;> simp [PySem.strKind, Value.isStrOf] at h
  subst h
  exact ⟨_, rfl⟩
theorem strsAre_of : ∀ {vs : List Value}, (∀ v ∈ vs, ∃ k t, v = Value.str k t) → ∃ xs, StrsAre vs xs
  | [], _ => ⟨[], .nil⟩
  | v :: vs, h => by
    obtain ⟨k, t, rfl⟩ := h v List.mem_cons_self
    obtain ⟨xs, r⟩ := strsAre_of fun u hu => h u (List.mem_cons_of_mem _ hu)
    exact ⟨k :: xs, .cons k t r⟩
theorem strsAre_mem : ∀ {vs : List Value} {xs : List Str}, StrsAre vs xs → ∀ x, x ∈ xs ↔ ∃ t, Value.str x t ∈ vs
  | _, _, .nil, x => by simp
  | _, _, .cons k t r, x => by
    rw [List.mem_cons, strsAre_mem r x]
    constructor
    · rintro (rfl | ⟨t', h⟩)
      · exact ⟨t, List.mem_cons_self⟩
      · exact ⟨t', List.mem_cons_of_mem _ h⟩
    · rintro ⟨t', h⟩
      rcases List.mem_cons.mp h with e | h
      · injection e with e1 e2
        exact .inl e1
      · exact .inr ⟨t', h⟩
theorem strsAre_nodup : ∀ {vs : List Value} {xs : List Str}, StrsAre vs xs → vs.Pairwise (fun u v => ∀ k t t', ¬ (u = Value.str k t ∧ v = Value.str k t')) → xs.Nodup
  | _, _, .nil, _ => List.nodup_nil
  | _, _, .cons k t r, h => by
    obtain ⟨h1, h2⟩ := List.pairwise_cons.mp h
    refine List.nodup_cons.mpr ⟨fun hm => ?_, strsAre_nodup r h2⟩
    obtain ⟨t', ht⟩ := (strsAre_mem r k).mp hm
    exact h1 _ ht k t t' ⟨rfl, rfl⟩
theorem sorted_of_set {a : Addr} {S : Str → Bool} {n : Nat} {Q : Value → Shared → Prop} (R : SetS P w s.heap a S n) (hh : A.handled = none)
    (hQ : ∀ s' p (out : Array Value) (c : Nat) (xs : List Str), (∀ b o, s.heap.get? b = some o → s'.heap.get? b = some o) → s'.gens = s.gens → s'.os = s.os → s.heap.objs.size ≤ p →
      s'.heap.get? p = some (seqObj "list" out c) → StrsAre out.toList xs → sortedS xs = true → xs.Nodup → (∀ k, k ∈ xs ↔ S k = true) → xs.length = n → Q (.ref p) s') :
    wpAny (model P w) A (call (.builtin "sorted") [.ref a]) Q E s := by
  obtain ⟨o, es, ep, t, ⟨ho, hex, hd⟩, ⟨hel, hap, hmem⟩, hb, hf, hn, hr, hl⟩ := R
  refine Calls.call_function_entry kind_sorted plain_sorted entry_sorted (args_sorted1 _) ?_
  unfold Builtin.«sorted»
  refine wpAny_bind (m := checkCount "sorted" 1 1 _) (wpAny_pure ?_)
  refine wpAny_bind (collect_set (A := A.in1) hh ⟨o, ho, hex.1, hd⟩ hf hb hr hl fun s1 vs k1 hz g1 o1 pm => ?_)
  have hvl : vs.length = n := by rw [pm.length_eq, List.length_map, Array.length_toList]; exact hn
  have hsz : vs.length ≤ sizeLine := by rw [hvl, ← hn]; exact fits_of_scanBound hb
  obtain ⟨xs, hS⟩ := strsAre_of (vs := vs) fun v hv => by
    obtain ⟨e, he, q⟩ := List.mem_map.mp (pm.mem_iff.mp hv)
    obtain ⟨⟨k, hk, _⟩, _⟩ := hel e he
    obtain ⟨tk, ek⟩ := str_of_is hk
    exact ⟨k, tk, by rw [← q]; exact ek⟩
  have hnd : xs.Nodup := by
    refine strsAre_nodup hS ((pm.pairwise_iff (fun {_ _} z k t t' q => z k t' t ⟨q.2, q.1⟩)).mpr ?_)
    rw [List.pairwise_map]
    refine hap.imp fun z k t t' q => z k ?_
    rw [q.1, q.2]
    exact ⟨strKind_is _ _ _ _, strKind_is _ _ _ _⟩
  have hin : ∀ k, k ∈ xs ↔ S k = true := fun k => by
    rw [strsAre_mem hS k, hmem k]
    constructor
    · rintro ⟨t', h⟩
      obtain ⟨e, he, q⟩ := List.mem_map.mp (pm.mem_iff.mp h)
      exact ⟨e, he, by rw [q]; exact strKind_is _ _ _ _⟩
    · rintro ⟨e, he, q⟩
      obtain ⟨t', et⟩ := str_of_is q
      exact ⟨t', pm.mem_iff.mpr (List.mem_map.mpr ⟨e, he, et⟩)⟩
  refine wpAny_bind (wpAny_newList ?_ hsz)
  have hoL : (s1.heap.push (seqObj "list" vs.toArray 0)).get? s1.heap.objs.size = some (seqObj "list" vs.toArray 0) := Heap.get?_push_size _ rfl
  refine wpAny_bind (wpAny_holding (wpAny_call_entry slot_list_sort ⟨_, hoL, rfl⟩ entry_list_sort (list_sort_treeKAny PyProof.Rows.strKind_oneLt hoL hS.keysOf (fun v₁ v₂ rest e => keyKind_strs (by rw [← e]; exact hS)) hsz fun st' hp hs => ⟨_, rfl, ?_⟩) (args_list_sort _)))
  obtain ⟨ys, q1, q2, q3⟩ := sorted_out_str hS hp hs
  obtain ⟨c, hc⟩ := sortedHeap_at (vs := vs) (out := (arrOf st').map (·.2)) hoL
  refine wpAny_pure ⟨_, rfl, hQ _ s1.heap.objs.size _ c ys (fun b u e => ?_) g1 o1 hz hc q1 q3 (q2.nodup_iff.mpr hnd) (fun k => q2.mem_iff.trans (hin k)) ?_⟩
  · have q := k1 b u e
    have hlt := Heap.lt_size q
    show (sortedHeap (s1.heap.push (seqObj "list" vs.toArray 0)) s1.heap.objs.size vs _).get? b = some u
    rw [sortedHeap_old (Nat.ne_of_lt hlt) (by rw [size_push']; exact Nat.lt_succ_of_lt hlt)]
    exact Heap.get?_push_of_some _ q
  · rw [q2.length_eq, ← hS.len_eq]
    exact hvl
end
/-- a set of texts in the ledger -/
def SetT (P : Program) (w : World) (a : Addr) (S : Str → Bool) (n : Nat) : HO := .ext fun h => SetS P w h a S n
section
variable {X : Cx}
theorem setT_new {w : World} {P : Program} {H : Hp} {h : Heap} {a : Addr} {S : Str → Bool} {n : Nat} (R : SetS P w h a S n) : ObjOk P w H h a (SetT P w a S n) := by
  obtain ⟨o, es, ep, t, ⟨ho, _⟩, _⟩ := id R
  exact ⟨R, ⟨o, ho⟩, fun h1 h2 p k => p.at k⟩
theorem vals_strsAre : ∀ {xs : List Str} {us : List Value}, StrsAre us xs → Vals (xs.map V.str) us
  | _, _, .nil => .nil
  | _, _, .cons k t r => .cons ⟨t, rfl⟩ (vals_strsAre r)
theorem strsAre_vals : ∀ {xs : List Str} {us : List Value}, Vals (xs.map V.str) us → StrsAre us xs
  | [], _, .nil => .nil
  | x :: xs, _, .cons r q => by
    obtain ⟨t, rfl⟩ := r
    exact .cons x t (strsAre_vals q)
def rSetS (K : PySem.W.Frag) (P : Program) (w : World) : List V → Hp → VK → Prop := fun vs H Q => ∃ (l : Addr) (xs : List Str), vs = [V.ref l] ∧ SqL K H l (xs.map V.str) ∧ xs.length < 4000 ∧
  ∀ a n, H a = none → n ≤ xs.length → Q (.ref a) (upd H a (SetT P w a (fun x => decide (x ∈ xs)) n))
def rSortS (P : Program) (w : World) : List V → Hp → VK → Prop := fun vs H Q => ∃ (a : Addr) (S : Str → Bool) (n : Nat), vs = [V.ref a] ∧ H a = some (SetT P w a S n) ∧
  ∀ (xs : List Str) (p : Addr), sortedS xs = true → xs.Nodup → (∀ k, k ∈ xs ↔ S k = true) → xs.length = n → H p = none → Q (.ref p) (upd H p (.lst (xs.map V.str)))
theorem cr_sortS (hc : X.calm = true) : CallR X (.builtin "sorted") (rSortS X.prog X.w) := by
  intro pins s σ H vs us Q I r h
  obtain ⟨a, S, n, rfl, ha, q⟩ := h
  have R : SetS X.prog X.w s.heap a S n := (I.hok a _ ha).1
  rw [Vals.ref1 r]
  have hb : n ≤ sizeLine := by
    obtain ⟨o, es, ep, t, _, _, hb, _, hn, _⟩ := id R
    rw [← hn]
    exact fits_of_scanBound hb
  refine sorted_of_set R (I.ok.hd hc) fun s' p out c xs k g o hp hg hS h1 h2 h3 h4 => ?_
  have hn : H p = none := I.hok.fresh hp
  have J : Inv X pins σ (upd H p (.lst (xs.map V.str))) { s with heap := s'.heap, gens := s'.gens, drawn := s'.drawn, toks := s'.toks } :=
    I.call (ch := []) (Un.laid k hp hn) (I.hok.laid k hp ⟨by rw [List.length_map, h4]; exact hb, out.toList, c, vals_strsAre hS, hg⟩) (by rw [g]; exact I.bare) (fun _ z => nomatch z)
  have e : s' = { s with heap := s'.heap, gens := s'.gens, drawn := s'.drawn, toks := s'.toks } := by
    cases s'
    cases s
    cases o
    rfl
  rw [e]
  exact ⟨.ref p, _, J, rfl, q xs p h1 h2 h3 h4 hn⟩
end
end RV
/-! promises of the laws about sums; pairs of a name and an integer -/
namespace RV
open PySem L2
structure Blt2 (mg : Str → Option Value) : Prop where
  b_sum : mg "sum" = none
  b_sorted : mg "sorted" = none
  b_set : mg "set" = none
  b_tuple : mg "tuple" = none
  b_enumerate : mg "enumerate" = none
  b_bool : mg "bool" = none
def big : Int := 10 ^ 30
def sp_number : Sp := fun vs H Q _ => ∃ (a : Addr) (n : Nat), vs = [.ref a] ∧ WellAt H a n ∧ n < 900000 ∧
  ∀ (z : Int) H', -big < z → z < big → Grow a H H' → WellAt H' a (n + 5) → Q (.int z) H'
theorem pg_tupK {X : Cx} {K : PySem.W.Frag} {es : List Expr} {k : Nat} {t : TGs} {n : Nat} {pos : Pos} (hc : X.calm = true) (h : PGs X es t)
    (hn : (assignEach es X.env).length = n := by rfl) (hst : (assignEach es X.env).findIdx? (·.1) = none := by rfl) (hK : X.K = K := by rfl) : PG X (.Tuple es k pos) (gTup K n t) := hK ▸ pg_tup hc h hn hst
/-! ### lists of pairs of a text and an integer, each at its address -/
abbrev TP := Addr × Str × Int
def vP (us : List TP) : List V := us.map fun u => .ref u.1
def prs (us : List TP) : List (Str × Int) := us.map (·.2)
def oP (q : Str × Int) : HO := .tup [.str q.1, .int q.2]
def lP (us : List TP) : List (Addr × HO) := us.map fun u => (u.1, oP u.2)
def TPs (K : PySem.W.Frag) (H : Hp) (us : List TP) : Prop := ∀ u ∈ us, SqT K H u.1 [.str u.2.1, .int u.2.2]
abbrev gPr (K : PySem.W.Frag) (i j : Nat) : TG := gTup K 2 (gCons (gName i) (gCons (gName j) gNil))
/-! ### how great they are -/
def tot (qs : List (Str × Int)) : Nat := (qs.map fun q => q.2.natAbs).sum
end RV
/-! drawn pairs -/
namespace RV
open PySem L2
structure Pairs (us : List TP) (m : Nat) : Prop where
  nm : ∀ q ∈ prs us, IsNm q.1
  gr : (tot (prs us) : Int) ≤ big * 2 ^ m
  ln : us.length ≤ m
/-- drawn pairs; at most ten -/
def sp_pairs : Sp := fun vs H Q _ => ∃ (a : Addr) (n m : Nat), vs = [.ref a, .int m] ∧ WellAt H a n ∧ n < 700000 ∧ m ≤ 20 ∧
  ∀ (us : List TP) (l : Addr) H', Pairs us m → (∀ p ∈ (l, HO.lst (vP us)) :: lP us, p.1 ≠ a ∧ H' p.1 = some p.2) → H l = none → Grow a H H' → WellAt H' a (n + 1000) → Q (.ref l) H'
end RV
namespace RV
open PySem L2
end RV
/-! the order of texts; sums as ascending pairs; things made by a function that keeps all that stood -/
namespace RV
open PySem L2
open PySem.Spec (ltCps)
open PyProof.Rows (sortedS risingS)
theorem lt_irr : ∀ a : List Nat, ltCps a a = false
  | [] => rfl
  | c :: r => by simp [ltCps, lt_irr r]
theorem lt_tr : ∀ {a b c : List Nat}, ltCps a b = true → ltCps b c = true → ltCps a c = true
  | [], [], _, h, _ => by simp [ltCps] at h
  | [], _ :: _, [], _, h => by simp [ltCps] at h
  | [], _ :: _, _ :: _, _, _ => rfl
  | _ :: _, [], _, h, _ => by simp [ltCps] at h
  | _ :: _, _ :: _, [], _, h => by simp [ltCps] at h
  | x :: a, y :: b, z :: c, h, k => by
    simp only [ltCps, Bool.or_eq_true, decide_eq_true_eq, Bool.and_eq_true, beq_iff_eq] at h k ⊢
    rcases h with h | ⟨h, h'⟩ <;> rcases k with k | ⟨k, k'⟩
    · exact .inl (by omega)
    · exact .inl (by omega)
    · exact .inl (by omega)
    · exact .inr ⟨by omega, lt_tr h' k'⟩
theorem lt_tri : ∀ {a b : List Nat}, ltCps a b = false → ltCps b a = false → a = b
  | [], [], _, _ => rfl
  | [], _ :: _, h, _ => by simp [ltCps] at h
  | _ :: _, [], _, h => by simp [ltCps] at h
  | x :: a, y :: b, h, k => by
    simp only [ltCps, Bool.or_eq_false_iff, decide_eq_false_iff_not, Bool.and_eq_false_iff, beq_eq_false_iff_ne] at h k
    have e : x = y := by omega
    subst e
    rw [lt_tri (h.2.resolve_left fun z => z rfl) (k.2.resolve_left fun z => z rfl)]
def Lt (a b : Str) : Prop := ltCps (cd a) (cd b) = true
theorem Lt.irr (a : Str) : ¬ Lt a a := fun h => by rw [Lt, lt_irr] at h; cases h
theorem Lt.tr {a b c : Str} (h : Lt a b) (k : Lt b c) : Lt a c := lt_tr h k
theorem asc_of : ∀ {xs : List Str}, sortedS xs = true → xs.Nodup → xs.Pairwise Lt
  | [], _, _ => .nil
  | [x], _, _ => List.pairwise_cons.mpr ⟨fun _ h => (nomatch h), .nil⟩
  | x :: y :: r, h, d => by
    have h' : (!ltCps (cd y) (cd x) && risingS y r) = true := h
    rw [Bool.and_eq_true] at h'
    obtain ⟨d1, d2⟩ := List.nodup_cons.mp d
    have ih := asc_of (xs := y :: r) h'.2 d2
    have lt : Lt x y := by
      cases e : ltCps (cd x) (cd y) with
      | true => exact e
      | false =>
        have e2 : ltCps (cd y) (cd x) = false := by simpa using h'.1
        exact absurd (cd_inj (lt_tri e e2) ▸ List.mem_cons_self) d1
    refine List.pairwise_cons.mpr ⟨fun z hz => ?_, ih⟩
    rcases List.mem_cons.mp hz with rfl | hz
    · exact lt
    · exact lt.tr ((List.pairwise_cons.mp ih).1 z hz)
theorem asc_uniq {α : Type} {R : α → α → Prop} (irr : ∀ a, ¬ R a a) (tr : ∀ {a b c}, R a b → R b c → R a c) : ∀ {l m : List α}, l.Pairwise R → m.Pairwise R → (∀ x, x ∈ l ↔ x ∈ m) → l = m
  | [], [], _, _, _ => rfl
  | [], y :: m, _, _, h => nomatch (h y).2 List.mem_cons_self
  | x :: l, [], _, _, h => nomatch (h x).1 List.mem_cons_self
  | x :: l, y :: m, hl, hm, h => by
    obtain ⟨a1, a2⟩ := List.pairwise_cons.mp hl
    obtain ⟨b1, b2⟩ := List.pairwise_cons.mp hm
    have e : x = y := by
      rcases List.mem_cons.mp ((h x).1 List.mem_cons_self) with e | hx
      · exact e
      rcases List.mem_cons.mp ((h y).2 List.mem_cons_self) with e | hy
      · exact e.symm
      exact absurd (tr (a1 y hy) (b1 x hx)) (irr x)
    subst e
    have : l = m := asc_uniq irr tr a2 b2 fun z => by
      constructor
      · intro hz
        rcases List.mem_cons.mp ((h z).1 (List.mem_cons_of_mem _ hz)) with e | h'
        · exact absurd (e ▸ a1 z hz) (irr x)
        · exact h'
      · intro hz
        rcases List.mem_cons.mp ((h z).2 (List.mem_cons_of_mem _ hz)) with e | h'
        · exact absurd (e ▸ b1 z hz) (irr x)
        · exact h'
    rw [this]
/-! ### the coefficient of a name -/
def co (qs : List (Str × Int)) (x : Str) : Int := ((qs.filter fun q => decide (q.1 = x)).map fun q => q.2).sum
/-- ascending pairs, none with 0 -/
structure Nrm (rs : List (Str × Int)) : Prop where
  asc : (rs.map (·.1)).Pairwise Lt
  no0 : ∀ q ∈ rs, q.2 ≠ 0
/-! ### what a function that keeps all that stood leaves -/
structure Kp (H0 : Hp) (L : List (Addr × HO)) (H : Hp) : Prop where
  sm : Same H0 H
  nw : ∀ p ∈ L, H0 p.1 = none ∧ H p.1 = some p.2
section
variable {H0 H H' : Hp} {L L' : List (Addr × HO)} {p q a : Addr} {o o' : HO} {n : Nat}
theorem Kp.at (h : Kp H0 L H) (hp : (p, o) ∈ L) : H p = some o := (h.nw _ hp).2
end
/-! ### merged -/
def sp_merged (K : PySem.W.Frag) : Sp := fun vs H Q _ => ∃ (l : Addr) (us : List TP), vs = [.ref l] ∧ SqL K H l (vP us) ∧ TPs K H us ∧ us.length ≤ 120 ∧
  ∀ (ds : List TP) (m : Addr) H', Nrm (prs ds) → (∀ x, co (prs ds) x = co (prs us) x) → (∀ q ∈ prs ds, q.1 ∈ (prs us).map (·.1)) → ds.length ≤ us.length → Kp H ((m, .lst (vP ds)) :: lP ds) H' → Q (.ref m) H'
end RV
/-! numbers, terms, what a sum makes of its terms -/
namespace RV
open PySem L2
theorem tyx_tup {K : PySem.W.Frag} {H : Hp} {a : Addr} {xs : List V} (h : SqT K H a xs) : TyX K H (.ref a) (.type "tuple") := by
  rcases h with (h | ⟨o, h⟩) | ⟨o, its, n, h, hc, _⟩
  · exact .base (.tup h)
  · exact .fTuple h
  · exact .kTuple h hc
def sp_is_number (K : PySem.W.Frag) : Sp := fun vs H Q _ => ∃ v, vs = [v] ∧ ((∃ z : Int, v = .int z ∧ Q (.bl true) H) ∨ (∃ b : Bool, v = .bl b ∧ Q (.bl false) H) ∨
  (∃ t, TyX K H v t ∧ PySem.W.kitOne K t (.type "int") = some false ∧ Q (.bl false) H))
/-- a pair of a name and an integer -/
def sp_is_term (K : PySem.W.Frag) : Sp := fun vs H Q _ => ∃ (t : Addr) (x : Str) (z : Int), vs = [.ref t] ∧ SqT K H t [.str x, .int z] ∧ IsNm x ∧ ∀ H', Same H H' → Q (.bl true) H'
/-- a tuple of such pairs -/
def sp_check_terms (K : PySem.W.Frag) : Sp := fun vs H Q _ => ∃ (t : Addr) (us : List TP), vs = [.ref t] ∧ SqT K H t (vP us) ∧ TPs K H us ∧ (∀ q ∈ prs us, IsNm q.1) ∧ us.length ≤ 120 ∧ ∀ H', Same H H' → Q .non H'
/-- at most 120, with at most 60 different names -/
def Few (qs : List (Str × Int)) : Prop := qs.length ≤ 120 ∧ ∃ pool : List Str, pool.length ≤ 60 ∧ ∀ q ∈ qs, q.1 ∈ pool
def sp_collected (K : PySem.W.Frag) : Sp := fun vs H Q _ => ∃ (t : Addr) (us : List TP), vs = [.ref t] ∧ SqT K H t (vP us) ∧ TPs K H us ∧ Few (prs us) ∧
  ∀ (ds : List TP) (m : Addr) H', Nrm (prs ds) → (∀ x, co (prs ds) x = co (prs us) x) → (∀ q ∈ prs ds, q.1 ∈ (prs us).map (·.1)) → ds.length ≤ us.length → Kp H ((m, .tup (vP ds)) :: lP ds) H' → Q (.ref m) H'
end RV
/-! a dict that counts -/
namespace RV
open PySem L2
structure Dct (kvs : List (Key × V)) (qs : List (Str × Int)) (ks : List Str) : Prop where
  keys : kvs.map (·.1) = ks.map Sum.inr
  nd : ks.Nodup
  mem : ∀ x, x ∈ ks ↔ x ∈ qs.map (·.1)
  val : ∀ x, valV kvs (.inr x) = if x ∈ ks then some (.int (co qs x)) else none
  ln : ks.length ≤ qs.length
end RV
/-! what an own class says of len, x in o, o[x], truth -/
namespace RV
open PySem L2 PyProof.Rows
/-- the class C has an own method m that promises sp -/
def OwnM (P : Program) (w : World) (K : PySem.W.Frag) (mg : Str → Option Value) (base : Heap) (C : Addr) (m : String) (k : Nat) (sp : Sp) : Prop :=
  ∃ f fd ps, PySem.W.findIn K (.ref C) m = some (some (.ref f)) ∧ PySem.W.isFn K (.ref f) = true ∧ PySem.W.fnIn K f = true ∧ Binds K fd ps [] ∧ FnOk P w K mg base CX0 k f fd ps sp
section
variable {X : Cx} {pins : List (Addr × Obj)} {σ : L2.St} {H : Hp} {s : Shared} {C : Addr} {k : Nat} {sp : Sp}
theorem call_owns {A : Around} {f : Addr} {fd : FuncData} {ps : List Str} {Q : VK} {xs : List V} {us : List Value} (F : FnOk X.prog X.w X.K X.mg X.base CX0 k f fd ps sp) (hb : Binds X.K fd ps []) (hr : Room k A) (hf : A.frames = X.A.frames)
    (I : Inv X pins σ H s) (rx : Vals xs us) (hsp : sp xs H Q E0) : wpAny (model X.prog X.w) A (call (.ref f) us) (EP X pins σ Q) X.xe s := by
  have e0 : Env0 X.prog X.w X.K X.mg X.base A X.stack s H := by
    have e := I.env0
    exact ⟨by rw [hf]; exact e.frames, e.mod, e.bs, e.bsz, e.funs, e.frf, e.hok, e.bare⟩
  have hl := F.len _ _ _ _ hsp
  refine wpAny_call (codeAny_mono (F.run A X.stack s H ⟨us, []⟩ us xs _ E0 hr e0 (by
    have := hb s us I.kIn (by rw [List.append_nil, ← rx.length]; exact hl)
    simpa using this) rx hsp) fun r s' hq => ?_)
  cases r with
  | error e => exact (hq : False).elim
  | ok fl =>
    cases fl with
    | ret w => exact I.after hq
    | next => exact False.elim hq
    | brk => exact False.elim hq
    | cont => exact False.elim hq
def rLenO (C : Addr) (sp : Sp) : List V → Hp → VK → Prop := fun xs H Q => ∃ a dx fs, xs = [.ref a] ∧ H a = some (.ins C dx fs) ∧ sp [.ref a] H (fun v H' => ∃ n : Nat, v = .int n ∧ n < 100000 ∧ Q (.int n) H') E0
def rInO (neg : Bool) (C : Addr) (sp : Sp) : R2 := fun x y H Q => ∃ a dx fs, y = .ref a ∧ H a = some (.ins C dx fs) ∧ sp [.ref a, x] H (fun v H' => ∃ b, v = .bl b ∧ Q (.bl (if neg then !b else b)) H') E0
/-- truth by the class's own __bool__ -/
def rTrM (C : Addr) (sp : Sp) : V → Hp → (Bool → Hp → Prop) → Prop := fun x H Q => ∃ a dx fs, x = .ref a ∧ H a = some (.ins C dx fs) ∧ sp [.ref a] H (fun v H' => ∃ b, v = .bl b ∧ Q b H') E0
def rIxO (C : Addr) (sp : Sp) : R2 := fun x y H Q => ∃ a dx fs, x = .ref a ∧ H a = some (.ins C dx fs) ∧ sp [.ref a, y] H Q E0
end
end RV
/-! sums as they stand in the heap, and what their methods promise -/
namespace RV
open PySem L2
/-- the things of a sum at a whose terms are the tuple at t -/
def lS (C a dx t : Addr) (us : List TP) : List (Addr × HO) := (a, .ins C dx [("_terms", .ref t)]) :: (t, .tup (vP us)) :: lP us
def SumR (C : Addr) (H : Hp) (a : Addr) (qs : List (Str × Int)) : Prop := ∃ dx t us, prs us = qs ∧ ∀ p ∈ lS C a dx t us, H p.1 = some p.2
structure SClass (K : PySem.W.Frag) (mg : Str → Option Value) (C : Addr) : Prop where
  x : ClsX K C
  k : mg "Sum" = some (.ref C)
  n1 : NoAttr K C "_terms"
  me : PySem.W.kitOne K (.ref C) (.ref C) = some true
/-- terms that may be given -/
structure Trm (K : PySem.W.Frag) (H : Hp) (t : Addr) (us : List TP) : Prop where
  tp : SqT K H t (vP us)
  ps : TPs K H us
  nm : ∀ q ∈ prs us, IsNm q.1
  ln : us.length ≤ 60
structure TrmF (K : PySem.W.Frag) (H : Hp) (t : Addr) (us : List TP) : Prop where
  tp : SqT K H t (vP us)
  ps : TPs K H us
  nm : ∀ q ∈ prs us, IsNm q.1
  ln : Few (prs us)
/-- what a sum of these terms is -/
structure Mad (qs rs : List (Str × Int)) : Prop where
  nr : Nrm rs
  co : ∀ x, co rs x = co qs x
  nm : ∀ q ∈ rs, q.1 ∈ qs.map (·.1)
  ln : rs.length ≤ qs.length
def sp_Sum (K : PySem.W.Frag) (C : Addr) : Sp := fun vs H Q _ => ∃ (x dx t : Addr) (us : List TP), vs = [.ref x, .ref t] ∧ H x = some (.ins C dx []) ∧ TrmF K H t us ∧
  ∀ (ds : List TP) (m dx' : Addr) H', Mad (prs us) (prs ds) → (∀ b o, b ≠ x → H b = some o → H' b = some o) → (∀ p ∈ (m, HO.tup (vP ds)) :: lP ds, H p.1 = none) → (∀ p ∈ lS C x dx' m ds, H' p.1 = some p.2) → Q .non H'
def sp_len (C : Addr) : Sp := fun vs H Q _ => ∃ (a : Addr) (qs : List (Str × Int)), vs = [.ref a] ∧ SumR C H a qs ∧ Q (.int (qs.length : Nat)) H
def sp_yes : Sp := fun vs H Q _ => ∃ (a : Addr), vs = [.ref a] ∧ Q (.bl true) H
def sp_terms (C : Addr) : Sp := fun vs H Q _ => ∃ (a dx t : Addr) (us : List TP), vs = [.ref a] ∧ (∀ p ∈ lS C a dx t us, H p.1 = some p.2) ∧ Q (.ref t) H
def sp_get (C : Addr) : Sp := fun vs H Q _ => ∃ (a : Addr) (x : Str) (qs : List (Str × Int)), vs = [.ref a, .str x] ∧ IsNm x ∧ SumR C H a qs ∧ Nrm qs ∧ ∀ H', Same H H' → Q (.int (co qs x)) H'
def sp_has (C : Addr) : Sp := fun vs H Q _ => ∃ (a : Addr) (x : Str) (qs : List (Str × Int)), vs = [.ref a, .str x] ∧ IsNm x ∧ SumR C H a qs ∧ Nrm qs ∧ ∀ H', Same H H' → Q (.bl (!decide (co qs x = 0))) H'
end RV
/-! pairs as data -/
namespace RV
open PySem L2
def dq (q : Str × Int) : PyData := .tuple [.str q.1, .int q.2]
def dQ (qs : List (Str × Int)) : PyData := .tuple (qs.map dq)
def sp_eqS (K : PySem.W.Frag) (C : Addr) : Sp := fun vs H Q _ => ∃ (a : Addr) (y : V) (qs : List (Str × Int)), vs = [.ref a, y] ∧ SumR C H a qs ∧ (∀ q ∈ qs, IsNm q.1) ∧
  ((∃ b rs, y = .ref b ∧ SumR C H b rs ∧ (∀ q ∈ rs, IsNm q.1) ∧ Q (.bl (decide (qs = rs))) H) ∨ (∃ t, TyX K H y t ∧ PySem.W.kitOne K t (.ref C) = some false ∧ Q (.bl false) H))
end RV
/-! the same pairs in another order, some in two parts -/
namespace RV
open PySem L2
structure Oth (us vs : List TP) : Prop where
  co : ∀ x, co (prs vs) x = co (prs us) x
  nm : ∀ q ∈ prs vs, q.1 ∈ (prs us).map (·.1)
  ln : vs.length ≤ 2 * us.length
def sp_parted : Sp := fun vs H Q _ => ∃ (a l : Addr) (n : Nat) (us : List TP), vs = [.ref a, .ref l] ∧ WellAt H a n ∧ n < 600000 ∧ us.length ≤ 20 ∧ (∀ p ∈ (l, HO.lst (vP us)) :: lP us, p.1 ≠ a ∧ H p.1 = some p.2) ∧
  ∀ (vs : List TP) (m : Addr) H', Oth us vs → H m = none → Has H a (n + 1000) ((m, .lst (vP vs)) :: lP vs) H' → Q (.ref m) H'
end RV
/-! texts of pairs -/
namespace RV
open PySem L2 PyProof.Rows
/-- a sum shows these pairs, a list of them -/
def sp_shows (K : PySem.W.Frag) (C : Addr) : Sp := fun vs H Q _ => ∃ (a l : Addr) (ds : List TP), vs = [.ref a, .ref l] ∧ SumR C H a (prs ds) ∧ SqL K H l (vP ds) ∧ TPs K H ds ∧ Nrm (prs ds) ∧ (∀ q ∈ prs ds, IsNm q.1) ∧ tot (prs ds) ≤ 10 ^ 45 ∧ ds.length ≤ 60 ∧
  ∀ H', Same H H' → Q (.bl true) H'
/-- names that are much like a name -/
def nearL (x : Str) : List Str := [cutS x none (some (-1)), cutS (x ++ "a") none (some 8), cutS (x ++ "0") none (some 8), ("z" : Str) ++ cutS x (some 1) none]
end RV
/-! written numbers and terms -/
namespace RV
open PySem L2
structure Cst2 (mg : Str → Option Value) : Prop where
  worth : ∃ u, mg "_PIECE_WORTH" = some u ∧ RelV (.int (10 ^ 64)) u
  piece : ∃ u, mg "_PIECE" = some u ∧ RelV (.int 64) u
def num (z : Int) : Str := Str.ofString (toString z)
/-- a written number of at most 64 digits -/
def sp_written : Sp := fun vs H Q _ => ∃ z : Int, vs = [.int z] ∧ 0 ≤ z ∧ z < 10 ^ 64 ∧ ∀ H', Same H H' → Q (.str (num z)) H'
def ab (z : Int) : Int := if z < 0 then -z else z
/-- a term without its sign -/
def wo (x : Str) (z : Int) : Str := if ab z = 1 then x else ((Str.empty ++ num (ab z)) ++ ("*" : Str)) ++ x
/-- a term that is not the first -/
def fu (q : Str × Int) : Str := (((Str.empty ++ (" " : Str)) ++ (if q.2 < 0 then ("-" : Str) else "+")) ++ (" " : Str)) ++ wo q.1 q.2
def fi (q : Str × Int) : Str := (if q.2 < 0 then ("-" : Str) else "") ++ wo q.1 q.2
def pieces : List (Str × Int) → List Str
  | [] => ["0"]
  | q :: qs => fi q :: qs.map fu
/-- the text of a sum -/
def txt (qs : List (Str × Int)) : Str := Txt.join "" (pieces qs)
theorem sl_app (a b : Str) : (a ++ b).length = a.length + b.length := by rw [cd_len, cd_app, List.length_append, ← cd_len, ← cd_len]
def sp_without : Sp := fun vs H Q _ => ∃ (x : Str) (z : Int), vs = [.str x, .int z] ∧ IsNm x ∧ z.natAbs < 10 ^ 64 ∧ ∀ H', Same H H' → Q (.str (wo x z)) H'
def sp_further : Sp := fun vs H Q _ => ∃ (q : Str × Int), vs = [.str q.1, .int q.2] ∧ IsNm q.1 ∧ q.2.natAbs < 10 ^ 64 ∧ ∀ H', Same H H' → Q (.str (fu q)) H'
def sp_wterms (K : PySem.W.Frag) : Sp := fun vs H Q _ => ∃ (t : Addr) (us : List TP), vs = [.ref t] ∧ SqT K H t (vP us) ∧ TPs K H us ∧ (∀ q ∈ prs us, IsNm q.1 ∧ q.2.natAbs < 10 ^ 64) ∧ us.length ≤ 100 ∧
  ∀ m H', Kp H [(m, .lst ((pieces (prs us)).map V.str))] H' → Q (.ref m) H'
def sp_text (C : Addr) : Sp := fun vs H Q _ => ∃ (a : Addr) (qs : List (Str × Int)), vs = [.ref a] ∧ SumR C H a qs ∧ (∀ q ∈ qs, IsNm q.1 ∧ q.2.natAbs < 10 ^ 64) ∧ qs.length ≤ 100 ∧ ∀ H', Same H H' → Q (.str (txt qs)) H'
end RV
/-! str(o) of an own class -/
namespace RV
open PySem L2 PyProof.Rows
section
variable {X : Cx} {C : Addr} {k : Nat} {sp : Sp}
def rStrO (C : Addr) (sp : Sp) : List V → Hp → VK → Prop := fun xs H Q => ∃ a dx fs, xs = [.ref a] ∧ H a = some (.ins C dx fs) ∧ sp [.ref a] H (fun v H' => ∃ y : Str, v = .str y ∧ Q (.str y) H') E0
theorem call_strO (h : OwnM X.prog X.w X.K X.mg X.base C "__str__" k sp) (hr : Room (k + 2) X.A) : CallR X (.type "str") (rStrO C sp) := by
  intro pins s σ H xs us Q I rx hq
  obtain ⟨a, dx, fs, rfl, ha, hsp⟩ := hq
  obtain ⟨f, fd, ps, hs, hf, _, hb, F⟩ := h
  obtain rfl : us = [.ref a] := Vals.ref1 rx
  obtain ⟨mA, J, _⟩ := ins_get I.hok ha
  obtain ⟨od, J, _⟩ := J.look
  refine PySem.W.kso_call (hr.in1.in1.units0) I.kIn J hs hf (wpAny_mono (call_owns (A := X.A.in1.in1) F hb hr.in1.in1 rfl I rx hsp) (fun r s' z => ?_) fun _ _ x => x)
  obtain ⟨v, H', I', rv, y, rfl, q⟩ := z
  obtain ⟨t, rfl⟩ := rv
  exact ⟨.str y, H', I', ⟨_, rfl⟩, q⟩
end
end RV
/-! sums made -/
namespace RV
open PySem L2
end RV
/-! an int == an own object: the class's own == answers -/
namespace PySem
open AutoSeq1 (wpAny_loadPart')
set_option maxHeartbeats 4000000 in
theorem rv_int_eq_inst (b : Int) (u : Tok) (l C dx : Addr) :
    Meets (Builtin.«int.__eq__» ⟨[.int b u, .ref l], []⟩) (fun _ R s => s.heap.get? l = some (PySem.W.instObj C dx) ∧ R (.ok (.ret .notImplemented)) s) :=
  .of_wp fun prog w A R s h => by
    obtain ⟨hp, g, d, tk, os⟩ := s
    obtain ⟨hl, h⟩ := h
    unfold PySem.W.instObj at hl
    wp_walk using wpAny_loadPart' hl, wpAny_load hl
    exact ⟨_, rfl, h⟩
end PySem
namespace RV
open PySem L2 PyProof.Rows
section
variable {prog : Program} {w : World} {A : Around} {E : Value → Shared → Prop} {s : Shared} {K : PySem.W.Frag} {x C dx L f : Addr} {h₀ : Heap} {m : Str → Option Value} {od : Option Obj} {i : Int} {t : Tok}
open PySem.W in
end
section
variable {X : Cx} {C : Addr} {k : Nat} {sp : Sp}
/-- i == o -/
def rEqI (C : Addr) (sp : Sp) : R2 := fun x y H Q => ∃ (i : Int) (a dx : Addr) (fs : List (Str × V)), x = .int i ∧ y = .ref a ∧ H a = some (.ins C dx fs) ∧ sp [.ref a, .int i] H (fun v H' => ∃ b, v = .bl b ∧ Q (.bl b) H') E0
end
end RV
namespace RV
open PySem L2
def sp_rightS : Sp := fun vs H Q _ => ∃ (a : Addr) (n : Nat), vs = [.ref a] ∧ WellAt H a n ∧ n < 500000 ∧ ∀ H', Grow a H H' → WellAt H' a (n + 3000) → Q (.bl true) H'
def gS (vs zs : List V) : List V := match vs, zs with
  | [x], [t] => [x, t]
  | _, _ => []
/-- what sums and other values are to each other -/
structure SKinds (K : PySem.W.Frag) (C : Addr) : Prop where
  sI : PySem.W.subIn K (.ref C) (.type "int") = some false
  nS : PySem.W.notFirst K C (.ref C) = true
  nT : PySem.W.notFirst K C (.type "tuple") = true
  nX : PySem.W.notFirst K C (.type "str") = true
  nN : PySem.W.notFirst K C (.type "NoneType") = true
  kT : PySem.W.kitOne K (.type "tuple") (.ref C) = some false
  kX : PySem.W.kitOne K (.type "str") (.ref C) = some false
  kN : PySem.W.kitOne K (.type "NoneType") (.ref C) = some false
  kI : PySem.W.kitOne K (.type "int") (.ref C) = some false
section
variable {K : PySem.W.Frag} {C a : Addr} {H : Hp} {Q : VK} {neg : Bool} {qs rs : List (Str × Int)} {y : V} {t : Value}
end
end RV
/-! a ledger in parts; steps of the sums' own methods over it -/
namespace RV
open PySem L2
abbrev lT (l : Addr) (us : List TP) : List (Addr × HO) := (l, .lst (vP us)) :: lP us
/-- pairs that a sum shows -/
structure Due (qs : List (Str × Int)) : Prop where
  nr : Nrm qs
  nm : ∀ q ∈ qs, IsNm q.1
  tt : tot qs ≤ 10 ^ 45
  ln : qs.length ≤ 60
section
variable {K : PySem.W.Frag} {C a l x dx m t : Addr} {n n' : Nat} {L L' L2 : List (Addr × HO)} {H0 H H' : Hp} {us ds : List TP} {Q : VK} {E : XK}
end
theorem OwnM.irr {P : Program} {w : World} {K : PySem.W.Frag} {mg : Str → Option Value} {base : Heap} {C : Addr} {m : String} {k : Nat} {sp : Sp} (h : OwnM P w K mg base C m k sp) : OwnM P w K mg base C m k (Irr sp) := by
  obtain ⟨f, fd, ps, a, b, c, d, F⟩ := h
  exact ⟨f, fd, ps, a, b, c, d, F.imp fun _ _ _ _ z => irr_of z⟩
theorem Prp.irr {P : Program} {w : World} {K : PySem.W.Frag} {mg : Str → Option Value} {base : Heap} {C : Addr} {m : Str} {k : Nat} {sp : Sp} (h : Prp P w K mg base C m k sp) : Prp P w K mg base C m k (Irr sp) := by
  obtain ⟨c, p, g, fd, ps, a, b, F⟩ := h
  exact ⟨c, p, g, fd, ps, a, b, F.imp fun _ _ _ _ z => irr_of z⟩
theorem kit_self (K : PySem.W.Frag) (C : Addr) : PySem.W.kitOne K (.ref C) (.ref C) = some true := by
  unfold PySem.W.kitOne
  rw [if_pos (by simp)]
end RV
/-! rpartition; xs[i::2]; a class in a slot, called; class methods -/
namespace RV
open PySem L2 PyProof.Rows Builtin TL
section
variable {X : Cx} {pins : List (Addr × Obj)} {σ : L2.St} {H : Hp} {s : Shared}
end
/-! ### every other item of a list -/
def step2 {α : Type} (i : Nat) (xs : List α) : List α := (sliceRange (min i xs.length : Nat) xs.length 2).filterMap (xs[·]?)
def tSl2 (K : PySem.W.Frag) (i : Nat) (te : TE) : TE := fun σ H Q => te σ H fun x H1 => ∃ a xs, x = .ref a ∧ SqL K H1 a xs ∧ ∀ p, H1 p = none → Q (.ref p) (upd H1 p (.lst (step2 i xs)))
/-! ### a class in a slot -/
theorem pe_mkL {X : Cx} {C : Addr} {k i : Nat} {sp : Sp} {dvs : List V} {x y : Str} {p pos : Pos} {e : Expr} {es : List Expr} {t : TA} (h : Mkr X.prog X.w X.K X.mg X.base y C k sp dvs) (hr : Room (k + 1) X.A) (hN : X.N[i]? = some x) (hv : Vis X.env.scope x) (ha : PA X (e :: es) t)
    (hdb : (x == ("__debug__" : Str)) = false := by decide) (hcd : (x == ("__classdict__" : Str)) = false := by decide)
    (he : starEach (e :: es) X.env = (false, eval e X.env) :: starEach es X.env := by rfl) (hpl : (backTo pos (starEach es X.env)).any (·.1) = false := by rfl) : PE X (.Call (.Name x p) (e :: es) [] pos) (fun σ H Q => σ[i]? = some (some (.ref C)) ∧ tMake C sp dvs E0 t σ H Q) := by
  obtain ⟨_, f, fd, ps, ds, M, hb, hd, F⟩ := h
  refine ⟨fun pins s σ H Q I h => ?_⟩
  obtain ⟨hs, ht⟩ := h
  refine wpAny_Call_Name_kw (thn ((pe_var (pos := p) hN hv hdb hcd).run pins s σ H (fun v H1 => v = .ref C ∧ H1 = H) I ⟨.ref C, hs, rfl, rfl⟩) fun u s1 ⟨v, H1, I1, r1, q1⟩ => ?_)
  obtain ⟨rfl, rfl⟩ := q1
  cases r1
  refine PySem.W.callWith_K (h₀ := X.base) I.ok.mod.kin M.kp (thn (ha.run pos pins s1 σ _ _ I1 ht) fun us s2 ⟨vs, H2, I2, r, q⟩ => ⟨I2.kIn, ?_⟩) he hpl
  exact run_make M F hr hb hd pass0 I2 r q
end RV
/-! class methods; repr of a text; texts of sums, cut again -/
namespace RV
open PySem L2 PyProof.Rows ClX
/-- the class C has a class method m that promises sp -/
def ClsM (P : Program) (w : World) (K : PySem.W.Frag) (mg : Str → Option Value) (base : Heap) (C : Addr) (m : Str) (k : Nat) (ps : List Str) (sp : Sp) : Prop :=
  ∃ mc p g fd, CRead K C mc ∧ CMet K C mc m p g ∧ Binds K fd ps [] ∧ FnOk P w K mg base CX0 k g fd ps sp
/-- .. called by keywords -/
def ClsMK (P : Program) (w : World) (K : PySem.W.Frag) (mg : Str → Option Value) (base : Heap) (C : Addr) (m : Str) (k : Nat) (ks : List Str) (sp : Sp) (gV : List V → List V → List V) : Prop :=
  ∃ mc p g fd ps gg, CRead K C mc ∧ CMet K C mc m p g ∧ KBn K fd ps 1 ks gg gV ∧ FnOk P w K mg base CX0 k g fd ps sp
theorem ClsM.irr {P : Program} {w : World} {K : PySem.W.Frag} {mg : Str → Option Value} {base : Heap} {C : Addr} {m : Str} {k : Nat} {ps : List Str} {sp : Sp} (h : ClsM P w K mg base C m k ps sp) : ClsM P w K mg base C m k ps (Irr sp) := by
  obtain ⟨mc, p, g, fd, a, b, c, F⟩ := h
  exact ⟨mc, p, g, fd, a, b, c, F.imp fun _ _ _ _ z => irr_of z⟩
section
variable {X : Cx} {C : Addr} {k : Nat} {m : Str} {ps ks : List Str} {sp : Sp} {gV : List V → List V → List V} {o e : Expr} {es : List Expr} {kws : List Keyword} {t tk : TA} {ta : TE} {pos apos : Pos} {pl : Sem Bool}
theorem pe_cm (h : ClsM X.prog X.w X.K X.mg X.base C m k ps sp) (hr : Room k X.A) (he : PE X o ta) (ha : PA X (e :: es) t)
    (hst : starEach (e :: es) X.env = (false, eval e X.env) :: starEach es X.env := by rfl) (hpl : (backTo pos (starEach es X.env)).any (·.1) = false := by rfl)
    (ht : eval (.Call (.Attribute o m apos) (e :: es) [] pos) X.env = (do
      let ov ← eval o X.env
      standAt apos.atName
      let (f, first) ← holding [ov] (getMethod ov m pl)
      callWith pos f first (backTo pos (starEach (e :: es) X.env)) (backToKw pos (keywordEach [] X.env))) := by rfl) :
    PE X (.Call (.Attribute o m apos) (e :: es) [] pos) (tCMeth C sp E0 ta t) := by
  obtain ⟨mc, p, g, fd, r, c, hb, F⟩ := h
  exact pe_cmeth he r c ((FnOk.raw F hb .nil).imp fun vs H Q E z => by rw [List.append_nil]; exact z) hr pass0 ha hst hpl ht
def tCMethK (C : Addr) (n : Nat) (sp : Sp) (gV : List V → List V → List V) (ta : TE) (tk : TA) : TE := fun σ H Q => ta σ H fun x H1 => x = .ref C ∧ tk σ H1 fun zs H2 => zs.length = n ∧ sp (gV [.ref C] zs) H2 Q E0
@[irreducible] def rReprS : List V → Hp → VK → Prop := fun xs H Q => ∃ x : Str, xs = [.str x] ∧ (reprText x).length ≤ sizeLine ∧ Q (.str (reprText x)) H
end
end RV
/-! the text of a sum, cut into its words -/
namespace RV
open PySem L2 PyProof.Rows TL
def sgn (q : Str × Int) : Str := if q.2 < 0 then "-" else "+"
def parts (qs : List (Str × Int)) : List Str := qs.flatMap fun q => [sgn q, wo q.1 q.2]
def partsZ (qs : List (Str × Int)) : List Str := if qs = [] then ["+", "0"] else parts qs
def apart (z : Str) : Str := if Txt.startswith z "-" then ("- " : Str) ++ cutS z (some 1) none else ("+ " : Str) ++ z
theorem cd_em : cd Str.empty = [] := by decide +kernel
theorem cd_sp : cd " " = [32] := by decide +kernel
theorem cd_no : cd "" = [] := by decide +kernel
/-! the signs of words -/
def okC (c : Nat) : Bool := tailC c || c == 42
/-! a word, cut at its star -/
/-! every other of the words -/
end RV
/-! what reading a text promises -/
namespace RV
open PySem L2 PyProof.Rows TL
def sp_digits : Sp := fun vs H Q _ => ∃ z : Int, vs = [.str (num z)] ∧ 0 ≤ z ∧ Q (.bl true) H
def sp_readnum : Sp := fun vs H Q _ => ∃ z : Int, vs = [.str (num z)] ∧ 0 ≤ z ∧ z < 10 ^ 60 ∧ Q (.int z) H
def sp_apart : Sp := fun vs H Q _ => ∃ z : Str, vs = [.str z] ∧ z.length ≤ 1000000 ∧ Q (.str (apart z)) H
/-- a word of a sum's text -/
def sp_rterm (_K : PySem.W.Frag) : Sp := fun vs H Q _ => (∃ q : Str × Int, vs = [.str (sgn q), .str (wo q.1 q.2)] ∧ IsNm q.1 ∧ q.2.natAbs < 10 ^ 60 ∧ ∀ t H', Kp H [(t, oP q)] H' → Q (.ref t) H') ∨
  (vs = [.str "+", .str "0"] ∧ ∀ H', Same H H' → Q .non H')
def sp_termsin (_K : PySem.W.Frag) : Sp := fun vs H Q _ => ∃ qs : List (Str × Int), vs = [.str (txt qs)] ∧ Due qs ∧ ∀ (us : List TP) (m : Addr) H', prs us = qs → Kp H ((m, .tup (vP us)) :: lP us) H' → Q (.ref m) H'
def sp_read (C : Addr) : Sp := fun vs H Q _ => ∃ qs : List (Str × Int), vs = [.ref C, .str (txt qs)] ∧ Due qs ∧ ∀ (x dx m : Addr) (us : List TP) H', prs us = qs → Kp H (lS C x dx m us) H' → Q (.ref x) H'
end RV
/-! the text of a sum, term by term -/
namespace RV
open PySem L2 PyProof.Rows TL
/-- the line behind some terms -/
def line (qs : List (Str × Int)) : Str := if qs = [] then "" else txt qs
def sp_sumtext (K : PySem.W.Frag) : Sp := fun vs H Q _ => ∃ (l : Addr) (ds : List TP), vs = [.ref l] ∧ SqL K H l (vP ds) ∧ TPs K H ds ∧ Due (prs ds) ∧ Q (.str (txt (prs ds))) H
end RV
/-! steps over a ledger: sums read, texts shown -/
namespace RV
open PySem L2 PyProof.Rows TL
def gR (vs zs : List V) : List V := match vs, zs with
  | [x], [t] => [x, t]
  | _, _ => []
section
variable {K : PySem.W.Frag} {C a l x : Addr} {n : Nat} {L : List (Addr × HO)} {H0 H : Hp} {us ds : List TP} {Q : VK} {E : XK} {qs : List (Str × Int)}
end
end RV
/-! -o, o + p, o - p, o * n, n * o of own classes -/
namespace PySem
open AutoSeq1 (wpAny_loadPart')
set_option maxHeartbeats 4000000 in
theorem rv_int_mul_inst (b : Int) (u : Tok) (l C dx : Addr) :
    Meets (Builtin.«int.__mul__» ⟨[.int b u, .ref l], []⟩) (fun _ R s => s.heap.get? l = some (PySem.W.instObj C dx) ∧ R (.ok (.ret .notImplemented)) s) :=
  .of_wp fun prog w A R s h => by
    obtain ⟨hp, g, d, tk, os⟩ := s
    obtain ⟨hl, h⟩ := h
    unfold PySem.W.instObj at hl
    wp_walk using wpAny_loadPart' hl, wpAny_load hl
    exact ⟨_, rfl, h⟩
end PySem
namespace PySem.W
open PySem PySem.Calls PyProof.Rows
section
variable {prog : Program} {w : World} {A : Around} {E : Value → Shared → Prop} {s : Shared} {K : Frag} {x C dx L f g : Addr} {h₀ : Heap} {m : Str → Option Value} {od : Option Obj} {i : Int} {t : Tok} {fo ro : Option Value}
theorem rv_mulI {Q : Value → Shared → Prop} (F : Fr h₀ L s.heap m) (X₀ : K.In h₀) (I : InstAt s.heap x (instObj C dx) C od) (hc : selfFirst K C = true)
    (hs : findIn K (.ref C) (PySem.dunder "mul") = some (some (.ref f))) (hr : findIn K (.ref C) (dunderR "mul") = some (some (.ref g))) (hg : isFn K (.ref g) = true)
    (h1 : findIn K (.type "int") (PySem.dunder "mul") = some fo) (h2 : findIn K (.type "int") (dunderR "mul") = some ro) (hsub : subIn K (.ref C) (.type "int") = some false)
    (h : wpAny (model prog w) A (call (.ref g) [.ref x, .int i t]) (CmpBack Q) E s) : wpAny (model prog w) A (binaryOp .Mult (.int i t) (.ref x)) Q E s := by
  have X := X₀.keeps F.keep
  obtain ⟨cd, rest, hcd, hm⟩ := ksp_first hc
  have one := ksp_try X I hr hg h
  have decl : wpAny (model prog w) A (tryMethod (.int i t) (PySem.dunder "mul") (.ref x)) (fun r s' => r = none ∧ s' = s) E s :=
    wpAny_tryMethod_declines (Q := fun r s' => r = none ∧ s' = s) (typeIs_int _ _ _) PySem.F.slot_int_mul (call_meets PySem.F.slot_int_mul (typeIs_int _ _ _) PySem.F.entry_int_mul (PySem.F.args_int_mul_2 _ _) (PySem.rv_int_mul_inst i t x C dx) ⟨I.at_, rfl, rfl, rfl⟩)
  obtain ⟨hh, g', d, tt, os⟩ := s
  have L1 : Looks (model prog w) hh (typeOf (.int i t)) (.type "int") := Looks.of_pure rfl
  have L2 : Looks (model prog w) hh (typeOf (.ref x)) (.ref C) := I.type
  have L3 : Looks (model prog w) hh (fillsNumberSlot (.ref C) "mul") true := fills_K X hcd hm hs
  have L4 : Looks (model prog w) hh (fillsNumberSlot (.type "int") "mul") ((fo.isSome && !isSeqSlot fo) || (ro.isSome && !isSeqSlot ro)) := ksp_fillsT X h1 h2
  have L5 : Looks (model prog w) hh (isSubtype (.ref C) (.type "int")) false := looks_subIn X hsub
  have L7 : Looks (model prog w) hh (numberSlotInPython (.type "int") "mul") false := Looks.of_pure rfl
  generalize ((fo.isSome && !isSeqSlot fo) || (ro.isSome && !isSeqSlot ro)) = left at L4
  have hne : (Value.type "int" == Value.ref C) = false := Bool.eq_false_iff.mpr fun q => by cases beq_iff_eq.mp q
  simp only [binaryOp, show Operator.info .Mult = ("*", "mul") from rfl]
  refine wpAny_holding (wpAny_bind ?_)
  unfold binaryOp1
  refine wpAny_bind (L1.at (wpAny_bind (L2.at (wpAny_bind (L4.at ?_)))))
  simp only [hne, Bool.false_eq_true, if_false]
  cases left with
  | false =>
    ksp_lk
    refine wpAny_mono one (fun r s' hr' => ?_) fun _ _ e => e
    obtain ⟨v, rfl, hq⟩ := hr'
    ksp_lk
    exact hq
  | true =>
    ksp_lk
    refine wpAny_mono decl (fun r s' hd => ?_) fun _ _ e => e
    obtain ⟨rfl, rfl⟩ := hd
    ksp_lk
    refine wpAny_mono one (fun r s' hr' => ?_) fun _ _ e => e
    obtain ⟨v, rfl, hq⟩ := hr'
    ksp_lk
    exact hq
end
end PySem.W
namespace RV
open PySem L2 PyProof.Rows
section
variable {X : Cx} {C : Addr} {k : Nat} {sp : Sp}
@[irreducible] def rBinO (C : Addr) (sp : Sp) : R2 := fun x y H Q => ∃ a b dx fs dy gs, x = .ref a ∧ y = .ref b ∧ H a = some (.ins C dx fs) ∧ H b = some (.ins C dy gs) ∧ sp [.ref a, .ref b] H (fun v H' => ∃ p, v = .ref p ∧ Q (.ref p) H') E0
@[irreducible] def rMulO (C : Addr) (sp : Sp) : R2 := fun x y H Q => ∃ (a : Addr) (i : Int) (dx : Addr) (fs : List (Str × V)), x = .ref a ∧ y = .int i ∧ H a = some (.ins C dx fs) ∧ sp [.ref a, .int i] H (fun v H' => ∃ p, v = .ref p ∧ Q (.ref p) H') E0
@[irreducible] def rMulI (C : Addr) (sp : Sp) : R2 := fun x y H Q => ∃ (a : Addr) (i : Int) (dx : Addr) (fs : List (Str × V)), x = .int i ∧ y = .ref a ∧ H a = some (.ins C dx fs) ∧ sp [.ref a, .int i] H (fun v H' => ∃ p, v = .ref p ∧ Q (.ref p) H') E0
@[irreducible] def rNegO (C : Addr) (sp : Sp) : V → Hp → VK → Prop := fun x H Q => ∃ a dx fs, x = .ref a ∧ H a = some (.ins C dx fs) ∧ sp [.ref a] H Q E0
end
end RV
/-! sums by operators -/
namespace RV
open PySem L2 PyProof.Rows TL
def scl (i : Int) (qs : List (Str × Int)) : List (Str × Int) := qs.map fun q => (q.1, i * q.2)
/-- numbers small enough -/
structure Lit (qs : List (Str × Int)) : Prop where
  nm : ∀ q ∈ qs, IsNm q.1
  sm : ∀ q ∈ qs, q.2.natAbs < 10 ^ 60
  ln : qs.length ≤ 60
section
variable {K : PySem.W.Frag} {a D : Addr} {us : List TP} {i j : Nat} {te : TE} {vs : List Nat} {σ : L2.St} {H1 : Hp} {Qd : Hp → Prop}
end
/-- [(x, n * z) for x, z in xs] -/
def sp_times (K : PySem.W.Frag) : Sp := fun vs H Q _ => ∃ (l : Addr) (us : List TP) (i : Int), vs = [.ref l, .int i] ∧ SqL K H l (vP us) ∧ TPs K H us ∧ (∀ q ∈ prs us, q.2.natAbs < 10 ^ 60) ∧ us.length ≤ 60 ∧ i.natAbs < 10 ^ 60 ∧
  ∀ (ws : List TP) (m : Addr) H', prs ws = scl i (prs us) → Kp H (lT m ws) H' → Q (.ref m) H'
def sp_mulS (C : Addr) : Sp := fun vs H Q _ => ∃ (a : Addr) (qs : List (Str × Int)) (i : Int), vs = [.ref a, .int i] ∧ SumR C H a qs ∧ Lit qs ∧ i.natAbs < 10 ^ 60 ∧
  ∀ (x dx m : Addr) (ds : List TP) H', Mad (scl i qs) (prs ds) → Kp H (lS C x dx m ds) H' → Q (.ref x) H'
def sp_negS (C : Addr) : Sp := fun vs H Q _ => ∃ (a : Addr) (qs : List (Str × Int)), vs = [.ref a] ∧ SumR C H a qs ∧ Lit qs ∧
  ∀ (x dx m : Addr) (ds : List TP) H', Mad (scl (-1) qs) (prs ds) → Kp H (lS C x dx m ds) H' → Q (.ref x) H'
def sp_addS (C : Addr) : Sp := fun vs H Q _ => ∃ (a b : Addr) (qs rs : List (Str × Int)), vs = [.ref a, .ref b] ∧ SumR C H a qs ∧ SumR C H b rs ∧ (∀ q ∈ qs ++ rs, IsNm q.1) ∧ Few (qs ++ rs) ∧
  ∀ (x dx m : Addr) (ds : List TP) H', Mad (qs ++ rs) (prs ds) → Kp H (lS C x dx m ds) H' → Q (.ref x) H'
def sp_subS (C : Addr) : Sp := fun vs H Q _ => ∃ (a b : Addr) (qs rs : List (Str × Int)), vs = [.ref a, .ref b] ∧ SumR C H a qs ∧ SumR C H b rs ∧ (∀ q ∈ qs, IsNm q.1) ∧ Lit rs ∧ Few (qs ++ rs) ∧
  ∀ (x dx m : Addr) (ds : List TP) H', Mad (qs ++ scl (-1) rs) (prs ds) → Kp H (lS C x dx m ds) H' → Q (.ref x) H'
/-- a sum is the one of these pairs -/
def sp_is (K : PySem.W.Frag) (C : Addr) : Sp := fun vs H Q _ => ∃ (x l : Addr) (qs : List (Str × Int)) (us : List TP), vs = [.ref x, .ref l] ∧ SumR C H x qs ∧ Nrm qs ∧ SqL K H l (vP us) ∧ TPs K H us ∧ (∀ q ∈ prs us, IsNm q.1) ∧ us.length ≤ 60 ∧ tot (prs us) ≤ 10 ^ 42 ∧ (∀ y, co qs y = co (prs us) y) ∧
  ∀ H', Same H H' → Q (.bl true) H'
end RV
/-! sums of names -/
namespace RV
open PySem L2 PyProof.Rows ClX
def ones (ns : List Str) : List (Str × Int) := ns.map fun x => (x, 1)
def sp_ofB (K : PySem.W.Frag) (C : Addr) : Sp := fun vs H Q _ => ∃ (p : Addr) (ns : List Str), vs = [.ref C, .ref p] ∧ SqT K H p (ns.map V.str) ∧ (∀ x ∈ ns, IsNm x) ∧ ns.length ≤ 60 ∧
  ∀ (x dx m : Addr) (ds : List TP) H', Mad (ones ns) (prs ds) → Kp H (lS C x dx m ds) H' → Q (.ref x) H'
def sp_of (C : Addr) : Sp := fun vs H Q _ => ∃ ns : List Str, vs = .ref C :: ns.map V.str ∧ (∀ x ∈ ns, IsNm x) ∧ ns.length ≤ 60 ∧
  ∀ (x dx m : Addr) (ds : List TP) H', Mad (ones ns) (prs ds) → Kp H (lS C x dx m ds) H' → Q (.ref x) H'
/-- a class method that takes any number of values -/
def ClsR (P : Program) (w : World) (K : PySem.W.Frag) (mg : Str → Option Value) (base : Heap) (C : Addr) (m : Str) (k : Nat) (sp : Sp) : Prop :=
  ∃ mc p g, CRead K C mc ∧ CMet K C mc m p g ∧ FnR P w K mg base CX0 k g sp
end RV
/-! steps with sums over a heap that only grows -/
namespace RV
open PySem L2 PyProof.Rows TL
/-- pairs of names, so many, so great in all -/
structure Raw (qs : List (Str × Int)) (n b : Nat) : Prop where
  nm : ∀ q ∈ qs, IsNm q.1
  ln : qs.length ≤ n
  tt : tot qs ≤ b
/-- a sum of these pairs, as they were given -/
def Own (C : Addr) (H : Hp) (x : Addr) (qs : List (Str × Int)) : Prop := ∃ rs, SumR C H x rs ∧ Mad qs rs
section
variable {K : PySem.W.Frag} {C a b l x : Addr} {H H' : Hp} {qs rs : List (Str × Int)} {n m c d : Nat} {Q : VK} {E : XK} {us : List TP}
/-- a list of pairs -/
structure Lsp (K : PySem.W.Frag) (H : Hp) (l : Addr) (us : List TP) : Prop where
  hd : H l = some (.lst (vP us))
  ps : TPs K H us
end
def sp_mults : Sp := fun vs H Q _ => ∃ (a : Addr) (n : Nat), vs = [.ref a] ∧ WellAt H a n ∧ n < 800000 ∧ ∀ H', Grow a H H' → WellAt H' a (n + 100) → Q (.bl true) H'
end RV
/-! rows of sums beside their models -/
namespace RV
open PySem L2 PyProof.Rows TL
/-! ### data that are equal -/
/-! ### what stands, where a list is changed -/
section
variable {K : PySem.W.Frag} {C t p l x : Addr} {H H' : Hp} {xs ys : List V} {us : List TP} {qs : List (Str × Int)}
theorem Grow.put {o : HO} : Grow p H (upd H p o) := fun _ _ n e => by rw [upd_ne n]; exact e
end
/-! ### a sum and its model -/
abbrev Rw := Addr × Addr × List TP
structure One (K : PySem.W.Frag) (C : Addr) (H : Hp) (r : Rw) : Prop where
  sr : SumR C H r.1 (prs r.2.2)
  ls : Lsp K H r.2.1 r.2.2
/-- no coefficient of a model is greater -/
def lim : Nat := 3 * 10 ^ 33
structure Fit (pool : List Str) (us : List TP) : Prop where
  nr : Nrm (prs us)
  nm : ∀ q ∈ prs us, IsNm q.1
  pl : ∀ q ∈ prs us, q.1 ∈ pool
  sm : ∀ q ∈ prs us, q.2.natAbs ≤ lim
section
variable {pool pool' : List Str} {us ds : List TP} {K : PySem.W.Frag} {C x : Addr} {H : Hp} {qs rs : List (Str × Int)}
end
/-! ### steps with greater sums -/
section
variable {K : PySem.W.Frag} {C a b : Addr} {H : Hp} {qs rs : List (Str × Int)} {n m c d : Nat} {Q : VK}
end
section
variable {K : PySem.W.Frag} {l D : Addr} {us : List TP} {i j : Nat} {te : TE} {vs : List Nat} {σ : L2.St} {H1 : Hp} {Qd : Hp → Prop}
end
def rTupOf (K : PySem.W.Frag) : List V → Hp → VK → Prop := fun xs H Q => ∃ p ys, xs = [V.ref p] ∧ ((SqL K H p ys ∧ ∀ l, H l = none → Q (.ref l) (upd H l (.tup ys))) ∨ (SqT K H p ys ∧ Q (.ref p) H))
theorem call_tuple_ofK {X : Cx} {K : PySem.W.Frag} (h : X.K = K := by rfl) : CallR X (.type "tuple") (rTupOf K) := h ▸ call_tuple_of
/-! ### promises -/
def vS (rs : List Rw) : List V := rs.map fun r => .ref r.1
def vM (rs : List Rw) : List V := rs.map fun r => .ref r.2.1
section
variable {K : PySem.W.Frag} {a D : Addr} {rs : List Rw} {i : Nat} {te : TE} {vs : List Nat} {σ : L2.St} {H1 : Hp} {Qd : Hp → Prop}
end
/-- the greatest size -/
def sp_much (K : PySem.W.Frag) : Sp := fun vs H Q _ => ∃ (l : Addr) (us : List TP), vs = [.ref l] ∧ Lsp K H l us ∧ us.length ≤ 60 ∧ ∀ (m : Int) H', (∀ q ∈ prs us, (q.2.natAbs : Int) ≤ m) → Same H H' → Q (.int m) H'
def sp_allr (K : PySem.W.Frag) (C : Addr) : Sp := fun vs H Q _ => ∃ (S M : Addr) (rs : List Rw), vs = [.ref S, .ref M] ∧ SqL K H S (vS rs) ∧ SqL K H M (vM rs) ∧ (∀ r ∈ rs, One K C H r ∧ Due (prs r.2.2)) ∧ rs.length ≤ 20 ∧ ∀ H', Same H H' → Q (.bl true) H'
def sp_turn (K : PySem.W.Frag) (C : Addr) : Sp := fun vs H Q _ => ∃ (a S M : Addr) (n : Nat) (rs : List Rw) (pool : List Str), vs = [.ref a, .ref S, .ref M] ∧ WellAt H a n ∧ n < 600000 ∧ S ≠ a ∧ M ≠ a ∧ H S = some (.lst (vS rs)) ∧ H M = some (.lst (vM rs)) ∧ rs.length = 4 ∧
  (∀ r ∈ rs, One K C H r ∧ Fit pool r.2.2 ∧ r.2.1 ≠ a) ∧ pool.length ≤ 57 ∧
  ∀ (p x l : Addr) (us : List TP) (new : List Str) H', H' p = some (.lst [.ref x, .ref l]) → Own C H' x (prs us) → Lsp K H' l us → us.length ≤ 120 → (∀ q ∈ prs us, IsNm q.1 ∧ q.1 ∈ pool ++ new) → new.length ≤ 3 → (∀ y, (co (prs us) y).natAbs ≤ lim) →
    Grow a H H' → WellAt H' a (n + 1010) → Q (.ref p) H'
def sp_row : Sp := fun vs H Q _ => ∃ (a : Addr) (n : Nat), vs = [.ref a] ∧ WellAt H a n ∧ n < 1000 ∧ ∀ H', Grow a H H' → Q (.bl true) H'
end RV
/-! a row: a list of sums and a list of their models, both changed in place; older ones -/
namespace RV
open PySem L2 PyProof.Rows TL
structure RowAt (K : PySem.W.Frag) (C : Addr) (H0 H : Hp) (a : Addr) (n : Nat) (S M : Addr) (rs os : List Rw) (pool : List Str) (L : List (Addr × HO)) : Prop where
  hs : Has H0 a n ((S, .lst (vS rs)) :: (M, .lst (vM rs)) :: L) H
  s0 : H0 S = none
  m0 : H0 M = none
  sm : S ≠ M
  off : ∀ p ∈ L, p.1 ≠ S ∧ p.1 ≠ M
  ln : rs.length = 4
  on : ∀ r ∈ rs ++ os, One K C H r ∧ Fit pool r.2.2 ∧ r.2.1 ≠ a ∧ r.2.1 ≠ S ∧ r.2.1 ≠ M
section
variable {K : PySem.W.Frag} {C : Addr} {H0 H H' : Hp} {a S M p : Addr} {n m : Nat} {rs os os' : List Rw} {pool pool' : List Str} {L L' : List (Addr × HO)} {o : HO}
end
end RV
/-! nets: pipes, meters, nets in the heap; promises of their methods -/
namespace RV
open PySem L2 PyProof.Rows TL
def sp_check (K : PySem.W.Frag) : Sp := fun vs H Q _ => ∃ (t : Addr) (xs : List Str), vs = [.ref t] ∧ SqT K H t (xs.map V.str) ∧ (∀ x ∈ xs, IsNm x) ∧ ∀ H', Same H H' → Q .non H'
theorem k12 : ¬ (("_name" : Str) = "_start") := by decide +kernel
theorem k13 : ¬ (("_name" : Str) = "_end") := by decide +kernel
theorem k23 : ¬ (("_start" : Str) = "_end") := by decide +kernel
theorem k14 : ¬ (("_name" : Str) = "_at") := by decide +kernel
theorem k15 : ¬ (("_name" : Str) = "_sealed") := by decide +kernel
theorem k45 : ¬ (("_at" : Str) = "_sealed") := by decide +kernel
def pipeF (n s e : Str) : List (Str × V) := putF "_end" (.str e) (putF "_start" (.str s) (putF "_name" (.str n) []))
theorem pipeF_n (n s e : Str) : (pipeF n s e).lookup ("_name" : Str) = some (.str n) := by
  unfold pipeF
  rw [lookup_putF, if_neg k13, lookup_putF, if_neg k12, lookup_putF, if_pos rfl]
theorem pipeF_s (n s e : Str) : (pipeF n s e).lookup ("_start" : Str) = some (.str s) := by
  unfold pipeF
  rw [lookup_putF, if_neg k23, lookup_putF, if_pos rfl]
theorem pipeF_e (n s e : Str) : (pipeF n s e).lookup ("_end" : Str) = some (.str e) := by
  unfold pipeF
  rw [lookup_putF, if_pos rfl]
theorem putF_len (f : Str) (v : V) : ∀ fs : List (Str × V), (putF f v fs).length ≤ fs.length + 1
  | [] => Nat.le_refl _
  | (g, x) :: r => by
    show (if g = f then (g, v) :: r else (g, x) :: putF f v r).length ≤ _
    split
    · simp
    · have := putF_len f v r
      simp only [List.length_cons]
      omega
def metF (n a : Str) (z : Bool) : List (Str × V) := putF "_sealed" (.bl z) (putF "_at" (.str a) (putF "_name" (.str n) []))
theorem metF_n (n a : Str) (z : Bool) : (metF n a z).lookup ("_name" : Str) = some (.str n) := by
  unfold metF
  rw [lookup_putF, if_neg k15, lookup_putF, if_neg k14, lookup_putF, if_pos rfl]
theorem metF_a (n a : Str) (z : Bool) : (metF n a z).lookup ("_at" : Str) = some (.str a) := by
  unfold metF
  rw [lookup_putF, if_neg k45, lookup_putF, if_pos rfl]
theorem metF_z (n a : Str) (z : Bool) : (metF n a z).lookup ("_sealed" : Str) = some (.bl z) := by
  unfold metF
  rw [lookup_putF, if_pos rfl]
def sp_Pipe (C : Addr) : Sp := fun vs H Q _ => ∃ (x dx : Addr) (n s e : Str), vs = [.ref x, .str n, .str s, .str e] ∧ H x = some (.ins C dx []) ∧ IsNm n ∧ IsNm s ∧ IsNm e ∧ e ≠ s ∧
  ∀ H', (∀ b o, b ≠ x → H b = some o → H' b = some o) → (∃ dx, H' x = some (.ins C dx (pipeF n s e))) → Q .non H'
def sp_Meter (C : Addr) : Sp := fun vs H Q _ => ∃ (x dx : Addr) (n a : Str) (z : Bool), vs = [.ref x, .str n, .str a, .bl z] ∧ H x = some (.ins C dx []) ∧ IsNm n ∧ IsNm a ∧
  ∀ H', (∀ b o, b ≠ x → H b = some o → H' b = some o) → (∃ dx, H' x = some (.ins C dx (metF n a z))) → Q .non H'
abbrev P3 := Str × Str × Str
abbrev M3 := Str × Str × Bool
def PipeAt (C : Addr) (H : Hp) (p : Addr) (q : P3) : Prop := ∃ dx, H p = some (.ins C dx (pipeF q.1 q.2.1 q.2.2))
def MetAt (C : Addr) (H : Hp) (p : Addr) (q : M3) : Prop := ∃ dx, H p = some (.ins C dx (metF q.1 q.2.1 q.2.2))
theorem PipeAt.ext {C p : Addr} {H H' : Hp} {q : P3} (h : PipeAt C H p q) (s : Same H H') : PipeAt C H' p q := h.imp fun _ e => s _ _ e
theorem MetAt.ext {C p : Addr} {H H' : Hp} {q : M3} (h : MetAt C H p q) (s : Same H H') : MetAt C H' p q := h.imp fun _ e => s _ _ e
theorem PipeAt.gro {C a p : Addr} {H H' : Hp} {q : P3} {ys : List V} (h : PipeAt C H p q) (e : H a = some (.lst ys)) (g : Grow a H H') : PipeAt C H' p q := by
  obtain ⟨dx, z⟩ := h
  exact ⟨dx, g _ _ (fun w => by rw [w, e] at z; cases z) z⟩
theorem MetAt.gro {C a p : Addr} {H H' : Hp} {q : M3} {ys : List V} (h : MetAt C H p q) (e : H a = some (.lst ys)) (g : Grow a H H') : MetAt C H' p q := by
  obtain ⟨dx, z⟩ := h
  exact ⟨dx, g _ _ (fun w => by rw [w, e] at z; cases z) z⟩
/-- a pipe's, a meter's own properties -/
def sp_pn (C : Addr) : Sp := fun vs H Q _ => ∃ (a : Addr) (q : P3), vs = [.ref a] ∧ PipeAt C H a q ∧ Q (.str q.1) H
def sp_ps (C : Addr) : Sp := fun vs H Q _ => ∃ (a : Addr) (q : P3), vs = [.ref a] ∧ PipeAt C H a q ∧ Q (.str q.2.1) H
def sp_pe (C : Addr) : Sp := fun vs H Q _ => ∃ (a : Addr) (q : P3), vs = [.ref a] ∧ PipeAt C H a q ∧ Q (.str q.2.2) H
def sp_mn (C : Addr) : Sp := fun vs H Q _ => ∃ (a : Addr) (q : M3), vs = [.ref a] ∧ MetAt C H a q ∧ Q (.str q.1) H
def sp_ma (C : Addr) : Sp := fun vs H Q _ => ∃ (a : Addr) (q : M3), vs = [.ref a] ∧ MetAt C H a q ∧ Q (.str q.2.1) H
def sp_mz (C : Addr) : Sp := fun vs H Q _ => ∃ (a : Addr) (q : M3), vs = [.ref a] ∧ MetAt C H a q ∧ Q (.bl q.2.2) H
/-- two of a kind are compared -/
def sp_Peq (C : Addr) : Sp := fun vs H Q _ => ∃ (a b : Addr) (q r : P3), vs = [.ref a, .ref b] ∧ PipeAt C H a q ∧ PipeAt C H b r ∧ Q (.bl (decide (q = r))) H
def sp_Meq (C : Addr) : Sp := fun vs H Q _ => ∃ (a b : Addr) (q r : M3), vs = [.ref a, .ref b] ∧ MetAt C H a q ∧ MetAt C H b r ∧ Q (.bl (decide (q = r))) H
structure PClass (K : PySem.W.Frag) (mg : Str → Option Value) (C : Addr) : Prop where
  x : ClsX K C
  k : mg "Pipe" = some (.ref C)
  n1 : NoAttr K C "_name"
  n2 : NoAttr K C "_start"
  n3 : NoAttr K C "_end"
  me : PySem.W.kitOne K (.ref C) (.ref C) = some true
structure MClass (K : PySem.W.Frag) (mg : Str → Option Value) (C : Addr) : Prop where
  x : ClsX K C
  k : mg "Meter" = some (.ref C)
  n1 : NoAttr K C "_name"
  n2 : NoAttr K C "_at"
  n3 : NoAttr K C "_sealed"
  me : PySem.W.kitOne K (.ref C) (.ref C) = some true
structure NClass (K : PySem.W.Frag) (mg : Str → Option Value) (C : Addr) : Prop where
  x : ClsX K C
  k : mg "Net" = some (.ref C)
  n1 : NoAttr K C "_pipes"
  n2 : NoAttr K C "_meters"
  me : PySem.W.kitOne K (.ref C) (.ref C) = some true
section
variable {H : Hp} {R : Hp → Prop} {E : XK} {C x dx : Addr} {n s e : Str} {z : Bool}
theorem Pipe_kp (h1 : IsNm n) (h2 : IsNm s) (h3 : IsNm e) (hne : e ≠ s) (hx : H x = none) (hd : H dx = none) (_ : dx ≠ x) (k : ∀ H', Same H H' → PipeAt C H' x (n, s, e) → R H') :
    Irr (sp_Pipe C) [.ref x, .str n, .str s, .str e] (upd (upd H dx (.own x)) x (.ins C dx [])) (fun v H2 => v = .non ∧ R H2) E :=
  irr ⟨x, dx, n, s, e, rfl, upd_same, h1, h2, h3, hne, fun H' g p => ⟨rfl, k H' (fun b o eb => g b o (ne_of_none eb hx) (by rw [upd_ne (ne_of_none eb hx), upd_ne (ne_of_none eb hd)]; exact eb)) p⟩⟩
theorem Meter_kp (h1 : IsNm n) (h2 : IsNm s) (hx : H x = none) (hd : H dx = none) (_ : dx ≠ x) (k : ∀ H', Same H H' → MetAt C H' x (n, s, z) → R H') :
    Irr (sp_Meter C) [.ref x, .str n, .str s, .bl z] (upd (upd H dx (.own x)) x (.ins C dx [])) (fun v H2 => v = .non ∧ R H2) E :=
  irr ⟨x, dx, n, s, z, rfl, upd_same, h1, h2, fun H' g p => ⟨rfl, k H' (fun b o eb => g b o (ne_of_none eb hx) (by rw [upd_ne (ne_of_none eb hx), upd_ne (ne_of_none eb hd)]; exact eb)) p⟩⟩
end
theorem strs_flat : ∀ xs : List Str, (xs.map V.str).all flatV = true
  | [] => rfl
  | x :: xs => by simp [flatV, strs_flat xs]
/-- a name is not among those in front of it -/
theorem nodup_take {α : Type} {f : α → Str} : ∀ {xs : List α} {i : Nat} {x : α}, (xs.map f).Nodup → xs[i]? = some x → f x ∉ (xs.take i).map f
  | [], _, _, _, h => by simp at h
  | y :: ys, 0, x, _, _ => by simp
  | y :: ys, i + 1, x, nd, h => by
    rw [List.map_cons, List.nodup_cons] at nd
    rw [List.getElem?_cons_succ] at h
    rw [List.take_succ_cons, List.map_cons, List.mem_cons]
    rintro (e | e)
    · exact nd.1 (by rw [← e]; exact List.mem_map.mpr ⟨x, List.mem_of_getElem? h, rfl⟩)
    · exact nodup_take nd.2 h e
/-! ### nets -/
theorem kPM : ¬ (("_pipes" : Str) = "_meters") := by decide +kernel
def netF (tp tm : Addr) : List (Str × V) := putF "_meters" (.ref tm) (putF "_pipes" (.ref tp) [])
theorem netF_p (tp tm : Addr) : (netF tp tm).lookup ("_pipes" : Str) = some (.ref tp) := by
  unfold netF
  rw [lookup_putF, if_neg kPM, lookup_putF, if_pos rfl]
theorem netF_m (tp tm : Addr) : (netF tp tm).lookup ("_meters" : Str) = some (.ref tm) := by
  unfold netF
  rw [lookup_putF, if_pos rfl]
abbrev PU := Addr × P3
abbrev MU := Addr × M3
def rf {α : Type} (us : List (Addr × α)) : List V := us.map fun u => .ref u.1
def sn {α : Type} (us : List (Addr × α)) : List α := us.map (·.2)
theorem rf_len {α : Type} (us : List (Addr × α)) : (rf us).length = us.length := List.length_map _
theorem sn_len {α : Type} (us : List (Addr × α)) : (sn us).length = us.length := List.length_map _
/-- a tuple of pipes, of meters -/
structure Tps (K : PySem.W.Frag) (C : Addr) (H : Hp) (t : Addr) (us : List PU) : Prop where
  t : SqT K H t (rf us)
  o : ∀ u ∈ us, PipeAt C H u.1 u.2
structure Tms (K : PySem.W.Frag) (C : Addr) (H : Hp) (t : Addr) (us : List MU) : Prop where
  t : SqT K H t (rf us)
  o : ∀ u ∈ us, MetAt C H u.1 u.2
theorem Tps.ext {K : PySem.W.Frag} {C t : Addr} {H H' : Hp} {us : List PU} (h : Tps K C H t us) (s : Same H H') : Tps K C H' t us := ⟨h.t.ext s, fun u hu => (h.o u hu).ext s⟩
theorem Tms.ext {K : PySem.W.Frag} {C t : Addr} {H H' : Hp} {us : List MU} (h : Tms K C H t us) (s : Same H H') : Tms K C H' t us := ⟨h.t.ext s, fun u hu => (h.o u hu).ext s⟩
/-- what a net's pipes, a net's meters are -/
structure POk (ps : List P3) : Prop where
  n0 : ps ≠ []
  ln : ps.length ≤ 12
  nm : ∀ p ∈ ps, IsNm p.1 ∧ IsNm p.2.1 ∧ IsNm p.2.2 ∧ p.2.2 ≠ p.2.1
  nd : (ps.map (·.1)).Nodup
structure MOk (ps : List P3) (ms : List M3) : Prop where
  ln : ms.length ≤ 12
  nm : ∀ m ∈ ms, IsNm m.1 ∧ IsNm m.2.1
  nd : (ms.map (·.1)).Nodup
  on : ∀ m ∈ ms, m.2.1 ∈ ps.map (·.1)
/-- a net in the heap -/
structure NetR (K : PySem.W.Frag) (CN CP CM : Addr) (H : Hp) (x : Addr) (ps : List P3) (ms : List M3) : Prop where
  ex : ∃ (dx tp tm : Addr) (pu : List PU) (mu : List MU), H x = some (.ins CN dx (netF tp tm)) ∧ Tps K CP H tp pu ∧ Tms K CM H tm mu ∧ sn pu = ps ∧ sn mu = ms
theorem NetR.ext {K : PySem.W.Frag} {CN CP CM x : Addr} {H H' : Hp} {ps : List P3} {ms : List M3} (h : NetR K CN CP CM H x ps ms) (s : Same H H') : NetR K CN CP CM H' x ps ms := by
  obtain ⟨dx, tp, tm, pu, mu, e, h1, h2, h3⟩ := h.ex
  exact ⟨dx, tp, tm, pu, mu, s _ _ e, h1.ext s, h2.ext s, h3⟩
def sp_index (K : PySem.W.Frag) (CP : Addr) : Sp := fun vs H Q _ => ∃ (t : Addr) (us : List PU) (y : Str), vs = [.ref t, .str y] ∧ Tps K CP H t us ∧ us.length ≤ 12 ∧ y ∈ (sn us).map (·.1) ∧ ∀ (i : Nat) H', ((sn us)[i]?).map (·.1) = some y → Same H H' → Q (.int (i : Nat)) H'
def sp_chkP (K : PySem.W.Frag) (CP : Addr) : Sp := fun vs H Q _ => ∃ (t : Addr) (us : List PU), vs = [.ref t] ∧ Tps K CP H t us ∧ POk (sn us) ∧ ∀ H', Same H H' → Q .non H'
def sp_chkM (K : PySem.W.Frag) (CP CM : Addr) : Sp := fun vs H Q _ => ∃ (t tp : Addr) (us : List MU) (pu : List PU), vs = [.ref t, .ref tp] ∧ Tms K CM H t us ∧ Tps K CP H tp pu ∧ pu.length ≤ 12 ∧ MOk (sn pu) (sn us) ∧ ∀ H', Same H H' → Q .non H'
def sp_Net (K : PySem.W.Frag) (CN CP CM : Addr) : Sp := fun vs H Q _ => ∃ (x dx tp tm : Addr) (pu : List PU) (mu : List MU), vs = [.ref x, .ref tp, .ref tm] ∧ H x = some (.ins CN dx []) ∧ Tps K CP H tp pu ∧ Tms K CM H tm mu ∧ POk (sn pu) ∧ MOk (sn pu) (sn mu) ∧
  ∀ H', (∀ b o, b ≠ x → H b = some o → H' b = some o) → (∃ dx, H' x = some (.ins CN dx (netF tp tm))) → Q .non H'
section
variable {K : PySem.W.Frag} {CN CP CM x dx tp tm : Addr} {H : Hp} {pu : List PU} {mu : List MU} {R : Hp → Prop} {E : XK}
theorem Net_kp (hp : Tps K CP H tp pu) (hm : Tms K CM H tm mu) (po : POk (sn pu)) (mo : MOk (sn pu) (sn mu)) (hx : H x = none) (hd : H dx = none) (_ : dx ≠ x) (k : ∀ H', Same H H' → NetR K CN CP CM H' x (sn pu) (sn mu) → R H') :
    Irr (sp_Net K CN CP CM) [.ref x, .ref tp, .ref tm] (upd (upd H dx (.own x)) x (.ins CN dx [])) (fun v H2 => v = .non ∧ R H2) E := by
  have s : Same H (upd (upd H dx (.own x)) x (.ins CN dx [])) := fun b o eb => by rw [upd_ne (ne_of_none eb hx), upd_ne (ne_of_none eb hd)]; exact eb
  refine irr ⟨x, dx, tp, tm, pu, mu, rfl, upd_same, hp.ext s, hm.ext s, po, mo, fun H' g p => ⟨rfl, ?_⟩⟩
  have s' : Same H H' := fun b o eb => g b o (ne_of_none eb hx) (s b o eb)
  obtain ⟨dx', p⟩ := p
  exact k H' s' ⟨dx', tp, tm, pu, mu, p, hp.ext s', hm.ext s', rfl, rfl⟩
end
end RV
/-! comprehensions: one thing for each item; the items that fit -/
namespace RV
open PySem L2 PyProof.Rows TL
section
variable {α β : Type} {K : PySem.W.Frag} {D : Addr} {xs : List V} {i : Nat} {te : TE} {tt : TT} {vs : List Nat} {σ : L2.St} {H1 : Hp} {Qd : Hp → Prop} {J : It} {GG : Hp → Prop}
/-- [f(x) for x in xs]: each turn gives a value of which something is known -/
theorem lc_new (val : β → V) (Pk : Nat → β → Hp → Prop) (wk : Walk J xs.length GG (YAt xs)) (nD : H1 D = none) (len : xs.length ≤ 1000) (hG : ∀ H', Same H1 H' → GG H') (hw : ∀ x, wipe ((wipe σ vs).set i x) vs = wipe σ vs)
    (ext : ∀ k b H H', Same H H' → Pk k b H → Pk k b H') (put : ∀ k b H acc acc', H D = some (.lst acc) → Pk k b H → Pk k b (upd H D (.lst acc')))
    (h : ∀ k x, xs[k]? = some x → ∀ H2, Same H1 H2 → (∃ acc, H2 D = some (.lst acc)) → ∀ R : VK, (∀ b H3, Same H2 H3 → Pk k b H3 → R (val b) H3) → te ((wipe σ vs).set i (some x)) H2 R)
    (k : ∀ (bs : List β) H', Same H1 H' → bs.length = xs.length → (∀ k b, bs[k]? = some b → Pk k b H') → H' D = some (.lst (bs.map val)) → Qd H') :
    ∃ W : Nat → Nat → Hp → Prop, (∃ m, W 0 m (upd H1 D (.lst []))) ∧ ∀ i' m H, W i' m H →
      (J.stop i' H ∧ Qd H) ∨ (J.go i' H ∧ ∃ Nx : Hp → Prop, (∀ H', Nx H' → ∃ m', m' < m ∧ W (i' + 1) m' H') ∧ ∀ x H', J.yld i' H x H' → gName i x (wipe σ vs) H' fun σ2 H2 => wipe σ2 vs = wipe σ vs ∧ tYes σ2 H2 fun b H3 =>
        if b = true then te σ2 H3 fun y H4 => ∃ acc, H4 D = some (.lst acc) ∧ acc.length < sizeLine ∧ Nx (upd H4 D (.lst (acc ++ [y]))) else Nx H3) := by
  refine L2.lc_it wk (fun i' H' => ∃ bs : List β, bs.length = i' ∧ Same H1 H' ∧ H' D = some (.lst (bs.map val)) ∧ ∀ k b, bs[k]? = some b → Pk k b H')
    ⟨[], rfl, fun b o e => (upd_ne (ne_of_none e nD)).trans e, upd_same, fun k b e => by simp at e⟩ (fun i' H' _ z => ?_) (fun i' x Ha Hb hi hv y => ?_) (fun H' hv => ?_)
  · obtain ⟨_, _, s, _⟩ := z
    exact hG _ s
  · obtain ⟨bs, hb, s, eD, hp⟩ := hv
    obtain ⟨rfl, hx⟩ := y
    have e0 : ∀ (σ : L2.St) (H : Hp) (R : Bool → Hp → Prop), R true H → tYes σ H R := fun _ _ _ r => r
    refine ⟨hw _, e0 _ _ _ ?_⟩
    simp only [↓reduceIte]
    refine h i' x hx Hb s ⟨_, eD⟩ _ fun b H3 s3 pb => ?_
    have eD3 := s3 _ _ eD
    refine ⟨_, eD3, ?_, bs ++ [b], by rw [List.length_append, hb]; rfl, fun c o e => ?_, by rw [upd_same, List.map_append]; rfl, fun k c e => ?_⟩
    · rw [List.length_map, hb]
      exact Nat.lt_of_lt_of_le (show i' < 1001 by omega) (by decide)
    · rw [upd_ne (ne_of_none e nD)]
      exact s3 _ _ (s _ _ e)
    · refine put _ _ _ _ _ eD3 ?_
      rw [List.getElem?_append] at e
      split at e
      · exact ext _ _ _ _ s3 (hp k c e)
      · rename_i hk
        have : k - bs.length = 0 := by
          have := (List.getElem?_eq_some_iff.mp e).1
          simp at this
          omega
        rw [this] at e
        obtain rfl : b = c := Option.some.inj e
        rw [show k = i' by omega]
        exact pb
  · obtain ⟨bs, hb, s, eD, hp⟩ := hv
    exact k bs H' s hb hp eD
/-- [f(x) for x in xs]: plain values -/
theorem lc_to (ys : List V) (hl : ys.length = xs.length) (wk : Walk J xs.length GG (YAt xs)) (nD : H1 D = none) (len : xs.length ≤ 1000) (hG : ∀ H', Same H1 H' → GG H') (hw : ∀ x, wipe ((wipe σ vs).set i x) vs = wipe σ vs)
    (h : ∀ (k : Nat) (x y : V), xs[k]? = some x → ys[k]? = some y → ∀ H2, Same H1 H2 → ∀ R : VK, (∀ H3, Same H2 H3 → R y H3) → te ((wipe σ vs).set i (some x)) H2 R)
    (k : ∀ H', Same H1 H' → H' D = some (.lst ys) → Qd H') :
    ∃ W : Nat → Nat → Hp → Prop, (∃ m, W 0 m (upd H1 D (.lst []))) ∧ ∀ i' m H, W i' m H →
      (J.stop i' H ∧ Qd H) ∨ (J.go i' H ∧ ∃ Nx : Hp → Prop, (∀ H', Nx H' → ∃ m', m' < m ∧ W (i' + 1) m' H') ∧ ∀ x H', J.yld i' H x H' → gName i x (wipe σ vs) H' fun σ2 H2 => wipe σ2 vs = wipe σ vs ∧ tYes σ2 H2 fun b H3 =>
        if b = true then te σ2 H3 fun y H4 => ∃ acc, H4 D = some (.lst acc) ∧ acc.length < sizeLine ∧ Nx (upd H4 D (.lst (acc ++ [y]))) else Nx H3) := by
  refine lc_new (β := V) id (fun (k : Nat) (b : V) (_ : Hp) => (ys[k]? : Option V) = some b) wk nD len hG hw (fun _ _ _ _ _ e => e) (fun _ _ _ _ _ _ e => e) (fun k x hx H2 s2 _ R r => ?_) fun bs H' s' bl bp eD => ?_
  · have hk := (List.getElem?_eq_some_iff.mp hx).1
    have e : ys[k]? = some (ys[k]'(by omega)) := List.getElem?_eq_getElem _
    exact h k x _ hx e H2 s2 R fun H3 s3 => r _ H3 s3 e
  · refine k H' s' ?_
    rw [eD, List.map_id]
    congr 2
    refine List.ext_getElem? fun j => ?_
    cases e : bs[j]? with
    | some b => rw [bp j b e]
    | none => rw [List.getElem?_eq_none_iff] at e; rw [List.getElem?_eq_none (by omega)]
/-- [x for x in xs if p(x)] over things at addresses -/
theorem lc_keep {us : List (Addr × α)} (p : Addr × α → Bool) (wk : Walk J (rf us).length GG (YAt (rf us))) (nD : H1 D = none) (len : us.length ≤ 1000) (hG : ∀ H', Same H1 H' → GG H') (hw : ∀ x, wipe ((wipe σ vs).set i x) vs = wipe σ vs)
    (ht : ∀ u ∈ us, ∀ H2, Same H1 H2 → ∀ R : Bool → Hp → Prop, (∀ H3, Same H2 H3 → R (p u) H3) → tt ((wipe σ vs).set i (some (.ref u.1))) H2 R)
    (he : ∀ u ∈ us, ∀ H2, ∀ R : VK, R (.ref u.1) H2 → te ((wipe σ vs).set i (some (.ref u.1))) H2 R)
    (k : ∀ H', Same H1 H' → H' D = some (.lst (rf (us.filter p))) → Qd H') :
    ∃ W : Nat → Nat → Hp → Prop, (∃ m, W 0 m (upd H1 D (.lst []))) ∧ ∀ i' m H, W i' m H →
      (J.stop i' H ∧ Qd H) ∨ (J.go i' H ∧ ∃ Nx : Hp → Prop, (∀ H', Nx H' → ∃ m', m' < m ∧ W (i' + 1) m' H') ∧ ∀ x H', J.yld i' H x H' → gName i x (wipe σ vs) H' fun σ2 H2 => wipe σ2 vs = wipe σ vs ∧ tt σ2 H2 fun b H3 =>
        if b = true then te σ2 H3 fun y H4 => ∃ acc, H4 D = some (.lst acc) ∧ acc.length < sizeLine ∧ Nx (upd H4 D (.lst (acc ++ [y]))) else Nx H3) := by
  refine L2.lc_it wk (fun i' H' => Same H1 H' ∧ H' D = some (.lst (rf ((us.take i').filter p))))
    ⟨fun b o e => (upd_ne (ne_of_none e nD)).trans e, upd_same⟩ (fun i' H' _ z => hG _ z.1) (fun i' x Ha Hb hi hv y => ?_) (fun H' hv => ?_)
  · obtain ⟨s, eD⟩ := hv
    obtain ⟨rfl, hx⟩ := y
    rw [rf, List.getElem?_map] at hx
    cases hu : us[i']? with
    | none => rw [hu] at hx; cases hx
    | some u =>
      rw [hu] at hx
      obtain rfl : V.ref u.1 = x := Option.some.inj hx
      have hm := List.mem_of_getElem? hu
      have et : us.take (i' + 1) = us.take i' ++ [u] := by rw [List.take_add_one, hu]; rfl
      refine ⟨hw _, ht u hm Hb s _ fun H3 s3 => ?_⟩
      have eD3 := s3 _ _ eD
      cases hp : p u with
      | false =>
        refine iteF ⟨fun b o e => s3 b o (s b o e), ?_⟩
        rw [eD3, et, List.filter_append, List.filter_cons_of_neg (by rw [hp]; decide), List.filter_nil, List.append_nil]
      | true =>
        refine iteT (he u hm H3 _ ⟨_, eD3, ?_, fun b o e => ?_, ?_⟩)
        · rw [rf_len]
          have l1 := List.length_filter_le p (us.take i')
          have l3 := List.length_take_le' i' us
          exact Nat.lt_of_le_of_lt (Nat.le_trans l1 (Nat.le_trans l3 len)) (by decide)
        · rw [upd_ne (ne_of_none e nD)]
          exact s3 _ _ (s _ _ e)
        · rw [upd_same, et, List.filter_append, List.filter_cons_of_pos hp, List.filter_nil, rf, rf, List.map_append]
          rfl
  · obtain ⟨s, eD⟩ := hv
    rw [rf_len, List.take_length] at eD
    exact k H' s eD
end
/-! ### the lines of a net -/
def pline (q : P3) : Str := Str.empty ++ "pipe " ++ q.1 ++ " " ++ q.2.1 ++ " " ++ q.2.2
def mseal (z : Bool) : Str := if z then " sealed" else ""
def mline (q : M3) : Str := Str.empty ++ "meter " ++ q.1 ++ " " ++ q.2.1 ++ mseal q.2.2
def netL (ps : List P3) (ms : List M3) : List Str := ps.map pline ++ ms.map mline
def netT (ps : List P3) (ms : List M3) : Str := Txt.join "\n" (netL ps ms)
def sp_pline (CP : Addr) : Sp := fun vs H Q _ => ∃ (a : Addr) (q : P3), vs = [.ref a] ∧ PipeAt CP H a q ∧ IsNm q.1 ∧ IsNm q.2.1 ∧ IsNm q.2.2 ∧ Q (.str (pline q)) H
def sp_mline (CM : Addr) : Sp := fun vs H Q _ => ∃ (a : Addr) (q : M3), vs = [.ref a] ∧ MetAt CM H a q ∧ IsNm q.1 ∧ IsNm q.2.1 ∧ Q (.str (mline q)) H
/-- names that a text is made of -/
def PNm (ps : List P3) : Prop := ∀ p ∈ ps, IsNm p.1 ∧ IsNm p.2.1 ∧ IsNm p.2.2
def MNm (ms : List M3) : Prop := ∀ p ∈ ms, IsNm p.1 ∧ IsNm p.2.1
def sp_lines (K : PySem.W.Frag) (CP CM : Addr) : Sp := fun vs H Q _ => ∃ (tp tm : Addr) (pu : List PU) (mu : List MU), vs = [.ref tp, .ref tm] ∧ Tps K CP H tp pu ∧ Tms K CM H tm mu ∧ PNm (sn pu) ∧ MNm (sn mu) ∧ pu.length ≤ 20 ∧ mu.length ≤ 20 ∧
  ∀ l H', Kp H [(l, .lst ((netL (sn pu) (sn mu)).map V.str))] H' → Q (.ref l) H'
def sp_nstr (K : PySem.W.Frag) (CN CP CM : Addr) : Sp := fun vs H Q _ => ∃ (x : Addr) (ps : List P3) (ms : List M3), vs = [.ref x] ∧ NetR K CN CP CM H x ps ms ∧ PNm ps ∧ MNm ms ∧ ps.length ≤ 20 ∧ ms.length ≤ 20 ∧ ∀ H', Same H H' → Q (.str (netT ps ms)) H'
theorem nm8 {x : Str} (h : IsNm x) : 1 ≤ x.length ∧ x.length ≤ 8 := by rw [cd_len]; exact isNm_len h
end RV
set_option linter.all false
/-! == of tuples of own objects: all equal, or one of them empty -/
namespace GQ
open PySem PySem.SeqAt
open AutoSeq1 (wpAny_loadPart')
open MeetsSeq MeetsSeq2 MeetsSeq3 SeqRoads2
section
variable {prog : Program} {w : World} {A : Around} {R : Result → Shared → Prop}
theorem rv_tuple_eq0 (l b : Addr) (items items2 : Array Value) (n n2 : Nat) (dd dd2 : Option Addr) (sl sl2 : Array (Option Value)) (h0 : items.size = 0 ∨ items2.size = 0) (hne : items.size ≠ items2.size)
    {s : Shared} (fin : R (.ok (.ret (.bool false))) s) (hl1 : s.heap.get? l = some { cls := .type "tuple", dict := dd, data := .seq items n, slots := sl }) (hb1 : s.heap.get? b = some { cls := .type "tuple", dict := dd2, data := .seq items2 n2, slots := sl2 }) :
    wpAny (model prog w) A.in1 (Builtin.«tuple.__eq__» ⟨[.ref l, .ref b], []⟩) (FinOf prog w A R) (fun e s' => R (.error e) s') s := by
  have f2 := AutoSeq1.sub_tuple_tuple
  have hZ : items.toList.zip items2.toList = [] := by
    rcases h0 with h | h
    · rw [show items = #[] from Array.eq_empty_of_size_eq_zero h]
      rfl
    · rw [show items2 = #[] from Array.eq_empty_of_size_eq_zero h]
      simp
  have hs : ∃ t, t = s := ⟨s, rfl⟩
  obtain ⟨t, ht⟩ := hs
  obtain ⟨hp, g, d, tk, os⟩ := s
  wp_walk using wpAny_loadPart' hl1, wpAny_loadPart' hb1, wpAny_forIn_list _ (fun rest b s' => b.1 = none ∧ rest = [] ∧ s' = t) _
  case turn =>
    rintro ⟨y, x⟩ rest b s' ⟨_, hz, _⟩
    cases hz
  case fin =>
    rintro ⟨b1, b2⟩ s' ⟨hb', _, hs'⟩
    simp only at hb'
    subst hb'
    subst hs'
    subst ht
    wp_walk
    have e : (items.size == items2.size) = false := by simpa using hne
    simp only [Builtin.Tuple.tupleCompareSizes]
    show R (.ok (.ret (.bool (items.size == items2.size)))) _
    rw [e]
    exact fin
  case h =>
    exact ⟨rfl, hZ, ht.symm⟩
end
section
variable {prog : Program} {w : World} {A : Around} {E : Value → Shared → Prop} {s : Shared}
theorem rv_rc_tup0 {l b : Addr} {items items2 : Array Value} {Q : Value → Shared → Prop} (h0 : items.size = 0 ∨ items2.size = 0) (hne : items.size ≠ items2.size) (hu : A.units < cLine)
    (hl : s.heap.IsTuple l items) (hb : s.heap.IsTuple b items2) (fin : Q (.bool false) s) : wpAny (model prog w) A (richCompare .Eq (.ref l) (.ref b)) Q E s := by
  obtain ⟨⟨cls, dd, data, sl⟩, ho, hc, n, hd⟩ := id hl
  obtain ⟨⟨cls2, dd2, data2, sl2⟩, ho2, hc2, n2, hd2⟩ := id hb
  simp only at hc hd hc2 hd2
  subst hc hd hc2 hd2
  refine wpAny_richCompare_same_room (op := .Eq) ⟨_, ho, rfl⟩ ⟨_, ho2, rfl⟩ F.slot_tuple_eq (call_here F.slot_tuple_eq ⟨_, ho, rfl⟩ F.entry_tuple_eq (F.args_tuple_eq_2 _ _) ?_) hu
  exact rv_tuple_eq0 (R := wants (fun v s' => v ≠ .notImplemented ∧ Q v s') E) l b items items2 n n2 dd dd2 sl sl2 h0 hne ⟨(fun x => nomatch x), fin⟩ ho ho2
end
end GQ
namespace RV
open PySem L2 PyProof.Rows
def rEqTup (K : PySem.W.Frag) (D : Eqv) : R2 := fun x y H Q => (DTup K D x y H ∧ ∀ H', Ext H H' → Q (.bl true) H') ∨
  (∃ a b xs ys, x = .ref a ∧ y = .ref b ∧ SqT K H a xs ∧ SqT K H b ys ∧ (xs.length = 0 ∨ ys.length = 0) ∧ xs.length ≠ ys.length ∧ Q (.bl false) H)
theorem op_eqTup {X : Cx} {n : Nat} {D : Eqv} (h : RcG X n (DTup X.K D)) (hr : Room n X.A) : OpR X (compareOp .Eq) (rEqTup X.K D) := by
  intro pins s σ H x y v u Q I rx ry hq
  rcases hq with hq | hq
  · exact op_eqG h hr pins s σ H x y v u Q I rx ry hq
  · obtain ⟨a, b, xs, ys, rfl, rfl, ha, hb, h0, hne, q⟩ := hq
    cases rx
    cases ry
    obtain ⟨its, r, e, z⟩ := I.tuple ha
    obtain ⟨its2, r2, e2, z2⟩ := I.tuple hb
    show wpAny (model X.prog X.w) X.A (richCompare .Eq (.ref a) (.ref b)) (EP X pins σ Q) X.xe s
    refine GQ.rv_rc_tup0 (items := its.toArray) (items2 := its2.toArray) ?_ ?_ hr.units0 e e2 ⟨.bl false, H, I, rfl, q⟩
    · rw [List.size_toArray, List.size_toArray, ← r.length, ← r2.length]
      exact h0
    · rw [List.size_toArray, List.size_toArray, ← r.length, ← r2.length]
      exact hne
/-- two of a kind that are equal -/
def SmP (C : Addr) : Addr → Addr → Hp → Prop := fun a b H => ∃ q, PipeAt C H a q ∧ PipeAt C H b q
def SmM (C : Addr) : Addr → Addr → Hp → Prop := fun a b H => ∃ q, MetAt C H a q ∧ MetAt C H b q
theorem rc_pipes {X : Cx} {C : Addr} (h : OwnEq X.prog X.w X.K X.mg X.base C 1 (sp_Peq C)) : RcG X 2 (DTup X.K (DIns C (SmP C))) := by
  obtain ⟨f, fd, ps, a, b, c, F⟩ := h.fn
  refine rcG_tup (mon_ins fun a b H H' e z => ?_) (eqG_ins (CX := CX0) (E := E0) (F.imp fun vs H Q E z => ?_) a b c pass0)
  · obtain ⟨q, h1, h2⟩ := z
    exact ⟨q, h1.ext e, h2.ext e⟩
  · obtain ⟨a, b, rfl, ⟨q, h1, h2⟩, k⟩ := z
    exact ⟨a, b, q, q, rfl, h1, h2, by rw [decide_eq_true rfl]; exact k H Ext.rfl'⟩
theorem rc_meters {X : Cx} {C : Addr} (h : OwnEq X.prog X.w X.K X.mg X.base C 1 (sp_Meq C)) : RcG X 2 (DTup X.K (DIns C (SmM C))) := by
  obtain ⟨f, fd, ps, a, b, c, F⟩ := h.fn
  refine rcG_tup (mon_ins fun a b H H' e z => ?_) (eqG_ins (CX := CX0) (E := E0) (F.imp fun vs H Q E z => ?_) a b c pass0)
  · obtain ⟨q, h1, h2⟩ := z
    exact ⟨q, h1.ext e, h2.ext e⟩
  · obtain ⟨a, b, rfl, ⟨q, h1, h2⟩, k⟩ := z
    exact ⟨a, b, q, q, rfl, h1, h2, by rw [decide_eq_true rfl]; exact k H Ext.rfl'⟩
/-- two nets with the same pipes: their meters the same, or one of them has none -/
def sp_Neq (K : PySem.W.Frag) (CN CP CM : Addr) : Sp := fun vs H Q _ => ∃ (a b : Addr) (ps : List P3) (ms ms' : List M3), vs = [.ref a, .ref b] ∧ NetR K CN CP CM H a ps ms ∧ NetR K CN CP CM H b ps ms' ∧ (ms = ms' ∨ ms = [] ∨ ms' = []) ∧ ∀ H', Same H H' → Q (.bl (decide (ms = ms'))) H'
theorem dtup_of {α : Type} {K : PySem.W.Frag} {C a b : Addr} {H : Hp} {R : Addr → Addr → Hp → Prop} {us vs : List (Addr × α)} (ha : SqT K H a (rf us)) (hb : SqT K H b (rf vs)) (e : sn us = sn vs)
    (hi : ∀ (i : Nat) (u v : Addr × α), us[i]? = some u → vs[i]? = some v → u.2 = v.2 → DIns C R (.ref u.1) (.ref v.1) H) : DTup K (DIns C R) (.ref a) (.ref b) H := by
  refine ⟨a, b, _, _, rfl, rfl, ha, hb, ?_, fun i x y hx hy => ?_⟩
  · rw [rf_len, rf_len, ← sn_len, e, sn_len]
  · rw [rf, List.getElem?_map] at hx hy
    cases hu : us[i]? with
    | none => rw [hu] at hx; cases hx
    | some u =>
      cases hv : vs[i]? with
      | none => rw [hv] at hy; cases hy
      | some v =>
        rw [hu] at hx
        rw [hv] at hy
        obtain rfl : V.ref u.1 = x := Option.some.inj hx
        obtain rfl : V.ref v.1 = y := Option.some.inj hy
        refine hi i u v hu hv ?_
        have h1 : (sn us)[i]? = some u.2 := by rw [sn, List.getElem?_map, hu]; rfl
        have h2 : (sn vs)[i]? = some v.2 := by rw [sn, List.getElem?_map, hv]; rfl
        rw [e, h2] at h1
        exact (Option.some.inj h1).symm
end RV
/-! a net's text, cut into rows -/
namespace RV
open PySem L2 PyProof.Rows TL
theorem pline_len {q : P3} (h1 : IsNm q.1) (h2 : IsNm q.2.1) (h3 : IsNm q.2.2) : (pline q).length ≤ 40 := by
  have l1 := nm8 h1
  have l2 := nm8 h2
  have l3 := nm8 h3
  have e1 : Str.length " " = 1 := by decide +kernel
  have e2 : Str.length Str.empty = 0 := by decide +kernel
  have e3 : Str.length "pipe " = 5 := by decide +kernel
  unfold pline
  rw [sl_app, sl_app, sl_app, sl_app, sl_app, sl_app, e1, e2, e3]
  omega
theorem mline_len {q : M3} (h1 : IsNm q.1) (h2 : IsNm q.2.1) : (mline q).length ≤ 40 := by
  have l1 := nm8 h1
  have l2 := nm8 h2
  have e1 : Str.length " " = 1 := by decide +kernel
  have e2 : Str.length Str.empty = 0 := by decide +kernel
  have e3 : Str.length "meter " = 6 := by decide +kernel
  have e4 : (mseal q.2.2).length ≤ 7 := by
    cases q.2.2
    · show Str.length "" ≤ 7
      decide +kernel
    · show Str.length " sealed" ≤ 7
      decide +kernel
  unfold mline
  rw [sl_app, sl_app, sl_app, sl_app, sl_app, e1, e2, e3]
  omega
theorem netL_sum {ps : List P3} {ms : List M3} (hp : PNm ps) (hm : MNm ms) : ((netL ps ms).map (·.length)).sum ≤ 40 * (ps.length + ms.length) := by
  have h : ∀ xs : List Str, (∀ x ∈ xs, x.length ≤ 40) → (xs.map (·.length)).sum ≤ 40 * xs.length := by
    intro xs
    induction xs with
    | nil => intro _; exact Nat.le_refl _
    | cons x xs ih =>
      intro h
      have a := h x List.mem_cons_self
      have b := ih fun y hy => h y (List.mem_cons_of_mem _ hy)
      simp only [List.map_cons, List.sum_cons, List.length_cons]
      omega
  have := h (netL ps ms) fun x hx => by
    rcases List.mem_append.mp hx with hx | hx
    · obtain ⟨q, hq, rfl⟩ := List.mem_map.mp hx
      exact pline_len (hp q hq).1 (hp q hq).2.1 (hp q hq).2.2
    · obtain ⟨q, hq, rfl⟩ := List.mem_map.mp hx
      exact mline_len (hm q hq).1 (hm q hq).2
  rw [netL, List.length_append, List.length_map, List.length_map] at this
  exact this
def prow (q : P3) : List Str := ["pipe", q.1, q.2.1, q.2.2]
def mrow (q : M3) : List Str := if q.2.2 then ["meter", q.1, q.2.1, "sealed"] else ["meter", q.1, q.2.1]
def rowsL (ps : List P3) (ms : List M3) : List (List Str) := ps.map prow ++ ms.map mrow
theorem nm_no {x : Str} (h : IsNm x) {c : Nat} (hc : tailC c = false) : c ∉ cd x := fun z => by
  have := List.all_eq_true.mp (isNm_all h) c z
  rw [hc] at this
  cases this
theorem cd_pipe : cd "pipe" = [112, 105, 112, 101] := by decide +kernel
theorem cd_pipe1 : cd "pipe " = [112, 105, 112, 101, 32] := by decide +kernel
theorem cd_meter : cd "meter" = [109, 101, 116, 101, 114] := by decide +kernel
theorem cd_meter1 : cd "meter " = [109, 101, 116, 101, 114, 32] := by decide +kernel
theorem cd_sealed : cd "sealed" = [115, 101, 97, 108, 101, 100] := by decide +kernel
theorem cd_sealed1 : cd " sealed" = [32, 115, 101, 97, 108, 101, 100] := by decide +kernel
theorem cd_nl : cd "\n" = [10] := by decide +kernel
theorem pline_cd (q : P3) : cd (pline q) = [112, 105, 112, 101, 32] ++ (cd q.1 ++ (32 :: (cd q.2.1 ++ (32 :: cd q.2.2)))) := by
  unfold pline
  repeat rw [cd_app]
  rw [cd_em, cd_pipe1, cd_sp]
  simp
theorem mline_cd (q : M3) : cd (mline q) = [109, 101, 116, 101, 114, 32] ++ (cd q.1 ++ (32 :: (cd q.2.1 ++ (if q.2.2 then [32, 115, 101, 97, 108, 101, 100] else [])))) := by
  unfold mline
  repeat rw [cd_app]
  rw [cd_em, cd_meter1, cd_sp]
  cases q.2.2
  · rw [show mseal false = "" from rfl, cd_no]
    simp
  · rw [show mseal true = " sealed" from rfl, cd_sealed1]
    simp
theorem pline_join (q : P3) : pline q = Txt.join " " (prow q) := cd_inj (by
  rw [pline_cd, join_eq, prow]
  show _ = tl _
  rw [tl_join]
  show _ = joinL (cd " ") [cd "pipe", cd q.1, cd q.2.1, cd q.2.2]
  rw [cd_sp, cd_pipe]
  simp [joinL])
theorem mline_join (q : M3) : mline q = Txt.join " " (mrow q) := cd_inj (by
  rw [mline_cd, join_eq, mrow]
  show _ = tl _
  rw [tl_join]
  cases q.2.2
  · show _ = joinL (cd " ") [cd "meter", cd q.1, cd q.2.1]
    rw [cd_sp, cd_meter]
    simp [joinL]
  · show _ = joinL (cd " ") [cd "meter", cd q.1, cd q.2.1, cd "sealed"]
    rw [cd_sp, cd_meter, cd_sealed]
    simp [joinL])
theorem split_pline {q : P3} (h1 : IsNm q.1) (h2 : IsNm q.2.1) (h3 : IsNm q.2.2) : Txt.split (pline q) " " = prow q := by
  rw [pline_join]
  refine split_join (s := 32) (S := []) cd_sp (by decide +kernel) (by simp [prow]) fun p hp => ?_
  simp only [prow, List.mem_cons, List.not_mem_nil, or_false] at hp
  rcases hp with rfl | rfl | rfl | rfl
  · decide +kernel
  · exact nm_no h1 (by decide)
  · exact nm_no h2 (by decide)
  · exact nm_no h3 (by decide)
theorem split_mline {q : M3} (h1 : IsNm q.1) (h2 : IsNm q.2.1) : Txt.split (mline q) " " = mrow q := by
  rw [mline_join]
  refine split_join (s := 32) (S := []) cd_sp (by decide +kernel) (by unfold mrow; split <;> simp) fun p hp => ?_
  unfold mrow at hp
  split at hp
  · simp only [List.mem_cons, List.not_mem_nil, or_false] at hp
    rcases hp with rfl | rfl | rfl | rfl
    · decide +kernel
    · exact nm_no h1 (by decide)
    · exact nm_no h2 (by decide)
    · decide +kernel
  · simp only [List.mem_cons, List.not_mem_nil, or_false] at hp
    rcases hp with rfl | rfl | rfl
    · decide +kernel
    · exact nm_no h1 (by decide)
    · exact nm_no h2 (by decide)
theorem split_netT {ps : List P3} {ms : List M3} (h0 : ps ≠ []) (hp : PNm ps) (hm : MNm ms) : Txt.split (netT ps ms) "\n" = netL ps ms := by
  refine split_join (s := 10) (S := []) cd_nl (by decide +kernel) (fun e => h0 (List.map_eq_nil_iff.mp (List.append_eq_nil_iff.mp e).1)) fun p hpp => ?_
  have n10 : ∀ {x : Str}, IsNm x → 10 ∉ cd x := fun h => nm_no h (by decide)
  rcases List.mem_append.mp hpp with h | h
  · obtain ⟨q, hq, rfl⟩ := List.mem_map.mp h
    show 10 ∉ cd (pline q)
    rw [pline_cd]
    have := n10 (hp q hq).1
    have := n10 (hp q hq).2.1
    have := n10 (hp q hq).2.2
    simp [*]
  · obtain ⟨q, hq, rfl⟩ := List.mem_map.mp h
    show 10 ∉ cd (mline q)
    rw [mline_cd]
    have := n10 (hm q hq).1
    have := n10 (hm q hq).2
    cases q.2.2 <;> simp [*]
theorem netT_len {ps : List P3} {ms : List M3} (hp : PNm ps) (hm : MNm ms) (pl : ps.length ≤ 20) (ml : ms.length ≤ 20) : (netT ps ms).length ≤ 5000 := by
  have h1 := netL_sum hp hm
  have e : ∀ xs : List Str, (Txt.join "\n" xs).length ≤ (xs.map (·.length)).sum + xs.length := by
    intro xs
    rw [join_eq, len_tl, tl_join, show tl "\n" = [10] from cd_nl]
    induction xs with
    | nil => simp [joinL]
    | cons x xs ih =>
      cases xs with
      | nil => simp [joinL, len_tl]
      | cons y ys =>
        show (tl x ++ ([10] ++ joinL [10] ((y :: ys).map tl))).length ≤ _
        rw [List.length_append, List.length_append]
        simp only [List.map_cons, List.sum_cons, List.length_cons, List.length_nil] at ih ⊢
        rw [← len_tl]
        omega
  have h2 : (netL ps ms).length = ps.length + ms.length := by rw [netL, List.length_append, List.length_map, List.length_map]
  have := e (netL ps ms)
  unfold netT
  omega
/-- lists of words, each at its address -/
abbrev RU := Addr × List Str
structure Rws (H : Hp) (l : Addr) (us : List RU) : Prop where
  l : H l = some (.lst (rf us))
  o : ∀ u ∈ us, H u.1 = some (.lst (u.2.map V.str))
structure TOk (ps : List P3) (ms : List M3) : Prop where
  n0 : ps ≠ []
  pn : PNm ps
  mn : MNm ms
  pl : ps.length ≤ 20
  ml : ms.length ≤ 20
def sp_rows : Sp := fun vs H Q _ => ∃ (ps : List P3) (ms : List M3), vs = [.str (netT ps ms)] ∧ TOk ps ms ∧ ∀ (l : Addr) (us : List RU) H', Same H H' → Rws H' l us → sn us = rowsL ps ms → Q (.ref l) H'
def sp_pin (K : PySem.W.Frag) (CP : Addr) : Sp := fun vs H Q _ => ∃ (ps : List P3) (ms : List M3), vs = [.str (netT ps ms)] ∧ TOk ps ms ∧ POk ps ∧ ∀ (t : Addr) (us : List PU) H', Same H H' → Tps K CP H' t us → sn us = ps → Q (.ref t) H'
def sp_min (K : PySem.W.Frag) (CM : Addr) : Sp := fun vs H Q _ => ∃ (ps : List P3) (ms : List M3), vs = [.str (netT ps ms)] ∧ TOk ps ms ∧ ∀ (t : Addr) (us : List MU) H', Same H H' → Tms K CM H' t us → sn us = ms → Q (.ref t) H'
def sp_nread (K : PySem.W.Frag) (CN CP CM : Addr) : Sp := fun vs H Q _ => ∃ (ps : List P3) (ms : List M3), vs = [.ref CN, .str (netT ps ms)] ∧ POk ps ∧ MOk ps ms ∧ ∀ (x : Addr) H', Same H H' → NetR K CN CP CM H' x ps ms → Q (.ref x) H'
theorem POk.pn {ps : List P3} (h : POk ps) : PNm ps := fun p hp => ⟨(h.nm p hp).1, (h.nm p hp).2.1, (h.nm p hp).2.2.1⟩
theorem MOk.mn {ps : List P3} {ms : List M3} (h : MOk ps ms) : MNm ms := h.nm
theorem TOk.of {ps : List P3} {ms : List M3} (h : POk ps) (k : MOk ps ms) : TOk ps ms := ⟨h.n0, h.pn, k.mn, Nat.le_trans h.ln (by decide), Nat.le_trans k.ln (by decide)⟩
/-- the rows of the pipes, of the meters -/
def isP (r : List Str) : Bool := decide (r[0]? = some ("pipe" : Str))
def isM (r : List Str) : Bool := decide (r[0]? = some ("meter" : Str))
theorem p_ne_m : ¬ (("pipe" : Str) = "meter") := by decide +kernel
theorem isP_p (q : P3) : isP (prow q) = true := decide_eq_true rfl
theorem isM_p (q : P3) : isM (prow q) = false := decide_eq_false fun h => p_ne_m (Option.some.inj h)
theorem isP_m (q : M3) : isP (mrow q) = false := by
  unfold isP mrow
  split
  · exact decide_eq_false fun h => p_ne_m (Option.some.inj h).symm
  · exact decide_eq_false fun h => p_ne_m (Option.some.inj h).symm
theorem isM_m (q : M3) : isM (mrow q) = true := by
  unfold isM mrow
  split
  · exact decide_eq_true rfl
  · exact decide_eq_true rfl
theorem rows_p (ps : List P3) (ms : List M3) : (rowsL ps ms).filter isP = ps.map prow := by
  rw [rowsL, List.filter_append, List.filter_eq_self.mpr, List.filter_eq_nil_iff.mpr, List.append_nil]
  · intro r hr
    obtain ⟨q, _, rfl⟩ := List.mem_map.mp hr
    rw [isP_m]
    decide
  · intro r hr
    obtain ⟨q, _, rfl⟩ := List.mem_map.mp hr
    exact isP_p q
theorem rows_m (ps : List P3) (ms : List M3) : (rowsL ps ms).filter isM = ms.map mrow := by
  rw [rowsL, List.filter_append, List.filter_eq_nil_iff.mpr, List.filter_eq_self.mpr, List.nil_append]
  · intro r hr
    obtain ⟨q, _, rfl⟩ := List.mem_map.mp hr
    exact isM_m q
  · intro r hr
    obtain ⟨q, _, rfl⟩ := List.mem_map.mp hr
    rw [isM_p]
    decide
theorem sn_filter {α : Type} (f : α → Bool) (us : List (Addr × α)) : sn (us.filter fun u => f u.2) = (sn us).filter f := by
  rw [sn, sn, List.filter_map]
  rfl
theorem sn_get {α : Type} {us : List (Addr × α)} {i : Nat} {u : Addr × α} (h : us[i]? = some u) : (sn us)[i]? = some u.2 := by rw [sn, List.getElem?_map, h]; rfl
theorem rf_get {α : Type} {us : List (Addr × α)} {i : Nat} {x : V} (h : (rf us)[i]? = some x) : ∃ u, us[i]? = some u ∧ x = .ref u.1 := by
  rw [rf, List.getElem?_map] at h
  cases e : us[i]? with
  | none => rw [e] at h; cases h
  | some u => rw [e] at h; exact ⟨u, rfl, (Option.some.inj h).symm⟩
def gM2 (vs zs : List V) : List V := match vs, zs with
  | [x, n, a], [z] => [x, n, a, z]
  | _, _ => []
end RV
/-! nets as a law lays them: rows of pipes, rows of meters -/
namespace RV
open PySem L2 PyProof.Rows TL
section
variable {X : Cx} {K : PySem.W.Frag} {o e : Expr} {to te : TE}
theorem pt_truthK (ha : PE X e te) (he : ∀ whole, isTrue e X.env whole = (do let v ← whole; standAt e.pos; holding [v] (truthy v))) (h : X.K = K := by rfl) :
    PT X e (fun σ H Q => te σ H fun x H' => ∃ k, TruV K x H' k ∧ Q k H') := h ▸ pt_truth ha he
end
def oY (q : P3) : HO := .tup [.str q.1, .str q.2.1, .str q.2.2]
def oZ (q : M3) : HO := .tup [.str q.1, .str q.2.1, .bl q.2.2]
structure Lay (H : Hp) (l : Addr) (us : List PU) : Prop where
  l : H l = some (.lst (rf us))
  o : ∀ u ∈ us, H u.1 = some (oY u.2)
structure Fts (H : Hp) (l : Addr) (us : List MU) : Prop where
  l : H l = some (.lst (rf us))
  o : ∀ u ∈ us, H u.1 = some (oZ u.2)
def lY (us : List PU) : List (Addr × HO) := us.map fun u => (u.1, oY u.2)
def lZ (us : List MU) : List (Addr × HO) := us.map fun u => (u.1, oZ u.2)
/-- rows of pipes -/
structure LOk (ps : List P3) : Prop where
  nm : ∀ p ∈ ps, IsNm p.1 ∧ IsNm p.2.1 ∧ IsNm p.2.2 ∧ p.2.2 ≠ p.2.1
  nd : (ps.map (·.1)).Nodup
/-- laid(well, lo, hi) -/
def sp_laid : Sp := fun vs H Q _ => ∃ (a : Addr) (n lo hi : Nat), vs = [.ref a, .int lo, .int hi] ∧ WellAt H a n ∧ n < 600000 ∧ lo ≤ hi ∧ hi ≤ 12 ∧
  ∀ (l : Addr) (us : List PU) H', H l = none → l ≠ a → Grow a H H' → WellAt H' a (n + 1000) → Lay H' l us → LOk (sn us) → lo ≤ us.length → us.length ≤ hi → Q (.ref l) H'
/-- fits(well, laid, most) -/
def sp_fits : Sp := fun vs H Q _ => ∃ (a t : Addr) (n hi : Nat) (us : List PU), vs = [.ref a, .ref t, .int hi] ∧ WellAt H a n ∧ n < 600000 ∧ t ≠ a ∧ Lay H t us ∧ LOk (sn us) ∧ 1 ≤ us.length ∧ us.length ≤ 12 ∧ hi ≤ 12 ∧
  ∀ (l : Addr) (ms : List MU) H', H l = none → l ≠ a → Grow a H H' → WellAt H' a (n + 1000) → Fts H' l ms → MOk (sn us) (sn ms) → ms.length ≤ hi → Q (.ref l) H'
/-- net(laid, fits) -/
def sp_lnet (K : PySem.W.Frag) (CN CP CM : Addr) : Sp := fun vs H Q _ => ∃ (l m : Addr) (us : List PU) (ms : List MU), vs = [.ref l, .ref m] ∧ Lay H l us ∧ Fts H m ms ∧ POk (sn us) ∧ MOk (sn us) (sn ms) ∧
  ∀ (x : Addr) H', Same H H' → NetR K CN CP CM H' x (sn us) (sn ms) → Q (.ref x) H'
/-- net_text(laid, fits) -/
def sp_ltext : Sp := fun vs H Q _ => ∃ (l m : Addr) (us : List PU) (ms : List MU), vs = [.ref l, .ref m] ∧ Lay H l us ∧ Fts H m ms ∧ TOk (sn us) (sn ms) ∧ ∀ H', Same H H' → Q (.str (netT (sn us) (sn ms))) H'
/-- is(net, laid, fits): it is the one -/
def sp_isN (K : PySem.W.Frag) (CN CP CM : Addr) : Sp := fun vs H Q _ => ∃ (x l m : Addr) (us : List PU) (ms : List MU), vs = [.ref x, .ref l, .ref m] ∧ NetR K CN CP CM H x (sn us) (sn ms) ∧ Lay H l us ∧ Fts H m ms ∧ POk (sn us) ∧ MOk (sn us) (sn ms) ∧
  ∀ H', Same H H' → Q (.bl true) H'
theorem mline_app (q : M3) : ("meter " : Str) ++ q.1 ++ " " ++ q.2.1 ++ mseal q.2.2 = mline q := cd_inj (by
  unfold mline
  repeat rw [cd_app]
  rw [cd_em, List.nil_append])
theorem nodup_snoc {α : Type} {xs : List α} {x : α} (h : xs.Nodup) (hx : x ∉ xs) : (xs ++ [x]).Nodup := by
  rw [List.nodup_append]
  exact ⟨h, by simp, fun a ha b hb e => hx (by rw [List.mem_singleton.mp hb] at e; rw [← e]; exact ha)⟩
theorem nodup_get {α : Type} {xs : List α} (h : xs.Nodup) {i j : Nat} {hi : i < xs.length} {hj : j < xs.length} (e : xs[i] = xs[j]) : i = j := by
  have p := List.pairwise_iff_getElem.mp h
  rcases Nat.lt_trichotomy i j with z | z | z
  · exact absurd e (p i j hi hj z)
  · exact z
  · exact absurd e.symm (p j i hj hi z)
/-- another place -/
theorem step_ne {n i j : Nat} (hi : i < n) (hj : j + 1 < n) : (i + (1 + j)) % n ≠ i := by
  intro h
  rcases Nat.lt_or_ge (i + (1 + j)) n with z | z
  · rw [Nat.mod_eq_of_lt z] at h
    omega
  · rw [Nat.mod_eq_sub_mod z, Nat.mod_eq_of_lt (by omega)] at h
    omega
end RV
/-! nested data that can be shown -/
namespace RV
open PySem L2 PyProof.Rows TL
structure Shw (d : PyData) (n k : Nat) : Prop where
  ok : d.showable = true
  dp : d.depth ≤ n
  ln : d.shown.length ≤ k
theorem Short.shw {d : PyData} (h : Short d) : Shw d 0 100 := ⟨h.sh, Nat.le_of_eq h.dp, h.ln⟩
theorem shw_all {n k : Nat} : ∀ {ds : List PyData}, (∀ d ∈ ds, Shw d n k) → PyData.showableAll ds = true ∧ PyData.depthAll ds ≤ n ∧ ((PyData.shownAll ds).map (·.length)).sum ≤ k * ds.length ∧ (PyData.shownAll ds).length = ds.length
  | [], _ => by simp [PyData.showableAll, PyData.depthAll, PyData.shownAll]
  | d :: ds, h => by
    obtain ⟨a1, a2, a3⟩ := h d List.mem_cons_self
    obtain ⟨b1, b2, b3, b4⟩ := shw_all fun e he => h e (List.mem_cons_of_mem _ he)
    refine ⟨by simp [PyData.showableAll, a1, b1], ?_, ?_, by simp [PyData.shownAll, b4]⟩
    · simp only [PyData.depthAll]
      omega
    · simp only [PyData.shownAll, List.map_cons, List.sum_cons, List.length_cons]
      rw [Nat.mul_succ]
      omega
theorem shw_tuple {n k : Nat} {ds : List PyData} (h : ∀ d ∈ ds, Shw d n k) : Shw (.tuple ds) (n + 1) ((k + 2) * ds.length + 3) := by
  obtain ⟨a1, a2, a3, a4⟩ := shw_all h
  refine ⟨by simp only [PyData.showable, a1], by simp only [PyData.depth]; omega, ?_⟩
  have e : (PyData.tuple ds).shown = tupleText (PyData.shownAll ds) := by simp only [PyData.shown]
  rw [e]
  have := tupleText_len_le (PyData.shownAll ds)
  rw [Nat.add_mul]
  omega
theorem shw_list {n k : Nat} {ds : List PyData} (h : ∀ d ∈ ds, Shw d n k) : Shw (.list ds) (n + 1) ((k + 2) * ds.length + 3) := by
  obtain ⟨a1, a2, a3, a4⟩ := shw_all h
  refine ⟨by simp only [PyData.showable, a1], by simp only [PyData.depth]; omega, ?_⟩
  have e : (PyData.list ds).shown = listText (PyData.shownAll ds) := by simp only [PyData.shown]
  rw [e]
  have := listText_len_le (PyData.shownAll ds)
  rw [Nat.add_mul]
  omega
theorem Shw.mono {d : PyData} {n k m j : Nat} (h : Shw d n k) (a : n ≤ m) (b : k ≤ j) : Shw d m j := ⟨h.ok, Nat.le_trans h.dp a, Nat.le_trans h.ln b⟩
theorem rRepr_of {K : PySem.W.Frag} {a : Addr} {d : PyData} {H : Hp} {Q : VK} {k : Nat} (hd : Dp K H (.ref a) d) (h : Shw d 60 k) (hk : k ≤ 1000000) (q : Q (.str d.shown) H) : rRepr K [.ref a] H Q := by
  unfold rRepr
  exact ⟨a, d, rfl, hd, h.ok, h.dp, Nat.le_trans h.ln (Nat.le_trans hk (by decide)), q⟩
/-! ### rows of pipes and meters as data -/
def dY (q : P3) : PyData := .tuple [.str q.1, .str q.2.1, .str q.2.2]
def dZ (q : M3) : PyData := .tuple [.str q.1, .str q.2.1, .bool q.2.2]
def dN (ps : List P3) (ms : List M3) : PyData := .list [.list (ps.map dY), .list (ms.map dZ)]
end RV
/-! a net's text is plain; nets compared -/
namespace RV
open PySem L2 PyProof.Rows TL
/-- the law's row -/
def sp_rightN : Sp := fun vs H Q _ => ∃ (a : Addr) (n : Nat), vs = [.ref a] ∧ WellAt H a n ∧ n < 500000 ∧ ∀ H', Grow a H H' → WellAt H' a (n + 3000) → Q (.bl true) H'
end RV
/-! names of the laws over scripts -/
namespace RV
open PySem L2 PyProof.Rows TL
section
variable {D : Addr} {xs : List V} {i : Nat} {te : TE} {tt : TT} {vs : List Nat} {σ : L2.St} {H1 : Hp} {Qd : Hp → Prop} {J : It} {GG : Hp → Prop}
/-- [x for x in xs if p(x)]: the test makes no thing -/
theorem lc_keepV (p : V → Bool) (wk : Walk J xs.length GG (YAt xs)) (nD : H1 D = none) (len : xs.length ≤ 1000) (hG : ∀ H', Same H1 H' → GG H') (hw : ∀ x, wipe ((wipe σ vs).set i x) vs = wipe σ vs)
    (ht : ∀ x ∈ xs, ∀ H2, Same H1 H2 → ∀ R : Bool → Hp → Prop, R (p x) H2 → tt ((wipe σ vs).set i (some x)) H2 R)
    (he : ∀ x ∈ xs, ∀ H2, ∀ R : VK, R x H2 → te ((wipe σ vs).set i (some x)) H2 R)
    (k : ∀ H', Same H1 H' → H' D = some (.lst (xs.filter p)) → Qd H') :
    ∃ W : Nat → Nat → Hp → Prop, (∃ m, W 0 m (upd H1 D (.lst []))) ∧ ∀ i' m H, W i' m H →
      (J.stop i' H ∧ Qd H) ∨ (J.go i' H ∧ ∃ Nx : Hp → Prop, (∀ H', Nx H' → ∃ m', m' < m ∧ W (i' + 1) m' H') ∧ ∀ x H', J.yld i' H x H' → gName i x (wipe σ vs) H' fun σ2 H2 => wipe σ2 vs = wipe σ vs ∧ tt σ2 H2 fun b H3 =>
        if b = true then te σ2 H3 fun y H4 => ∃ acc, H4 D = some (.lst acc) ∧ acc.length < sizeLine ∧ Nx (upd H4 D (.lst (acc ++ [y]))) else Nx H3) := by
  refine L2.lc_it wk (fun i' H' => Same H1 H' ∧ H' D = some (.lst ((xs.take i').filter p)))
    ⟨fun b o e => (upd_ne (ne_of_none e nD)).trans e, upd_same⟩ (fun i' H' _ z => hG _ z.1) (fun i' x Ha Hb hi hv y => ?_) (fun H' hv => ?_)
  · obtain ⟨s, eD⟩ := hv
    obtain ⟨rfl, hx⟩ := y
    have hm := List.mem_of_getElem? hx
    have et : xs.take (i' + 1) = xs.take i' ++ [x] := by rw [List.take_add_one, hx]; rfl
    refine ⟨hw _, ht x hm Hb s _ ?_⟩
    cases hp : p x with
    | false =>
      refine iteF ⟨s, ?_⟩
      rw [eD, et, List.filter_append, List.filter_cons_of_neg (by rw [hp]; decide), List.filter_nil, List.append_nil]
    | true =>
      refine iteT (he x hm Hb _ ⟨_, eD, ?_, fun b o e => ?_, ?_⟩)
      · have l1 := List.length_filter_le p (xs.take i')
        have l3 := List.length_take_le' i' xs
        exact Nat.lt_of_le_of_lt (Nat.le_trans l1 (Nat.le_trans l3 len)) (by decide)
      · rw [upd_ne (ne_of_none e nD)]
        exact s _ _ e
      · rw [upd_same, et, List.filter_append, List.filter_cons_of_pos hp, List.filter_nil]
  · obtain ⟨s, eD⟩ := hv
    rw [List.take_length] at eD
    exact k H' s eD
end
/-- the spare names -/
def zn (j : Nat) : Str := ("z" : Str) ++ num (j : Int)
def words2 : List Str := ["pipe", "meter", "sealed", "go", "if", "vote", "tell", "doubt", "a", "b"]
/-- names(well, m) -/
def sp_names : Sp := fun vs H Q _ => ∃ (a : Addr) (n m : Nat), vs = [.ref a, .int m] ∧ WellAt H a n ∧ n < 600000 ∧ m ≤ 12 ∧
  ∀ (l : Addr) (xs : List Str) H', H l = none → l ≠ a → Grow a H H' → WellAt H' a (n + 200) → H' l = some (.lst (xs.map V.str)) → xs.length = m → xs.Nodup → (∀ x ∈ xs, IsNm x) → Q (.ref l) H'
end RV
/-! models of nets, as the laws over scripts draw them -/
namespace RV
open PySem L2 PyProof.Rows TL
abbrev Q3 := Str × Nat × Nat
abbrev G3 := Str × Nat × Bool
def oQ (q : Q3) : HO := .tup [.str q.1, .int (q.2.1 : Int), .int (q.2.2 : Int)]
def oG (q : G3) : HO := .tup [.str q.1, .int (q.2.1 : Int), .bl q.2.2]
/-- places, pipes between them by index, gauges at pipes by index -/
structure Mod where
  pl : List Str
  qs : List Q3
  gs : List G3
structure MdOk (M : Mod) (most more : Nat) : Prop where
  p2 : 2 ≤ M.pl.length
  p4 : M.pl.length ≤ 4
  pn : ∀ x ∈ M.pl, IsNm x
  pd : M.pl.Nodup
  q2 : 2 ≤ M.qs.length
  qm : M.qs.length ≤ most
  qn : ∀ q ∈ M.qs, IsNm q.1 ∧ q.2.1 < M.pl.length ∧ q.2.2 < M.pl.length ∧ q.2.1 ≠ q.2.2
  qd : (M.qs.map (·.1)).Nodup
  gm : M.gs.length ≤ more
  gn : ∀ g ∈ M.gs, IsNm g.1 ∧ g.2.1 < M.qs.length
  gd : (M.gs.map (·.1)).Nodup
abbrev QU := Addr × Q3
abbrev GU := Addr × G3
/-- what a model is in the heap -/
def lM (l lp lq lg : Addr) (pl : List Str) (pu : List QU) (gu : List GU) : List (Addr × HO) :=
  (l, .lst [.ref lp, .ref lq, .ref lg]) :: (lp, .lst (pl.map V.str)) :: (lq, .lst (rf pu)) :: (lg, .lst (rf gu)) :: (pu.map (fun u => (u.1, oQ u.2)) ++ gu.map fun u => (u.1, oG u.2))
def sp_model : Sp := fun vs H Q _ => ∃ (a : Addr) (n most more : Nat), vs = [.ref a, .int most, .int more] ∧ WellAt H a n ∧ n < 500000 ∧ 2 ≤ most ∧ most ≤ 12 ∧ more ≤ 12 ∧
  ∀ (l lp lq lg : Addr) (pl : List Str) (pu : List QU) (gu : List GU) H', Has H a (n + 2000) (lM l lp lq lg pl pu gu) H' → MdOk ⟨pl, sn pu, sn gu⟩ most more → Q (.ref l) H'
/-- the model at l -/
structure MdAt (H : Hp) (l : Addr) (M : Mod) : Prop where
  ex : ∃ (lp lq lg : Addr) (pu : List QU) (gu : List GU), sn pu = M.qs ∧ sn gu = M.gs ∧ ∀ p ∈ lM l lp lq lg M.pl pu gu, H p.1 = some p.2
theorem MdAt.ext {H H' : Hp} {l : Addr} {M : Mod} (h : MdAt H l M) (s : Same H H') : MdAt H' l M := by
  obtain ⟨lp, lq, lg, pu, gu, e1, e2, k⟩ := h.ex
  exact ⟨lp, lq, lg, pu, gu, e1, e2, fun p hp => s _ _ (k p hp)⟩
def Mod.ps (M : Mod) : List P3 := M.qs.map fun q => (q.1, M.pl.getD q.2.1 "", M.pl.getD q.2.2 "")
def Mod.ms (M : Mod) : List M3 := M.gs.map fun g => (g.1, (M.qs.getD g.2.1 ("", 0, 0)).1, g.2.2)
theorem getD_lt {α : Type} {xs : List α} {i : Nat} {d : α} (h : i < xs.length) : xs.getD i d = xs[i] := by simp [List.getD, h]
theorem Mod.names (M : Mod) : M.ps.map (·.1) = M.qs.map (·.1) := by rw [Mod.ps, List.map_map]; rfl
section
variable {M : Mod} {most more : Nat}
end
def sp_mtext : Sp := fun vs H Q _ => ∃ (l : Addr) (M : Mod) (most more : Nat), vs = [.ref l] ∧ MdAt H l M ∧ MdOk M most more ∧ most ≤ 12 ∧ more ≤ 12 ∧ ∀ H', Same H H' → Q (.str (netT M.ps M.ms)) H'
theorem pline_app2 (n s e : Str) : ("pipe " : Str) ++ n ++ " " ++ s ++ " " ++ e = pline (n, s, e) := cd_inj (by
  rw [pline_cd]
  repeat rw [cd_app]
  rw [cd_pipe1, cd_sp]
  simp)
end RV
/-! ways through a net: walks, flows of -1, 0 and 1, and the least count of meters on a ring -/
namespace RV
/-! ### sums over the first n indexes -/
def sm : Nat → (Nat → Int) → Int
  | 0, _ => 0
  | n + 1, g => sm n g + g n
def dl {α : Type} [DecidableEq α] (u x : α) : Int := if u = x then 1 else 0
section
set_option linter.unusedSectionVars false
variable {α : Type} [DecidableEq α]
variable (n : Nat) (st en : Nat → α) (w : Nat → Nat) (ok : Nat → Prop)
/-- what stays at a place -/
def dv (f : Nat → Int) (x : α) : Int := sm n fun k => f k * (dl (en k) x - dl (st k) x)
/-- a walk from u, its last step first -/
inductive Wk (u : α) : α → List (Nat × Bool) → Prop
  | nil : Wk u u []
  | fwd {i l} : Wk u (st i) l → ok i → Wk u (en i) ((i, true) :: l)
  | bwd {i l} : Wk u (en i) l → ok i → Wk u (st i) ((i, false) :: l)
inductive Sw (u : α) : α → List (Nat × Bool) → List α → Prop
  | nil : Sw u u [] [u]
  | fwd {i l vs} : Sw u (st i) l vs → ok i → en i ∉ vs → Sw u (en i) ((i, true) :: l) (en i :: vs)
  | bwd {i l vs} : Sw u (en i) l vs → ok i → st i ∉ vs → Sw u (st i) ((i, false) :: l) (st i :: vs)
def wl (l : List (Nat × Bool)) : Nat := (l.map fun q => w q.1).sum
def sg (b : Bool) : Int := if b then 1 else -1
def fl (l : List (Nat × Bool)) (k : Nat) : Int := (l.map fun q => if q.1 = k then sg q.2 else 0).sum
variable {n st en w ok} {u v : α} {l : List (Nat × Bool)} {vs : List α}
/-- a ring: flows of -1, 0 and 1 that are 1 at the pipe -/
structure Ring (n : Nat) (st en : Nat → α) (shut : Nat → Prop) (p : Nat) (f : Nat → Int) : Prop where
  r : ∀ k, k < n → f k = 0 ∨ f k = 1 ∨ f k = -1
  kept : ∀ x, RV.dv n st en f x = 0
  one : f p = 1
  sl : ∀ k, k < n → shut k → f k = 0
def cnt (n : Nat) (w : Nat → Nat) (f : Nat → Int) : Int := sm n fun k => if f k ≠ 0 then (w k : Int) else 0
abbrev okp (n : Nat) (shut : Nat → Prop) (p k : Nat) : Prop := k < n ∧ k ≠ p ∧ ¬ shut k
variable {shut : Nat → Prop} {p : Nat}
/-! ### the places that pipes of a ring reach -/
/-! ### the shortest ways, round by round -/
abbrev Dist (α : Type) := α → Option Nat
/-- on by a link: from, to, meters -/
def ld (g : Dist α) (e : α × α × Nat) : Dist α := match g e.1 with
  | none => g
  | some d => match g e.2.1 with
    | none => fun x => if x = e.2.1 then some (d + e.2.2) else g x
    | some d' => if d + e.2.2 < d' then fun x => if x = e.2.1 then some (d + e.2.2) else g x else g
def Le (g g' : Dist α) : Prop := ∀ x d, g x = some d → ∃ d', g' x = some d' ∧ d' ≤ d
def turn (L : List (α × α × Nat)) (g : Dist α) : Dist α := L.foldl ld g
def turns (L : List (α × α × Nat)) : Nat → Dist α → Dist α
  | 0, g => g
  | k + 1, g => turn L (turns L k g)
def g0 (u : α) : Dist α := fun x => if x = u then some 0 else none
/-- the links of a net's pipes -/
structure Links (L : List (α × α × Nat)) (st en : Nat → α) (w : Nat → Nat) (ok : Nat → Prop) : Prop where
  of : ∀ e ∈ L, ∃ i, ok i ∧ e.2.2 = w i ∧ (e.1 = st i ∧ e.2.1 = en i ∨ e.1 = en i ∧ e.2.1 = st i)
  f : ∀ i, ok i → (st i, en i, w i) ∈ L
  b : ∀ i, ok i → (en i, st i, w i) ∈ L
variable {L : List (α × α × Nat)}
end
end RV
/-! own methods; promises of ways and strengths -/
namespace RV
open PySem L2 PyProof.Rows TL
def Mtd (P : Program) (w : World) (K : PySem.W.Frag) (mg : Str → Option Value) (base : Heap) (C : Addr) (m : Str) (k : Nat) (ps : List Str) (sp : Sp) : Prop :=
  Cls K C ∧ ∃ f fd, Meth K C m f ∧ Binds K fd ps [] ∧ FnOk P w K mg base CX0 k f fd ps sp
section
variable {X : Cx} {C : Addr} {m : Str} {k : Nat} {ps : List Str} {sp : Sp} {o e : Expr} {es : List Expr} {t : TA} {ta : TE} {pos apos : Pos} {pl : Sem Bool}
end
theorem decV (a b : Str) : decide (V.str a = V.str b) = decide (a = b) := by simp
section
variable {α : Type} {K : PySem.W.Frag} {D : Addr} {i : Nat} {te : TE} {tt : TT} {vs : List Nat} {σ : L2.St} {H1 : Hp} {Qd : Hp → Prop} {J : It} {GG : Hp → Prop}
end
def rgL (n : Nat) : List V := (List.range n).map fun i => V.int (i : Nat)
theorem rgL_len (n : Nat) : (rgL n).length = n := by rw [rgL, List.length_map, List.length_range]
theorem walk_rgL {n : Nat} : Walk (Itr 0 n) (rgL n).length (fun _ => True) (YAt (rgL n)) := by
  rw [rgL_len]
  refine walk_range.mono (fun _ _ => True.intro) fun i H x H' hi _ y => ⟨y.1, ?_⟩
  rw [y.2, rgL, List.getElem?_map, List.getElem?_range hi]
  simp
/-! ### the meters of a pipe -/
def onP (ms : List M3) (y : Str) : List M3 := ms.filter fun m => decide (m.2.1 = y)
def wtP (ms : List M3) (y : Str) : Nat := (onP ms y).length
def seP (ms : List M3) (y : Str) : List M3 := (onP ms y).filter fun m => m.2.2
/-- amount at this index, 0 elsewhere -/
def un (n : Nat) (o : Option Nat) (c : Int) : List Int := (List.range n).map fun j => if o = some j then c else 0
def vN : Option Nat → V
  | none => .non
  | some k => .int (k : Nat)
/-- a link: from, to, meters, flow -/
abbrev L4 := Str × Str × Nat × List Int
def lks (n : Nat) (ms : List M3) (y : Str) (i : Nat) (p : P3) : List L4 :=
  if p.1 ≠ y ∧ seP ms p.1 = [] then [(p.2.1, p.2.2, wtP ms p.1, un n (some i) 1), (p.2.2, p.2.1, wtP ms p.1, un n (some i) (-1))] else []
def lkF (n : Nat) (ms : List M3) (y : Str) : Nat → List P3 → List L4
  | _, [] => []
  | i, p :: ps => lks n ms y i p ++ lkF n ms y (i + 1) ps
def lkA (ps : List P3) (ms : List M3) (y : Str) : List L4 := lkF ps.length ms y 0 ps
def lk3 (l : L4) : Str × Str × Nat := (l.1, l.2.1, l.2.2.1)
def LkAt (H : Hp) (a : Addr) (l : L4) : Prop := ∃ t, H a = some (.tup [.str l.1, .str l.2.1, .int (l.2.2.1 : Nat), .ref t]) ∧ H t = some (.tup (l.2.2.2.map V.int))
/-- a dict of ways -/
structure DW (n : Nat) (Z : Str → Nat → List Int → Prop) (H : Hp) (kvs : List (Key × V)) (g : Dist Str) : Prop where
  z : ∀ x, g x = none → valV kvs (.inr x) = none
  s : ∀ x d, g x = some d → ∃ (e t : Addr) (fs : List Int), valV kvs (.inr x) = some (.ref e) ∧ H e = some (.tup [.int (d : Nat), .ref t]) ∧ H t = some (.tup (fs.map V.int)) ∧ fs.length = n ∧ Z x d fs
/-- what holds of every way that is found -/
structure ZOk (ps : List P3) (ms : List M3) (y : Str) (Z : Dist Str → Str → Nat → List Int → Prop) : Prop where
  st : ∀ (i : Nat) (q : P3), ps[i]? = some q → q.1 = y → Z (g0 q.2.2) q.2.2 0 (un ps.length none 0)
  ke : ∀ l ∈ lkA ps ms y, ∀ g x d fs, Z g x d fs → Z (ld g (lk3 l)) x d fs
  ne : ∀ l ∈ lkA ps ms y, ∀ g d fs, fs.length = ps.length → g l.1 = some d → Z g l.1 d fs → (g l.2.1 = none ∨ ∃ d', g l.2.1 = some d' ∧ d + l.2.2.1 < d') → Z (ld g (lk3 l)) l.2.1 (d + l.2.2.1) (List.zipWith (· + ·) fs l.2.2.2)
def strP (ps : List P3) (ms : List M3) (y : Str) : Option Nat :=
  match ps.find? fun p => decide (p.1 = y) with
  | none => none
  | some q => if seP ms y = [] then (turns ((lkA ps ms y).map lk3) ps.length (g0 q.2.2) q.2.1).map (· + wtP ms y) else none
section
variable (K : PySem.W.Frag) (CN CP CM : Addr)
def sp_gpipe : Sp := fun vs H Q _ => ∃ (x : Addr) (ps : List P3) (ms : List M3) (y : Str), vs = [.ref x, .str y] ∧ NetR K CN CP CM H x ps ms ∧ ps.length ≤ 12 ∧ y ∈ ps.map (·.1) ∧
  ∀ (a : Addr) (i : Nat) (q : P3) H', ps[i]? = some q → q.1 = y → Same H H' → PipeAt CP H' a q → Q (.ref a) H'
def sp_chkn : Sp := fun vs H Q _ => ∃ (x : Addr) (ps : List P3) (ms : List M3), vs = [.ref x] ∧ NetR K CN CP CM H x ps ms ∧ Q .non H
def sp_chkp : Sp := fun vs H Q _ => ∃ (x : Addr) (ps : List P3) (ms : List M3) (y : Str), vs = [.ref x, .str y] ∧ NetR K CN CP CM H x ps ms ∧ ps.length ≤ 12 ∧ y ∈ ps.map (·.1) ∧ ∀ H', Same H H' → Q .non H'
def sp_mat : Sp := fun vs H Q _ => ∃ (x : Addr) (ps : List P3) (ms : List M3) (y : Str), vs = [.ref x, .str y] ∧ NetR K CN CP CM H x ps ms ∧ ms.length ≤ 12 ∧
  ∀ (l : Addr) (us : List MU) H', Same H H' → H' l = some (.lst (rf us)) → (∀ u ∈ us, MetAt CM H' u.1 u.2) → sn us = onP ms y → Q (.ref l) H'
def sp_sat : Sp := fun vs H Q _ => ∃ (x : Addr) (ps : List P3) (ms : List M3) (y : Str), vs = [.ref x, .str y] ∧ NetR K CN CP CM H x ps ms ∧ ms.length ≤ 12 ∧
  ∀ (l : Addr) (xs : List V) H', Same H H' → H' l = some (.lst xs) → (xs = [] ↔ seP ms y = []) → Q (.ref l) H'
def sp_amt : Sp := fun vs H Q _ => ∃ (x : Addr) (ps : List P3) (ms : List M3) (o : Option Nat) (c : Int), vs = [.ref x, vN o, .int c] ∧ NetR K CN CP CM H x ps ms ∧ ps.length ≤ 12 ∧
  ∀ (t : Addr) H', Same H H' → H' t = some (.tup ((un ps.length o c).map V.int)) → Q (.ref t) H'
def sp_lnks : Sp := fun vs H Q _ => ∃ (x : Addr) (ps : List P3) (ms : List M3) (y : Str), vs = [.ref x, .str y] ∧ NetR K CN CP CM H x ps ms ∧ ps.length ≤ 12 ∧ ms.length ≤ 12 ∧
  ∀ (l : Addr) (us : List (Addr × L4)) H', Same H H' → H' l = some (.lst (rf us)) → (∀ u ∈ us, LkAt H' u.1 u.2) → sn us = lkA ps ms y → Q (.ref l) H'
def sp_lead : Sp := fun vs H Q _ => ∃ (d t : Addr) (a b : Str) (m n : Nat) (fs : List Int) (kvs : List (Key × V)) (g : Dist Str) (Z Z' : Str → Nat → List Int → Prop), vs = [.ref d, .str a, .str b, .int (m : Nat), .ref t] ∧ H d = some (.dK kvs) ∧ H t = some (.tup (fs.map V.int)) ∧ fs.length = n ∧ n ≤ 12 ∧ kvs.length ≤ 1000 ∧ DW n Z H kvs g ∧ (∀ x d f, Z x d f → Z' x d f) ∧ (∀ d f, f.length = n → g a = some d → Z a d f → (g b = none ∨ ∃ d', g b = some d' ∧ d + m < d') → Z' b (d + m) (List.zipWith (· + ·) f fs)) ∧
  ∀ kvs' H', (∀ b o, b ≠ d → H b = some o → H' b = some o) → H' d = some (.dK kvs') → kvs'.length ≤ kvs.length + 1 → DW n Z' H' kvs' (ld g (a, b, m)) → Q .non H'
def sp_ways : Sp := fun vs H Q _ => ∃ (x : Addr) (ps : List P3) (ms : List M3) (y : Str) (Z : Dist Str → Str → Nat → List Int → Prop), vs = [.ref x, .str y] ∧ NetR K CN CP CM H x ps ms ∧ ps.length ≤ 12 ∧ ms.length ≤ 12 ∧ y ∈ ps.map (·.1) ∧ ZOk ps ms y Z ∧
  ∀ (i : Nat) (q : P3) (d : Addr) (kvs : List (Key × V)) H', ps[i]? = some q → q.1 = y → Same H H' → H' d = some (.dK kvs) → DW ps.length (Z (turns ((lkA ps ms y).map lk3) ps.length (g0 q.2.2))) H' kvs (turns ((lkA ps ms y).map lk3) ps.length (g0 q.2.2)) → Q (.ref d) H'
def WayV (n : Nat) (Z : Nat → List Int → Prop) (H : Hp) (v : V) : Option Nat → Prop
  | none => v = .non
  | some d => ∃ (e t : Addr) (fs : List Int), v = .ref e ∧ H e = some (.tup [.int (d : Nat), .ref t]) ∧ H t = some (.tup (fs.map V.int)) ∧ fs.length = n ∧ Z d fs
def sp_back : Sp := fun vs H Q _ => ∃ (x : Addr) (ps : List P3) (ms : List M3) (y : Str) (Z : Dist Str → Str → Nat → List Int → Prop), vs = [.ref x, .str y] ∧ NetR K CN CP CM H x ps ms ∧ ps.length ≤ 12 ∧ ms.length ≤ 12 ∧ y ∈ ps.map (·.1) ∧ ZOk ps ms y Z ∧
  ∀ (i j : Nat) (q r : P3) (v : V) H', ps[i]? = some q → q.1 = y → ps[j]? = some r → r.1 = y → Same H H' → WayV ps.length (Z (turns ((lkA ps ms y).map lk3) ps.length (g0 q.2.2)) r.2.1) H' v (if seP ms y = [] then turns ((lkA ps ms y).map lk3) ps.length (g0 q.2.2) r.2.1 else none) → Q v H'
def sp_stren : Sp := fun vs H Q _ => ∃ (x : Addr) (ps : List P3) (ms : List M3) (y : Str), vs = [.ref x, .str y] ∧ NetR K CN CP CM H x ps ms ∧ POk ps ∧ ms.length ≤ 12 ∧ y ∈ ps.map (·.1) ∧ ∀ H', Same H H' → Q (vN (strP ps ms y)) H'
end
end RV
/-! ways in a dict -/
namespace RV
open PySem L2 PyProof.Rows TL
end RV
/-! flows of -1, 0 and 1, as the laws over scripts count them -/
namespace RV
open PySem L2 PyProof.Rows TL
theorem ixN_nat {n j : Nat} (hj : j < n) : ixN n (j : Int) = some j := by
  unfold ixN
  rw [if_pos (by omega), if_pos (by omega)]
  simp
def qst (M : Mod) (k : Nat) : Nat := (M.qs.getD k ("", 0, 0)).2.1
def qen (M : Mod) (k : Nat) : Nat := (M.qs.getD k ("", 0, 0)).2.2
def rwf (r : List Int) (k : Nat) : Int := r.getD k 0
/-- what stays at a place after j pipes -/
def stay (M : Mod) (r : List Int) (j x : Nat) : Int := dv j (qst M) (qen M) (rwf r) x
def keptB (M : Mod) (r : List Int) : Bool := (List.range M.pl.length).all fun x => decide (stay M r M.qs.length x = 0)
def stayL (M : Mod) (r : List Int) (j : Nat) : List V := (List.range M.pl.length).map fun x => .int (stay M r j x)
def sp_kept : Sp := fun vs H Q _ => ∃ (l a : Addr) (M : Mod) (most more : Nat) (r : List Int), vs = [.ref l, .ref a] ∧ MdAt H l M ∧ MdOk M most more ∧ most ≤ 12 ∧ H a = some (.lst (r.map V.int)) ∧ r.length = M.qs.length ∧ ∀ H', Same H H' → Q (.bl (keptB M r)) H'
def trit (c : Int) : Prop := c = 0 ∨ c = 1 ∨ c = -1
def sp_flows : Sp := fun vs H Q _ => ∃ (l : Addr) (M : Mod) (more : Nat), vs = [.ref l] ∧ MdAt H l M ∧ MdOk M 5 more ∧
  ∀ (a : Addr) (us : List (Addr × List Int)) H', Same H H' → H' a = some (.lst (rf us)) → (∀ u ∈ us, H' u.1 = some (.lst (u.2.map V.int))) → us.length ≤ 243 → H a = none → (∀ u ∈ us, H u.1 = none) → (∀ r, r ∈ sn us ↔ r.length = M.qs.length ∧ (∀ c ∈ r, trit c) ∧ keptB M r = true) → Q (.ref a) H'
abbrev FU := Addr × List Int
def FAt (H : Hp) (us : List FU) : Prop := ∀ u ∈ us, H u.1 = some (.lst (u.2.map V.int))
section
variable {K : PySem.W.Frag} {D : Addr} {i : Nat} {te : TE} {vs : List Nat} {σ : L2.St} {H1 : Hp} {Qd : Hp → Prop} {J : It} {GG : Hp → Prop}
end
end RV
/-! least counts over flows; lists of integers and None as data -/
namespace RV
open PySem L2 PyProof.Rows TL
def cntG (M : Mod) (r : List Int) : Nat := (M.gs.filter fun g => decide (rwf r g.2.1 ≠ 0)).length
def shutG (M : Mod) (r : List Int) : Bool := M.gs.any fun g => g.2.2 && decide (rwf r g.2.1 ≠ 0)
def condG (M : Mod) (p : Nat) (r : List Int) : Bool := decide (rwf r p = 1) && !shutG M r
def IsMin (L : List Nat) : Option Nat → Prop
  | none => L = []
  | some m => m ∈ L ∧ ∀ y ∈ L, m ≤ y
def dO : Option Nat → PyData
  | none => .none
  | some k => .int (k : Nat)
def sp_lstr : Sp := fun vs H Q _ => ∃ (l a : Addr) (M : Mod) (more p : Nat) (us : List FU), vs = [.ref l, .ref a, .int (p : Nat)] ∧ MdAt H l M ∧ MdOk M 5 more ∧ more ≤ 12 ∧ H a = some (.lst (rf us)) ∧ FAt H us ∧ us.length ≤ 243 ∧ p < M.qs.length ∧ (∀ r ∈ sn us, r.length = M.qs.length) ∧
  ∀ (o : Option Nat) H', Same H H' → IsMin (((sn us).filter (condG M p)).map (cntG M)) o → Q (vN o) H'
end RV
/-! the strength by shortest ways is the least count over flows -/
namespace RV
open PySem L2 PyProof.Rows TL
def pN (ps : List P3) (k : Nat) : Str := (ps.getD k ("", "", "")).1
def pS (ps : List P3) (k : Nat) : Str := (ps.getD k ("", "", "")).2.1
def pE (ps : List P3) (k : Nat) : Str := (ps.getD k ("", "", "")).2.2
def shutP (ps : List P3) (ms : List M3) (k : Nat) : Prop := seP ms (pN ps k) ≠ []
theorem pN_at {ps : List P3} {k : Nat} {q : P3} (h : ps[k]? = some q) : pN ps k = q.1 ∧ pS ps k = q.2.1 ∧ pE ps k = q.2.2 := by
  simp [pN, pS, pE, List.getD, h]
theorem pN_inj {ps : List P3} (nd : (ps.map (·.1)).Nodup) {i j : Nat} (hi : i < ps.length) (hj : j < ps.length) (e : pN ps i = pN ps j) : i = j := by
  have h1 := pN_at (List.getElem?_eq_getElem hi)
  have h2 := pN_at (List.getElem?_eq_getElem hj)
  have e3 : (ps.map (·.1))[i]'(by simpa using hi) = (ps.map (·.1))[j]'(by simpa using hj) := by
    rw [List.getElem_map, List.getElem_map, ← h1.1, ← h2.1, e]
  exact nodup_get nd e3
/-! ### models -/
section
variable {M : Mod} {most more : Nat}
abbrev RingM (M : Mod) (p : Nat) (f : Nat → Int) : Prop := Ring M.qs.length (pS M.ps) (pE M.ps) (shutP M.ps M.ms) p f
end
end RV
/-! a def called by keywords alone; lists of counts that are shown -/
namespace RV
open PySem L2 PyProof.Rows TL
def FnKd (P : Program) (w : World) (K : PySem.W.Frag) (mg : Str → Option Value) (base : Heap) (x : Str) (k : Nat) (ks : List Str) (sp : Sp) (gV : List V → List V → List V) : Prop :=
  ∃ f fd ps g, mg x = some (.ref f) ∧ PySem.W.keepIn K (.ref f) = true ∧ KBn K fd ps 0 ks g gV ∧ FnOk P w K mg base CX0 k f fd ps sp
def tCallK0 (n : Nat) (sp : Sp) (gV : List V → List V → List V) (tk : TA) : TE := fun σ H Q => tk σ H fun zs H2 => zs.length = n ∧ sp (gV [] zs) H2 Q E0
section
variable {X : Cx} {k : Nat} {x : Str} {ks : List Str} {sp : Sp} {gV : List V → List V → List V} {kws : List Keyword} {tk : TA} {p pos : Pos}
theorem pe_fnK0 (h : FnKd X.prog X.w X.K X.mg X.base x k ks sp gV) (hr : Room k X.A) (hkw : PK X kws tk) (hg : Gl X x := by rfl)
    (hall : (backToKw pos (keywordEach kws X.env)).all (·.1.isSome) = true := by rfl) (hks : (backToKw pos (keywordEach kws X.env)).filterMap (·.1) = ks := by rfl) (hdb : (x == ("__debug__" : Str)) = false := by decide)
    (hpl : ((backTo pos (starEach [] X.env)).any (·.1) || (backToKw pos (keywordEach kws X.env)).any (·.1.isNone)) = false := by rfl) :
    PE X (.Call (.Name x p) [] kws pos) (tCallK0 ks.length sp gV tk) := by
  obtain ⟨f, fd, ps, g, hm, hk, hb, F⟩ := h
  refine ⟨fun pins s σ H Q I h => ?_⟩
  refine wpAny_Call_Name_kw (ld_glob I hg hm ?_ hdb)
  refine PySem.W.callWith_KW0 (h₀ := X.base) I.ok.mod.kin hk hall ?_ hpl
  refine thn (hkw.run pos pins s σ H _ I h) fun ws s2 ⟨zs, H2, I2, rz, l2, q2⟩ => ⟨I2.kIn, ?_⟩
  rw [hks]
  exact run_fnN (us := []) (vs := []) F hr hb pass0 I2 .nil rz rfl l2 q2
end
theorem FnKd.irr {P : Program} {w : World} {K : PySem.W.Frag} {mg : Str → Option Value} {base : Heap} {x : Str} {k : Nat} {ks : List Str} {sp : Sp} {gV : List V → List V → List V} (h : FnKd P w K mg base x k ks sp gV) : FnKd P w K mg base x k ks (Irr sp) gV := by
  obtain ⟨f, fd, ps, g, a, b, c, F⟩ := h
  exact ⟨f, fd, ps, g, a, b, c, F.imp fun _ _ _ _ z => irr_of z⟩
/-- f(pipe=y, net=x) -/
def gPN (vs zs : List V) : List V := match vs, zs with
  | [], [y, x] => [x, y]
  | _, _ => []
def sp_right23 : Sp := fun vs H Q _ => ∃ (a : Addr) (n : Nat), vs = [.ref a] ∧ WellAt H a n ∧ n < 500000 ∧ ∀ H', Grow a H H' → Q (.bl true) H'
/-- what is due for each pipe -/
def dueL (M : Mod) : List (Option Nat) := (List.range M.qs.length).map fun k => strP M.ps M.ms (pN M.ps k)
end RV
/-! the law's own call, whatever its parameter is called -/
namespace RV
open PySem L2 PyProof.Rows
theorem walkGx (x : Str) (k : Nat) {l : PySem.W.OpenLaw} {q : Program} {loose : List Str} {XP : (Str → Option Value) → Heap → Prop} {YP : World → Heap → Prop} {d : DefRec} {K : Params → PySem.W.Frag} (hr : Room k callerA) (hn : l.most = some 63) (hdf : d.params.defaults = [])
    (hY : ∀ (w : World) (h : Heap), YP w h → (K w.params).In h)
    (F : ∀ (w : World) (mg : Str → Option Value) (fa : Addr) (h : Heap), (K w.params).In h → h.Ns mainGlobals mg → mg d.name = some (.ref fa) →
      ∃ fd : FuncData, (∀ (s : Shared) (u : Value), BindsTo s fd ⟨[u], []⟩ [(x, u)]) ∧ ∀ base : Heap, (K w.params).In base → base.Ns mainGlobals mg → FnG l.prog w (K w.params) mg base k fa fd [x] (spLaw (K w.params))) :
    PySem.W.WalkO q loose XP YP l.row.toRowW d [] (fun f vs => PySem.call f vs) := by
  refine Att.attach_call hn hdf fun w s₀ s₁ mg mb fa o pm cd doc a vs ns G Y ho hd hcd hmg hobj hints hlen hg => ?_
  obtain ⟨fd, hb, hF⟩ := F w mg fa _ (hY w _ Y) G.T.g hmg
  exact callG (hY w _ Y) G.T.g G.T.b G.T.builtins G.T.nolimit hg hobj hints (Nat.le_trans hlen (by decide)) hr hF hb fun H hS => ⟨a, ns, rfl, hS, hlen, fun _ => rfl⟩
end RV
/-! sum of a tuple, repr of a truth value; faults, can_tell -/
namespace RV
open PySem L2 PyProof.Rows TL
section
variable {X : Cx}
def rSumT (K : PySem.W.Frag) : List V → Hp → VK → Prop := fun vs H Q => ∃ (a : Addr) (ns : List Int), vs = [V.ref a] ∧ SqT K H a (ns.map V.int) ∧ Q (.int ns.sum) H
def rReprB : List V → Hp → VK → Prop := fun xs H Q => ∃ b, xs = [.bl b] ∧ Q (.str (if b then "True" else "False")) H
end
/-- faults -/
structure Flt (a b c : Int) : Prop where
  h0 : 0 ≤ a
  h1 : a ≤ b
  h2 : b ≤ 3
  h3 : 0 ≤ c
  h4 : c ≤ 3
def sp_isb : Sp := fun vs H Q _ => ∃ c : Int, vs = [.int c] ∧ 0 ≤ c ∧ c ≤ 3 ∧ Q (.bl true) H
def sp_arf (K : PySem.W.Frag) : Sp := fun vs H Q _ => ∃ (t : Addr) (a b c : Int), vs = [.ref t] ∧ SqT K H t [.int a, .int b, .int c] ∧ Flt a b c ∧ ∀ H', Same H H' → Q (.bl true) H'
def sp_chf (K : PySem.W.Frag) : Sp := fun vs H Q _ => ∃ (t : Addr) (a b c : Int), vs = [.ref t] ∧ SqT K H t [.int a, .int b, .int c] ∧ Flt a b c ∧ ∀ H', Same H H' → Q .non H'
def tellB : Option Nat → Int → Bool
  | none, _ => true
  | some m, s => decide (s < (m : Int))
def sp_tell (K : PySem.W.Frag) (CN CP CM : Addr) : Sp := fun vs H Q _ => ∃ (x t : Addr) (ps : List P3) (ms : List M3) (y : Str) (a b c : Int), vs = [.ref x, .str y, .ref t] ∧ NetR K CN CP CM H x ps ms ∧ POk ps ∧ ms.length ≤ 12 ∧ y ∈ ps.map (·.1) ∧ SqT K H t [.int a, .int b, .int c] ∧ Flt a b c ∧
  ∀ H', Same H H' → Q (.bl (tellB (strP ps ms y) (a + b + c))) H'
/-- drawn faults -/
def sp_faults : Sp := fun vs H Q _ => ∃ (w : Addr) (n : Nat), vs = [.ref w, .int 3] ∧ WellAt H w n ∧ n < 900000 ∧
  ∀ (t : Addr) (a b c : Int) H', Grow w H H' → WellAt H' w (n + 5) → H' t = some (.tup [.int a, .int b, .int c]) → t ≠ w → Flt a b c → Q (.ref t) H'
end RV
/-! the flow of a shortest way is one of -1, 0 and 1: a way that is no shorter is not taken, so no way comes to a place twice -/
namespace RV
section
set_option linter.unusedSectionVars false
variable {α : Type} [DecidableEq α] {n : Nat} {st en : Nat → α} {w : Nat → Nat} {ok : Nat → Prop} {u x : α} {g g' : Dist α} {d : Nat} {f : Nat → Int}
/-- a way without loops of this length and flow; each place on it is known by a way that is no longer -/
def GW (st en : Nat → α) (w : Nat → Nat) (ok : Nat → Prop) (u : α) (g : Dist α) (x : α) (d : Nat) (f : Nat → Int) : Prop :=
  ∃ l vs, Sw st en ok u x l vs ∧ wl w l = d ∧ (∀ k, f k = fl l k) ∧ ∀ y ∈ vs, ∃ d', g y = some d' ∧ d' ≤ d
end
end RV
set_option linter.all false
/-! sets of texts written as comprehensions, with any number of clauses: {x for a in .. for b in ..} -/
namespace RV
open PySem L2 PySem.Spec PyProof.Rows
/-- what is run in a turn behind a clause's tests: the next clause, or the member's being put -/
abbrev TB := L2.St → Hp → (Hp → Prop) → Prop
def HasB (X : Cx) (vs : List Nat) (m : Sem PySem.Fin → Sem PySem.Fin) (tb : TB) : Prop := ∀ (pins : List (Addr × Obj)) (s : Shared) (σ : L2.St) (H : Hp) (Q : Hp → Prop) (z : Sem PySem.Fin) (R : PySem.Fin → Shared → Prop), Inv X pins σ H s → tb σ H Q →
  (∀ σ' H' s', Inv X pins σ' H' s' → wipe σ' vs = wipe σ vs → Q H' → wpAny (model X.prog X.w) X.A z R (fun _ _ => False) s') → wpAny (model X.prog X.w) X.A (m z) R (fun _ _ => False) s
/-- how a clause's turn reads -/
def TurnIs (e tg : Expr) (k : Nat) (at0 : Pos) (ifs : List Expr) (acc : Value) (env : Env) (body : Sem PySem.Fin → Sem PySem.Fin) : Prop := ∀ it, compTurn e k it acc env = (do
  standAt at0
  match ← pyNext it with
  | none => pure (.done .next)
  | some v => do
    letOwnedTupleGo tg it v
    assign tg env v
    let ok ← forIn ifs true fun c ok => if ok = true then do let ok ← isTrue c env (eval c env); pure (ForInStep.yield ok) else pure (ForInStep.yield ok)
    if ok = true then body (again (.compLoop e k it acc env)) else again (.compLoop e k it acc env))
/-- all turns of a clause whose iterator J has come -/
def tCl (J : It) (g : TG) (tt : TT) (tb : TB) (vs : List Nat) : TB := fun σ H Q => ∃ W : Nat → Nat → Hp → Prop, (∃ m, W 0 m H) ∧ ∀ i m H, W i m H →
  (J.stop i H ∧ Q H) ∨ (J.go i H ∧ ∃ Nx : Hp → Prop, (∀ H', Nx H' → ∃ m', m' < m ∧ W (i + 1) m' H') ∧ ∀ x H', J.yld i H x H' → g x (wipe σ vs) H' fun σ2 H2 => wipe σ2 vs = wipe σ vs ∧ tt σ2 H2 fun b H3 => if b = true then tb σ2 H3 Nx else Nx H3)
theorem wipe_in {σ : L2.St} {i : Nat} : ∀ {vs : List Nat}, i ∈ vs → i < σ.length → (wipe σ vs)[i]? = some none
  | v :: vs, h, hl => by
    unfold wipe
    by_cases e : v = i
    · subst e
      rw [List.getElem?_set_self (by rw [wipe_length]; exact hl)]
    · rw [List.getElem?_set_ne e]
      exact wipe_in ((List.mem_cons.mp h).resolve_left fun z => e z.symm) hl
theorem wipe_wipe {σ : L2.St} {vs ws : List Nat} (h : ∀ i ∈ ws, i ∈ vs) : wipe (wipe σ ws) vs = wipe σ vs := by
  refine List.ext_getElem? fun i => ?_
  by_cases hl : i < σ.length
  · by_cases hi : i ∈ vs
    · rw [wipe_in hi hl, wipe_in hi (by rw [wipe_length]; exact hl)]
    · rw [wipe_out hi, wipe_out hi, wipe_out fun z => hi (h i z)]
  · rw [List.getElem?_eq_none (by rw [wipe_length, wipe_length]; omega), List.getElem?_eq_none (by rw [wipe_length]; omega)]
section
variable {X : Cx}
/-- a clause's loop in its block -/
theorem cl_loop {e tg : Expr} {k : Nat} {acc : Value} {ifs : List Expr} {body : Sem PySem.Fin → Sem PySem.Fin} {at0 : Pos} {J : It} {g : TG} {tt : TT} {tb : TB} {vs : List Nat} (hc : X.calm = true) (hx : X.xe = fun _ _ => False)
    (hq : ∀ it, (Code.compLoop e k it acc X.env).quiet = true) (hden : ∀ it, (model X.prog X.w).den (.compLoop e k it acc X.env) = (compTurn e k it acc X.env).onRaise (fun x => do noteFrame x X.env; theTreesLotGoes x)) (hun : ∀ it, X.A.under (.compLoop e k it acc X.env) = X.A)
    (hT : TurnIs e tg k at0 ifs acc X.env body)
    (pg : PG X tg g) (pt : PTs X ifs tt) (pb : HasB X vs body tb)
    {pins : List (Addr × Obj)} {s : Shared} {σ : L2.St} {H : Hp} {it : Addr} {fp : List Addr} {tn : Nat → Heap → Prop} {Q : Hp → Prop} (I : Inv X pins σ H s) (T : Turn X.prog X.w X.K tg J fp it tn) (st : tn 0 s.heap) (hf : ∀ b ∈ fp, FpOk X pins H b) (h : tCl J g tt tb vs σ H Q) :
    codeAny (model X.prog X.w) X.A (.compLoop e k (.ref it) acc X.env) (fun r s' => match r with
      | .ok _ => ∃ H', Inv X pins (wipe σ vs) H' s' ∧ Q H'
      | .error _ => False) s := by
  obtain ⟨W, ⟨m0, w0⟩, go⟩ := h
  have fok : ∀ {H' : Hp}, (∀ b ∈ fp, H' b = none) → ∀ b ∈ fp, FpOk X pins H' b := fun hn b hb => ⟨hn b hb, (hf b hb).2⟩
  have weak0 : ∀ {σ1 : L2.St} {p : List (Addr × Obj)} {H' : Hp} {s' : Shared}, wipe σ1 vs = wipe σ vs → Inv X p σ1 H' s' → Inv X p (wipe σ vs) H' s' := fun z I1 => I1.weak (by rw [← z, wipe_length]) fun j v q => by rw [← z] at q; exact (wipe_some q).1
  refine codeAny_loop (hq _) (fun m s1 => ∃ i H1, Inv X pins (wipe σ vs) H1 s1 ∧ tn i s1.heap ∧ (∀ b ∈ fp, H1 b = none) ∧ W i m H1) (fun m s1 hI => ?_) m0 ⟨0, H, weak0 rfl I, st, fun b hb => (hf b hb).1, w0⟩
  obtain ⟨i, H1, I1, st1, n1, w1⟩ := hI
  rw [hun, hden]
  refine wpAny_noted ?_
  rw [hT]
  refine wpAny_bind (wpAny_standAt (wpAny_bind ?_))
  rcases go i m H1 w1 with ⟨stop, q⟩ | ⟨gg, Nx, hNx, step⟩
  · refine thnF (T.done X rfl rfl rfl hc i pins s1 _ H1 (fun _ _ => False) I1 (fok n1) st1 stop) fun r s2 ⟨hr, I2⟩ => ?_
    subst hr
    exact wpAny_pure ⟨H1, I2, q⟩
  · refine thnF (T.item X rfl rfl rfl hc i pins s1 _ H1 (fun _ _ => False) I1 (fok n1) st1 gg) fun r s2 ⟨u, hr, h2⟩ => ?_
    subst hr
    refine wpAny_bind (thnF h2 fun _ s3 ⟨x, H3, I3, r3, y3, st3, n3⟩ => ?_)
    have I3p := I3.pinned (fok n3) (T.obj _ _ st3)
    have z4 := pg.run _ s3 _ H3 x u _ I3p r3 (step x H3 y3)
    rw [hx] at z4
    refine wpAny_bind (thnF z4 fun _ s4 ⟨σ4, H4, I4, e4, q4⟩ => ?_)
    have z5 := pt.run _ s4 σ4 H4 _ I4 q4
    rw [hx] at z5
    refine wpAny_bind (thnF z5 fun b s5 ⟨H5, I5, q5⟩ => ?_)
    have fin : ∀ {σ6 : L2.St} {s6 : Shared} {H6 : Hp}, Inv X (pins ++ pinsAt fp s3.heap) σ6 H6 s6 → wipe σ6 vs = wipe σ vs → Nx H6 → ∃ m', m' < m ∧ ∃ i H', Inv X pins (wipe σ vs) H' s6 ∧ tn i s6.heap ∧ (∀ b ∈ fp, H' b = none) ∧ W i m' H' := fun {σ6 s6 H6} I6 e6 nx => by
      obtain ⟨m', hm, w'⟩ := hNx H6 nx
      have pin : ∀ b ∈ fp, ∀ o, s3.heap.get? b = some o → s6.heap.get? b = some o ∧ H6 b = none := fun b hb o z =>
        let p := I6.pin (b, o) (List.mem_append_right _ (List.mem_append_right _ (mem_pinsAt hb z)))
        ⟨p.1, p.2.1⟩
      refine ⟨m', hm, i + 1, H6, weak0 e6 I6.unpinned, T.keep _ _ _ st3 fun b hb o z => (pin b hb o z).1, fun b hb => ?_, w'⟩
      obtain ⟨o, z, _⟩ := T.obj _ _ st3 b hb
      exact (pin b hb o z).2
    cases b with
    | false =>
      simp only [Bool.false_eq_true, if_false] at q5 ⊢
      exact wpAny_pure ⟨rfl, fin I5 e4 q5⟩
    | true =>
      simp only [if_true] at q5 ⊢
      exact thnF (pb _ s5 σ4 H5 _ _ _ I5 q5 fun σ6 H6 s6 I6 e6 q6 => wpAny_pure ⟨rfl, fin I6 (e6.trans e4) q6⟩) fun _ _ z => z
/-- the next clause -/
def tNx (wi : TI) (g : TG) (tt : TT) (tb : TB) (ws : List Nat) : TB := fun σ H Q => wi σ H fun J H1 => tCl J g tt tb ws σ H1 Q
/-- a member is put -/
def tPutS (P : Program) (w : World) (D : Addr) (te : TE) : TB := fun σ H Q => te σ H fun y H1 => ∃ (z : Str) (S : Str → Bool) (n : Nat), y = .str z ∧ H1 D = some (SetT P w D S n) ∧ n + 1 < 4000 ∧ ∀ n', n' ≤ n + 1 → Q (upd H1 D (SetT P w D (fun j => S j || decide (j = z)) n'))
theorem setT_add {pins : List (Addr × Obj)} {σ : L2.St} {H : Hp} {s : Shared} {E : Value → Shared → Prop} {D : Addr} {S : Str → Bool} {n : Nat} {y : Str} {v : Value} {Q : Value → Shared → Prop} (I : Inv X pins σ H s) (hD : H D = some (SetT X.prog X.w D S n)) (room : n + 1 < 4000) (rv : RelV (.str y) v)
    (h : ∀ n' s', n' ≤ n + 1 → Inv X pins σ (upd H D (SetT X.prog X.w D (fun j => S j || decide (j = y)) n')) s' → Q .none s') : wpAny (model X.prog X.w) X.A (call (.builtin "set.add") [.ref D, v]) Q E s := by
  have R : SetS X.prog X.w s.heap D S n := (I.hok D _ hD).1
  obtain ⟨t, rfl⟩ : ∃ t, v = .str y t := rv
  obtain ⟨o, es, ep, tb, ⟨ho, hex, hd⟩, hr⟩ := id R
  have hT : s.TypeIs (.ref D) "set" := ⟨o, ho, hex.1⟩
  refine wpAny_call_entry F.slot_set_add hT F.entry_set_add ?_ (F.args_set_add_2 _ _)
  unfold Builtin.«set.add» Builtin.Frozenset.oneOther
  simp only [List.isEmpty_nil, bind_assoc]
  unfold Builtin.Frozenset.addrOf setAdd
  refine wpAny_bind (wpAny_pure (wpAny_bind (wpAny_pure (wpAny_bind (wpAny_holding (wpAny_bind ((PySem.strKind X.prog X.w).pyHash (k := y) (strKind_is _ _ _ _) ?_)))))))
  refine setX_add (knd := PySem.strKind X.prog X.w) (s := { s with toks := s.toks + 1 }) (strKind_is _ _ _ _) rfl R (by unfold scanBound; omega) fun h' sb new => ?_
  show wpAny _ _ (ret Value.none) _ _ _
  refine wpAny_pure ⟨_, rfl, h _ _ (by split <;> omega) (I.write (e := D) (t' := s.toks + 1) (by rw [hD]; trivial) (.inl rfl) (fun b u hb hu => (sb.2 b hb).trans hu) ?_ (setT_new new))⟩
  obtain ⟨o', _, _, _, ⟨ho', _⟩, _⟩ := id new
  exact ⟨o', ho'⟩
theorem hb_put {elt : Expr} {te : TE} {D : Addr} {vs : List Nat} (hx : X.xe = fun _ _ => False) (he : PE X elt te) : HasB X vs (fun z => do
    (do let v ← eval elt X.env; standAt elt.pos; let _ ← call (.builtin "set.add") [.ref D, v])
    z) (tPutS X.prog X.w D te) := by
  intro pins s σ H Q z R I h kz
  have z1 := he.run pins s σ H _ I h
  rw [hx] at z1
  refine wpAny_bind (wpAny_bind (thnF z1 fun v s1 ⟨y, H1, I1, r1, z, S, n, ey, hD, room, q⟩ => ?_))
  subst ey
  exact wpAny_bind (wpAny_standAt (wpAny_bind (setT_add I1 hD room r1 fun n' s' hn I' => wpAny_pure (kz _ _ _ I' rfl (q n' hn)))))
theorem setStart {prog : Program} {w : World} {A : Around} {R : Result → Shared → Prop} {s : Shared} {env : Env} {elt : Expr} {gens : List Comprehension} {g : Comprehension} {k : Nat} {scope : Scope} {pos : Pos} {it acc : Value} (hg : gens[k]? = some g) (ha : g.is_async = 0)
    (h0 : codeAny (model prog w) A (.compLoop (.SetComp elt gens scope pos) k it acc env) R s)
    (h : wpAny (model prog w) A (pyIter it) (fun it' s' => codeAny (model prog w) A (.compLoop (.SetComp elt gens scope pos) k it' acc env) R s') (notedBy (model prog w) A env fun x s' => R (.error x) s') s) :
    codeAny (model prog w) A (.compStart (.SetComp elt gens scope pos) k it acc env) R s := by
  refine codeAny_of_tree ?_
  show wpAny _ _ ((compStart (.SetComp elt gens scope pos) k it acc env).onRaise (fun x => do noteFrame x env; standAt theWindowsPlace)) _ _ s
  refine wpAny_notedAt ?_
  unfold compStart
  have e1 : (clausesOf (.SetComp elt gens scope pos))[k]? = some g := hg
  rw [e1]
  simp only [Option.elim, ha, bne_self_eq_false, Bool.false_eq_true, if_false]
  show wpAny _ _ (ask >>= _) _ _ s
  refine wpAny_bind (wpAny_askSetting (wpAny_ite ?_))
  split
  · first
      | exact wpAny_bind (wpAny_pure (wpAny_pure (And.intro rfl h0)))
      | exact wpAny_pure (And.intro rfl h0)
  · refine wpAny_bind (wpAny_rule ?_)
    first
      | exact wpAny_bind (wpAny_standAt (wpAny_bind (wpAny_mono h (fun it' s' h' => wpAny_pure (And.intro rfl h')) fun _ _ x => x)))
      | (refine wpAny_bind ?_; exact wpAny_standAt (wpAny_bind (wpAny_mono h (fun it' s' h' => wpAny_pure (And.intro rfl h')) fun _ _ x => x)))
theorem hb_next {elt tg i1 : Expr} {gens : List Comprehension} {ifs : List Expr} {k : Nat} {scope : Scope} {pos : Pos} {acc : Value} {body : Sem PySem.Fin → Sem PySem.Fin} {wi : TI} {g : TG} {tt : TT} {tb : TB} {vs ws : List Nat} (hc : X.calm = true) (hx : X.xe = fun _ _ => False) (hv : ∀ i ∈ ws, i ∈ vs) (hg : gens[k]? = some ⟨tg, i1, ifs, 0⟩)
    (hT : TurnIs (.SetComp elt gens scope pos) tg k i1.pos ifs acc X.env body)
    (hi : PI X tg i1 wi) (pg : PG X tg g) (pt : PTs X ifs tt) (pb : HasB X ws body tb) (hs : ∀ x, foldedSetIterable i1 X.env x = pure x) :
    HasB X vs (fun z => do
      let x ← eval i1 X.env
      standAt i1.pos
      let x ← foldedSetIterable i1 X.env x
      let _ ← runOwn (.compStart (.SetComp elt gens scope pos) k (← holding [x] (pyIter x)) acc X.env) X.env
      z) (tNx wi g tt tb ws) := by
  intro pins s σ H Q z R I h kz
  have z1 := hi.run pins s σ H _ I h
  rw [hx] at z1
  refine wpAny_bind (thnF z1 fun x s1 h1 => ?_)
  refine wpAny_bind (wpAny_standAt (wpAny_bind (wpAny_of_eq (hs x) (wpAny_bind (wpAny_holding (thnF h1 fun itv s2 h2 => ?_))))))
  obtain ⟨it, fp, tn, J, H2, e, I2, T, st, f2, q⟩ := h2
  subst e
  refine wpAny_bind (wpAny_runOwn ?_)
  rw [Around.mark_none]
  have L := cl_loop (e := .SetComp elt gens scope pos) (k := k) (acc := acc) hc hx (fun _ => rfl) (fun _ => rfl) (fun _ => rfl) hT pg pt pb I2 T st f2 q
  have L2 := codeAny_mono (R' := fun r s' => match r with
      | .ok f => wpAny (model X.prog X.w) X.A z R (fun _ _ => False) s'
      | .error e => cameBackBy (model X.prog X.w) X.A X.env (fun _ _ => False) e s') L fun r s' hr => by
    cases r with
    | ok f =>
      obtain ⟨H', I', q'⟩ := hr
      exact kz _ H' s' I' (wipe_wipe hv) q'
    | error e => exact hr.elim
  exact setStart hg rfl L2 (T.self X.A 0 _ _ _ st L2)
end
end RV
set_option linter.all false
/-! {x for a in .. if .. for b in .. ..}: the whole comprehension -/
namespace RV
open PySem L2 PySem.Spec PyProof.Rows
def BlkOf (X X' : Cx) (scope : Scope) : Prop := ∃ (s : Shared) (H : Hp) (C : Addr) (cl : List (Str × Addr)) (fp : List Addr), X' = X.blk s H scope (compEnvC scope cl C X.env) fp
section
variable {X : Cx}
def tSet (P : Program) (w : World) (wi : TI) (g : TG) (tt : TT) (tb : Addr → TB) (vs : List Nat) : TE := fun σ H Q => wi σ H fun J H1 => ∀ D, H1 D = none → tCl J g tt (tb D) vs σ (upd H1 D (SetT P w D (fun _ => false) 0)) fun H' => Q (.ref D) H'
theorem pe_set {elt tg iter : Expr} {ifs : List Expr} {rest : List Comprehension} {scope : Scope} {own : List (Str × Nat)} {pos : Pos} {wi : TI} {g : TG} {tt : TT} {tb : Addr → TB} (hc : X.calm = true) (hN : X.N.Nodup) (hi : PI X tg iter wi) (ok : BlkOk X.N X.env.scope scope own)
    (hg : ∀ X', BlkOf X X' scope → PG X' tg g) (ht : ∀ X', BlkOf X X' scope → PTs X' ifs tt)
    (hb : ∀ X', BlkOf X X' scope → ∀ D, ∃ body, HasB X' (own.map (·.2)) body (tb D) ∧ TurnIs (.SetComp elt (⟨tg, iter, ifs, 0⟩ :: rest) scope pos) tg 0 iter.pos ifs (.ref D) X'.env body)
    (hs : ∀ x, foldedSetIterable iter X.env x = pure x := by intro _; rfl) :
    PE X (.SetComp elt (⟨tg, iter, ifs, 0⟩ :: rest) scope pos) (tSet X.prog X.w wi g tt tb (own.map (·.2))) := by
  refine ⟨fun pins s σ H Q I h => ?_⟩
  rw [PpSet.eval_SetComp]
  have free : ∀ y ∈ scope.names, y.2 = .free → ∃ c, X.env.cells.lookup y.1 = some c := fun y hy z => (ok.free y hy z).elim (fun k => I.ok.has _ (.inl k)) fun k => I.ok.has _ (.inr k)
  refine wpAny_comprehension_free (use := none) rfl hs (closure_ok free) ok.kind (fun y hy z => by rw [ok.uniq y hy, z]) (thn (hi.run pins s σ H _ I h) fun xv s1 hx => thn hx fun itv s2 h2 => ?_)
  obtain ⟨it, fp, tn, J, H2, e, I2, T, st2, f2, q⟩ := h2
  subst e
  refine PpSet.newSet_ok (newEnv_comp ?_)
  have hn2 : H2 s2.heap.objs.size = none := I2.hok.fresh (Nat.le_refl _)
  have q0 := q _ hn2
  -- the new set
  have I3 := I2.laid (t' := s2.toks) (h' := s2.heap.push (emptySet X.w)) (fun b o z => Heap.get?_push_of_some _ z) (Nat.le_refl _) (setT_new (P := X.prog) (w := X.w) (H := upd H2 s2.heap.objs.size (SetT X.prog X.w s2.heap.objs.size (fun _ => false) 0)) (SetX.fresh (knd := PySem.strKind X.prog X.w) (Heap.get?_push_size _ rfl)))
  generalize hD : s2.heap.objs.size = D at hn2 q0 I3 ⊢
  have lt2 : ∀ b ∈ fp, b < D := fun b hb => by
    obtain ⟨o, z, _⟩ := T.obj _ _ st2 b hb
    rw [← hD]
    exact Heap.lt_size z
  have push : ∀ {b o}, s2.heap.get? b = some o → (s2.heap.push (emptySet X.w)).get? b = some o := fun z => Heap.get?_push_of_some _ z
  have psz : (s2.heap.push (emptySet X.w)).objs.size = D + 1 := by rw [Heap.size_push, hD]
  generalize hs3 : ({ s2 with heap := s2.heap.push (emptySet X.w) } : Shared) = s3
  have e3 : s3.heap = s2.heap.push (emptySet X.w) := by rw [← hs3]
  have I3 : Inv X pins σ (upd H2 D (SetT X.prog X.w D (fun _ => false) 0)) s3 := by rw [← hs3]; exact I3
  have f3 : ∀ b ∈ fp, FpOk X pins (upd H2 D (SetT X.prog X.w D (fun _ => false) 0)) b ∧ b < s3.heap.objs.size := fun b hb => by
    have l := lt2 b hb
    refine ⟨⟨?_, (f2 b hb).2⟩, by rw [e3, psz]; exact Nat.lt_succ_of_lt l⟩
    rw [upd_ne (Nat.ne_of_lt l)]
    exact (f2 b hb).1
  have st3 : tn 0 s3.heap := T.keep _ _ _ st2 fun b _ o z => by rw [e3]; exact push z
  have I4 := block_start I3 ok hN f3
  show codeAny _ _ (.compStart (.SetComp elt (⟨tg, iter, ifs, 0⟩ :: rest) scope pos) 0 (.ref it) (.ref D) (compEnvC scope (cellsFrom (s3.heap.objs.size + 1) scope.names (cloFrom X.env.cells scope.names [])) s3.heap.objs.size X.env)) (compPost (model X.prog X.w) X.A X.xe none _ (.ref D) s3.heap.objs.size) { s3 with heap := pushCells (s3.heap.push { cls := .type "dict", data := .dict #[] }) scope.names }
  have bo : BlkOf X (X.blk s3 (upd H2 D (SetT X.prog X.w D (fun _ => false) 0)) scope (compEnvC scope (cellsFrom (s3.heap.objs.size + 1) scope.names (cloFrom X.env.cells scope.names [])) s3.heap.objs.size X.env) fp) scope := ⟨_, _, _, _, _, rfl⟩
  have hg1 := hg _ bo
  have ht1 := ht _ bo
  obtain ⟨body, hb1, hT⟩ := hb _ bo D
  clear hg ht hb bo
  generalize hce : compEnvC scope (cellsFrom (s3.heap.objs.size + 1) scope.names (cloFrom X.env.cells scope.names [])) s3.heap.objs.size X.env = ce at I4 hg1 ht1 hb1 hT ⊢
  have cL : ce.locals = s3.heap.objs.size := by subst hce; rfl
  generalize hH3 : upd H2 D (SetT X.prog X.w D (fun _ => false) 0) = H3 at I3 I4 f3 q0 hg1 ht1 hb1 hT
  generalize hs4 : ({ s3 with heap := pushCells (s3.heap.push { cls := .type "dict", data := .dict #[] }) scope.names } : Shared) = s4 at I4 ⊢
  have st4 : tn 0 s4.heap := T.keep _ _ _ st3 fun b _ o z => by rw [← hs4]; exact pushCells_keeps _ _ _ _ (Heap.get?_push_of_some _ z)
  have f4 : ∀ b ∈ fp, FpOk (X.blk s3 H3 scope ce fp) [] H3 b := fun b hb => ⟨(f3 b hb).1.1, (I4.ok.exf b hb).1, I4.ok.exfs b hb, .inl hb, fun x c z => (I4.ok.exf b hb).2 x c z, fun p hp => absurd (show p ∈ ([] : List (Addr × Obj)) ++ [] from hp) (by simp)⟩
  have q4 : tCl J g tt (tb D) (own.map (·.2)) (wipe σ (own.map (·.2))) H3 fun H' => Q (.ref D) H' := by
    obtain ⟨W, w0, go⟩ := q0
    refine ⟨W, w0, fun i m H' w' => (go i m H' w').imp id fun ⟨g1, Nx, hn, step⟩ => ⟨g1, Nx, hn, fun x H'' y => ?_⟩⟩
    rw [wipe_wipe fun _ z => z]
    exact step x H'' y
  have L := cl_loop (X := X.blk s3 H3 scope ce fp) (e := .SetComp elt (⟨tg, iter, ifs, 0⟩ :: rest) scope pos) (k := 0) (acc := .ref D) hc rfl (fun _ => rfl) (fun _ => rfl) (fun _ => rfl) hT hg1 ht1 hb1 I4 T st4 f4 q4
  have L2 := codeAny_mono (R' := compPost (model X.prog X.w) X.A X.xe none (EP X pins σ Q) (.ref D) s3.heap.objs.size) L fun r s6 hr => by
    cases r with
    | error e => exact hr.elim
    | ok f =>
      obtain ⟨H6, I6, q6⟩ := hr
      have I7 : Inv X pins σ H6 s6 := I3.call' (ch := fp) I6.os I6.base I6.hok I6.bare fun b hb => ⟨(f3 b hb).1.2.2.2.1, (f3 b hb).1.2.1, (f3 b hb).1.2.2.2.2.1, (f3 b hb).1.2.2.2.2.2⟩
      have nC : H6 s3.heap.objs.size = none := by
        have z : H6 ce.locals = none := I6.free
        rw [cL] at z
        exact z
      obtain ⟨m, hm, _⟩ := I6.loc
      have hm : s6.heap.Ns ce.locals m := hm
      rw [cL] at hm
      refine ⟨m, hm, fun h'' sb => ?_⟩
      obtain ⟨g0, g1, g2, g3, g4, g5⟩ := I3.fpOk (Nat.le_refl _) nC
      exact ⟨.ref D, H6, I7.turned (t' := s6.toks) (fun b o hb z => (sb.2 b hb).trans z) g0 g1 g3 g4 g5, rfl, q6⟩
  exact setStart rfl rfl L2 (T.self X.A 0 _ _ _ st4 L2)
end
/-- a clause's turns over a walk -/
theorem cl_walk {J : It} {n : Nat} {GG : Hp → Prop} {Y : Nat → Hp → V → Hp → Prop} (wk : Walk J n GG Y) {g : TG} {tt : TT} {tb : TB} {vs : List Nat} {σ : L2.St} {H : Hp} {Q : Hp → Prop} (Pv : Nat → Hp → Prop) (h0 : Pv 0 H) (hG : ∀ i H', i ≤ n → Pv i H' → GG H')
    (hs : ∀ i x Ha Hb, i < n → Pv i Ha → Y i Ha x Hb → g x (wipe σ vs) Hb fun σ2 H2 => wipe σ2 vs = wipe σ vs ∧ tt σ2 H2 fun b H3 => if b = true then tb σ2 H3 (Pv (i + 1)) else Pv (i + 1) H3) (hd : ∀ H', Pv n H' → Q H') : tCl J g tt tb vs σ H Q := by
  refine ⟨fun i m H' => m = n - i ∧ i ≤ n ∧ Pv i H', ⟨n, by simp, Nat.zero_le _, h0⟩, fun i m H' z => ?_⟩
  obtain ⟨rfl, hi, p⟩ := z
  by_cases hlt : i < n
  · exact .inr ⟨wk.1 i H' hlt (hG i H' hi p), Pv (i + 1), fun H'' p' => ⟨n - (i + 1), by omega, rfl, hlt, p'⟩, fun x H'' y => hs i x H' H'' hlt p (wk.3 i H' x H'' hlt (hG i H' hi p) y)⟩
  · obtain rfl : i = n := by omega
    exact .inl ⟨wk.2 H' (hG i H' hi p), hd H' p⟩
end RV
set_option linter.all false
/-! {x for a in .. for b in ..} with two clauses and with three, the members texts -/
namespace RV
open PySem L2 PySem.Spec PyProof.Rows
section
variable {X : Cx}
theorem pe_set2 {elt tg iter tg1 iter1 : Expr} {ifs ifs1 : List Expr} {scope : Scope} {own : List (Str × Nat)} {ws : List Nat} {pos : Pos} {wi wi1 : TI} {g g1 : TG} {tt tt1 : TT} {te : TE} (hc : X.calm = true) (hN : X.N.Nodup) (hi : PI X tg iter wi) (ok : BlkOk X.N X.env.scope scope own) (hv : ∀ i ∈ ws, i ∈ own.map (·.2))
    (hg : ∀ (s : Shared) (H : Hp) (C : Addr) (cl : List (Str × Addr)) (fp : List Addr), PG (X.blk s H scope (compEnvC scope cl C X.env) fp) tg g) (ht : ∀ (s : Shared) (H : Hp) (C : Addr) (cl : List (Str × Addr)) (fp : List Addr), PTs (X.blk s H scope (compEnvC scope cl C X.env) fp) ifs tt) (hi1 : ∀ (s : Shared) (H : Hp) (C : Addr) (cl : List (Str × Addr)) (fp : List Addr), PI (X.blk s H scope (compEnvC scope cl C X.env) fp) tg1 iter1 wi1) (hg1 : ∀ (s : Shared) (H : Hp) (C : Addr) (cl : List (Str × Addr)) (fp : List Addr), PG (X.blk s H scope (compEnvC scope cl C X.env) fp) tg1 g1) (ht1 : ∀ (s : Shared) (H : Hp) (C : Addr) (cl : List (Str × Addr)) (fp : List Addr), PTs (X.blk s H scope (compEnvC scope cl C X.env) fp) ifs1 tt1) (he : ∀ (s : Shared) (H : Hp) (C : Addr) (cl : List (Str × Addr)) (fp : List Addr), PE (X.blk s H scope (compEnvC scope cl C X.env) fp) elt te)
    (hs : ∀ x, foldedSetIterable iter X.env x = pure x := by intro _; rfl) (hs1 : ∀ env x, foldedSetIterable iter1 env x = pure x := by intro _ _; rfl) :
    PE X (.SetComp elt [⟨tg, iter, ifs, 0⟩, ⟨tg1, iter1, ifs1, 0⟩] scope pos) (tSet X.prog X.w wi g tt (fun D => tNx wi1 g1 tt1 (tPutS X.prog X.w D te) ws) (own.map (·.2))) := by
  refine pe_set hc hN hi ok (fun X' hX => ?_) (fun X' hX => ?_) (fun X' hX D => ?_) hs
  · obtain ⟨s, H, C, cl, fp, rfl⟩ := hX
    exact hg s H C cl fp
  · obtain ⟨s, H, C, cl, fp, rfl⟩ := hX
    exact ht s H C cl fp
  · obtain ⟨s, H, C, cl, fp, rfl⟩ := hX
    exact ⟨_, hb_next (elt := elt) (gens := [⟨tg, iter, ifs, 0⟩, ⟨tg1, iter1, ifs1, 0⟩]) (k := 1) (scope := scope) (pos := pos) (acc := .ref D) hc rfl hv rfl (fun _ => rfl) (hi1 s H C cl fp) (hg1 s H C cl fp) (ht1 s H C cl fp) (hb_put rfl (he s H C cl fp)) (hs1 _), fun _ => rfl⟩
end
section
variable {X : Cx} {K : PySem.W.Frag}
theorem pi_tupK {tg l : Expr} {tl : TE} (hl : PE X l tl) (h : X.K = K := by rfl) : PI X tg l (iTup K tl) := h ▸ pi_tup hl
theorem pi_listK {tg l : Expr} {tl : TE} (hl : PE X l tl) (h : X.K = K := by rfl) : PI X tg l (iList K tl) := h ▸ pi_list hl
end
/-- everything but the object at d stays -/
def Sb (d : Addr) (H H' : Hp) : Prop := ∀ b o, b ≠ d → H b = some o → H' b = some o
theorem Sb.refl {d : Addr} (H : Hp) : Sb d H H := fun _ _ _ e => e
theorem Sb.same {d : Addr} {A B C : Hp} (s : Same A B) (n : A d = none) (h : Sb d B C) : Same A C := fun b o e => h b o (ne_of_none e n) (s b o e)
/-- places -/
def pls (ps : List P3) : List Str := ps.flatMap fun p => [p.2.1, p.2.2]
def SortP (xs : List Str) (zs : List Str) : Prop := sortedS zs = true ∧ zs.Nodup ∧ ∀ z, z ∈ zs ↔ z ∈ xs
def sp_plc (K : PySem.W.Frag) (CN CP CM : Addr) : Sp := fun vs H Q _ => ∃ (x : Addr) (ps : List P3) (ms : List M3), vs = [.ref x] ∧ NetR K CN CP CM H x ps ms ∧ ps.length ≤ 12 ∧
  ∀ (t : Addr) (zs : List Str) H', Same H H' → H' t = some (.tup (zs.map V.str)) → SortP (pls ps) zs → zs.length ≤ 24 → Q (.ref t) H'
end RV
set_option linter.all false
/-! comprehensions over pairs of two tuples; flows at places -/
namespace RV
open PySem L2 PySem.Spec PyProof.Rows TL
section
variable {K : PySem.W.Frag} {a b : Addr} {xs ys : List V} {D : Addr} {te : TE} {tt : TT} {vs : List Nat} {σ : L2.St} {H1 : Hp} {Qd : Hp → Prop} {i j : Nat}
end
/-- what comes in less what goes out -/
def dvP (ps : List P3) (fs : List Int) (z : Str) : Int := dv ps.length (pS ps) (pE ps) (rwf fs) z
def sumAt (g : Nat → Str) (n : Nat) (fs : List Int) (z : Str) : List Int := ((List.range n).filter fun k => decide (g k = z)).map (rwf fs)
def flwB (ps : List P3) (fs : List Int) : Bool := decide (fs.length = ps.length) && (pls ps).all fun z => decide (dvP ps fs z = 0)
section
variable (K : PySem.W.Frag) (CN CP CM : Addr)
def sp_kat : Sp := fun vs H Q _ => ∃ (x t : Addr) (ps : List P3) (ms : List M3) (fs : List Int) (z : Str), vs = [.ref x, .ref t, .str z] ∧ NetR K CN CP CM H x ps ms ∧ ps.length ≤ 12 ∧ SqT K H t (fs.map V.int) ∧ fs.length = ps.length ∧ ∀ H', Same H H' → Q (.int (dvP ps fs z)) H'
def sp_isf : Sp := fun vs H Q _ => ∃ (x t : Addr) (ps : List P3) (ms : List M3) (fs : List Int), vs = [.ref x, .ref t] ∧ NetR K CN CP CM H x ps ms ∧ ps.length ≤ 12 ∧ SqT K H t (fs.map V.int) ∧ fs.length ≤ 1000 ∧ ∀ H', Same H H' → Q (.bl (flwB ps fs)) H'
/-- a ring through a pipe with so many meters -/
structure RingF (ps : List P3) (ms : List M3) (y : Str) (c : Nat) (fs : List Int) : Prop where
  len : fs.length = ps.length
  ring : ∃ p, p < ps.length ∧ pN ps p = y ∧ Ring ps.length (pS ps) (pE ps) (shutP ps ms) p (rwf fs) ∧ cnt ps.length (fun k => wtP ms (pN ps k)) (rwf fs) = c
def sp_ring : Sp := fun vs H Q _ => ∃ (x : Addr) (ps : List P3) (ms : List M3) (y : Str), vs = [.ref x, .str y] ∧ NetR K CN CP CM H x ps ms ∧ POk ps ∧ ms.length ≤ 12 ∧ y ∈ ps.map (·.1) ∧
  (strP ps ms y = none → ∀ H', Same H H' → Q .non H') ∧ ∀ c (t : Addr) fs H', strP ps ms y = some c → Same H H' → SqT K H' t (fs.map V.int) → RingF ps ms y c fs → Q (.ref t) H'
end
end RV
set_option linter.all false
/-! what the found ways are: rings without loops -/
namespace RV
open PySem L2 PyProof.Rows TL
def ZG (ps : List P3) (ms : List M3) (p : Nat) : Dist Str → Str → Nat → List Int → Prop := fun g x d fs => GW (pS ps) (pE ps) (fun k => wtP ms (pN ps k)) (okp ps.length (shutP ps ms) p) (pE ps p) g x d (rwf fs)
/-- the flow with 1 at a pipe -/
def ringL (ps : List P3) (y : Str) (fs : List Int) : List Int := (List.range ps.length).map fun k => if pN ps k = y then 1 else rwf fs k
end RV
set_option linter.all false
/-! rings of models -/
namespace RV
open PySem L2 PyProof.Rows TL
def sp_rr (K : PySem.W.Frag) (CN CP CM : Addr) : Sp := fun vs H Q _ => ∃ (l x : Addr) (M : Mod) (most more p : Nat), vs = [.ref l, .ref x, .int (p : Nat)] ∧ MdAt H l M ∧ MdOk M most more ∧ most ≤ 12 ∧ more ≤ 12 ∧ NetR K CN CP CM H x M.ps M.ms ∧ p < M.qs.length ∧ ∀ H', Same H H' → Q (.bl true) H'
end RV
set_option linter.all false
/-! for x, y, z in zip(a, b, c): three tuples -/
namespace RV
open PySem L2 PySem.Spec PyProof.Rows TL
/-- the tuples at a, b, c as they stand; the items in new tuples -/
def Itz3 (K : PySem.W.Frag) (a b c : Addr) : It :=
  ⟨fun i H => ∃ (xs ys zs : List V) (x y z : V), SqT K H a xs ∧ SqT K H b ys ∧ SqT K H c zs ∧ xs[i]? = some x ∧ ys[i]? = some y ∧ zs[i]? = some z,
    fun i H v H' => ∃ T x y z, v = .ref T ∧ H T = none ∧ H' = upd H T (.tup [x, y, z]) ∧ (∀ xs, SqT K H a xs → xs[i]? = some x) ∧ (∀ ys, SqT K H b ys → ys[i]? = some y) ∧ ∀ zs, SqT K H c zs → zs[i]? = some z,
    fun i H => ∃ xs ys zs : List V, SqT K H a xs ∧ SqT K H b ys ∧ SqT K H c zs ∧ xs.length = i ∧ ys.length = i ∧ zs.length = i⟩
def iZip3 (K : PySem.W.Frag) (ta : TA) : TI := fun σ H R => ta σ H fun vs H1 => ∃ a b c xs ys zs, vs = [.ref a, .ref b, .ref c] ∧ SqT K H1 a xs ∧ SqT K H1 b ys ∧ SqT K H1 c zs ∧ R (Itz3 K a b c) H1
def YTri (xs ys zs : Nat → Option V) : Nat → Hp → V → Hp → Prop := fun i H v H' => ∃ T x y z, v = .ref T ∧ H T = none ∧ H' = upd H T (.tup [x, y, z]) ∧ xs i = some x ∧ ys i = some y ∧ zs i = some z
end RV
set_option linter.all false
/-! worlds: readings, wrong and silent meters -/
namespace RV
open PySem L2 PySem.Spec PyProof.Rows TL
section
variable {J : It} {n : Nat} {GG : Hp → Prop} {Y : Nat → Hp → V → Hp → Prop} {g : TG} {tt : TT} {tk tv : TE} {vs : List Nat} {σ : L2.St} {H1 : Hp} {D : Addr} {Qd : Hp → Prop}
/-- a dict comprehension over a walk -/
theorem dc_it (wk : Walk J n GG Y) (Pv : Nat → Hp → Prop) (h0 : Pv 0 (upd H1 D (.dK []))) (hG : ∀ i H', i ≤ n → Pv i H' → GG H')
    (hs : ∀ i x Ha Hb, i < n → Pv i Ha → Y i Ha x Hb → g x (wipe σ vs) Hb fun σ2 H2 => wipe σ2 vs = wipe σ vs ∧ tt σ2 H2 fun b H3 =>
      if b = true then tk σ2 H3 fun y H4 => tv σ2 H4 fun z H5 => ∃ kvs k, y = kV k ∧ H5 D = some (.dK kvs) ∧ kvs.length < sizeLine ∧ Pv (i + 1) (upd H5 D (.dK (putK kvs k z))) else Pv (i + 1) H3) (hd : ∀ H', Pv n H' → Qd H') :
    ∃ W : Nat → Nat → Hp → Prop, (∃ m, W 0 m (upd H1 D (.dK []))) ∧ ∀ i m H, W i m H →
      (J.stop i H ∧ Qd H) ∨ (J.go i H ∧ ∃ Nx : Hp → Prop, (∀ H', Nx H' → ∃ m', m' < m ∧ W (i + 1) m' H') ∧ ∀ x H', J.yld i H x H' → g x (wipe σ vs) H' fun σ2 H2 => wipe σ2 vs = wipe σ vs ∧ tt σ2 H2 fun b H3 =>
        if b = true then tk σ2 H3 fun y H4 => tv σ2 H4 fun z H5 => ∃ kvs k, y = kV k ∧ H5 D = some (.dK kvs) ∧ kvs.length < sizeLine ∧ Nx (upd H5 D (.dK (putK kvs k z))) else Nx H3) := by
  refine ⟨fun i m H' => m = n - i ∧ i ≤ n ∧ Pv i H', ⟨n, by simp, Nat.zero_le _, h0⟩, fun i m H' z => ?_⟩
  obtain ⟨rfl, hi, p⟩ := z
  by_cases hlt : i < n
  · exact .inr ⟨wk.goes i H' hlt (hG i H' hi p), Pv (i + 1), fun H'' p' => ⟨n - (i + 1), by omega, rfl, hlt, p'⟩, fun x H'' y => hs i x H' H'' hlt p (wk.yields i H' x H'' hlt (hG i H' hi p) y)⟩
  · obtain rfl : i = n := by omega
    exact .inl ⟨wk.stops H' (hG i H' hi p), hd H' p⟩
end
abbrev gTri (K : PySem.W.Frag) (i j l : Nat) : TG := gTup K 3 (gCons (gName i) (gCons (gName j) (gCons (gName l) gNil)))
section
variable {K : PySem.W.Frag} {a b c : Addr} {xs ys zs : List V} {D : Addr} {te : TE} {tt : TT} {vs : List Nat} {σ : L2.St} {H1 : Hp} {Qd : Hp → Prop} {i j l : Nat}
abbrev s3 (σ : L2.St) (i j l : Nat) (x y z : V) : L2.St := ((σ.set i (some x)).set j (some y)).set l (some z)
end
/-! ### readings -/
def vO : Option Int → V
  | none => .non
  | some c => .int c
def vR (rs : List (Option Int)) : List V := rs.map vO
def mN (ms : List M3) (k : Nat) : Str := (ms.getD k ("", "", false)).1
def mA (ms : List M3) (k : Nat) : Str := (ms.getD k ("", "", false)).2.1
def mZ (ms : List M3) (k : Nat) : Bool := (ms.getD k ("", "", false)).2.2
def rO (rs : List (Option Int)) (k : Nat) : Option Int := rs.getD k none
/-- the flow of the pipe of this name -/
def amt (ps : List P3) (fs : List Int) (y : Str) : Int := match ps.findIdx? fun p => decide (p.1 = y) with
  | some k => rwf fs k
  | none => 0
def rdF (ps : List P3) (ms : List M3) (fs : List Int) : List Int := ms.map fun m => amt ps fs m.2.1
structure RdOk (ms : List M3) (rs : List (Option Int)) : Prop where
  len : rs.length = ms.length
  sea : ∀ k, k < ms.length → mZ ms k = true → rO rs k ≠ none
structure WdOk (ps : List P3) (ms : List M3) (fs : List Int) (rs : List (Option Int)) : Prop where
  fl : fs.length = ps.length
  fw : flwB ps fs = true
  rd : RdOk ms rs
  sea : ∀ k, k < ms.length → mZ ms k = true → rO rs k = some (amt ps fs (mA ms k))
def wrB (ps : List P3) (ms : List M3) (fs : List Int) (rs : List (Option Int)) (k : Nat) : Bool := match rO rs k with
  | some v => decide (v ≠ amt ps fs (mA ms k))
  | none => false
def wrN (ps : List P3) (ms : List M3) (fs : List Int) (rs : List (Option Int)) : List Str := ((List.range ms.length).filter (wrB ps ms fs rs)).map (mN ms)
def slN (ms : List M3) (rs : List (Option Int)) : List Str := ((List.range ms.length).filter fun k => (rO rs k).isNone).map (mN ms)
def Asc (xs zs : List Str) : Prop := PyProof.Rows.sortedS zs = true ∧ zs.Perm xs
section
variable (K : PySem.W.Frag) (CN CP CM : Addr)
/-- a pair of a flow and readings -/
def WAt (H : Hp) (a : Addr) (fs : List Int) (rs : List (Option Int)) : Prop := ∃ tf tr, SqT K H a [.ref tf, .ref tr] ∧ SqT K H tf (fs.map V.int) ∧ SqT K H tr (vR rs)
def sp_rof : Sp := fun vs H Q _ => ∃ (x t : Addr) (ps : List P3) (ms : List M3) (fs : List Int), vs = [.ref x, .ref t] ∧ NetR K CN CP CM H x ps ms ∧ POk ps ∧ MOk ps ms ∧ SqT K H t (fs.map V.int) ∧ fs.length = ps.length ∧ flwB ps fs = true ∧
  ∀ (r : Addr) H', Same H H' → H' r = some (.tup ((rdF ps ms fs).map V.int)) → Q (.ref r) H'
def sp_isr : Sp := fun vs H Q _ => ∃ (a : Addr) (m : M3) (o : Option Int), vs = [.ref a, vO o] ∧ MetAt CM H a m ∧ Q (.bl (o.isSome || !m.2.2)) H
def sp_chr : Sp := fun vs H Q _ => ∃ (x t : Addr) (ps : List P3) (ms : List M3) (rs : List (Option Int)), vs = [.ref x, .ref t] ∧ NetR K CN CP CM H x ps ms ∧ ms.length ≤ 12 ∧ SqT K H t (vR rs) ∧ RdOk ms rs ∧ ∀ H', Same H H' → Q .non H'
def sp_are : Sp := fun vs H Q _ => ∃ (x t : Addr) (ps : List P3) (ms : List M3) (rs : List (Option Int)), vs = [.ref x, .ref t] ∧ NetR K CN CP CM H x ps ms ∧ ms.length ≤ 12 ∧ SqT K H t (vR rs) ∧ RdOk ms rs ∧ ∀ H', Same H H' → Q (.bl true) H'
def sp_seal : Sp := fun vs H Q _ => ∃ (x t r : Addr) (ps : List P3) (ms : List M3) (fs : List Int) (rs : List (Option Int)), vs = [.ref x, .ref t, .ref r] ∧ NetR K CN CP CM H x ps ms ∧ POk ps ∧ MOk ps ms ∧ SqT K H t (fs.map V.int) ∧ SqT K H r (vR rs) ∧ WdOk ps ms fs rs ∧ ∀ H', Same H H' → Q (.bl true) H'
def sp_isw : Sp := fun vs H Q _ => ∃ (x a : Addr) (ps : List P3) (ms : List M3) (fs : List Int) (rs : List (Option Int)), vs = [.ref x, .ref a] ∧ NetR K CN CP CM H x ps ms ∧ POk ps ∧ MOk ps ms ∧ WAt K H a fs rs ∧ WdOk ps ms fs rs ∧ ∀ H', Same H H' → Q (.bl true) H'
def sp_chw : Sp := fun vs H Q _ => ∃ (x a : Addr) (ps : List P3) (ms : List M3) (fs : List Int) (rs : List (Option Int)), vs = [.ref x, .ref a] ∧ NetR K CN CP CM H x ps ms ∧ POk ps ∧ MOk ps ms ∧ WAt K H a fs rs ∧ WdOk ps ms fs rs ∧ ∀ H', Same H H' → Q .non H'
def sp_sln : Sp := fun vs H Q _ => ∃ (x t : Addr) (ps : List P3) (ms : List M3) (rs : List (Option Int)), vs = [.ref x, .ref t] ∧ NetR K CN CP CM H x ps ms ∧ ms.length ≤ 12 ∧ SqT K H t (vR rs) ∧ rs.length = ms.length ∧
  ∀ (l : Addr) H', Same H H' → H l = none → H' l = some (.lst ((slN ms rs).map V.str)) → Q (.ref l) H'
def sp_wrm : Sp := fun vs H Q _ => ∃ (x a : Addr) (ps : List P3) (ms : List M3) (fs : List Int) (rs : List (Option Int)), vs = [.ref x, .ref a] ∧ NetR K CN CP CM H x ps ms ∧ POk ps ∧ MOk ps ms ∧ WAt K H a fs rs ∧ WdOk ps ms fs rs ∧
  ∀ (t : Addr) (zs : List Str) H', Same H H' → SqT K H' t (zs.map V.str) → Asc (wrN ps ms fs rs) zs → Q (.ref t) H'
def sp_slm : Sp := fun vs H Q _ => ∃ (x a : Addr) (ps : List P3) (ms : List M3) (fs : List Int) (rs : List (Option Int)), vs = [.ref x, .ref a] ∧ NetR K CN CP CM H x ps ms ∧ POk ps ∧ MOk ps ms ∧ WAt K H a fs rs ∧ WdOk ps ms fs rs ∧
  ∀ (t : Addr) (zs : List Str) H', Same H H' → SqT K H' t (zs.map V.str) → Asc (slN ms rs) zs → Q (.ref t) H'
end
end RV
set_option linter.all false
/-! two worlds with the same readings -/
namespace RV
open PySem L2 PySem.Spec PyProof.Rows TL
/-- what is seen in the world without flow and in the one with a ring -/
def seen (a c : Int) : Int → List Int → List (Option Int)
  | _, [] => []
  | met, v :: vs => if v = 0 then some 0 :: seen a c met vs else (if met < a then some v else if met < a + c then none else some 0) :: seen a c (met + 1) vs
def met (m : Int) : List Int → Int
  | [] => m
  | v :: vs => if v = 0 then met m vs else met (m + 1) vs
def isW1 (o : Option Int) : Bool := match o with
  | some r => decide (r ≠ 0)
  | none => false
def isW2 (q : Int × Option Int) : Bool := match q.2 with
  | some r => decide (r ≠ q.1)
  | none => false
def nz (vs : List Int) : Nat := (vs.filter fun v => decide (v ≠ 0)).length
section
variable (K : PySem.W.Frag) (CN CP CM : Addr)
def sp_seen : Sp := fun vs H Q _ => ∃ (x t f : Addr) (ps : List P3) (ms : List M3) (fs : List Int) (a b c : Int), vs = [.ref x, .ref t, .ref f] ∧ NetR K CN CP CM H x ps ms ∧ POk ps ∧ MOk ps ms ∧ SqT K H t (fs.map V.int) ∧ fs.length = ps.length ∧ flwB ps fs = true ∧ SqT K H f [.int a, .int b, .int c] ∧
  ∀ (r : Addr) H', Same H H' → SqT K H' r (vR (seen a c 0 (rdF ps ms fs))) → Q (.ref r) H'
/-- two worlds with the same readings -/
def MisAt (H : Hp) (t : Addr) (n : Nat) (fs : List Int) (rs : List (Option Int)) : Prop := ∃ u v tf tg tr, SqT K H t [.ref u, .ref v] ∧ SqT K H u [.ref tf, .ref tr] ∧ SqT K H v [.ref tg, .ref tr] ∧ SqT K H tf ((List.replicate n (0 : Int)).map V.int) ∧ SqT K H tg (fs.map V.int) ∧ SqT K H tr (vR rs)
def sp_misl : Sp := fun vs H Q _ => ∃ (x t : Addr) (ps : List P3) (ms : List M3) (y : Str) (a b c : Int), vs = [.ref x, .str y, .ref t] ∧ NetR K CN CP CM H x ps ms ∧ POk ps ∧ MOk ps ms ∧ y ∈ ps.map (·.1) ∧ SqT K H t [.int a, .int b, .int c] ∧ Flt a b c ∧
  (tellB (strP ps ms y) (a + b + c) = true → ∀ H', Same H H' → Q .non H') ∧
  ∀ (n : Nat) (r : Addr) fs H', strP ps ms y = some n → (n : Int) ≤ a + b + c → RingF ps ms y n fs → Same H H' → MisAt K H' r ps.length fs (seen a c 0 (rdF ps ms fs)) → Q (.ref r) H'
end
end RV
set_option linter.all false
/-! lists of indexes; worlds of models -/
namespace RV
open PySem L2 PySem.Spec PyProof.Rows TL
def vI (k : Nat) : V := .int (k : Int)
section
variable {K : PySem.W.Frag} {D : Addr} {te : TE} {tt : TT} {vs : List Nat} {σ : L2.St} {H1 : Hp} {Qd : Hp → Prop} {i : Nat} {J : It} {GG : Hp → Prop}
theorem lc_idx (L : List Nat) (p : Nat → Bool) (val : Nat → V) (wk : Walk J (L.map vI).length GG (YAt (L.map vI))) (nD : H1 D = none) (len : L.length ≤ 1000) (hG : ∀ H', Same H1 H' → GG H') (hw : ∀ x, wipe ((wipe σ vs).set i x) vs = wipe σ vs)
    (ht : ∀ k ∈ L, ∀ H2, Same H1 H2 → ∀ R : Bool → Hp → Prop, (∀ H3, Same H2 H3 → R (p k) H3) → tt ((wipe σ vs).set i (some (vI k))) H2 R)
    (he : ∀ k ∈ L, p k = true → ∀ H2, Same H1 H2 → ∀ R : VK, (∀ H3, Same H2 H3 → R (val k) H3) → te ((wipe σ vs).set i (some (vI k))) H2 R)
    (k : ∀ H', Same H1 H' → H' D = some (.lst ((L.filter p).map val)) → Qd H') :
    ∃ W : Nat → Nat → Hp → Prop, (∃ m, W 0 m (upd H1 D (.lst []))) ∧ ∀ i' m H, W i' m H →
      (J.stop i' H ∧ Qd H) ∨ (J.go i' H ∧ ∃ Nx : Hp → Prop, (∀ H', Nx H' → ∃ m', m' < m ∧ W (i' + 1) m' H') ∧ ∀ x H', J.yld i' H x H' → gName i x (wipe σ vs) H' fun σ2 H2 => wipe σ2 vs = wipe σ vs ∧ tt σ2 H2 fun b H3 =>
        if b = true then te σ2 H3 fun y H4 => ∃ acc, H4 D = some (.lst acc) ∧ acc.length < sizeLine ∧ Nx (upd H4 D (.lst (acc ++ [y]))) else Nx H3) := by
  refine L2.lc_it wk (fun m H' => Same H1 H' ∧ H' D = some (.lst (((L.take m).filter p).map val))) ⟨fun b o e => (upd_ne (ne_of_none e nD)).trans e, upd_same⟩ (fun m H' _ z => hG _ z.1) (fun m x Ha Hb hm hv y => ?_) (fun H' hv => ?_)
  · obtain ⟨s, eD⟩ := hv
    obtain ⟨rfl, hx⟩ := y
    rw [List.getElem?_map] at hx
    cases hu : L[m]? with
    | none => rw [hu] at hx; cases hx
    | some u =>
      rw [hu] at hx
      obtain rfl : vI u = x := Option.some.inj hx
      have hmem := List.mem_of_getElem? hu
      have et : L.take (m + 1) = L.take m ++ [u] := by rw [List.take_add_one, hu]; rfl
      refine ⟨hw _, ht u hmem Hb s _ fun H3 s3 => ?_⟩
      have eD3 := s3 _ _ eD
      have sH : Same H1 H3 := s.trans s3
      cases hp : p u with
      | false =>
        refine iteF ⟨sH, ?_⟩
        rw [eD3, et, List.filter_append, List.filter_cons_of_neg (by rw [hp]; decide), List.filter_nil, List.append_nil]
      | true =>
        refine iteT (he u hmem hp H3 sH _ fun H4 s4 => ⟨_, s4 _ _ eD3, ?_, fun b o e => ?_, ?_⟩)
        · rw [List.length_map]
          have l1 := List.length_filter_le p (L.take m)
          have l2 := List.length_take_le' m L
          exact Nat.lt_of_le_of_lt (Nat.le_trans l1 (Nat.le_trans l2 len)) (by decide)
        · rw [upd_ne (ne_of_none e nD)]
          exact s4 _ _ (sH _ _ e)
        · rw [upd_same, et, List.filter_append, List.filter_cons_of_pos hp, List.filter_nil, List.map_append]
          rfl
  · obtain ⟨s, eD⟩ := hv
    rw [List.length_map, List.take_length] at eD
    exact k H' s eD
end
theorem walk_rgi {n : Nat} : Walk (Itr 0 n) ((List.range n).map vI).length (fun _ => True) (YAt ((List.range n).map vI)) := walk_rgL
def sp_lw (K : PySem.W.Frag) : Sp := fun vs H Q _ => ∃ (l a : Addr) (M : Mod) (most more : Nat) (fs : List Int) (rs : List (Option Int)), vs = [.ref l, .ref a] ∧ MdAt H l M ∧ MdOk M most more ∧ most ≤ 12 ∧ more ≤ 12 ∧ WAt K H a fs rs ∧ WdOk M.ps M.ms fs rs ∧ (∀ c ∈ rs, True) ∧
  ∀ (r lw lm : Addr) H', Same H H' → H' r = some (.lst [.ref lw, .ref lm]) → H' lw = some (.lst (((List.range M.ms.length).filter (wrB M.ps M.ms fs rs)).map vI)) → H' lm = some (.lst (((List.range M.ms.length).filter fun k => (rO rs k).isNone).map vI)) → Q (.ref r) H'
end RV
set_option linter.all false
/-! misleading pairs of models -/
namespace RV
open PySem L2 PySem.Spec PyProof.Rows TL
def dI (k : Nat) : PyData := .int (k : Int)
def dR (o : Option Int) : PyData := match o with
  | none => .none
  | some c => .int c
section
variable {K : PySem.W.Frag} {H : Hp}
theorem dps_S : ∀ xs : List Str, DpAll K H (xs.map V.str) (xs.map PyData.str)
  | [] => .nil
  | x :: xs => .cons (.str _) (dps_S xs)
end
theorem eqv_strs : ∀ xs : List Str, PyData.eqvAll (xs.map PyData.str) (xs.map PyData.str) = true
  | [] => by simp [PyData.eqvAll]
  | x :: xs => by simp [PyData.eqvAll, PyData.eqv, eqv_strs xs]
def sp_flt : Sp := fun vs H Q _ => ∃ (w : Addr) (n : Nat) (m : Int), vs = [.ref w, .int m] ∧ WellAt H w n ∧ n < 900000 ∧ 0 ≤ m ∧ m ≤ 3 ∧
  ∀ (t : Addr) (a b c : Int) H', Grow w H H' → WellAt H' w (n + 5) → H t = none → H' t = some (.tup [.int a, .int b, .int c]) → t ≠ w → Flt a b c → Q (.ref t) H'
def sp_pr (K : PySem.W.Frag) (CN CP CM : Addr) : Sp := fun vs H Q _ => ∃ (l x t : Addr) (M : Mod) (most more p : Nat) (a b c : Int), vs = [.ref l, .ref x, .int (p : Nat), .ref t] ∧ MdAt H l M ∧ MdOk M most more ∧ most ≤ 12 ∧ more ≤ 12 ∧ NetR K CN CP CM H x M.ps M.ms ∧ p < M.qs.length ∧ SqT K H t [.int a, .int b, .int c] ∧ Flt a b c ∧ ∀ H', Same H H' → Q (.bl true) H'
/-! ### the two worlds -/
section
variable {M : Mod} {most more p n : Nat} {fs : List Int} {a b c : Int}
end
end RV
/-! Ways side by side from one place to another: the strength of each pipe. -/
namespace RV
section
variable {α : Type} [DecidableEq α]
/-- how far a road's first t pipes lead -/
def upto (w : Nat → Nat) (kk : Nat → Nat → Nat) (j t : Nat) : Nat := ((List.range t).map fun s => w (kk j s)).sum
/-- R roads from x to y: road j's pipe number t is kk j t and joins the places nd j t and nd j (t + 1) -/
structure Roads (n : Nat) (st en : Nat → α) (R : Nat) (len : Nat → Nat) (kk : Nat → Nat → Nat) (nd : Nat → Nat → α) (x y : α) : Prop where
  pos : ∀ j, j < R → 0 < len j
  fst : ∀ j, j < R → nd j 0 = x
  lst : ∀ j, j < R → nd j (len j) = y
  lt : ∀ j t, j < R → t < len j → kk j t < n
  ends : ∀ j t, j < R → t < len j → (st (kk j t) = nd j t ∧ en (kk j t) = nd j (t + 1)) ∨ (st (kk j t) = nd j (t + 1) ∧ en (kk j t) = nd j t)
  all : ∀ k, k < n → ∃ j t, j < R ∧ t < len j ∧ kk j t = k
  inj : ∀ j t j' t', j < R → t < len j → j' < R → t' < len j' → kk j t = kk j' t' → j = j' ∧ t = t'
  ne : x ≠ y
  dc : ∃ dc : α → Nat × Nat, ∀ j t, j < R → 0 < t → t < len j → dc (nd j t) = (j, t) ∧ nd j t ≠ x ∧ nd j t ≠ y
variable {n : Nat} {st en : Nat → α} {R : Nat} {len : Nat → Nat} {kk : Nat → Nat → Nat} {nd : Nat → Nat → α} {x y u v : α} {ok : Nat → Prop} {w : Nat → Nat} {l : List (Nat × Bool)}
end
end RV
/-! The strength of a pipe in a net of ways side by side. -/
namespace RV
open PySem
section
variable {α : Type} {st en : Nat → α} {ok : Nat → Prop} {u v : α} {l : List (Nat × Bool)}
end
open Classical in
/-- sealed pipes weigh B -/
noncomputable def shW (shut : Nat → Prop) (w : Nat → Nat) (B : Nat) (k : Nat) : Nat := if shut k then B else w k
section
variable {ps : List P3} {ms : List M3} {R : Nat} {len : Nat → Nat} {kk : Nat → Nat → Nat} {nd : Nat → Nat → Str} {x y : Str}
/-- the meters of a road -/
def metR (ps : List P3) (ms : List M3) (kk : Nat → Nat → Nat) (j t : Nat) : Nat := upto (fun k => wtP ms (pN ps k)) kk j t
def OpenR (ps : List P3) (ms : List M3) (len : Nat → Nat) (kk : Nat → Nat → Nat) (j : Nat) : Prop := ∀ t, t < len j → ¬ shutP ps ms (kk j t)
end
end RV
/-! Ways side by side, from pipes in any order. -/
namespace RV
open PySem
/-- where the pipe of this name stands -/
def kkN (ps : List P3) (nm : Nat → Nat → Str) (j t : Nat) : Nat := (ps.map (·.1)).findIdx (fun z => decide (z = nm j t))
/-- the pipes of R roads: road j's pipe t is called nm j t and joins nd j t and nd j (t + 1) -/
structure RoadP (ps : List P3) (R : Nat) (len : Nat → Nat) (nm nd : Nat → Nat → Str) (x y : Str) : Prop where
  pos : ∀ j, j < R → 0 < len j
  fst : ∀ j, j < R → nd j 0 = x
  lst : ∀ j, j < R → nd j (len j) = y
  has : ∀ j t, j < R → t < len j → ∃ p ∈ ps, p.1 = nm j t ∧ ((p.2.1 = nd j t ∧ p.2.2 = nd j (t + 1)) ∨ (p.2.1 = nd j (t + 1) ∧ p.2.2 = nd j t))
  all : ∀ p ∈ ps, ∃ j t, j < R ∧ t < len j ∧ p.1 = nm j t
  un : (ps.map (·.1)).Nodup
  inj : ∀ j t j' t', j < R → t < len j → j' < R → t' < len j' → nm j t = nm j' t' → j = j' ∧ t = t'
  ne : x ≠ y
  dc : ∃ dc : Str → Nat × Nat, ∀ j t, j < R → 0 < t → t < len j → dc (nd j t) = (j, t) ∧ nd j t ≠ x ∧ nd j t ≠ y
section
variable {ps : List P3} {R : Nat} {len : Nat → Nat} {nm nd : Nat → Nat → Str} {x y : Str}
/-- the meters on road j, in all -/
def onR (ms : List M3) (nm : Nat → Nat → Str) (j t : Nat) : Nat := ((List.range t).map fun s => wtP ms (nm j s)).sum
def ShutR (ms : List M3) (len : Nat → Nat) (nm : Nat → Nat → Str) (j : Nat) : Prop := ∃ t, t < len j ∧ seP ms (nm j t) ≠ []
end
end RV
/-! The places of ways side by side: x, y, and s with two figures between them. -/
namespace RV
open PySem
def nS (i : Nat) : Str := (toString (i : Int) : String)
def stopN (j k : Nat) : Str := ("s" : Str) ++ nS j ++ nS k
def nodeN (len : Nat → Nat) (j t : Nat) : Str := if t = 0 then "x" else if t = len j then "y" else stopN j (t - 1)
/-- which place it is -/
def stopD (s : Str) : Nat × Nat := (([(0, 1), (0, 2), (1, 1), (1, 2), (2, 1), (2, 2), (3, 1), (3, 2)] : List (Nat × Nat)).find? fun p => decide (s = stopN p.1 (p.2 - 1))).getD (0, 0)
section
variable {len : Nat → Nat} {R : Nat}
end
end RV
/-! Pipes laid one after another, each put in anywhere. -/
namespace RV
open PySem
/-- the pipes of these places of roads, in any order -/
structure LaidP (ps : List P3) (done : Nat → Nat → Prop) (nm nd : Nat → Nat → Str) : Prop where
  has : ∀ j t, done j t → ∃ p ∈ ps, p.1 = nm j t ∧ ((p.2.1 = nd j t ∧ p.2.2 = nd j (t + 1)) ∨ (p.2.1 = nd j (t + 1) ∧ p.2.2 = nd j t))
  all : ∀ p ∈ ps, ∃ j t, done j t ∧ p.1 = nm j t ∧ ((p.2.1 = nd j t ∧ p.2.2 = nd j (t + 1)) ∨ (p.2.1 = nd j (t + 1) ∧ p.2.2 = nd j t))
  un : (ps.map (·.1)).Nodup
section
variable {ps : List P3} {done : Nat → Nat → Prop} {nm nd : Nat → Nat → Str}
end
end RV
/-! One more meter. -/
namespace RV
open PySem
section
variable {ms : List M3} {nm : Nat → Nat → Str} {R : Nat} {len : Nat → Nat} {J U : Nat} {g : Str} {b : Bool}
end
end RV
/-! The pipes' names by road: so many of a row of names for each road. -/
namespace RV
open PySem
/-- how many pipes the roads before road j have -/
def off (len : Nat → Nat) (j : Nat) : Nat := ((List.range j).map len).sum
/-- the name of road j's pipe t -/
def nmT (ts : List Str) (len : Nat → Nat) (j t : Nat) : Str := ts.getD (off len j + t) ""
section
variable {ts : List Str} {len : Nat → Nat} {R : Nat}
end
end RV
/-! What is due of a pipe's strength. -/
namespace RV
open PySem
/-- the counts of the other roads without a seal -/
def othR (R : Nat) (ct : Nat → Nat) (sh : Nat → Bool) (i : Nat) : List Nat := ((List.range R).filter fun k => decide (k ≠ i) && !sh k).map ct
/-- the strength that is due, the least of the others being o -/
def dueR (ct : Nat → Nat) (sh : Nat → Bool) (i : Nat) (o : Option Nat) : Option Nat := if sh i then none else o.map fun m => ct i + m
end RV
/-! Pipes and meters of roads, laid so far; things that change and things that stand. -/
namespace RV
open PySem L2
/-- the names of which roads are laid -/
structure RoOk (R : Nat) (len : Nat → Nat) (ts gs : List Str) (l0 : Nat) : Prop where
  r0 : 0 < R
  r4 : R ≤ 4
  h0 : ∀ j, j < R → 0 < len j
  h3 : ∀ j, j < R → len j ≤ 3
  tl : ts.length = off len R
  tn : ts.Nodup
  tm : ∀ x ∈ ts, IsNm x
  gl : gs.length = 12
  gd : gs.Nodup
  gm : ∀ x ∈ gs, IsNm x
  l0 : l0 ≤ 12
/-- the pipes of these places, the meters at them, how many meters and whether a seal each road has -/
structure Laid (R : Nat) (len : Nat → Nat) (ts gs : List Str) (l0 : Nat) (done : Nat → Nat → Prop) (ps : List P3) (ms : List M3) (ct : Nat → Nat) (sh : Nat → Bool) : Prop where
  lp : LaidP ps done (nmT ts len) (nodeN len)
  dn : ∀ j t, done j t → j < R ∧ t < len j
  gn : ms.map (·.1) = (List.range ms.length).map fun i => gs.getD (l0 - 1 - i) ""
  ml : ms.length ≤ l0
  mo : ∀ m ∈ ms, ∃ j t, done j t ∧ m.2.1 = nmT ts len j t
  ct : ∀ j, j < R → ct j = onR ms (nmT ts len) j (len j)
  sh : ∀ j, j < R → (sh j = true ↔ ShutR ms len (nmT ts len) j)
section
variable {R : Nat} {len : Nat → Nat} {ts gs : List Str} {l0 : Nat} {done : Nat → Nat → Prop} {ps : List P3} {ms : List M3} {ct : Nat → Nat} {sh : Nat → Bool}
end
/-! ### the heap -/
/-- the things of M change, those of F stand; both are new, or not in M's places -/
structure Bag (H0 : Hp) (a : Addr) (n : Nat) (M F : List (Addr × HO)) (H : Hp) : Prop where
  gr : Grow a H0 H
  well : WellAt H a n
  m : ∀ p ∈ M, H0 p.1 = none ∧ p.1 ≠ a ∧ H p.1 = some p.2
  md : (M.map (·.1)).Nodup
  f : ∀ q ∈ F, q.1 ≠ a ∧ H q.1 = some q.2 ∧ ∀ p ∈ M, q.1 ≠ p.1
section
variable {H0 H H' : Hp} {a p : Addr} {n m : Nat} {M F F' : List (Addr × HO)} {o o' : HO} {Q : VK} {E : XK}
theorem Bag.grow (h : Bag H0 a n M F H) (g : Grow a H H') (w : WellAt H' a m) : Bag H0 a m M F H' :=
  ⟨h.gr.trans g, w, fun p hp => ⟨(h.m p hp).1, (h.m p hp).2.1, g _ _ (h.m p hp).2.1 (h.m p hp).2.2⟩, h.md, fun q hq => ⟨(h.f q hq).1, g _ _ (h.f q hq).1 (h.f q hq).2.1, (h.f q hq).2.2⟩⟩
theorem Bag.same (h : Bag H0 a n M F H) (g : Same H H') : Bag H0 a n M F H' := by
  obtain ⟨x, y, z, e, r⟩ := h.well
  exact h.grow (fun b o _ eb => g b o eb) ⟨x, y, z, g _ _ e, r⟩
theorem Bag.wm (h : Bag H0 a n M F H) (e : n ≤ m) : Bag H0 a m M F H := ⟨h.gr, h.well.mono e, h.m, h.md, h.f⟩
theorem Bag.dip {q : Int} (h : Bag H0 a n M F H) (hn : n < 1000000) (h0 : 0 < q) (h1 : q ≤ 10 ^ 60) (k : ∀ (r : Int) H', 0 ≤ r → r < q → Bag H0 a (n + 1) M F H' → Q (.int r) H') : Irr sp_dip [.ref a, .int q] H Q E :=
  irr ⟨a, q, n, rfl, h.well, hn, h0, h1, fun r H' r0 r1 g w => k r H' r0 r1 (h.grow g w)⟩
theorem Bag.new (h : Bag H0 a n M F H) (np : H p = none) : Bag H0 a n M ((p, o) :: F) (upd H p o) := by
  have h1 := h.grow (m := n) (Grow.new (o := o) np) (h.well.new np)
  refine ⟨h1.gr, h1.well, h1.m, h1.md, fun q hq => ?_⟩
  rcases List.mem_cons.mp hq with rfl | hq
  · exact ⟨(h.well.ne np).symm, upd_same, fun r hr => (ne_of_none (h.m r hr).2.2 np).symm⟩
  · exact h1.f q hq
theorem Bag.sub (h : Bag H0 a n M F H) (s : ∀ p ∈ F', p ∈ F) : Bag H0 a n M F' H := ⟨h.gr, h.well, h.m, h.md, fun q hq => h.f q (s q hq)⟩
theorem Bag.at (h : Bag H0 a n M F H) (hp : (p, o) ∈ F) : H p = some o := (h.f _ hp).2.1
theorem Bag.am (h : Bag H0 a n M F H) (hp : (p, o) ∈ M) : H p = some o := (h.m _ hp).2.2
theorem Bag.put (h : Bag H0 a n M F H) {i : Nat} (hi : M[i]? = some (p, o)) : Bag H0 a n (M.set i (p, o')) F (upd H p o') := by
  have hm := List.mem_of_getElem? hi
  obtain ⟨h0, pa, e⟩ := h.m _ hm
  have efst : (M.set i (p, o')).map (·.1) = M.map (·.1) := by
    rw [List.map_set]
    refine List.ext_getElem? fun k => ?_
    rw [List.getElem?_set]
    split
    · next e =>
      subst e
      rw [List.getElem?_map, hi]
      simp [(List.getElem?_eq_some_iff.mp hi).1]
    · rfl
  refine ⟨fun b u hb eb => ?_, ?_, fun q hq => ?_, by rw [efst]; exact h.md, fun q hq => ?_⟩
  · rw [upd_ne (ne_of_none eb h0)]
    exact h.gr b u hb eb
  · obtain ⟨x, y, z, ew, r⟩ := h.well
    exact ⟨x, y, z, by rw [upd_ne pa.symm]; exact ew, r⟩
  · obtain ⟨k, hk⟩ := List.getElem?_of_mem hq
    rw [List.getElem?_set] at hk
    split at hk
    · split at hk
      · obtain rfl := Option.some.inj hk
        exact ⟨h0, pa, upd_same⟩
      · cases hk
    · next ne =>
      have hq' := List.mem_of_getElem? hk
      obtain ⟨a1, a2, a3⟩ := h.m q hq'
      refine ⟨a1, a2, ?_⟩
      rw [upd_ne]
      · exact a3
      · intro z
        refine ne ((List.getElem?_inj (l := M.map (·.1)) ?_ h.md).mp ?_)
        · rw [List.length_map]
          exact (List.getElem?_eq_some_iff.mp hi).1
        · rw [List.getElem?_map, List.getElem?_map, hi, hk]
          show some p = some q.1
          rw [z]
  · obtain ⟨a1, a2, a3⟩ := h.f q hq
    refine ⟨a1, ?_, fun r hr => ?_⟩
    · rw [upd_ne (a3 _ hm)]
      exact a2
    · have : r.1 ∈ M.map (·.1) := by
        rw [← efst]
        exact List.mem_map.mpr ⟨r, hr, rfl⟩
      obtain ⟨r', hr', e'⟩ := List.mem_map.mp this
      rw [← e']
      exact a3 r' hr'
end
end RV
/-! What is told of roads; lists of ints; places along a road. -/
namespace RV
open PySem L2 TL
abbrev TU := Addr × Addr × List Str × Nat × Bool
def oT (u : TU) : HO := .lst [.ref u.2.1, .int (u.2.2.2.1 : Nat), .bl u.2.2.2.2]
def tolF (us : List TU) : List (Addr × HO) := us.map (fun u => (u.1, oT u)) ++ us.map fun u => (u.2.1, HO.lst (u.2.2.1.map V.str))
/-- what is told of the first k roads -/
def tellL (nm : Nat → Nat → Str) (len : Nat → Nat) (ct : Nat → Nat) (sh : Nat → Bool) (k : Nat) : List (List Str × Nat × Bool) := (List.range k).map fun j => ((List.range (len j)).map (nm j), ct j, sh j)
/-- so many of a row of numbers -/
def lenL (ls : List Nat) (j : Nat) : Nat := ls.getD j 0
theorem vI_int (ls : List Nat) : ls.map vI = (ls.map fun (k : Nat) => (k : Int)).map V.int := by
  rw [List.map_map]
  rfl
section
variable {H0 H H' : Hp} {a p : Addr} {n m : Nat} {M F F' : List (Addr × HO)} {o o' : HO}
theorem Bag.start (w : WellAt H a n) : Bag H a n [] [] H := ⟨Grow.refl a H, w, (fun _ h => nomatch h), .nil, fun _ h => nomatch h⟩
theorem Bag.none0 (h : Bag H0 a n M F H) (np : H p = none) : H0 p = none := by
  cases e : H0 p with
  | none => rfl
  | some o =>
    rw [h.gr p o (h.well.ne np).symm e] at np
    cases np
/-- a new thing that will change -/
theorem Bag.newM (h : Bag H0 a n M F H) (np : H p = none) : Bag H0 a n ((p, o) :: M) F (upd H p o) := by
  have h1 := h.grow (m := n) (Grow.new (o := o) np) (h.well.new np)
  refine ⟨h1.gr, h1.well, fun q hq => ?_, ?_, fun q hq => ?_⟩
  · rcases List.mem_cons.mp hq with rfl | hq
    · exact ⟨h.none0 np, (h.well.ne np).symm, upd_same⟩
    · exact h1.m q hq
  · rw [List.map_cons, List.nodup_cons]
    refine ⟨fun hm => ?_, h.md⟩
    obtain ⟨q, hq, e⟩ := List.mem_map.mp hm
    have := (h.m q hq).2.2
    rw [e, np] at this
    cases this
  · obtain ⟨a1, a2, a3⟩ := h1.f q hq
    refine ⟨a1, a2, fun r hr => ?_⟩
    rcases List.mem_cons.mp hr with rfl | hr
    · exact ne_of_none (h.f q hq).2.1 np
    · exact a3 r hr
/-- it stays as it is from here on -/
theorem Bag.frz (h : Bag H0 a n ((p, o) :: M) F H) : Bag H0 a n M ((p, o) :: F) H := by
  obtain ⟨a1, a2⟩ := List.nodup_cons.mp (by have := h.md; rwa [List.map_cons] at this)
  refine ⟨h.gr, h.well, fun q hq => h.m q (List.mem_cons_of_mem _ hq), a2, fun q hq => ?_⟩
  rcases List.mem_cons.mp hq with rfl | hq
  · obtain ⟨b1, b2, b3⟩ := h.m _ List.mem_cons_self
    exact ⟨b2, b3, fun r hr e => a1 (List.mem_map.mpr ⟨r, hr, e.symm⟩)⟩
  · obtain ⟨b1, b2, b3⟩ := h.f q hq
    exact ⟨b1, b2, fun r hr => b3 r (List.mem_cons_of_mem _ hr)⟩
theorem Bag.put0 (h : Bag H0 a n ((p, o) :: M) F H) : Bag H0 a n ((p, o') :: M) F (upd H p o') := h.put (i := 0) rfl
theorem Bag.add (h : Bag H0 a n [] F H) (n0 : p ≠ a) (e : H p = some o) : Bag H0 a n [] ((p, o) :: F) H :=
  ⟨h.gr, h.well, h.m, h.md, fun q hq => by
    rcases List.mem_cons.mp hq with rfl | hq
    · exact ⟨n0, e, fun _ h => nomatch h⟩
    · exact h.f q hq⟩
end
/-- a law's roads: told, and the text of the net -/
def sp_paths : Sp := fun vs H Q _ => ∃ (a : Addr) (n R : Nat), vs = [.ref a, .int (R : Int)] ∧ WellAt H a n ∧ n < 500 ∧ 2 ≤ R ∧ R ≤ 4 ∧
  ∀ (l lO : Addr) (us : List TU) (len : Nat → Nat) (ts gs : List Str) (l0 : Nat) (ps : List P3) (ms : List M3) (ct : Nat → Nat) (sh : Nat → Bool) H', RoOk R len ts gs l0 → Laid R len ts gs l0 (fun j t => j < R ∧ t < len j) ps ms ct sh → us.map (·.2.2) = tellL (nmT ts len) len ct sh R →
    Bag H a (n + 2000) [] ((l, .lst [.ref lO, .str (netT ps ms)]) :: (lO, .lst (rf us)) :: tolF us) H' → Q (.ref l) H'
end RV
namespace RV
open PySem L2
theorem cutV_int (ns : List Int) (a b : Option Int) : ∃ ms : List Int, cutV (ns.map V.int) a b = ms.map V.int ∧ ms.length ≤ ns.length := by
  unfold cutV
  rw [List.length_map, ← List.map_drop, ← List.map_take]
  refine ⟨_, rfl, ?_⟩
  rw [List.length_take, List.length_drop]
  omega
def sp_spring (K : PySem.W.Frag) : Sp := fun vs H Q _ => ∃ (c : Addr) (ns : List Int) (k : Nat), vs = [.ref c, .int k] ∧ SqL K H c (ns.map V.int) ∧ ns.length ≤ 63 ∧ k ≤ 100 ∧
  ∀ a H', H a = none → Same H H' → WellAt H' a k → Q (.ref a) H'
end RV
/-! names, sizes of the later laws -/
namespace RV
open PySem L2
def words3 : List Str := ["if", "go", "vote", "tell", "doubt", "pipe", "meter", "sealed"]
theorem words3_nm : ∀ x ∈ words3, IsNm x := by
  have : ∀ x ∈ words3, isNm (cd x) = true := by decide +kernel
  exact this
theorem word3_at {r : Int} (h0 : 0 ≤ r) (h : r < 8) : ∃ y, atI (words3.map V.str) r = some (V.str y) ∧ IsNm y := by
  obtain ⟨n, rfl⟩ := Int.eq_ofNat_of_zero_le h0
  have hn : n < words3.length := by show n < 8; omega
  exact ⟨words3[n], atI_nat (by rw [List.getElem?_map, List.getElem?_eq_getElem hn]; rfl), words3_nm _ (List.getElem_mem hn)⟩
theorem sizes_at {r : Int} (h0 : 0 ≤ r) (h : r < 6) : ∃ sz : Nat, sz ≤ 7 ∧ atI [V.int 0, .int 0, .int 1, .int 1, .int 3, .int 7] r = some (.int (sz : Int)) := by
  obtain ⟨n, rfl⟩ := Int.eq_ofNat_of_zero_le h0
  have : n = 0 ∨ n = 1 ∨ n = 2 ∨ n = 3 ∨ n = 4 ∨ n = 5 := by omega
  rcases this with rfl | rfl | rfl | rfl | rfl | rfl
  · exact ⟨0, by decide, atI_nat rfl⟩
  · exact ⟨0, by decide, atI_nat rfl⟩
  · exact ⟨1, by decide, atI_nat rfl⟩
  · exact ⟨1, by decide, atI_nat rfl⟩
  · exact ⟨3, by decide, atI_nat rfl⟩
  · exact ⟨7, by decide, atI_nat rfl⟩
end RV
/-! drawn nets of the later laws -/
namespace RV
open PySem L2 TL
structure PlOk (M : Mod) (most more : Nat) : Prop where
  p2 : 2 ≤ M.pl.length
  p5 : M.pl.length ≤ 5
  pn : ∀ x ∈ M.pl, IsNm x
  pd : M.pl.Nodup
  q1 : 1 ≤ M.qs.length
  qm : M.qs.length ≤ most
  qn : ∀ q ∈ M.qs, IsNm q.1 ∧ q.2.1 < M.pl.length ∧ q.2.2 < M.pl.length ∧ q.2.1 ≠ q.2.2
  qd : (M.qs.map (·.1)).Nodup
  gm : M.gs.length ≤ more
  gn : ∀ g ∈ M.gs, IsNm g.1 ∧ g.2.1 < M.qs.length
  gd : (M.gs.map (·.1)).Nodup
section
variable {M : Mod} {most more : Nat}
theorem PlOk.po (h : PlOk M most more) (m12 : most ≤ 12) : POk M.ps := by
  refine ⟨fun e => ?_, by rw [Mod.ps, List.length_map]; exact Nat.le_trans h.qm m12, fun p hp => ?_, by rw [Mod.names]; exact h.qd⟩
  · have e2 := congrArg List.length e
    rw [Mod.ps, List.length_map, List.length_nil] at e2
    have := h.q1
    omega
  · obtain ⟨q, hq, rfl⟩ := List.mem_map.mp hp
    obtain ⟨n1, n2, n3, n4⟩ := h.qn q hq
    dsimp only
    rw [getD_lt n2, getD_lt n3]
    exact ⟨n1, h.pn _ (List.getElem_mem n2), h.pn _ (List.getElem_mem n3), fun e => n4 (nodup_get h.pd e).symm⟩
theorem PlOk.mo (h : PlOk M most more) (o12 : more ≤ 12) : MOk M.ps M.ms := by
  refine ⟨by rw [Mod.ms, List.length_map]; exact Nat.le_trans h.gm o12, fun p hp => ?_, ?_, fun p hp => ?_⟩
  · obtain ⟨g, hg, rfl⟩ := List.mem_map.mp hp
    obtain ⟨n1, n2⟩ := h.gn g hg
    dsimp only
    rw [getD_lt n2]
    exact ⟨n1, (h.qn _ (List.getElem_mem n2)).1⟩
  · rw [Mod.ms, List.map_map]
    exact h.gd
  · obtain ⟨g, hg, rfl⟩ := List.mem_map.mp hp
    obtain ⟨n1, n2⟩ := h.gn g hg
    dsimp only
    rw [getD_lt n2, Mod.names]
    exact List.mem_map.mpr ⟨_, List.getElem_mem n2, rfl⟩
end
def sp_plan : Sp := fun vs H Q _ => ∃ (a : Addr) (n most more : Nat), vs = [.ref a, .int most, .int more] ∧ WellAt H a n ∧ n < 500000 ∧ 1 ≤ most ∧ most ≤ 12 ∧ more ≤ 12 ∧
  ∀ (l lp lq lg : Addr) (pl : List Str) (pu : List QU) (gu : List GU) H', Bag H a (n + 2000) [] (lM l lp lq lg pl pu gu) H' → PlOk ⟨pl, sn pu, sn gu⟩ most more → Q (.ref l) H'
/-- the text of a drawn net -/
def sp_grid : Sp := fun vs H Q _ => ∃ (l : Addr) (M : Mod) (most more : Nat), vs = [.ref l] ∧ MdAt H l M ∧ PlOk M most more ∧ most ≤ 12 ∧ more ≤ 12 ∧ ∀ H', Same H H' → Q (.str (netT M.ps M.ms)) H'
theorem Bag.addN {H0 H H' : Hp} {a p : Addr} {n m : Nat} {M F : List (Addr × HO)} {o : HO} (h : Bag H0 a n M F H) (np : H p = none) (pa : p ≠ a) (g : Grow a H H') (w : WellAt H' a m) (e : H' p = some o) : Bag H0 a m M ((p, o) :: F) H' := by
  have h1 := h.grow g w
  refine ⟨h1.gr, h1.well, h1.m, h1.md, fun q hq => ?_⟩
  rcases List.mem_cons.mp hq with rfl | hq
  · exact ⟨pa, e, fun r hr z => by
      have := (h.m r hr).2.2
      rw [← z, np] at this
      cases this⟩
  · exact h1.f q hq
end RV
/-! Forests of pipes. -/
namespace RV
section
variable {α : Type} {st en : Nat → α}
/-- pipes of S lead from u to v -/
inductive Cn (st en : Nat → α) (S : Nat → Prop) : α → α → Prop
  | nil {u} : Cn st en S u u
  | fwd {u k} : Cn st en S u (st k) → S k → Cn st en S u (en k)
  | bwd {u k} : Cn st en S u (en k) → S k → Cn st en S u (st k)
variable {S T : Nat → Prop} {u v w : α} {k : Nat}
theorem Cn.mono (h : Cn st en S u v) (st' : ∀ k, S k → T k) : Cn st en T u v := by
  induction h with
  | nil => exact .nil
  | fwd _ o ih => exact .fwd ih (st' _ o)
  | bwd _ o ih => exact .bwd ih (st' _ o)
theorem Cn.trans (h : Cn st en S u v) (g : Cn st en S v w) : Cn st en S u w := by
  induction g with
  | nil => exact h
  | fwd _ o ih => exact .fwd ih o
  | bwd _ o ih => exact .bwd ih o
theorem Cn.one (h : S k) : Cn st en S (st k) (en k) := .fwd .nil h
theorem Cn.one' (h : S k) : Cn st en S (en k) (st k) := .bwd .nil h
theorem Cn.symm (h : Cn st en S u v) : Cn st en S v u := by
  induction h with
  | nil => exact .nil
  | fwd _ o ih => exact (Cn.one' o).trans ih
  | bwd _ o ih => exact (Cn.one o).trans ih
/-- with one more pipe -/
theorem Cn.split (h : Cn st en T u v) (hT : ∀ j, T j → S j ∨ j = k) : Cn st en S u v ∨ (Cn st en S u (st k) ∧ Cn st en S (en k) v) ∨ (Cn st en S u (en k) ∧ Cn st en S (st k) v) := by
  induction h with
  | nil => exact .inl .nil
  | fwd _ o ih =>
    rename_i j
    rcases hT _ o with z | rfl
    · rcases ih with h | ⟨h1, h2⟩ | ⟨h1, h2⟩
      · exact .inl (.fwd h z)
      · exact .inr (.inl ⟨h1, .fwd h2 z⟩)
      · exact .inr (.inr ⟨h1, .fwd h2 z⟩)
    · rcases ih with h | ⟨h1, h2⟩ | ⟨h1, h2⟩
      · exact .inr (.inl ⟨h, .nil⟩)
      · exact .inr (.inl ⟨h1, .nil⟩)
      · exact .inl h1
  | bwd _ o ih =>
    rename_i j
    rcases hT _ o with z | rfl
    · rcases ih with h | ⟨h1, h2⟩ | ⟨h1, h2⟩
      · exact .inl (.bwd h z)
      · exact .inr (.inl ⟨h1, .bwd h2 z⟩)
      · exact .inr (.inr ⟨h1, .bwd h2 z⟩)
    · rcases ih with h | ⟨h1, h2⟩ | ⟨h1, h2⟩
      · exact .inr (.inr ⟨h, .nil⟩)
      · exact .inl h1
      · exact .inr (.inr ⟨h1, .nil⟩)
/-- S without k -/
def dropS (S : Nat → Prop) (k : Nat) : Nat → Prop := fun j => S j ∧ j ≠ k
def addS (S : Nat → Prop) (k : Nat) : Nat → Prop := fun j => S j ∨ j = k
/-- no ring -/
def Fo (st en : Nat → α) (S : Nat → Prop) : Prop := ∀ k, S k → ¬ Cn st en (dropS S k) (st k) (en k)
theorem Fo.mono (h : Fo st en T) (s : ∀ k, S k → T k) : Fo st en S := fun k hk c => h k (s k hk) (c.mono fun j hj => ⟨s j hj.1, hj.2⟩)
theorem Fo.none (h : ∀ k, ¬ S k) : Fo st en S := fun k hk => absurd hk (h k)
theorem Fo.add (h : Fo st en S) (n : ¬ Cn st en S (st k) (en k)) : Fo st en (addS S k) := by
  intro j hj c
  by_cases e : j = k
  · subst e
    exact n (c.mono fun i hi => hi.1.elim id fun z => absurd z hi.2)
  · have hS : S j := hj.elim id fun z => absurd z e
    have := c.split (S := dropS S j) (k := k) fun i hi => hi.1.elim (fun z => .inl ⟨z, hi.2⟩) .inr
    have m : ∀ {a b}, Cn st en (dropS S j) a b → Cn st en S a b := fun c => c.mono fun i hi => hi.1
    rcases this with c | ⟨c1, c2⟩ | ⟨c1, c2⟩
    · exact h j hS c
    · exact n ((m c1).symm.trans ((Cn.one hS).trans (m c2).symm))
    · exact n ((m c2).trans ((Cn.one' hS).trans (m c1)))
/-- a pipe that closes no ring with a forest in which it does not lie: taken out and another put in -/
theorem Cn.cross {A : α → Prop} (h : Cn st en S u v) (hu : A u) (hv : ¬ A v) : ∃ k, S k ∧ ((A (st k) ∧ ¬ A (en k)) ∨ (A (en k) ∧ ¬ A (st k))) := by
  induction h with
  | nil => exact absurd hu hv
  | fwd _ o ih =>
    rename_i k _
    by_cases z : A (st k)
    · exact ⟨k, o, .inl ⟨z, hv⟩⟩
    · exact ih z
  | bwd _ o ih =>
    rename_i k _
    by_cases z : A (en k)
    · exact ⟨k, o, .inr ⟨z, hv⟩⟩
    · exact ih z
/-- a forest without f, with a pipe g of a way between f's ends -/
theorem Fo.swap {F K : Nat → Prop} {f : Nat} (hF : Fo st en F) (hf : F f) (hc : Cn st en K (st f) (en f)) (hK : ¬ K f) : ∃ g, K g ∧ ¬ F g ∧ Fo st en (addS (dropS F f) g) := by
  have n := hF f hf
  obtain ⟨g, hg, z⟩ := hc.cross (A := fun x => Cn st en (dropS F f) (st f) x) .nil n
  have ne : ¬ Cn st en (dropS F f) (st g) (en g) := fun c => by
    rcases z with ⟨a, b⟩ | ⟨a, b⟩
    · exact b (a.trans c)
    · exact b (a.trans c.symm)
  refine ⟨g, hg, fun hFg => ?_, (hF.mono fun k hk => hk.1).add ne⟩
  refine ne (Cn.one ⟨hFg, fun e => ?_⟩)
  subst e
  exact hK hg
end
/-! ### weights -/
/-- what the indexes below n with p weigh -/
def wS (fee : Nat → Int) (p : Nat → Bool) : Nat → Int
  | 0 => 0
  | n + 1 => wS fee p n + if p n then fee n else 0
def cS (p : Nat → Bool) : Nat → Nat
  | 0 => 0
  | n + 1 => cS p n + if p n then 1 else 0
section
variable {fee : Nat → Int} {p q : Nat → Bool}
theorem wS_congr {n : Nat} (h : ∀ k, k < n → p k = q k) : wS fee p n = wS fee q n := by
  induction n with
  | zero => rfl
  | succ n ih => rw [wS, wS, ih fun k hk => h k (by omega), h n (by omega)]
theorem cS_congr {n : Nat} (h : ∀ k, k < n → p k = q k) : cS p n = cS q n := by
  induction n with
  | zero => rfl
  | succ n ih => rw [cS, cS, ih fun k hk => h k (by omega), h n (by omega)]
/-- one index changes -/
def setB (p : Nat → Bool) (f : Nat) (b : Bool) : Nat → Bool := fun k => if k = f then b else p k
theorem setB_same (p : Nat → Bool) (f : Nat) (b : Bool) : setB p f b f = b := if_pos rfl
theorem setB_ne (p : Nat → Bool) {f k : Nat} (b : Bool) (h : k ≠ f) : setB p f b k = p k := if_neg h
theorem wS_set {n f : Nat} (hf : f < n) (b : Bool) : wS fee (setB p f b) n = wS fee p n - (if p f then fee f else 0) + (if b then fee f else 0) := by
  induction n with
  | zero => omega
  | succ n ih =>
    rw [wS, wS]
    by_cases e : n = f
    · subst e
      rw [setB_same, wS_congr (q := p) fun k hk => setB_ne p b (show k ≠ n by omega)]
      omega
    · rw [ih (by omega), setB_ne p b e]
      omega
theorem cS_set {n f : Nat} (hf : f < n) (b : Bool) : cS (setB p f b) n + (if p f then 1 else 0) = cS p n + (if b then 1 else 0) := by
  induction n with
  | zero => omega
  | succ n ih =>
    rw [cS, cS]
    by_cases e : n = f
    · subst e
      rw [setB_same, cS_congr (q := p) fun k hk => setB_ne p b (show k ≠ n by omega)]
      omega
    · have := ih (by omega)
      rw [setB_ne p b e]
      omega
theorem cS_zero {n : Nat} (h : cS p n = 0) : ∀ k, k < n → p k = false := by
  induction n with
  | zero => intro k hk; omega
  | succ n ih =>
    rw [cS] at h
    intro k hk
    by_cases e : k = n
    · subst e
      cases z : p k with
      | false => rfl
      | true => rw [z] at h; simp at h
    · exact ih (by omega) k (by omega)
theorem wS_le {n : Nat} (h0 : ∀ k, k < n → 0 ≤ fee k) (h : ∀ k, k < n → p k = true → q k = true) : wS fee p n ≤ wS fee q n := by
  induction n with
  | zero => exact Int.le_refl _
  | succ n ih =>
    have := ih (fun k hk => h0 k (by omega)) fun k hk => h k (by omega)
    have f0 := h0 n (by omega)
    rw [wS, wS]
    cases z : p n with
    | false => simp; split <;> omega
    | true => rw [h n (by omega) z]; simp; omega
theorem wS_sub {n : Nat} (h : ∀ k, k < n → q k = true → p k = true) : wS fee (fun k => p k && !q k) n = wS fee p n - wS fee q n := by
  induction n with
  | zero => rfl
  | succ n ih =>
    have i := ih fun k hk => h k (by omega)
    rw [wS, wS, wS, i]
    cases z : q n with
    | false => cases p n <;> simp <;> omega
    | true => rw [h n (by omega) z]; simp; omega
end
/-- the heaviest forest: every other pipe closes a ring with heavier ones of it -/
theorem heaviest {α : Type} {st en : Nat → α} {fee : Nat → Int} {n : Nat} {K B : Nat → Bool} (h0 : ∀ k, k < n → 0 ≤ fee k) (hKB : ∀ k, K k = true → B k = true) (hK : ∀ f, f < n → B f = true → K f = false → Cn st en (fun k => k < n ∧ K k = true ∧ fee f ≤ fee k) (st f) (en f)) :
    ∀ (m : Nat) (F : Nat → Bool), cS (fun k => F k && !K k) n = m → (∀ k, F k = true → k < n ∧ B k = true) → Fo st en (fun k => F k = true) → wS fee F n ≤ wS fee K n
  | 0, F, hm, hB, _ => wS_le h0 fun k hk e => by
      have := cS_zero hm k hk
      rw [e] at this
      cases z : K k with
      | true => rfl
      | false => rw [z] at this; simp at this
  | m + 1, F, hm, hB, hF => by
    obtain ⟨f, hf, hf2⟩ : ∃ f, f < n ∧ (F f && !K f) = true := by
      by_cases e : ∃ f, f < n ∧ (F f && !K f) = true
      · exact e
      · exfalso
        have z : ∀ j, j ≤ n → cS (fun k => F k && !K k) j = 0 := fun j => by
          induction j with
          | zero => intro _; rfl
          | succ j ih =>
            intro hj
            rw [cS, ih (by omega), if_neg fun w => e ⟨j, by omega, w⟩]
        rw [z n (Nat.le_refl _)] at hm
        omega
    have c0 := hf2
    rw [Bool.and_eq_true, Bool.not_eq_true'] at hf2
    obtain ⟨g, ⟨hg1, hg2, hg3⟩, hg4, hFo⟩ := hF.swap hf2.1 (hK f hf (hB f hf2.1).2 hf2.2) (fun z => by rw [z.2.1] at hf2; exact nomatch hf2.2)
    have ng : g ≠ f := fun e => by rw [e, hf2.2] at hg2; cases hg2
    have hFg : F g = false := by
      cases z : F g with
      | false => rfl
      | true => exact absurd z hg4
    have e1 := wS_set (fee := fee) (p := F) hf false
    have e2 := wS_set (fee := fee) (p := setB F f false) hg1 true
    rw [hf2.1, if_pos rfl, if_neg (by decide)] at e1
    rw [setB_ne F false ng, hFg, if_neg (by decide), if_pos rfl] at e2
    have c1 := cS_set (p := fun k => F k && !K k) hf false
    have c2 : cS (fun k => setB (setB F f false) g true k && !K k) n = cS (setB (fun k => F k && !K k) f false) n := cS_congr fun k hk => by
      by_cases a : k = g
      · subst a
        rw [setB_same, setB_ne _ _ ng, hg2, hFg]
        rfl
      · rw [setB_ne _ _ a]
        by_cases b : k = f
        · subst b
          rw [setB_same, setB_same]
          rfl
        · rw [setB_ne _ _ b, setB_ne _ _ b]
    rw [c0, if_pos rfl, if_neg (by decide)] at c1
    have ih := heaviest h0 hKB hK m (setB (setB F f false) g true) (by omega) (fun k hk => ?_) ?_
    · rw [e2, e1] at ih
      omega
    · by_cases a : k = g
      · subst a
        exact ⟨hg1, hKB k hg2⟩
      · rw [setB_ne _ _ a] at hk
        by_cases b : k = f
        · subst b
          rw [setB_same] at hk
          cases hk
        · rw [setB_ne _ _ b] at hk
          exact hB k hk
    · refine hFo.mono fun k hk => ?_
      by_cases a : k = g
      · exact .inr a
      · rw [setB_ne _ _ a] at hk
        by_cases b : k = f
        · subst b
          rw [setB_same] at hk
          cases hk
        · rw [setB_ne _ _ b] at hk
          exact .inl ⟨hk, b⟩
end RV
/-! What pipes reach, round by round; sets of indexes. -/
namespace RV
section
variable {st en : Nat → Nat} {kept keys : List Nat} {k : Nat}
/-- the places reached, one more pipe looked at -/
def stepK (st en : Nat → Nat) (keys : List Nat) (k : Nat) : List Nat :=
  if st k ∈ keys ∧ en k ∉ keys then keys ++ [en k] else if en k ∈ keys ∧ st k ∉ keys then keys ++ [st k] else keys
def roundsK (st en : Nat → Nat) (kept : List Nat) (first : Nat) : Nat → List Nat
  | 0 => [first]
  | r + 1 => kept.foldl (stepK st en) (roundsK st en kept first r)
theorem stepK_sub {x : Nat} (h : x ∈ keys) : x ∈ stepK st en keys k := by
  unfold stepK
  split
  · exact List.mem_append_left _ h
  · split
    · exact List.mem_append_left _ h
    · exact h
theorem foldK_sub {x : Nat} : ∀ {l : List Nat} {keys : List Nat}, x ∈ keys → x ∈ l.foldl (stepK st en) keys
  | [], _, h => h
  | k :: l, _, h => foldK_sub (l := l) (stepK_sub h)
theorem stepK_both (h : st k ∈ keys ∨ en k ∈ keys) : st k ∈ stepK st en keys k ∧ en k ∈ stepK st en keys k := by
  unfold stepK
  by_cases a : st k ∈ keys <;> by_cases b : en k ∈ keys <;> simp [a, b]
  rcases h with h | h
  · exact absurd h a
  · exact absurd h b
theorem stepK_cn {S : Nat → Prop} {first : Nat} (hk : S k) (h : ∀ x ∈ keys, Cn st en S first x) : ∀ x ∈ stepK st en keys k, Cn st en S first x := by
  intro x hx
  unfold stepK at hx
  split at hx
  · next c =>
    rcases List.mem_append.mp hx with z | z
    · exact h x z
    · rw [List.mem_singleton.mp z]
      exact .fwd (h _ c.1) hk
  · split at hx
    · next c =>
      rcases List.mem_append.mp hx with z | z
      · exact h x z
      · rw [List.mem_singleton.mp z]
        exact .bwd (h _ c.1) hk
    · exact h x hx
theorem foldK_cn {S : Nat → Prop} {first : Nat} : ∀ {l : List Nat} {keys : List Nat}, (∀ k ∈ l, S k) → (∀ x ∈ keys, Cn st en S first x) → ∀ x ∈ l.foldl (stepK st en) keys, Cn st en S first x
  | [], _, _, h => h
  | k :: l, _, hl, h => foldK_cn (l := l) (fun j hj => hl j (List.mem_cons_of_mem _ hj)) (stepK_cn (hl k List.mem_cons_self) h)
theorem roundsK_cn (first : Nat) : ∀ r, ∀ x ∈ roundsK st en kept first r, Cn st en (· ∈ kept) first x
  | 0 => fun x hx => by rw [List.mem_singleton.mp hx]; exact .nil
  | r + 1 => foldK_cn (fun _ h => h) (roundsK_cn first r)
theorem roundsK_first (first : Nat) : ∀ r, first ∈ roundsK st en kept first r
  | 0 => List.mem_singleton.mpr rfl
  | r + 1 => foldK_sub (roundsK_first first r)
def closK (st en : Nat → Nat) (kept keys : List Nat) : Prop := ∀ k ∈ kept, (st k ∈ keys ↔ en k ∈ keys)
def inK (st en : Nat → Nat) (kept keys : List Nat) : Nat := (kept.filter fun k => decide (st k ∈ keys) && decide (en k ∈ keys)).length
theorem foldK_clos : ∀ {l : List Nat}, (∀ k ∈ l, (st k ∈ keys ↔ en k ∈ keys)) → l.foldl (stepK st en) keys = keys
  | [], _ => rfl
  | k :: l, h => by
    have e : stepK st en keys k = keys := by
      have := h k List.mem_cons_self
      unfold stepK
      by_cases a : st k ∈ keys
      · simp [a, this.mp a]
      · have b : en k ∉ keys := fun b => a (this.mpr b)
        simp [a, b]
    rw [List.foldl_cons, e]
    exact foldK_clos fun j hj => h j (List.mem_cons_of_mem _ hj)
theorem filt_le {p q : Nat → Bool} : ∀ {l : List Nat}, (∀ k ∈ l, p k = true → q k = true) → (l.filter p).length ≤ (l.filter q).length
  | [], _ => Nat.le_refl _
  | k :: l, h => by
    have ih := filt_le (l := l) fun j hj => h j (List.mem_cons_of_mem _ hj)
    rw [List.filter_cons, List.filter_cons]
    cases e : p k with
    | false =>
      rw [if_neg (by decide)]
      cases q k with
      | false => rw [if_neg (by decide)]; exact ih
      | true => rw [if_pos rfl, List.length_cons]; omega
    | true =>
      rw [if_pos rfl, if_pos (h k List.mem_cons_self e), List.length_cons, List.length_cons]
      omega
theorem filt_lt {p q : Nat → Bool} {e : Nat} : ∀ {l : List Nat}, (∀ k ∈ l, p k = true → q k = true) → e ∈ l → p e = false → q e = true → (l.filter p).length < (l.filter q).length
  | k :: l, h, he, h1, h2 => by
    rw [List.filter_cons, List.filter_cons]
    rcases List.mem_cons.mp he with rfl | he
    · have := filt_le (l := l) fun j hj => h j (List.mem_cons_of_mem _ hj)
      simp [h1, h2]
      omega
    · have ih := filt_lt (l := l) (fun j hj => h j (List.mem_cons_of_mem _ hj)) he h1 h2
      cases z : p k with
      | false =>
        rw [if_neg (by decide)]
        cases q k with
        | false => rw [if_neg (by decide)]; exact ih
        | true => rw [if_pos rfl, List.length_cons]; omega
      | true =>
        rw [if_pos rfl, if_pos (h k List.mem_cons_self z), List.length_cons, List.length_cons]
        omega
theorem roundsK_clos (first : Nat) : ∀ r, closK st en kept (roundsK st en kept first r) ∨ r ≤ inK st en kept (roundsK st en kept first r)
  | 0 => .inr (Nat.zero_le _)
  | r + 1 => by
    by_cases c : closK st en kept (roundsK st en kept first r)
    · left
      have e : roundsK st en kept first (r + 1) = roundsK st en kept first r := foldK_clos c
      rw [e]
      exact c
    · right
      have ih := (roundsK_clos first r).resolve_left c
      obtain ⟨e, he, h1, h2⟩ : ∃ e ∈ kept, (st e ∈ roundsK st en kept first r ∨ en e ∈ roundsK st en kept first r) ∧ ¬ (st e ∈ roundsK st en kept first r ∧ en e ∈ roundsK st en kept first r) := by
        refine Classical.byContradiction fun n => c fun k hk => ?_
        by_cases a : st k ∈ roundsK st en kept first r <;> by_cases b : en k ∈ roundsK st en kept first r
        · exact ⟨fun _ => b, fun _ => a⟩
        · exact absurd ⟨k, hk, .inl a, fun z => b z.2⟩ n
        · exact absurd ⟨k, hk, .inr b, fun z => a z.1⟩ n
        · exact ⟨fun z => absurd z a, fun z => absurd z b⟩
      have both : st e ∈ roundsK st en kept first (r + 1) ∧ en e ∈ roundsK st en kept first (r + 1) := by
        show st e ∈ kept.foldl (stepK st en) (roundsK st en kept first r) ∧ en e ∈ kept.foldl (stepK st en) (roundsK st en kept first r)
        generalize roundsK st en kept first r = keys at h1
        have : ∀ {l : List Nat} {keys : List Nat}, e ∈ l → (st e ∈ keys ∨ en e ∈ keys) → st e ∈ l.foldl (stepK st en) keys ∧ en e ∈ l.foldl (stepK st en) keys := fun {l} => by
          induction l with
          | nil => intro _ h; cases h
          | cons k l ih =>
            intro keys he h
            rw [List.foldl_cons]
            rcases List.mem_cons.mp he with rfl | he
            · obtain ⟨a, b⟩ := stepK_both h
              exact ⟨foldK_sub a, foldK_sub b⟩
            · exact ih he (h.imp stepK_sub stepK_sub)
        exact this he h1
      have lt : inK st en kept (roundsK st en kept first r) < inK st en kept (roundsK st en kept first (r + 1)) := by
        refine filt_lt (e := e) (fun k _ h => ?_) he ?_ ?_
        · rw [Bool.and_eq_true, decide_eq_true_eq, decide_eq_true_eq] at h ⊢
          exact ⟨foldK_sub h.1, foldK_sub h.2⟩
        · rw [Bool.and_eq_false_iff, decide_eq_false_iff_not, decide_eq_false_iff_not]
          by_cases a : st e ∈ roundsK st en kept first r
          · exact .inr fun b => h2 ⟨a, b⟩
          · exact .inl a
        · rw [Bool.and_eq_true, decide_eq_true_eq, decide_eq_true_eq]
          exact both
      omega
/-- after as many rounds as pipes all is reached -/
theorem roundsK_all (first last : Nat) : last ∈ roundsK st en kept first kept.length ↔ Cn st en (· ∈ kept) first last := by
  refine ⟨roundsK_cn first _ last, fun h => ?_⟩
  have c : closK st en kept (roundsK st en kept first kept.length) := by
    rcases roundsK_clos (st := st) (en := en) (kept := kept) first kept.length with c | c
    · exact c
    · intro k hk
      have e : ∀ k ∈ kept, (decide (st k ∈ roundsK st en kept first kept.length) && decide (en k ∈ roundsK st en kept first kept.length)) = true := by
        rw [inK] at c
        exact fun k hk => (List.length_filter_eq_length_iff.mp (Nat.le_antisymm (List.length_filter_le _ _) c)) k hk
      have := e k hk
      rw [Bool.and_eq_true, decide_eq_true_eq, decide_eq_true_eq] at this
      exact ⟨fun _ => this.2, fun _ => this.1⟩
  induction h with
  | nil => exact roundsK_first first _
  | fwd _ o ih => exact (c _ o).mp ih
  | bwd _ o ih => exact (c _ o).mpr ih
end
/-! ### sets of so many -/
def setsF (items : List Nat) (size : Nat) : List (List Nat) := items.foldl (fun acc it => acc ++ (acc.filter fun o => decide (o.length < size)).map (· ++ [it])) [[]]
theorem setsF_snoc (items : List Nat) (it size : Nat) : setsF (items ++ [it]) size = setsF items size ++ ((setsF items size).filter fun o => decide (o.length < size)).map (· ++ [it]) := by
  rw [setsF, List.foldl_append]
  rfl
/-- how long they are -/
def lensF : Nat → Nat → List Nat
  | 0, _ => [0]
  | m + 1, size => lensF m size ++ ((lensF m size).filter fun o => decide (o < size)).map (· + 1)
theorem setsF_len (size : Nat) : ∀ items : List Nat, (setsF items size).map (·.length) = lensF items.length size := by
  have rev : ∀ items : List Nat, (setsF items.reverse size).map (·.length) = lensF items.length size := by
    intro items
    induction items with
    | nil => rfl
    | cons x xs ih =>
      rw [List.reverse_cons, setsF_snoc, List.map_append, ih, List.length_cons, lensF, ← ih, List.filter_map, List.map_map, List.map_map]
      congr 1
      refine List.map_congr_left fun o _ => ?_
      simp
  intro items
  have := rev items.reverse
  rwa [List.reverse_reverse, List.length_reverse] at this
theorem lensF_64 {m size : Nat} (hm : m ≤ 7) (hs : size ≤ 7) : ((lensF m size).filter (fun o => decide (o = size))).length < 64 ∧ (lensF m size).length ≤ 128 := by
  have : ∀ m : Fin 8, ∀ s : Fin 8, ((lensF m.val s.val).filter (fun o => decide (o = s.val))).length < 64 ∧ (lensF m.val s.val).length ≤ 128 := by decide +kernel
  exact this ⟨m, by omega⟩ ⟨size, by omega⟩
/-- each is some of the items, in their order -/
theorem setsF_sub {size : Nat} : ∀ {items : List Nat}, items.Nodup → ∀ o ∈ setsF items size, ∃ p : Nat → Bool, o = items.filter p := by
  have rev : ∀ items : List Nat, items.Nodup → ∀ o ∈ setsF items.reverse size, ∃ p : Nat → Bool, o = items.reverse.filter p := by
    intro items
    induction items with
    | nil =>
      intro _ o ho
      exact ⟨fun _ => true, List.mem_singleton.mp ho⟩
    | cons x xs ih =>
      intro nd o ho
      rw [List.nodup_cons] at nd
      rw [List.reverse_cons, setsF_snoc] at ho
      have off : ∀ (p : Nat → Bool) (b : Bool), (xs.reverse ++ [x]).filter (fun k => if k = x then b else p k) = xs.reverse.filter p ++ if b then [x] else [] := fun p b => by
        rw [List.filter_append]
        congr 1
        · refine List.filter_congr fun k hk => ?_
          rw [if_neg]
          intro e
          subst e
          exact nd.1 (List.mem_reverse.mp hk)
        · cases b <;> simp
      rw [List.reverse_cons]
      rcases List.mem_append.mp ho with z | z
      · obtain ⟨p, e⟩ := ih nd.2 o z
        refine ⟨fun k => if k = x then false else p k, ?_⟩
        rw [off, e]
        simp
      · obtain ⟨o', ho', rfl⟩ := List.mem_map.mp z
        obtain ⟨p, e⟩ := ih nd.2 o' (List.mem_filter.mp ho').1
        refine ⟨fun k => if k = x then true else p k, ?_⟩
        rw [off, e]
        rfl
  intro items nd o ho
  have := rev items.reverse (by rw [List.Nodup, List.pairwise_reverse]; exact List.Pairwise.imp (fun h => h.symm) nd) o (by rwa [List.reverse_reverse])
  rwa [List.reverse_reverse] at this
/-- each choice of so many is among them -/
theorem setsF_all {size : Nat} (p : Nat → Bool) : ∀ {items : List Nat}, (items.filter p).length ≤ size → items.filter p ∈ setsF items size := by
  have rev : ∀ items : List Nat, (items.reverse.filter p).length ≤ size → items.reverse.filter p ∈ setsF items.reverse size := by
    intro items
    induction items with
    | nil => intro _; exact List.mem_singleton.mpr rfl
    | cons x xs ih =>
      intro h
      rw [List.reverse_cons, List.filter_append, List.length_append] at h
      rw [List.reverse_cons, List.filter_append, setsF_snoc]
      have m := ih (by omega)
      cases e : p x with
      | false =>
        rw [show [x].filter p = [] by simp [e], List.append_nil]
        exact List.mem_append_left _ m
      | true =>
        have e1 : [x].filter p = [x] := by simp [e]
        rw [e1] at h ⊢
        refine List.mem_append_right _ (List.mem_map.mpr ⟨_, List.mem_filter.mpr ⟨m, ?_⟩, rfl⟩)
        rw [decide_eq_true_eq]
        rw [List.length_singleton] at h
        omega
  intro items h
  have := rev items.reverse (by rwa [List.reverse_reverse])
  rwa [List.reverse_reverse] at this
end RV
/-! Things that change and things that stand, without a well; ways in a dict. -/
namespace RV
open PySem L2 TL
structure Cel (H0 : Hp) (M F : List (Addr × HO)) (H : Hp) : Prop where
  sm : Same H0 H
  m : ∀ p ∈ M, H0 p.1 = none ∧ H p.1 = some p.2
  md : (M.map (·.1)).Nodup
  f : ∀ q ∈ F, H q.1 = some q.2 ∧ ∀ p ∈ M, q.1 ≠ p.1
section
variable {H0 H H' : Hp} {p : Addr} {M F F' : List (Addr × HO)} {o o' : HO}
theorem Cel.start (H : Hp) : Cel H [] [] H := ⟨Same.refl H, (fun _ h => nomatch h), .nil, fun _ h => nomatch h⟩
theorem Cel.same (h : Cel H0 M F H) (g : Same H H') : Cel H0 M F H' := ⟨h.sm.trans g, fun p hp => ⟨(h.m p hp).1, g _ _ (h.m p hp).2⟩, h.md, fun q hq => ⟨g _ _ (h.f q hq).1, (h.f q hq).2⟩⟩
theorem Cel.none0 (h : Cel H0 M F H) (np : H p = none) : H0 p = none := by
  cases e : H0 p with
  | none => rfl
  | some o =>
    rw [h.sm p o e] at np
    cases np
theorem Cel.new (h : Cel H0 M F H) (np : H p = none) : Cel H0 M ((p, o) :: F) (upd H p o) := by
  have h1 := h.same (H' := upd H p o) fun b u e => (upd_ne (ne_of_none e np)).trans e
  refine ⟨h1.sm, h1.m, h1.md, fun q hq => ?_⟩
  rcases List.mem_cons.mp hq with rfl | hq
  · exact ⟨upd_same, fun r hr => (ne_of_none (h.m r hr).2 np).symm⟩
  · exact h1.f q hq
theorem Cel.newM (h : Cel H0 M F H) (np : H p = none) : Cel H0 ((p, o) :: M) F (upd H p o) := by
  have h1 := h.same (H' := upd H p o) fun b u e => (upd_ne (ne_of_none e np)).trans e
  refine ⟨h1.sm, fun q hq => ?_, ?_, fun q hq => ?_⟩
  · rcases List.mem_cons.mp hq with rfl | hq
    · exact ⟨h.none0 np, upd_same⟩
    · exact h1.m q hq
  · rw [List.map_cons, List.nodup_cons]
    refine ⟨fun hm => ?_, h.md⟩
    obtain ⟨q, hq, e⟩ := List.mem_map.mp hm
    have := (h.m q hq).2
    rw [e, np] at this
    cases this
  · obtain ⟨a2, a3⟩ := h1.f q hq
    refine ⟨a2, fun r hr => ?_⟩
    rcases List.mem_cons.mp hr with rfl | hr
    · exact ne_of_none (h.f q hq).1 np
    · exact a3 r hr
theorem Cel.sub (h : Cel H0 M F H) (s : ∀ p ∈ F', p ∈ F) : Cel H0 M F' H := ⟨h.sm, h.m, h.md, fun q hq => h.f q (s q hq)⟩
theorem Cel.at (h : Cel H0 M F H) (hp : (p, o) ∈ F) : H p = some o := (h.f _ hp).1
theorem Cel.am (h : Cel H0 M F H) (hp : (p, o) ∈ M) : H p = some o := (h.m _ hp).2
/-- what stood at the start -/
theorem Cel.old (h : Cel H0 M F H) (e : H0 p = some o) : H p = some o := h.sm _ _ e
theorem Cel.frz (h : Cel H0 ((p, o) :: M) F H) : Cel H0 M ((p, o) :: F) H := by
  obtain ⟨a1, a2⟩ := List.nodup_cons.mp (by have := h.md; rwa [List.map_cons] at this)
  refine ⟨h.sm, fun q hq => h.m q (List.mem_cons_of_mem _ hq), a2, fun q hq => ?_⟩
  rcases List.mem_cons.mp hq with rfl | hq
  · obtain ⟨b2, b3⟩ := h.m _ List.mem_cons_self
    exact ⟨b3, fun r hr e => a1 (List.mem_map.mpr ⟨r, hr, e.symm⟩)⟩
  · obtain ⟨b2, b3⟩ := h.f q hq
    exact ⟨b2, fun r hr => b3 r (List.mem_cons_of_mem _ hr)⟩
theorem Cel.put (h : Cel H0 M F H) {i : Nat} (hi : M[i]? = some (p, o)) : Cel H0 (M.set i (p, o')) F (upd H p o') := by
  have hm := List.mem_of_getElem? hi
  obtain ⟨h0, e⟩ := h.m _ hm
  have efst : (M.set i (p, o')).map (·.1) = M.map (·.1) := by
    rw [List.map_set]
    refine List.ext_getElem? fun k => ?_
    rw [List.getElem?_set]
    split
    · next e =>
      subst e
      rw [List.getElem?_map, hi]
      simp [(List.getElem?_eq_some_iff.mp hi).1]
    · rfl
  refine ⟨fun b u eb => ?_, fun q hq => ?_, by rw [efst]; exact h.md, fun q hq => ?_⟩
  · rw [upd_ne (ne_of_none eb h0)]
    exact h.sm b u eb
  · obtain ⟨k, hk⟩ := List.getElem?_of_mem hq
    rw [List.getElem?_set] at hk
    split at hk
    · split at hk
      · obtain rfl := Option.some.inj hk
        exact ⟨h0, upd_same⟩
      · cases hk
    · next ne =>
      have hq' := List.mem_of_getElem? hk
      obtain ⟨a1, a3⟩ := h.m q hq'
      refine ⟨a1, ?_⟩
      rw [upd_ne]
      · exact a3
      · intro z
        refine ne ((List.getElem?_inj (l := M.map (·.1)) ?_ h.md).mp ?_)
        · rw [List.length_map]
          exact (List.getElem?_eq_some_iff.mp hi).1
        · rw [List.getElem?_map, List.getElem?_map, hi, hk]
          show some p = some q.1
          rw [z]
  · obtain ⟨a2, a3⟩ := h.f q hq
    refine ⟨?_, fun r hr => ?_⟩
    · rw [upd_ne (a3 _ hm)]
      exact a2
    · have : r.1 ∈ M.map (·.1) := by
        rw [← efst]
        exact List.mem_map.mpr ⟨r, hr, rfl⟩
      obtain ⟨r', hr', e'⟩ := List.mem_map.mp this
      rw [← e']
      exact a3 r' hr'
theorem Cel.addM (h : Cel H0 M F H) (np : H p = none) (g : Same H H') (e : H' p = some o) : Cel H0 ((p, o) :: M) F H' := by
  have h1 := h.same g
  refine ⟨h1.sm, fun q hq => ?_, ?_, fun q hq => ?_⟩
  · rcases List.mem_cons.mp hq with rfl | hq
    · exact ⟨h.none0 np, e⟩
    · exact h1.m q hq
  · rw [List.map_cons, List.nodup_cons]
    refine ⟨fun hm => ?_, h.md⟩
    obtain ⟨q, hq, e⟩ := List.mem_map.mp hm
    have := (h.m q hq).2
    rw [e, np] at this
    cases this
  · obtain ⟨a2, a3⟩ := h1.f q hq
    refine ⟨a2, fun r hr => ?_⟩
    rcases List.mem_cons.mp hr with rfl | hr
    · exact ne_of_none (h.f q hq).1 np
    · exact a3 r hr
theorem Cel.put0 (h : Cel H0 ((p, o) :: M) F H) : Cel H0 ((p, o') :: M) F (upd H p o') := h.put (i := 0) rfl
end
/-! ### pipes by index -/
def stQ (qs : List Q3) (k : Nat) : Nat := (qs.getD k ("", 0, 0)).2.1
def enQ (qs : List Q3) (k : Nat) : Nat := (qs.getD k ("", 0, 0)).2.2
theorem q_at {qs : List Q3} {k : Nat} {q : Q3} (h : qs[k]? = some q) : stQ qs k = q.2.1 ∧ enQ qs k = q.2.2 := by
  rw [stQ, enQ, List.getD, h]
  exact ⟨rfl, rfl⟩
/-! ### ways in a dict -/
abbrev SU := Addr × Nat × Int
abbrev WU := Nat × Addr × List SU
def kvW (rs : List WU) : List (Key × V) := rs.map fun r => (.inl (r.1 : Int), .ref r.2.1)
def oS (s : SU) : HO := .tup [.int (s.2.1 : Int), .int s.2.2]
def ledW (rs : List WU) : List (Addr × HO) := rs.flatMap fun r => (r.2.1, HO.lst (rf r.2.2)) :: r.2.2.map fun s => (s.1, oS s)
theorem ledW_l {rs : List WU} {r : WU} (h : r ∈ rs) : (r.2.1, HO.lst (rf r.2.2)) ∈ ledW rs := List.mem_flatMap.mpr ⟨r, h, List.mem_cons_self⟩
theorem ledW_s {rs : List WU} {r : WU} {s : SU} (h : r ∈ rs) (hs : s ∈ r.2.2) : (s.1, oS s) ∈ ledW rs := List.mem_flatMap.mpr ⟨r, h, List.mem_cons_of_mem _ (List.mem_map.mpr ⟨s, hs, rfl⟩)⟩
/-- one more way: of r and a new pipe -/
theorem ledW_put {rs : List WU} {r : WU} {l t : Addr} {x k : Nat} {c : Int} (h : r ∈ rs) (p : Addr × HO) (hp : p ∈ ledW (rs ++ [(x, l, r.2.2 ++ [(t, k, c)])])) : p = (l, HO.lst (rf r.2.2 ++ [.ref t])) ∨ p = (t, oS (t, k, c)) ∨ p ∈ ledW rs := by
  rw [ledW, List.flatMap_append] at hp
  rcases List.mem_append.mp hp with z | z
  · exact .inr (.inr z)
  · simp only [List.flatMap_cons, List.flatMap_nil, List.append_nil, List.map_append, List.map_cons, List.map_nil, List.mem_cons, List.mem_append, List.not_mem_nil, or_false] at z
    rcases z with z | z | z
    · left
      rw [z, rf, List.map_append]
      rfl
    · obtain ⟨s, hs, rfl⟩ := List.mem_map.mp z
      exact .inr (.inr (ledW_s h hs))
    · exact .inr (.inl z)
theorem valW_some {x : Nat} : ∀ {rs : List WU}, x ∈ rs.map (·.1) → ∃ r ∈ rs, r.1 = x ∧ valV (kvW rs) (.inl (x : Int)) = some (.ref r.2.1)
  | r :: rs, h => by
    by_cases e : r.1 = x
    · exact ⟨r, List.mem_cons_self, e, valV_pos (show (Sum.inl (r.1 : Int) : Key) = .inl (x : Int) by rw [e])⟩
    · obtain ⟨r', h1, h2, h3⟩ := valW_some (rs := rs) ((List.mem_cons.mp h).resolve_left fun z => e z.symm)
      exact ⟨r', List.mem_cons_of_mem _ h1, h2, (valV_neg (show ¬ (Sum.inl (r.1 : Int) : Key) = .inl (x : Int) from fun z => e (by injection z with z; omega))).trans h3⟩
theorem valW_none {x : Nat} : ∀ {rs : List WU}, x ∉ rs.map (·.1) → valV (kvW rs) (.inl (x : Int)) = none
  | [], _ => rfl
  | r :: rs, h => by
    rw [List.map_cons, List.mem_cons, not_or] at h
    exact (valV_neg (show ¬ (Sum.inl (r.1 : Int) : Key) = .inl (x : Int) from fun z => h.1 (by injection z with z; omega))).trans (valW_none h.2)
/-- the ways found so far: their steps are pipes below n, at most t of them -/
structure WaysOk (n t : Nat) (rs : List WU) : Prop where
  st : ∀ r ∈ rs, ∀ s ∈ r.2.2, s.2.1 < n
  ln : ∀ r ∈ rs, r.2.2.length ≤ t
  all : rs.length ≤ t + 1
theorem WaysOk.mono {n t t' : Nat} {rs : List WU} (h : WaysOk n t rs) (e : t ≤ t') : WaysOk n t' rs := ⟨h.st, fun r hr => Nat.le_trans (h.ln r hr) e, by have := h.all; omega⟩
theorem WaysOk.put {n t : Nat} {rs : List WU} {r : WU} {l a : Addr} {x k : Nat} {c : Int} (h : WaysOk n t rs) (hr : r ∈ rs) (hk : k < n) : WaysOk n (t + 1) (rs ++ [(x, l, r.2.2 ++ [(a, k, c)])]) := by
  refine ⟨fun r' hr' s hs => ?_, fun r' hr' => ?_, by rw [List.length_append, List.length_singleton]; have := h.all; omega⟩
  · rcases List.mem_append.mp hr' with z | z
    · exact h.st r' z s hs
    · rw [List.mem_singleton.mp z] at hs
      rcases List.mem_append.mp hs with z | z
      · exact h.st r hr s z
      · rw [List.mem_singleton.mp z]
        exact hk
  · rcases List.mem_append.mp hr' with z | z
    · exact Nat.le_succ_of_le (h.ln r' z)
    · rw [List.mem_singleton.mp z, List.length_append, List.length_singleton]
      have := h.ln r hr
      omega
def sp_path (K : PySem.W.Frag) : Sp := fun vs H Q _ => ∃ (lt lk : Addr) (pu : List QU) (kept : List Nat) (first last : Nat), vs = [.ref lt, .ref lk, .int (first : Int), .int (last : Int)] ∧ SqL K H lt (rf pu) ∧ (∀ u ∈ pu, H u.1 = some (oQ u.2)) ∧ SqL K H lk (kept.map vI) ∧ kept.length ≤ 12 ∧ pu.length ≤ 12 ∧ (∀ k ∈ kept, k < pu.length) ∧
  ∀ H', Same H H' → (¬ Cn (stQ (sn pu)) (enQ (sn pu)) (· ∈ kept) first last → Q .non H') ∧ ∀ (w : Addr) (ss : List SU), Cn (stQ (sn pu)) (enQ (sn pu)) (· ∈ kept) first last → H' w = some (.lst (rf ss)) → (∀ s ∈ ss, H' s.1 = some (oS s) ∧ s.2.1 < pu.length) → ss.length ≤ 200 → Q (.ref w) H'
/-- rings of pipes: none exactly if there are none -/
def sp_rings (K : PySem.W.Frag) : Sp := fun vs H Q _ => ∃ (lt : Addr) (pu : List QU), vs = [.ref lt] ∧ SqL K H lt (rf pu) ∧ (∀ u ∈ pu, H u.1 = some (oQ u.2)) ∧ pu.length ≤ 12 ∧
  ∀ (l : Addr) (xs : List V) H', Same H H' → H l = none → H' l = some (.lst xs) → (xs = [] ↔ Fo (stQ (sn pu)) (enQ (sn pu)) (· < pu.length)) → Q (.ref l) H'
end RV
/-! sorted of a list of at most one thing. -/
namespace RV
open PySem L2 PySem.Spec PyProof.Rows TL
section
variable {q : Program} {w : World} {B : Around} {F : Value → Shared → Prop} {z : Shared}
/-- whatever it is, a list of at most one thing is sorted as it stands -/
theorem sorted_short {a : Addr} {us : List Value} {R : Value → Shared → Prop} (ha : z.heap.IsList a us.toArray) (few : us.length ≤ 1)
    (k : R (.ref (z.heap.objs.size + 1)) { z with heap := sortedAll z.heap us us.toArray }) : wpAny (model q w) B (call (.builtin "sorted") [.ref a]) R F z := by
  refine Calls.call_function_entry kind_sorted plain_sorted
    entry_sorted (args_sorted1 _) ?_
  unfold Builtin.«sorted»
  refine wpAny_bind
    (m := checkCount "sorted" 1 1 _) (wpAny_pure ?_)
  refine wpAny_bind (collect_list ha ?_
    (by rw [sizeLine_eq]; omega))
  refine wpAny_bind (wpAny_newList
    ?_ (by rw [sizeLine_eq]; omega))
  have eN : ((z.heap.push (seqObj "list" #[] 0)).update z.heap.objs.size (Obj.mapSeq (· ++ us.toArray))).objs.size = z.heap.objs.size + 1 := by
    rw [Heap.size_update,
      size_push']
  have eO : (((z.heap.push (seqObj "list" #[] 0)).update z.heap.objs.size (Obj.mapSeq (· ++ us.toArray))).push (seqObj "list" us.toArray 0)).get? (z.heap.objs.size + 1) = some (seqObj "list" us.toArray 0) := by
    rw [← eN]
    exact Heap.get?_push_size _ rfl
  show wpAny _ _ _ _ _ { z with heap := ((z.heap.push (seqObj "list" #[] 0)).update z.heap.objs.size (Obj.mapSeq (· ++ us.toArray))).push (seqObj "list" us.toArray 0) }
  rw [eN]
  refine wpAny_bind (wpAny_holding (wpAny_call_entry slot_list_sort ⟨_, eO, rfl⟩ entry_list_sort (SK.plain_sort (r := fun _ => 0) eO (by omega) (fun two => absurd two (by omega)) fun ps out e1 e2 _ => ⟨_, rfl, ?_⟩) (args_list_sort _)))
  have eout : out = us.toArray := by
    have h1 : out.toList.Perm us := by
      rw [e1]
      have t := e2.map Prod.snd
      rwa [List.map_snd_zip (Nat.le_refl _)] at t
    have h2 : out.toList = us := by
      cases us with
      | nil => exact h1.eq_nil
      | cons x r =>
        have : r = [] := List.eq_nil_of_length_eq_zero (by rw [List.length_cons] at few; omega)
        subst this
        exact List.perm_singleton.mp h1
    rw [← h2]
  subst eout
  exact wpAny_pure ⟨_, rfl, k⟩
end
def rSortF (K : PySem.W.Frag) : List V → Hp → VK → Prop := fun vs H Q => ∃ (a : Addr) (xs : List V), vs = [V.ref a] ∧ SqL K H a xs ∧ xs.length ≤ 1 ∧ ∀ p, H p = none → Q (.ref p) (upd H p (.lst xs))
theorem cr_sortF {X : Cx} : CallR X (.builtin "sorted") (rSortF X.K) := by
  intro pins s σ H vs us Q I rel h
  obtain ⟨a, xs, rfl, hs, few, q⟩ := h
  obtain ⟨ws, rw1, hl, sz⟩ := I.list hs
  rw [Vals.ref1 rel]
  refine sorted_short hl.isList (by rw [← rw1.length]; exact few) ?_
  obtain ⟨ep, here⟩ := PyProof.Rows.sortedAll_at s.heap ws ws.toArray
  refine ⟨.ref _, upd H (s.heap.objs.size + 1) (.lst xs), I.laid (t' := s.toks) (fun _ _ => PyProof.Rows.sortedAll_old) (Nat.le_succ _) ⟨sz, ws, ep, rw1, by simpa using here⟩, rfl, q _ (I.hok.fresh (Nat.le_succ _))⟩
end RV
/-! sets of so many of some indexes -/
namespace RV
open PySem L2 TL
abbrev LU := Addr × List Nat
/-- the rows, as tuples -/
def sp_sets (K : PySem.W.Frag) : Sp := fun vs H Q _ => ∃ (li : Addr) (items : List Nat) (size : Nat), vs = [.ref li, .int (size : Int)] ∧ SqL K H li (items.map vI) ∧ items.Pairwise (· < ·) ∧ items.length ≤ 7 ∧ size ≤ 7 ∧ (∀ k ∈ items, k < 12) ∧
  ∀ (l : Addr) (os : List LU) H', Same H H' → H' l = some (.lst (rf os)) → (∀ u ∈ os, H' u.1 = some (.tup (u.2.map vI))) → (∀ o, o ∈ sn os ↔ o ∈ setsF items size ∧ o.length = size) → Q (.ref l) H'
/-- what is made and stands -/
def ledL (os : List LU) : List (Addr × HO) := os.map fun u => (u.1, HO.lst (u.2.map vI))
/-- of at most one thing, or of tuples of so many ints -/
theorem cr_sortFT {X : Cx} {d : Nat} {B : Int} : CallR X (.builtin "sorted") (fun vs H Q => rSortF X.K vs H Q ∨ (1 ≤ d ∧ rSortU X.K d B vs H Q)) := by
  intro pins s σ H vs us Q I rel h
  rcases h with h | ⟨hd, h⟩
  · exact cr_sortF pins s σ H vs us Q I rel h
  · exact cr_sortT hd pins s σ H vs us Q I rel h
theorem asc_int {ns : List Int} {items : List Nat} (asc : items.Pairwise (· < ·)) (p : ns.Perm (items.map fun (k : Nat) => (k : Int))) (s : ns.Pairwise (· ≤ ·)) : ns = items.map fun (k : Nat) => (k : Int) := by
  refine PySem.W.ksm_same p s ?_
  rw [List.pairwise_map]
  exact asc.imp fun h => by omega
theorem lensF_one {m : Nat} (hm : m ≤ 7) : ((lensF m 0).filter (fun o => decide (o = 0))).length ≤ 1 := by
  have : ∀ m : Fin 8, ((lensF m.val 0).filter (fun o => decide (o = 0))).length ≤ 1 := by decide +kernel
  exact this ⟨m, by omega⟩
theorem setsF_cnt {items : List Nat} {size : Nat} (h7 : items.length ≤ 7) (s7 : size ≤ 7) : (setsF items size).length ≤ 128 ∧ ((setsF items size).filter fun o => decide (o.length = size)).length < 64 ∧ (size = 0 → ((setsF items size).filter fun o => decide (o.length = size)).length ≤ 1) := by
  have e := setsF_len size items
  have l1 := lensF_64 h7 s7
  rw [← e, List.length_map] at l1
  have ef : ((setsF items size).filter fun o => decide (o.length = size)).length = ((lensF items.length size).filter fun o => decide (o = size)).length := by
    rw [← e, List.filter_map, List.length_map]
    rfl
  refine ⟨l1.2, by rw [ef]; exact (lensF_64 h7 s7).1, fun z => ?_⟩
  subst z
  rw [ef]
  exact lensF_one h7
end RV
/-! Whether rings without meters are left; the least price. -/
namespace RV
open PySem L2 PyProof.Rows TL
def rNeE (K : PySem.W.Frag) : R2 := fun x y H Q => ∃ a b xs, x = .ref a ∧ y = .ref b ∧ SqL K H a xs ∧ SqL K H b [] ∧ Q (.bl (!xs.isEmpty)) H
section
variable {X : Cx}
theorem op_neE (hu : X.A.units < cLine) : OpR X (compareOp .NotEq) (rNeE X.K) := by
  intro pins s σ H x y v u Q I rx ry h
  obtain ⟨a, b, xs, rfl, rfl, ha, hb, q⟩ := h
  cases rx
  cases ry
  obtain ⟨its, rv, ⟨⟨cls, dd, data, sl⟩, n, ho, hc, hdn, hd⟩, _⟩ := I.list ha
  obtain ⟨its2, rv2, ⟨⟨cls2, dd2, data2, sl2⟩, n2, ho2, hc2, hdn2, hd2⟩, _⟩ := I.list hb
  simp only at hc hd hc2 hd2
  subst hc hd hc2 hd2
  cases rv2
  have hl1 : s.heap.IsList a its.toArray := ⟨_, ho, rfl, _, rfl⟩
  have hl2 : s.heap.IsList b ([] : List Value).toArray := ⟨_, ho2, rfl, _, rfl⟩
  cases rv with
  | nil => exact SeqAt.RcNeAt.lists (e := fun _ => true) hl1 hl2 rfl hu (fun j h1 => absurd h1 (by simp)) _ _ _ _ ⟨.bl false, H, I, rfl, q⟩
  | cons r t => exact SeqAt.RcNeAt.lists_lengths hl1 hl2 (by simp) hu _ _ _ _ ⟨.bl true, H, I, rfl, q⟩
end
section
variable {st en : Nat → Nat} {f : Nat → Nat} {S : Nat → Prop} {u v : Nat}
theorem Cn.img (h : Cn (fun i => st (f i)) (fun i => en (f i)) S u v) : Cn st en (fun k => ∃ i, S i ∧ f i = k) u v := by
  induction h with
  | nil => exact .nil
  | fwd _ o ih => exact .fwd ih ⟨_, o, rfl⟩
  | bwd _ o ih => exact .bwd ih ⟨_, o, rfl⟩
theorem Cn.pre {T : Nat → Prop} (hT : ∀ k, T k → ∃ i, S i ∧ f i = k) (h : Cn st en T u v) : Cn (fun i => st (f i)) (fun i => en (f i)) S u v := by
  induction h with
  | nil => exact .nil
  | fwd _ o ih =>
    obtain ⟨i, hi, rfl⟩ := hT _ o
    exact .fwd ih hi
  | bwd _ o ih =>
    obtain ⟨i, hi, rfl⟩ := hT _ o
    exact .bwd ih hi
/-- a forest, its pipes called otherwise -/
theorem Fo.map (inj : ∀ i j, S i → S j → f i = f j → i = j) : Fo (fun i => st (f i)) (fun i => en (f i)) S ↔ Fo st en (fun k => ∃ i, S i ∧ f i = k) := by
  constructor
  · rintro h _ ⟨i, hi, rfl⟩ c
    refine h i hi (c.pre fun k hk => ?_)
    obtain ⟨⟨j, hj, rfl⟩, n⟩ := hk
    exact ⟨j, ⟨hj, fun e => n (by rw [e])⟩, rfl⟩
  · intro h i hi c
    refine h (f i) ⟨i, hi, rfl⟩ (c.img.mono fun k hk => ?_)
    obtain ⟨j, hj, rfl⟩ := hk
    exact ⟨⟨j, hj.1, rfl⟩, fun e => hj.2 (inj j i hj.1 hi e)⟩
end
theorem Fo.is {st en st' en' : Nat → Nat} {S T : Nat → Prop} (h : ∀ k, S k ↔ T k) (e : ∀ k, T k → st k = st' k ∧ en k = en' k) : Fo st en S ↔ Fo st' en' T := by
  have eS : S = T := funext fun k => propext (h k)
  subst eS
  have tr : ∀ {a b c d : Nat → Nat} {R : Nat → Prop} {u v : Nat}, (∀ k, R k → a k = c k ∧ b k = d k) → Cn a b R u v → Cn c d R u v := fun {a b c d R u v} hh g => by
    induction g with
    | nil => exact .nil
    | fwd _ o ih =>
      obtain ⟨p, q⟩ := hh _ o
      rw [p] at ih
      rw [q]
      exact .fwd ih o
    | bwd _ o ih =>
      obtain ⟨p, q⟩ := hh _ o
      rw [q] at ih
      rw [p]
      exact .bwd ih o
  constructor
  · intro g k hk c
    obtain ⟨p, q⟩ := e k hk
    refine g k hk ?_
    rw [p, q]
    exact tr (fun j hj => ⟨(e j hj.1).1.symm, (e j hj.1).2.symm⟩) c
  · intro g k hk c
    obtain ⟨p, q⟩ := e k hk
    rw [p, q] at c
    exact g k hk (tr (fun j hj => e j hj.1) c)
def metL (M : Mod) : List Nat := M.gs.map (·.2.1)
/-- the pipes without meters that are not chosen -/
def leftS (M : Mod) (ch : List Nat) : Nat → Prop := fun k => k < M.qs.length ∧ k ∉ metL M ∧ k ∉ ch
def FoC (M : Mod) (ch : List Nat) : Prop := Fo (stQ M.qs) (enQ M.qs) (leftS M ch)
def leftL (M : Mod) (ch : List Nat) : List Nat := (List.range M.qs.length).filter fun k => !decide (k ∈ metL M) && !decide (k ∈ ch)
theorem leftL_mem {M : Mod} {ch : List Nat} {k : Nat} : k ∈ leftL M ch ↔ leftS M ch k := by
  rw [leftL, List.mem_filter, List.mem_range, leftS]
  simp
theorem inV_vI (x : Nat) (xs : List Nat) : inV (vI x) (xs.map vI) = decide (x ∈ xs) := by
  have e : ∀ y : Nat, eqV (vI y) (vI x) = decide (x = y) := fun y => by
    show decide ((y : Int) = (x : Int)) = _
    by_cases z : x = y
    · subst z; simp
    · rw [decide_eq_false z, decide_eq_false (by omega)]
  rw [inV, List.any_map]
  induction xs with
  | nil => rfl
  | cons y ys ih =>
    rw [List.any_cons, ih]
    show (eqV (vI y) (vI x) || _) = _
    rw [e y]
    by_cases a : x = y <;> by_cases b : x ∈ ys <;> simp [a, b]
theorem flat_vI : ∀ xs : List Nat, (xs.map vI).all flatV = true
  | [] => rfl
  | x :: xs => by rw [List.map_cons, List.all_cons, flat_vI xs]; rfl
/-- the rings of the pipes that are left -/
theorem left_iff {M : Mod} {ch : List Nat} {qs' : List Q3} (e : qs' = (leftL M ch).map fun k => M.qs.getD k ("", 0, 0)) : Fo (stQ qs') (enQ qs') (· < qs'.length) ↔ FoC M ch := by
  have len : qs'.length = (leftL M ch).length := by rw [e, List.length_map]
  have nd : (leftL M ch).Nodup := List.Nodup.sublist List.filter_sublist List.nodup_range
  rw [len, FoC]
  have h1 : Fo (stQ qs') (enQ qs') (· < (leftL M ch).length) ↔ Fo (fun i => stQ M.qs ((leftL M ch).getD i 0)) (fun i => enQ M.qs ((leftL M ch).getD i 0)) (· < (leftL M ch).length) := by
    refine Fo.is (fun _ => Iff.rfl) fun k hk => ?_
    have g : qs'[k]? = some (M.qs.getD ((leftL M ch).getD k 0) ("", 0, 0)) := by
      rw [e, List.getElem?_map, List.getElem?_eq_getElem hk, getD_lt hk]
      rfl
    exact q_at g
  rw [h1, Fo.map]
  · refine Fo.is (fun k => ?_) fun _ _ => ⟨rfl, rfl⟩
    rw [← leftL_mem]
    constructor
    · rintro ⟨i, hi, rfl⟩
      rw [getD_lt hi]
      exact List.getElem_mem hi
    · intro hk
      obtain ⟨i, hi, e⟩ := List.getElem_of_mem hk
      exact ⟨i, hi, by rw [getD_lt hi]; exact e⟩
  · intro i j hi hj h
    rw [getD_lt hi, getD_lt hj] at h
    exact (List.getElem_inj nd).mp h
def sp_open (K : PySem.W.Frag) : Sp := fun vs H Q _ => ∃ (l c : Addr) (M : Mod) (most more : Nat) (ch : List Nat), vs = [.ref l, .ref c] ∧ MdAt H l M ∧ PlOk M most more ∧ most ≤ 12 ∧ more ≤ 12 ∧ (SqL K H c (ch.map vI) ∨ SqT K H c (ch.map vI)) ∧
  ∀ (b : Bool) H', Same H H' → (b = true ↔ ¬ FoC M ch) → Q (.bl b) H'
end RV
/-! The least price by all sets. -/
namespace RV
open PySem L2 TL
def bareL (M : Mod) : List Nat := (List.range M.qs.length).filter fun k => !decide (k ∈ metL M)
def priceF (fees : List Int) (o : List Nat) : Int := (o.map fun k => fees.getD k 0).sum
theorem bareL_asc (M : Mod) : (bareL M).Pairwise (· < ·) := List.Pairwise.sublist List.filter_sublist List.pairwise_lt_range
theorem bareL_mem {M : Mod} {k : Nat} : k ∈ bareL M ↔ k < M.qs.length ∧ k ∉ metL M := by
  rw [bareL, List.mem_filter, List.mem_range]
  simp
theorem bareL_len (M : Mod) : (bareL M).length ≤ M.qs.length := by
  have := List.length_filter_le (fun k => !decide (k ∈ metL M)) (List.range M.qs.length)
  rwa [List.length_range] at this
/-- sets that were tried: of fewer than z -/
def triedF (M : Mod) (z : Nat) (o : List Nat) : Prop := ∃ s, s < z ∧ o ∈ setsF (bareL M) s ∧ o.length = s
/-- what was found among the tried ones -/
def LeastF (M : Mod) (fees : List Int) (D : List Nat → Prop) (fl : List Int) : Prop :=
  (fl = [] ∧ ∀ o, D o → ¬ FoC M o) ∨ ∃ v, fl = [v] ∧ (∃ o, D o ∧ FoC M o ∧ v = priceF fees o) ∧ ∀ o, D o → FoC M o → v ≤ priceF fees o
section
variable {M : Mod} {fees fl : List Int} {D D' : List Nat → Prop}
theorem LeastF.is (h : LeastF M fees D fl) (e : ∀ o, D' o ↔ D o) : LeastF M fees D' fl := by
  have : D' = D := funext fun o => propext (e o)
  rw [this]
  exact h
theorem LeastF.skip (h : LeastF M fees D fl) {o : List Nat} (n : FoC M o → ∃ v, fl = [v] ∧ v ≤ priceF fees o) (e : ∀ x, D' x ↔ D x ∨ x = o) : LeastF M fees D' fl := by
  rcases h with ⟨a, b⟩ | ⟨v, a, ⟨o', c1, c2, c3⟩, d⟩
  · refine .inl ⟨a, fun x hx => ?_⟩
    rcases (e x).mp hx with z | rfl
    · exact b x z
    · intro z
      obtain ⟨v, e2, _⟩ := n z
      rw [a] at e2
      cases e2
  · refine .inr ⟨v, a, ⟨o', (e o').mpr (.inl c1), c2, c3⟩, fun x hx hf => ?_⟩
    rcases (e x).mp hx with z | rfl
    · exact d x z hf
    · obtain ⟨v', e2, l⟩ := n hf
      rw [a] at e2
      cases e2
      exact l
theorem LeastF.take (h : LeastF M fees D fl) {o : List Nat} (f : FoC M o) (n : ∀ v, fl = [v] → priceF fees o ≤ v) (e : ∀ x, D' x ↔ D x ∨ x = o) : LeastF M fees D' [priceF fees o] := by
  refine .inr ⟨_, rfl, ⟨o, (e o).mpr (.inr rfl), f, rfl⟩, fun x hx hf => ?_⟩
  rcases (e x).mp hx with z | rfl
  · rcases h with ⟨a, b⟩ | ⟨v, a, _, d⟩
    · exact absurd hf (b x z)
    · exact Int.le_trans (n v a) (d x z hf)
  · exact Int.le_refl _
end
theorem FoC_all (M : Mod) : FoC M (bareL M) := Fo.none fun k hk => hk.2.2 (bareL_mem.mpr ⟨hk.1, hk.2.1⟩)
theorem tried_all (M : Mod) : triedF M ((bareL M).length + 1) (bareL M) := by
  refine ⟨(bareL M).length, Nat.lt_succ_self _, ?_, rfl⟩
  have e : (bareL M).filter (fun _ => true) = bareL M := List.filter_eq_self.mpr fun _ _ => rfl
  have := setsF_all (fun _ => true) (items := bareL M) (size := (bareL M).length) (by rw [e]; exact Nat.le_refl _)
  rwa [e] at this
def sp_least (K : PySem.W.Frag) : Sp := fun vs H Q _ => ∃ (l lf : Addr) (M : Mod) (most more : Nat) (fees : List Int), vs = [.ref l, .ref lf] ∧ MdAt H l M ∧ PlOk M most more ∧ most ≤ 7 ∧ more ≤ 12 ∧ SqL K H lf (fees.map V.int) ∧ fees.length = M.qs.length ∧
  ∀ (v : Int) H', Same H H' → (∃ o, triedF M ((bareL M).length + 1) o ∧ FoC M o ∧ v = priceF fees o) → (∀ o, triedF M ((bareL M).length + 1) o → FoC M o → v ≤ priceF fees o) → Q (.int v) H'
theorem eqv_one (v : Int) : PyData.eqv (.list [.int v]) (.list []) = false := by simp [PyData.eqv, PyData.eqvAll]
theorem eqv_nil0 : PyData.eqv (.list []) (.list []) = true := by simp [PyData.eqv, PyData.eqvAll]
theorem shaped_one (v : Int) : SeqAt.shaped (.list [.int v]) = true := by simp [SeqAt.shaped, PyData.canLay0, PyData.canLayAll0, PyData.depth, PyData.depthAll]
end RV
/-! Pipes parted: those that join, those that close rings. -/
namespace RV
open PySem
section
variable {α β : Type} {st en : Nat → α} {g : α → β} {V : α → Prop} {S : Nat → Prop} {u v : α}
theorem Cn.up (h : Cn st en S u v) : Cn (fun k => g (st k)) (fun k => g (en k)) S (g u) (g v) := by
  induction h with
  | nil => exact .nil
  | fwd _ o ih => exact .fwd ih o
  | bwd _ o ih => exact .bwd ih o
theorem Cn.down (hV : ∀ k, S k → V (st k) ∧ V (en k)) (inj : ∀ a b, V a → V b → g a = g b → a = b) (hu : V u) {b : β} (h : Cn (fun k => g (st k)) (fun k => g (en k)) S (g u) b) : ∃ v, V v ∧ g v = b ∧ Cn st en S u v := by
  induction h with
  | nil => exact ⟨u, hu, rfl, .nil⟩
  | fwd _ o ih =>
    obtain ⟨v, a, e, c⟩ := ih
    obtain ⟨v1, v2⟩ := hV _ o
    obtain rfl := inj _ _ a v1 e
    exact ⟨_, v2, rfl, .fwd c o⟩
  | bwd _ o ih =>
    obtain ⟨v, a, e, c⟩ := ih
    obtain ⟨v1, v2⟩ := hV _ o
    obtain rfl := inj _ _ a v2 e
    exact ⟨_, v1, rfl, .bwd c o⟩
/-- places called otherwise -/
theorem Fo.vert (hV : ∀ k, S k → V (st k) ∧ V (en k)) (inj : ∀ a b, V a → V b → g a = g b → a = b) : Fo (fun k => g (st k)) (fun k => g (en k)) S ↔ Fo st en S := by
  constructor
  · exact fun h k hk c => h k hk c.up
  · intro h k hk c
    obtain ⟨v1, v2⟩ := hV k hk
    obtain ⟨v, a, e, c'⟩ := Cn.down (V := V) (fun j hj => hV j hj.1) inj v1 c
    obtain rfl := inj _ _ a v2 e
    exact h k hk c'
end
/-- marks when one more pipe joins its places -/
def mrg (mk : Str → Str) (a b : Str) : Str → Str := fun z => if mk z = mk a then mk b else mk z
abbrev SpS := (Str → Str) × List Nat × List Nat
def stpI (ps : List P3) (s : SpS) (i : Nat) : SpS :=
  if s.1 (pS ps i) = s.1 (pE ps i) then (s.1, s.2.1, s.2.2 ++ [i]) else (mrg s.1 (pS ps i) (pE ps i), s.2.1 ++ [i], s.2.2)
def splitI (ps : List P3) (I : List Nat) : SpS := I.foldl (stpI ps) (id, [], [])
theorem splitI_snoc (ps : List P3) (I : List Nat) (i : Nat) : splitI ps (I ++ [i]) = stpI ps (splitI ps I) i := by
  rw [splitI, List.foldl_append]
  rfl
/-- what parted pipes are -/
structure Parted (ps : List P3) (R : Nat → Nat → Prop) (I : List Nat) (s : SpS) : Prop where
  mem : ∀ i, i ∈ I ↔ i ∈ s.2.1 ∨ i ∈ s.2.2
  jn : ∀ x y, s.1 x = s.1 y ↔ Cn (pS ps) (pE ps) (· ∈ s.2.1) x y
  fo : Fo (pS ps) (pE ps) (· ∈ s.2.1)
  cl : ∀ c ∈ s.2.2, c ∉ s.2.1 ∧ Cn (pS ps) (pE ps) (fun k => k ∈ s.2.1 ∧ R k c) (pS ps c) (pE ps c)
  nd : s.2.2.Nodup
theorem Cn.none_iff {α : Type} {st en : Nat → α} {S : Nat → Prop} (h : ∀ k, ¬ S k) {x y : α} : Cn st en S x y ↔ x = y := by
  constructor
  · intro c
    induction c with
    | nil => rfl
    | fwd _ o _ => exact absurd o (h _)
    | bwd _ o _ => exact absurd o (h _)
  · rintro rfl
    exact .nil
theorem parted {ps : List P3} {R : Nat → Nat → Prop} : ∀ {I : List Nat}, I.Nodup → I.Pairwise R → Parted ps R I (splitI ps I) := by
  have rev : ∀ J : List Nat, J.reverse.Nodup → J.reverse.Pairwise R → Parted ps R J.reverse (splitI ps J.reverse) := by
    intro J
    induction J with
    | nil => exact fun _ _ => ⟨fun i => by simp [splitI], fun x y => (Cn.none_iff (fun k hk => by simp [splitI] at hk)).symm, Fo.none fun k hk => by simp [splitI] at hk, fun c hc => by simp [splitI] at hc, .nil⟩
    | cons p J ih =>
      intro nd pw
      rw [List.reverse_cons] at nd pw ⊢
      rw [List.nodup_append] at nd
      rw [List.pairwise_append] at pw
      obtain ⟨nd1, _, nd2⟩ := nd
      obtain ⟨pw1, _, pw2⟩ := pw
      have h := ih nd1 pw1
      rw [splitI_snoc]
      generalize splitI ps J.reverse = s at h
      generalize J.reverse = I at h nd1 nd2 pw1 pw2
      have np : p ∉ I := fun z => nd2 p z p (List.mem_singleton.mpr rfl) rfl
      have npK : p ∉ s.2.1 := fun z => np ((h.mem p).mpr (.inl z))
      have npC : p ∉ s.2.2 := fun z => np ((h.mem p).mpr (.inr z))
      unfold stpI
      by_cases e : s.1 (pS ps p) = s.1 (pE ps p)
      · rw [if_pos e]
        refine ⟨fun i => ?_, h.jn, h.fo, fun c hc => ?_, ?_⟩
        · rw [List.mem_append, h.mem i]
          simp only [List.mem_append, List.mem_singleton, or_assoc]
        · rcases List.mem_append.mp hc with z | z
          · exact h.cl c z
          · rw [List.mem_singleton.mp z]
            exact ⟨npK, ((h.jn _ _).mp e).mono fun k hk => ⟨hk, pw2 k ((h.mem k).mpr (.inl hk)) p (List.mem_singleton.mpr rfl)⟩⟩
        · show (s.2.2 ++ [p]).Nodup
          rw [List.nodup_append]
          refine ⟨h.nd, by simp, fun a ha b hb e => ?_⟩
          rw [List.mem_singleton.mp hb] at e
          exact npC (e ▸ ha)
      · rw [if_neg e]
        have nc : ¬ Cn (pS ps) (pE ps) (· ∈ s.2.1) (pS ps p) (pE ps p) := fun c => e ((h.jn _ _).mpr c)
        have up : ∀ {x y}, Cn (pS ps) (pE ps) (· ∈ s.2.1) x y → Cn (pS ps) (pE ps) (· ∈ s.2.1 ++ [p]) x y := fun c => c.mono fun k hk => List.mem_append_left _ hk
        have me : p ∈ s.2.1 ++ [p] := List.mem_append_right _ (List.mem_singleton.mpr rfl)
        refine ⟨fun i => ?_, fun x y => ?_, (h.fo.add nc).mono fun k hk => ?_, fun c hc => ⟨fun z => ?_, (h.cl c hc).2.mono fun k hk => ⟨List.mem_append_left _ hk.1, hk.2⟩⟩, h.nd⟩
        · rw [List.mem_append, h.mem i]
          simp only [List.mem_append, List.mem_singleton]
          constructor
          · rintro ((a | a) | a)
            · exact .inl (.inl a)
            · exact .inr a
            · exact .inl (.inr a)
          · rintro ((a | a) | a)
            · exact .inl (.inl a)
            · exact .inr a
            · exact .inl (.inr a)
        · show mrg s.1 (pS ps p) (pE ps p) x = mrg s.1 (pS ps p) (pE ps p) y ↔ _
          unfold mrg
          constructor
          · intro q
            by_cases a : s.1 x = s.1 (pS ps p) <;> by_cases b : s.1 y = s.1 (pS ps p)
            · exact up ((h.jn _ _).mp (a.trans b.symm))
            · rw [if_pos a, if_neg b] at q
              exact (up ((h.jn _ _).mp a)).trans ((Cn.one me).trans (up ((h.jn _ _).mp q)))
            · rw [if_neg a, if_pos b] at q
              exact (up ((h.jn _ _).mp q)).trans ((Cn.one' me).trans (up ((h.jn _ _).mp b.symm)))
            · rw [if_neg a, if_neg b] at q
              exact up ((h.jn _ _).mp q)
          · intro c
            have sp := c.split (S := (· ∈ s.2.1)) (k := p) fun j hj => by
              rcases List.mem_append.mp hj with z | z
              · exact .inl z
              · exact .inr (List.mem_singleton.mp z)
            rcases sp with c | ⟨c1, c2⟩ | ⟨c1, c2⟩
            · rw [(h.jn _ _).mpr c]
            · have a := (h.jn _ _).mpr c1
              have b := (h.jn _ _).mpr c2
              rw [if_pos a]
              by_cases z : s.1 y = s.1 (pS ps p)
              · rw [if_pos z]
              · rw [if_neg z, b]
            · have a := (h.jn _ _).mpr c1
              have b := (h.jn _ _).mpr c2
              rw [if_pos b.symm]
              by_cases z : s.1 x = s.1 (pS ps p)
              · rw [if_pos z]
              · rw [if_neg z, a]
        · rcases List.mem_append.mp hk with z | z
          · exact .inl z
          · exact .inr (List.mem_singleton.mp z)
        · rcases List.mem_append.mp z with z | z
          · exact (h.cl c hc).1 z
          · rw [List.mem_singleton.mp z] at hc
            exact npC hc
  intro I nd pw
  have := rev I.reverse (by rwa [List.reverse_reverse]) (by rwa [List.reverse_reverse])
  rwa [List.reverse_reverse] at this
/-- the order of prices: dear ones first, equal ones by index -/
def OrdF (fees : List Int) (L : List Nat) : Prop := L.Perm (List.range fees.length) ∧ L.Pairwise fun i j => fees.getD j 0 < fees.getD i 0 ∨ (fees.getD i 0 = fees.getD j 0 ∧ i < j)
theorem OrdF.uniq {fees : List Int} {L L' : List Nat} (h : OrdF fees L) (h' : OrdF fees L') : L = L' :=
  (h.1.trans h'.1.symm).eq_of_pairwise (fun i j _ _ a b => by omega) h.2 h'.2
end RV
/-! Promises about prices and parted pipes. -/
namespace RV
open PySem L2 TL
def sp_chkpr (K : PySem.W.Frag) (CN CP CM : Addr) : Sp := fun vs H Q _ => ∃ (x t : Addr) (ps : List P3) (ms : List M3) (fees : List Int), vs = [.ref x, .ref t] ∧ NetR K CN CP CM H x ps ms ∧ SqT K H t (fees.map V.int) ∧ fees.length = ps.length ∧ (∀ f ∈ fees, 0 ≤ f) ∧ ∀ H', Same H H' → Q .non H'
/-- marks of places, as a dict -/
def mkD (zs : List Str) (mk : Str → Str) : List (Key × V) := zs.map fun z => (.inr z, .str (mk z))
theorem mkD_val {zs : List Str} {mk : Str → Str} {z : Str} (h : z ∈ zs) : valV (mkD zs mk) (.inr z) = some (.str (mk z)) := by
  induction zs with
  | nil => cases h
  | cons y ys ih =>
    by_cases e : y = z
    · subst e
      exact valV_pos rfl
    · refine (valV_neg (show ¬ (Sum.inr y : Key) = .inr z from fun q => e (Sum.inr.inj q))).trans (ih ?_)
      exact (List.mem_cons.mp h).resolve_left fun w => e w.symm
theorem mkD_none {zs : List Str} {mk : Str → Str} {z : Str} (h : z ∉ zs) : valV (mkD zs mk) (.inr z) = none := by
  induction zs with
  | nil => rfl
  | cons y ys ih =>
    rw [List.mem_cons, not_or] at h
    exact (valV_neg (show ¬ (Sum.inr y : Key) = .inr z from fun q => h.1 (Sum.inr.inj q).symm)).trans (ih h.2)
theorem mkD_put {zs : List Str} {mk : Str → Str} {z : Str} (h : z ∉ zs) : putK (mkD zs mk) (.inr z) (.str (mk z)) = mkD (zs ++ [z]) mk := by
  rw [putK_new _ (mkD_none h), mkD, mkD, List.map_append]
  rfl
def sp_mrgd (CP : Addr) : Sp := fun vs H Q _ => ∃ (d a : Addr) (zs : List Str) (mk : Str → Str) (q : P3), vs = [.ref d, .ref a] ∧ H d = some (.dK (mkD zs mk)) ∧ zs.Nodup ∧ zs.length ≤ 30 ∧ q.2.1 ∈ zs ∧ q.2.2 ∈ zs ∧ PipeAt CP H a q ∧
  ∀ (d' : Addr) H', Same H H' → H' d' = some (.dK (mkD zs (mrg mk q.2.1 q.2.2))) → Q (.ref d') H'
abbrev puD : PU := (0, ("", "", ""))
/-- parted pipes: lists of those that join, of those that close rings -/
def sp_split (K : PySem.W.Frag) (CN CP CM : Addr) : Sp := fun vs H Q _ => ∃ (x lp : Addr) (pu : List PU) (ms : List M3) (I : List Nat), vs = [.ref x, .ref lp] ∧ NetR K CN CP CM H x (sn pu) ms ∧ pu.length ≤ 12 ∧ (∀ u ∈ pu, PipeAt CP H u.1 u.2) ∧ H lp = some (.lst (I.map fun i => .ref (pu.getD i puD).1)) ∧ I.length ≤ 12 ∧ (∀ i ∈ I, i < pu.length) ∧
  ∀ (t lk lc : Addr) H', Same H H' → H' t = some (.tup [.ref lk, .ref lc]) → H' lc = some (.lst ((splitI (sn pu) I).2.2.map fun i => .ref (pu.getD i puD).1)) → Q (.ref t) H'
theorem pu_at {pu : List PU} {i : Nat} (h : i < pu.length) : pu.getD i puD = pu[i] ∧ pS (sn pu) i = pu[i].2.2.1 ∧ pE (sn pu) i = pu[i].2.2.2 ∧ pN (sn pu) i = pu[i].2.1 := by
  obtain ⟨a, b, c⟩ := pN_at (sn_get (List.getElem?_eq_getElem h))
  exact ⟨getD_lt h, b, c, a⟩
end RV
/-! A dict made by a comprehension and given to a local name on one line. -/
namespace RV
open PySem L2 TL
section
variable {X : Cx}
theorem sw_dc {kx vx : Expr} {gens : List Comprehension} {sc : Scope} {p1 p2 : Pos} {nm : Str} {row : Nat} {ev : Env} (hf : ev.scope.kind = .function) (hn : ev.scope.names.lookup nm = some .local) (hr : (p2.line == p1.line) = true)
    (ho : (sc.names.any fun (n, k) => n == nm && (k == .local || k == .cell)) = false) : swapsWith (.DictComp kx vx gens sc p1) (some (.Name nm p2)) row ev = pure true := by
  have h1 : ev.kindOf nm = some .local := hn
  have h2 : ev.blockKind = .function := by rw [Env.blockKind, hf]; rfl
  rw [swapsWith]
  simp only [h2, h1, ho, Expr.pos, hr]
  rfl
theorem ps_setDc {j : Nat} {nm : Str} {p2 p1 p3 : Pos} {kx vx tgt itr : Expr} {fs : List Expr} {sc : Scope} {mine : List (Str × Nat)} {wi : TI} {g : TG} {tt : TT} {tk tv : TE} (cal : X.calm = true) (nod : X.N.Nodup) (atj : X.N[j]? = some nm) (loc : X.env.scope.names.lookup nm = some .local)
    (sw : swapsWith (.DictComp kx vx [⟨tgt, itr, fs, 0⟩] sc p1) (some (.Name nm p2)) p3.line X.env = pure true) (hi : PI X tgt itr wi) (blk : BlkOk X.N X.env.scope sc mine)
    (hg : ∀ (s : Shared) (H : Hp) (C : Addr) (cl : List (Str × Addr)) (fp : List Addr), PG (X.blk s H sc (compEnvC sc cl C X.env) fp) tgt g) (ht : ∀ (s : Shared) (H : Hp) (C : Addr) (cl : List (Str × Addr)) (fp : List Addr), PTs (X.blk s H sc (compEnvC sc cl C X.env) fp) fs tt)
    (hk : ∀ (s : Shared) (H : Hp) (C : Addr) (cl : List (Str × Addr)) (fp : List Addr), PE (X.blk s H sc (compEnvC sc cl C X.env) fp) kx tk)
    (hv : ∀ (s : Shared) (H : Hp) (C : Addr) (cl : List (Str × Addr)) (fp : List Addr), PE (X.blk s H sc (compEnvC sc cl C X.env) fp) vx tv) (hs : ∀ x, foldedSetIterable itr X.env x = pure x := by intro _; rfl) :
    PS X (.Assign [.Name nm p2] (.DictComp kx vx [⟨tgt, itr, fs, 0⟩] sc p1) p3) (tAsg (tDc wi g tt tk tv (mine.map (·.2))) (gName j)) := by
  constructor
  intro pins s σ H D I hyp
  rw [exec_Assign_Name_used _ _ _ _ sw]
  apply wpAny_bind
  apply wpAny_standAt
  apply wpAny_bind
  show wpAny _ X.A (do let _ ← comprehension (.DictComp kx vx [⟨tgt, itr, fs, 0⟩] sc p1) sc X.env (firstIterPos [⟨tgt, itr, fs, 0⟩] p1) newDict false (eval itr X.env) (some (assign (.Name nm p2) X.env))) _ _ s
  replace hyp : tDc wi g tt tk tv (mine.map (·.2)) σ H (fun v H1 => gName j v σ H1 D.nx) := hyp
  apply wpAny_bind
  refine thn (dc_core (Qf := fun _ t => SP X pins D .next t) cal nod I hi blk hg ht hk hv hs hyp fun L C s1 m H1 I1 q here far => ?_) fun _ t hq => wpAny_pure (wpAny_pure hq)
  show wpAny _ _ (assign (.Name nm p2) X.env (.ref L)) _ _ _
  apply wpAny_assign_Name
  refine store_ok2 (v := V.ref L) I1 nod atj (.inl loc) rfl (fun s2 I2 w => ?_) (.inr loc)
  obtain ⟨b0, sb, hb⟩ := w
  obtain ⟨g0, g1, g2, g3, g4, g5⟩ := far
  have ne : C ≠ b0 := hb.elim (fun z => z ▸ g1) fun z e => g4 nm b0 z e.symm
  exact ⟨m, here.sameBut sb ne, fun s3 sb3 => ⟨_, H1, I2.turned (t' := s2.toks) (fun b o hne e => (sb3.2 b hne).trans e) g0 g1 g3 g4 g5, q⟩⟩
end
end RV
/-! Numbered prices in their order. -/
namespace RV
open PySem L2 TL
/-- a pair's two numbers, where they stand -/
def kH (H : Hp) : V → Int × Int
  | .ref a => match H a with
    | some (.tup [.int x, .int y]) => (x, y)
    | _ => (0, 0)
  | _ => (0, 0)
theorem kH_at {H : Hp} {a : Addr} {x y : Int} (h : H a = some (.tup [.int x, .int y])) : kH H (.ref a) = (x, y) := by
  rw [kH, h]
section
variable {K : PySem.W.Frag} {a : Addr}
/-- the i-th numbered thing -/
def YEn (xs : List V) : Nat → Hp → V → Hp → Prop := fun i H v H' => ∃ (T : Addr) (x : V), v = .ref T ∧ H T = none ∧ H' = upd H T (.tup [.int (i : Nat), x]) ∧ xs[i]? = some x
theorem walk_enumT {xs : List V} : Walk (Iet K a) xs.length (fun H => SqT K H a xs) (YEn xs) := by
  refine ⟨fun i H hi q => ⟨xs, xs[i], q, List.getElem?_eq_getElem hi⟩, fun H q => ⟨xs, q, rfl⟩, fun i H v H' hi q y => ?_⟩
  obtain ⟨T, y, rfl, hT, rfl, hy⟩ := y
  exact ⟨T, y, rfl, hT, rfl, hy xs q⟩
end
theorem srt_ord {fees : List Int} {us : List Addr} {H : Hp} (hl : us.length = fees.length) (hu : ∀ (j : Nat) T, us[j]? = some T → H T = some (.tup [.int (-(fees.getD j 0)), .int (j : Nat)])) {ys : List V}
    (h1 : SrtO.Srtd (ltP (kH H)) ys) (h2 : SrtO.Stb (ltP (kH H)) ys (us.map V.ref)) :
    ∃ L, OrdF fees L ∧ ys.length = L.length ∧ ∀ (j i : Nat), L[j]? = some i → ∃ T, ys[j]? = some (.ref T) ∧ H T = some (.tup [.int (-(fees.getD i 0)), .int (i : Nat)]) := by
  have hy : ∀ y ∈ ys, ∃ (j : Nat) (T : Addr), y = .ref T ∧ H T = some (.tup [.int (-(fees.getD j 0)), .int (j : Nat)]) := fun y my => by
    obtain ⟨T, mT, rfl⟩ := List.mem_map.mp (h2.perm.mem_iff.mp my)
    obtain ⟨j, hj⟩ := List.getElem?_of_mem mT
    exact ⟨j, T, rfl, hu j T hj⟩
  have pm : (ys.map fun v => (kH H v).2.toNat).Perm (List.range fees.length) := by
    refine (h2.perm.map _).trans (List.Perm.of_eq (List.ext_getElem? fun j => ?_))
    rw [List.getElem?_map, List.getElem?_map]
    rcases Nat.lt_or_ge j us.length with h | h
    · rw [List.getElem?_eq_getElem h, List.getElem?_range (by omega)]
      show some (kH H (.ref us[j])).2.toNat = _
      rw [kH_at (hu j _ (List.getElem?_eq_getElem h))]
      rfl
    · rw [List.getElem?_eq_none h, List.getElem?_eq_none (by rw [List.length_range]; omega)]
      rfl
  refine ⟨ys.map fun v => (kH H v).2.toNat, ⟨pm, ?_⟩, (List.length_map ..).symm, fun j i hj => ?_⟩
  · have nd : (ys.map fun v => (kH H v).2.toNat).Pairwise (· ≠ ·) := pm.nodup_iff.mpr List.nodup_range
    rw [List.pairwise_map] at nd ⊢
    refine (h1.and nd).imp_of_mem fun {x y} mx my h => ?_
    obtain ⟨a, ne⟩ := h
    obtain ⟨i, T, rfl, hT⟩ := hy x mx
    obtain ⟨j, S, rfl, hS⟩ := hy y my
    have a := SrtO.lexB_no.mp a
    rw [kH_at hT, kH_at hS] at a ne
    rw [kH_at hT, kH_at hS]
    dsimp only at a ne ⊢
    rw [Int.toNat_natCast, Int.toNat_natCast] at ne ⊢
    omega
  · rw [List.getElem?_map] at hj
    cases e : ys[j]? with
    | none => rw [e] at hj; cases hj
    | some y =>
      rw [e] at hj
      obtain ⟨i', T, rfl, hT⟩ := hy y (List.mem_of_getElem? e)
      have hj : some (kH H (.ref T)).2.toNat = some i := hj
      rw [kH_at hT] at hj
      obtain rfl := Option.some.inj hj
      exact ⟨T, rfl, hT⟩
open PySem.Spec PyProof.Rows in
/-- names of the cheapest pipes -/
abbrev ascS (ys : List Str) : Prop := sortedS ys = true
/-- pipes parted by their prices -/
def barP (ps : List P3) (ms : List M3) (i : Nat) : Bool := decide (onP ms (pN ps i) = [])
def sp_byp (K : PySem.W.Frag) (CN CP CM : Addr) : Sp := fun vs H Q _ => ∃ (x t : Addr) (ps : List P3) (ms : List M3) (fees : List Int), vs = [.ref x, .ref t] ∧ NetR K CN CP CM H x ps ms ∧ SqT K H t (fees.map V.int) ∧ fees.length = ps.length ∧ ps.length ≤ 12 ∧ ms.length ≤ 12 ∧
  ∀ (tt lk lc : Addr) (pu : List PU) (L : List Nat) H', Same H H' → OrdF fees L → sn pu = ps → (∀ u ∈ pu, PipeAt CP H' u.1 u.2) → H' tt = some (.tup [.ref lk, .ref lc]) → H' lc = some (.lst ((splitI ps (L.filter (barP ps ms))).2.2.map fun i => .ref (pu.getD i puD).1)) → Q (.ref tt) H'
def sp_cheap (K : PySem.W.Frag) (CN CP CM : Addr) : Sp := fun vs H Q _ => ∃ (x t : Addr) (ps : List P3) (ms : List M3) (fees : List Int), vs = [.ref x, .ref t] ∧ NetR K CN CP CM H x ps ms ∧ SqT K H t (fees.map V.int) ∧ fees.length = ps.length ∧ ps.length ≤ 12 ∧ ms.length ≤ 12 ∧ (∀ f ∈ fees, 0 ≤ f) ∧
  ∀ (d : Addr) (L : List Nat) (ys : List Str) H', Same H H' → OrdF fees L → ys.Perm ((splitI ps (L.filter (barP ps ms))).2.2.map (pN ps)) → ascS ys → H' d = some (.tup (ys.map V.str)) → Q (.ref d) H'
end RV
/-! The cheapest pipes: what is left has no ring, each is wanted, none are cheaper. -/
namespace RV
open PySem L2
section
variable {fees : List Int}
theorem sum_perm : ∀ {xs ys : List Int}, xs.Perm ys → xs.sum = ys.sum := fun h => by
  induction h with
  | nil => rfl
  | cons x _ ih => rw [List.sum_cons, List.sum_cons, ih]
  | swap x y l => rw [List.sum_cons, List.sum_cons, List.sum_cons, List.sum_cons]; omega
  | trans _ _ a b => exact a.trans b
theorem priceF_perm {a b : List Nat} (h : a.Perm b) : priceF fees a = priceF fees b := sum_perm (h.map _)
theorem wS_none (fee : Nat → Int) : ∀ n, wS fee (fun _ => false) n = 0
  | 0 => rfl
  | n + 1 => by rw [wS, wS_none fee n]; rfl
theorem price_wS {n : Nat} : ∀ {o : List Nat}, o.Nodup → (∀ k ∈ o, k < n) → priceF fees o = wS (fun k => fees.getD k 0) (fun k => decide (k ∈ o)) n
  | [], _, _ => by
    rw [wS_congr (q := fun _ => false) fun k _ => decide_eq_false (List.not_mem_nil)]
    rw [wS_none]
    rfl
  | a :: o, nd, hl => by
    obtain ⟨na, nd⟩ := List.nodup_cons.mp nd
    have ih := price_wS (n := n) nd fun k hk => hl k (List.mem_cons_of_mem _ hk)
    have e : wS (fun k => fees.getD k 0) (fun k => decide (k ∈ a :: o)) n = wS (fun k => fees.getD k 0) (setB (fun k => decide (k ∈ o)) a true) n := wS_congr fun k _ => by
      by_cases z : k = a
      · subst z
        rw [setB_same]
        exact decide_eq_true List.mem_cons_self
      · rw [setB_ne _ _ z]
        exact decide_eq_decide.mpr ⟨fun w => (List.mem_cons.mp w).resolve_left z, List.mem_cons_of_mem _⟩
    rw [e, wS_set (hl a List.mem_cons_self), ← ih, if_neg (by simpa using na), if_pos rfl, priceF, priceF, List.map_cons, List.sum_cons]
    omega
end
theorem FoC.is {M : Mod} {a b : List Nat} (h : ∀ k, k ∈ a ↔ k ∈ b) : FoC M a ↔ FoC M b :=
  Fo.is (fun k => by rw [leftS, leftS, h k]) fun _ _ => ⟨rfl, rfl⟩
section
variable {M : Mod} {most more : Nat} {fees : List Int} {L : List Nat}
theorem mps_at {k : Nat} (hk : k < M.qs.length) : pN M.ps k = M.qs[k].1 ∧ pS M.ps k = M.pl.getD (stQ M.qs k) "" ∧ pE M.ps k = M.pl.getD (enQ M.qs k) "" := by
  have e := List.getElem?_eq_getElem hk
  obtain ⟨a, b⟩ := q_at e
  rw [a, b]
  refine pN_at (q := (M.qs[k].1, M.pl.getD M.qs[k].2.1 "", M.pl.getD M.qs[k].2.2 "")) ?_
  rw [Mod.ps, List.getElem?_map, e]
  rfl
theorem barP_iff (h : PlOk M most more) {k : Nat} (hk : k < M.qs.length) : barP M.ps M.ms k = true ↔ k ∉ metL M := by
  rw [barP, decide_eq_true_eq, onP, List.filter_eq_nil_iff, (mps_at hk).1]
  constructor
  · intro f m
    obtain ⟨g, hg, e⟩ := List.mem_map.mp m
    have := f (g.1, (M.qs.getD g.2.1 ("", 0, 0)).1, g.2.2) (List.mem_map.mpr ⟨g, hg, rfl⟩)
    refine this (decide_eq_true ?_)
    show (M.qs.getD g.2.1 ("", 0, 0)).1 = _
    rw [e, getD_lt hk]
  · rintro n m hm e
    obtain ⟨g, hg, rfl⟩ := List.mem_map.mp hm
    have e := of_decide_eq_true e
    have gl := (h.gn g hg).2
    have e : (M.qs.getD g.2.1 ("", 0, 0)).1 = M.qs[k].1 := e
    rw [getD_lt gl] at e
    refine n (List.mem_map.mpr ⟨g, hg, ?_⟩)
    refine (List.getElem_inj (xs := M.qs.map (·.1)) (h₀ := by rw [List.length_map]; exact gl) (h₁ := by rw [List.length_map]; exact hk) h.qd).mp ?_
    rw [List.getElem_map, List.getElem_map]
    exact e
/-- what the pipes that close rings are -/
structure ToldC (M : Mod) (fees : List Int) (C : List Nat) : Prop where
  lt : ∀ c ∈ C, c < M.qs.length ∧ c ∉ metL M
  nd : C.Nodup
  fo : FoC M C
  ne : ∀ c ∈ C, ∀ D : List Nat, (∀ k, k ∈ D ↔ k ∈ C ∧ k ≠ c) → ¬ FoC M D
  le : ∀ o, triedF M ((bareL M).length + 1) o → FoC M o → priceF fees C ≤ priceF fees o
  ex : ∃ o, triedF M ((bareL M).length + 1) o ∧ FoC M o ∧ priceF fees o = priceF fees C
theorem ToldC.of (h : PlOk M most more) (hf : fees.length = M.qs.length) (f0 : ∀ f ∈ fees, 0 ≤ f) (hL : OrdF fees L) : ToldC M fees (splitI M.ps (L.filter (barP M.ps M.ms))).2.2 := by
  have Lm : ∀ i, i ∈ L ↔ i < M.qs.length := fun i => by rw [hL.1.mem_iff, List.mem_range, hf]
  have Lnd : L.Nodup := hL.1.nodup_iff.mpr List.nodup_range
  have Im : ∀ i, i ∈ L.filter (barP M.ps M.ms) ↔ i < M.qs.length ∧ i ∉ metL M := fun i => by
    rw [List.mem_filter, Lm]
    exact ⟨fun z => ⟨z.1, (barP_iff h z.1).mp z.2⟩, fun z => ⟨z.1, (barP_iff h z.1).mpr z.2⟩⟩
  have pt : Parted M.ps (fun k c => fees.getD c 0 ≤ fees.getD k 0) (L.filter (barP M.ps M.ms)) (splitI M.ps (L.filter (barP M.ps M.ms))) :=
    parted (Lnd.sublist List.filter_sublist) (List.Pairwise.sublist List.filter_sublist (hL.2.imp fun {a b} z => by omega))
  generalize splitI M.ps (L.filter (barP M.ps M.ms)) = s at pt
  have Km : ∀ k, k ∈ s.2.1 → k < M.qs.length ∧ k ∉ metL M := fun k hk => (Im k).mp ((pt.mem k).mpr (.inl hk))
  have Cm : ∀ k, k ∈ s.2.2 → k < M.qs.length ∧ k ∉ metL M := fun k hk => (Im k).mp ((pt.mem k).mpr (.inr hk))
  have left : ∀ k, leftS M s.2.2 k ↔ k ∈ s.2.1 := fun k => by
    constructor
    · rintro ⟨a, b, c⟩
      exact ((pt.mem k).mp ((Im k).mpr ⟨a, b⟩)).resolve_right c
    · intro hk
      exact ⟨(Km k hk).1, (Km k hk).2, fun c => (pt.cl k c).1 hk⟩
  have inj : ∀ a b, a < M.pl.length → b < M.pl.length → M.pl.getD a "" = M.pl.getD b "" → a = b := fun a b ha hb e => by
    rw [getD_lt ha, getD_lt hb] at e
    exact (List.getElem_inj h.pd).mp e
  have V : ∀ k, k < M.qs.length → stQ M.qs k < M.pl.length ∧ enQ M.qs k < M.pl.length := fun k hk => by
    obtain ⟨a, b⟩ := q_at (List.getElem?_eq_getElem hk)
    rw [a, b]
    have := h.qn _ (List.getElem_mem hk)
    exact ⟨this.2.1, this.2.2.1⟩
  -- joined by names, joined by numbers
  have low : ∀ {S : Nat → Prop} {c : Nat}, (∀ k, S k → k < M.qs.length) → c < M.qs.length → Cn (pS M.ps) (pE M.ps) S (pS M.ps c) (pE M.ps c) → Cn (stQ M.qs) (enQ M.qs) S (stQ M.qs c) (enQ M.qs c) := fun {S c} hS hc cn => by
    have tr : ∀ {u v}, Cn (pS M.ps) (pE M.ps) S u v → Cn (fun k => M.pl.getD (stQ M.qs k) "") (fun k => M.pl.getD (enQ M.qs k) "") S u v := fun {u v} g => by
      induction g with
      | nil => exact .nil
      | fwd _ o ih =>
        obtain ⟨_, p, q⟩ := mps_at (hS _ o)
        rw [p] at ih
        rw [q]
        exact .fwd ih o
      | bwd _ o ih =>
        obtain ⟨_, p, q⟩ := mps_at (hS _ o)
        rw [q] at ih
        rw [p]
        exact .bwd ih o
    have c1 := tr cn
    obtain ⟨_, p, q⟩ := mps_at hc
    rw [p, q] at c1
    obtain ⟨v1, v2⟩ := V c hc
    obtain ⟨v, hv, e, c2⟩ := Cn.down (V := fun p => p < M.pl.length) (g := fun p => M.pl.getD p "") (fun k hk => V k (hS k hk)) inj v1 c1
    obtain rfl := inj _ _ hv v2 e
    exact c2
  have cj : ∀ c ∈ s.2.2, Cn (stQ M.qs) (enQ M.qs) (fun k => k ∈ s.2.1 ∧ fees.getD c 0 ≤ fees.getD k 0) (stQ M.qs c) (enQ M.qs c) := fun c hc => low (fun k hk => (Km k hk.1).1) (Cm c hc).1 (pt.cl c hc).2
  have foC : FoC M s.2.2 := by
    have f1 : Fo (stQ M.qs) (enQ M.qs) (· ∈ s.2.1) := (Fo.vert (V := fun p => p < M.pl.length) (g := fun p => M.pl.getD p "") (fun k hk => V k (Km k hk).1) inj).mp (by
      intro k hk c
      refine pt.fo k hk ?_
      obtain ⟨_, p, q⟩ := mps_at (Km k hk).1
      rw [p, q]
      have tr : ∀ {u v}, Cn (fun k => M.pl.getD (stQ M.qs k) "") (fun k => M.pl.getD (enQ M.qs k) "") (dropS (· ∈ s.2.1) k) u v → Cn (pS M.ps) (pE M.ps) (dropS (· ∈ s.2.1) k) u v := fun {u v} g => by
        induction g with
        | nil => exact .nil
        | fwd _ o ih =>
          obtain ⟨_, p, q⟩ := mps_at (Km _ o.1).1
          rw [← p] at ih
          rw [← q]
          exact .fwd ih o
        | bwd _ o ih =>
          obtain ⟨_, p, q⟩ := mps_at (Km _ o.1).1
          rw [← q] at ih
          rw [← p]
          exact .bwd ih o
      exact tr c)
    exact f1.mono fun k hk => (left k).mp hk
  have bare : ∀ k, k ∈ bareL M ↔ k ∈ s.2.1 ∨ k ∈ s.2.2 := fun k => by rw [bareL_mem, ← Im, pt.mem]
  have bnd : (bareL M).Nodup := (bareL_asc M).imp fun {a b} z => by omega
  have fee0 : ∀ k, k < M.qs.length → 0 ≤ fees.getD k 0 := fun k hk => by
    rw [getD_lt (by omega)]
    exact f0 _ (List.getElem_mem _)
  refine ⟨Cm, pt.nd, foC, fun c hc D hD fo => ?_, fun o ho fo => ?_, (bareL M).filter (fun k => decide (k ∈ s.2.2)), ?_, ?_, ?_⟩
  · refine fo c ⟨(Cm c hc).1, (Cm c hc).2, fun z => ((hD c).mp z).2 rfl⟩ ((cj c hc).mono fun k hk => ⟨⟨(Km k hk.1).1, (Km k hk.1).2, fun z => ?_⟩, ?_⟩)
    · exact (pt.cl k ((hD k).mp z).1).1 hk.1
    · rintro rfl
      exact (pt.cl k hc).1 hk.1
  · obtain ⟨z, _, ho, _⟩ := ho
    obtain ⟨p, rfl⟩ := setsF_sub bnd o ho
    have om : ∀ k ∈ (bareL M).filter p, k ∈ bareL M := fun k hk => (List.mem_filter.mp hk).1
    have bl : ∀ k ∈ bareL M, k < M.qs.length := fun k hk => (bareL_mem.mp hk).1
    rw [price_wS (n := M.qs.length) pt.nd fun c hc => (Cm c hc).1, price_wS (n := M.qs.length) (bnd.sublist List.filter_sublist) fun c hc => bl c (om c hc)]
    have hv := heaviest (st := stQ M.qs) (en := enQ M.qs) (fee := fun k => fees.getD k 0) (n := M.qs.length) (K := fun k => decide (k ∈ bareL M) && !decide (k ∈ s.2.2)) (B := fun k => decide (k ∈ bareL M)) fee0 (fun k hk => by
        rw [Bool.and_eq_true] at hk
        exact hk.1) (fun f hf hB hK => ?_) _ (fun k => decide (k ∈ bareL M) && !decide (k ∈ (bareL M).filter p)) rfl (fun k hk => ?_) (fo.mono fun k hk => ?_)
    · rw [wS_sub (p := fun k => decide (k ∈ bareL M)) (q := fun k => decide (k ∈ s.2.2)) (fun k _ hk => decide_eq_true ((bare k).mpr (.inr (of_decide_eq_true hk)))),
        wS_sub (p := fun k => decide (k ∈ bareL M)) (q := fun k => decide (k ∈ (bareL M).filter p)) (fun k _ hk => decide_eq_true (om k (of_decide_eq_true hk)))] at hv
      omega
    · have hC : f ∈ s.2.2 := by
        have hB := of_decide_eq_true hB
        by_cases z : f ∈ s.2.2
        · exact z
        · rw [decide_eq_true hB, decide_eq_false z] at hK
          cases hK
      refine (cj f hC).mono fun k hk => ⟨(Km k hk.1).1, ?_, hk.2⟩
      have : k ∉ s.2.2 := fun c => (pt.cl k c).1 hk.1
      rw [decide_eq_true ((bare k).mpr (.inl hk.1)), decide_eq_false this]
      rfl
    · rw [Bool.and_eq_true] at hk
      exact ⟨bl k (of_decide_eq_true hk.1), hk.1⟩
    · rw [Bool.and_eq_true, Bool.not_eq_true', decide_eq_true_eq, decide_eq_false_iff_not, bareL_mem] at hk
      exact ⟨hk.1.1, hk.1.2, hk.2⟩
  · refine ⟨_, ?_, setsF_all _ (Nat.le_refl _), rfl⟩
    exact Nat.lt_succ_of_le (List.length_filter_le _ _)
  · refine (FoC.is fun k => ?_).mp foC
    rw [List.mem_filter, decide_eq_true_eq]
    exact ⟨fun z => ⟨(bare k).mpr (.inr z), z⟩, fun z => z.2⟩
  · have bl : ∀ k ∈ bareL M, k < M.qs.length := fun k hk => (bareL_mem.mp hk).1
    rw [price_wS (n := M.qs.length) pt.nd fun c hc => (Cm c hc).1, price_wS (n := M.qs.length) (bnd.sublist List.filter_sublist) fun c hc => bl c (List.mem_filter.mp hc).1]
    refine wS_congr fun k _ => decide_eq_decide.mpr ?_
    rw [List.mem_filter, decide_eq_true_eq]
    exact ⟨fun z => z.2, fun z => ⟨(bare k).mpr (.inr z), z⟩⟩
end
end RV
set_option linter.all false
/-! set(tuple of texts). -/
namespace RV
open PySem L2 PySem.Spec PyProof.Rows
section
variable {P : Program} {w : World} {A : Around} {E : Value → Shared → Prop} {s : Shared}
set_option maxHeartbeats 8000000 in
/-- set(xs), xs a tuple of texts -/
theorem set_of_strsT {l : Addr} {items : Array Value} (xs : List Str) {Q : Value → Shared → Prop} (hh : A.handled = none) (hl : s.heap.IsTuple l items) (hit : StrsAre items.toList xs) (room : xs.length + 1 < scanBound)
    (h : ∀ (h' : Heap) (tk c : Nat), SetS P w h' s.heap.objs.size (fun x => decide (x ∈ xs)) c → c ≤ xs.length → (∀ b o, s.heap.get? b = some o → h'.get? b = some o) → Q (.ref s.heap.objs.size) { s with heap := h', toks := tk }) :
    wpAny (model P w) A (call (.type "set") [.ref l]) Q E s := by
  have hlen : items.size = xs.length := by rw [← Array.length_toList]; exact hit.len_eq
  obtain ⟨c, tl, hmro⟩ := F.called_set.mro
  have hmade := F.called_set.made
  have hsub := F.called_set.sub
  refine wpAny_call (codeAny_of_tree ?_)
  show wpAny _ _ (callAny (.type "set") _) _ _ _
  refine wpAny_pure ⟨Code.quiet_builtin _ (by decide +kernel), codeAny_builtin F.entry_type_call ?_⟩
  rw [Around.under_plain (weight_type_call_type "set" [.ref l] []) rfl]
  have n1 := F.called_set.notType
  have n2 := F.called_set.canCreate
  have n3 := F.typeCall_set_1 (.ref l)
  repeat (any_goals (first | assumption | wp_step))
  refine codeAny_mono (code_set_led1 (.ref l) (E := E) (Q₁ := fun obj s₁ => obj = .ref s.heap.objs.size ∧ s₁ = { s with heap := s.heap.push (emptySet w) }) ⟨rfl, rfl⟩) fun r s₁ hr => ?_
  cases r with
  | error e => exact hr
  | ok fl =>
    cases fl with
    | ret obj =>
      obtain ⟨rfl, rfl⟩ := hr
      have hS : (s.heap.push (emptySet w)).get? s.heap.objs.size = some (emptySet w) := Heap.get?_push_size _ rfl
      have hT : Shared.TypeIs { s with heap := s.heap.push (emptySet w) } (.ref s.heap.objs.size) "set" := ⟨_, hS, rfl⟩
      have hli := F.called_set.init.lookup
      have hbi := F.called_set.init.bind (.ref s.heap.objs.size)
      repeat (any_goals (first | assumption | wp_step))
      refine codeAny_mono (codeAny_call_builtin (R := wants (fun r s₂ => r = .none ∧ ∃ h' tk c, s₂ = { s with heap := h', toks := tk } ∧ SetS P w h' s.heap.objs.size (fun x => decide (x ∈ xs)) c ∧ c ≤ xs.length ∧
          (∀ b o, s.heap.get? b = some o → h'.get? b = some o)) E) F.called_set.init.plain F.entry_set_init (check_set_init_1 hT ?_)) fun r₂ s₂ hr₂ => ?_
      · obtain ⟨ol, hol, hcl, nl, hdl⟩ := hl
        obtain ⟨ocls, odict, odata, oslots⟩ := ol
        simp only at hcl hdl
        subst hcl; subst hdl
        have hol' : (s.heap.push (emptySet w)).get? l = some { cls := .type "tuple", dict := odict, data := .seq items nl, slots := oslots } := Heap.get?_push_of_some _ hol
        have u1 := F.sub_tuple_set
        have u2 := F.sub_tuple_frozenset
        have u3 : (Value.type "tuple" == Value.type "dict") = false := by decide
        have hl1 : (s.heap.push (emptySet w)).IsTuple l items := ⟨_, hol', rfl, nl, rfl⟩
        unfold Builtin.«set.__init__» noKeywords Builtin.Frozenset.updateFrom
        generalize hPI : pyIter = PI
        wp_walk
        subst hPI
        refine wpAny_pyIter_tuple hl1 (wpAny_bind (wpAny_runValue ?_))
        have hlS : l < s.heap.objs.size := Heap.lt_size hol
        have off : s.heap.objs.size ∉ [(s.heap.push (emptySet w)).objs.size, l] := by
          rw [Heap.size_push]
          simp only [List.mem_cons, List.mem_singleton, List.not_mem_nil, or_false, not_or]
          exact ⟨Nat.ne_of_lt (Nat.lt_succ_self _), Nat.ne_of_gt hlS⟩
        have nI : l ≠ (s.heap.push (emptySet w)).objs.size := by
          rw [Heap.size_push]
          exact Nat.ne_of_lt (Nat.lt_succ_of_lt hlS)
        have h3 : A.in1.in1.in1.handled = none := by simp [hh]
        refine fill_loop ((Walks.tuple h3 _ l nI items).toS) s.heap.objs.size off xs hlen room (fun i v hv => ?_) (items.size - 0) 0 _ (by omega) (Nat.zero_le _)
          ⟨⟨_, Heap.get?_push_size _ rfl, rfl, rfl⟩, (hl1.push _)⟩ ⟨0, Nat.le_refl _, ?_⟩ fun s' c m hc x => ?_
        · have q : items.toList[i]? = some v := by rw [Array.getElem?_toList]; exact hv
          obtain ⟨t, e⟩ := SS.strs_at hit i v q
          have hi : i < xs.length := by
            have := (List.getElem?_eq_some_iff.mp q).1
            rw [hit.len_eq] at this
            exact this
          refine ⟨_, t, List.getElem?_eq_getElem hi, ?_⟩
          rw [e, List.getD_eq_getElem?_getD, List.getElem?_eq_getElem hi]
          rfl
        · refine (SetX.fresh (knd := PySem.strKind P w) ?_).congr fun k => by simp
          exact Heap.get?_push_of_some _ hS
        · obtain ⟨h', g2, d', tk', os'⟩ := s'
          obtain rfl : g2 = s.gens := m.gens
          obtain rfl : d' = s.drawn := m.drawn
          obtain rfl : os' = s.os := m.os
          show wpAny _ _ _ _ _ _
          refine wpAny_pure ?_
          show wpAny _ _ (ret Value.none) _ _ _
          refine wpAny_pure ⟨rfl, h', tk', c, rfl, x, by omega, fun b o e => ?_⟩
          have hb : b < s.heap.objs.size := Heap.lt_size e
          refine m.heap b o ?_ (Heap.get?_push_of_some _ (Heap.get?_push_of_some _ e))
          rw [Heap.size_push]
          simp only [List.mem_cons, List.mem_singleton, List.not_mem_nil, or_false, not_or]
          exact ⟨Nat.ne_of_lt hb, Nat.ne_of_lt (Nat.lt_succ_of_lt hb)⟩
      · cases r₂ with
        | error e => exact hr₂
        | ok fl₂ =>
          cases fl₂ with
          | ret r =>
            obtain ⟨rfl, h', tk, c, rfl, x, hc, hk⟩ := hr₂
            repeat (any_goals (first | assumption | wp_step))
            exact h _ _ _ x hc hk
          | _ => exact hr₂.elim
    | _ => exact hr.elim
end
section
variable {X : Cx}
def rSetST (K : PySem.W.Frag) (P : Program) (w : World) : List V → Hp → VK → Prop := fun vs H Q => ∃ (l : Addr) (xs : List Str), vs = [V.ref l] ∧ SqT K H l (xs.map V.str) ∧ xs.length < 4000 ∧
  ∀ a n, H a = none → n ≤ xs.length → Q (.ref a) (upd H a (SetT P w a (fun x => decide (x ∈ xs)) n))
theorem cr_setST (hc : X.calm = true) : CallR X (.type "set") (rSetST X.K X.prog X.w) := by
  intro pins s σ H vs us Q I r h
  obtain ⟨l, xs, rfl, hl, hf, q⟩ := h
  rw [Vals.ref1 r]
  obtain ⟨its, rv, pl, hz⟩ := I.tuple hl
  have hn : H s.heap.objs.size = none := I.hok.fresh (Nat.le_refl _)
  refine set_of_strsT (P := X.prog) (w := X.w) xs (I.ok.hd hc) (show s.heap.IsTuple l its.toArray from pl) (by simpa using strsAre_vals rv) (by unfold scanBound; omega) fun h' tk c R hcl k => ?_
  exact ⟨.ref s.heap.objs.size, upd H s.heap.objs.size (SetT X.prog X.w s.heap.objs.size _ c), I.laid (t' := tk) k (Nat.le_refl _) (setT_new R), rfl, q _ c hn hcl⟩
end
end RV
/-! What _law_right looks at. -/
namespace RV
open PySem L2
theorem eqv_lS (xs : List Str) : PyData.eqv (.list (xs.map PyData.str)) (.list (xs.map PyData.str)) = true := by rw [PyData.eqv, eqv_strs]
/-- one told row: names of pipes in order, of the pipes C -/
def ToldR (M : Mod) (fees : List Int) (ys : List Str) : Prop := ∃ C, ToldC M fees C ∧ ys.Perm (C.map (pN M.ps)) ∧ ascS ys
theorem perm_back {α β : Type} [DecidableEq α] {f : α → β} : ∀ {ys : List β} {C : List α}, ys.Perm (C.map f) → ∃ S : List α, S.Perm C ∧ ys = S.map f
  | [], C, h => by
    have := h.symm.eq_nil
    rw [List.map_eq_nil_iff] at this
    exact ⟨[], by rw [this], rfl⟩
  | y :: ys, C, h => by
    obtain ⟨c, hc, rfl⟩ := List.mem_map.mp (h.mem_iff.mp List.mem_cons_self)
    have p := List.perm_cons_erase hc
    have h2 : (f c :: ys).Perm (f c :: (C.erase c).map f) := h.trans (p.map f)
    obtain ⟨S, hS, rfl⟩ := perm_back h2.cons_inv
    exact ⟨c :: S, (hS.cons c).trans p.symm, rfl⟩
section
variable {M : Mod} {most more : Nat} {fees : List Int} {ys : List Str}
/-- all that is asked of a told row -/
theorem ToldR.all (h : PlOk M most more) (t : ToldR M fees ys) : ∃ S, ys = S.map (pN M.ps) ∧ ToldC M fees S ∧ ys.Nodup := by
  obtain ⟨C, hc, pm, _⟩ := t
  obtain ⟨S, pS, rfl⟩ := perm_back pm
  have lt : ∀ c ∈ S, c < M.qs.length ∧ c ∉ metL M := fun c hm => hc.lt c (pS.mem_iff.mp hm)
  have nd : S.Nodup := pS.nodup_iff.mpr hc.nd
  refine ⟨S, rfl, ⟨lt, nd, (FoC.is fun k => pS.mem_iff).mpr hc.fo, fun c hm D hD => hc.ne c (pS.mem_iff.mp hm) D fun k => by rw [hD, pS.mem_iff], fun o ho fo => ?_, ?_⟩, ?_⟩
  · rw [priceF_perm pS]
    exact hc.le o ho fo
  · obtain ⟨o, ho, fo, e⟩ := hc.ex
    exact ⟨o, ho, fo, by rw [e, priceF_perm pS]⟩
  · have pd : (M.ps.map (·.1)).Nodup := by rw [Mod.names]; exact h.qd
    have len : M.ps.length = M.qs.length := by rw [Mod.ps, List.length_map]
    have aux : ∀ S : List Nat, S.Nodup → (∀ c ∈ S, c < M.qs.length) → (S.map (pN M.ps)).Nodup := fun S => by
      induction S with
      | nil => exact fun _ _ => .nil
      | cons c S ih =>
        intro nd hl
        obtain ⟨a, b⟩ := List.nodup_cons.mp nd
        rw [List.map_cons, List.nodup_cons]
        refine ⟨fun m => ?_, ih b fun k hk => hl k (List.mem_cons_of_mem _ hk)⟩
        obtain ⟨k, hk, e⟩ := List.mem_map.mp m
        have := pN_inj pd (by rw [len]; exact hl k (List.mem_cons_of_mem _ hk)) (by rw [len]; exact hl c List.mem_cons_self) e
        rw [this] at hk
        exact a hk
    exact aux S nd fun c hm => (lt c hm).1
theorem ToldR.uniq (t : ToldR M fees ys) (nd : ys.Nodup) {xs : List Str} (a : ascS xs) (n : xs.Nodup) (m : ∀ k, k ∈ xs ↔ k ∈ ys) : xs = ys :=
  asc_uniq Lt.irr Lt.tr (asc_of a n) (asc_of t.choose_spec.2.2 nd) m
theorem qnames (M : Mod) {k : Nat} (hk : k < M.qs.length) : (M.qs.map (·.1))[k]? = some (pN M.ps k) := by
  rw [List.getElem?_map, List.getElem?_eq_getElem hk, (mps_at hk).1]
  rfl
end
end RV
/-! The law's own nets. -/
namespace RV
open PySem L2
def psA : List P3 := [("src", "o", "a"), ("left", "a", "b"), ("right", "a", "c"), ("lout", "b", "o"), ("rout", "c", "o")]
def msB : List M3 := [("m", "src", true)]
def psC : List P3 := [("p", "a", "b")]
def psD : List P3 := [("p", "a", "b"), ("q", "b", "a")]
def msE : List M3 := [("m", "q", false)]
theorem po_A : POk psA := ⟨by decide, by decide, by
  show ∀ p ∈ psA, isNm p.1.cps.toList = true ∧ isNm p.2.1.cps.toList = true ∧ isNm p.2.2.cps.toList = true ∧ p.2.2 ≠ p.2.1
  decide +kernel, by decide +kernel⟩
theorem po_C : POk psC := ⟨by decide, by decide, by
  show ∀ p ∈ psC, isNm p.1.cps.toList = true ∧ isNm p.2.1.cps.toList = true ∧ isNm p.2.2.cps.toList = true ∧ p.2.2 ≠ p.2.1
  decide +kernel, by decide +kernel⟩
theorem po_D : POk psD := ⟨by decide, by decide, by
  show ∀ p ∈ psD, isNm p.1.cps.toList = true ∧ isNm p.2.1.cps.toList = true ∧ isNm p.2.2.cps.toList = true ∧ p.2.2 ≠ p.2.1
  decide +kernel, by decide +kernel⟩
theorem mo_0 (ps : List P3) : MOk ps [] := ⟨by decide, (fun _ h => nomatch h), .nil, fun _ h => nomatch h⟩
theorem mo_B : MOk psA msB := ⟨by decide, by
  show ∀ p ∈ msB, isNm p.1.cps.toList = true ∧ isNm p.2.1.cps.toList = true
  decide +kernel, by decide +kernel, by decide +kernel⟩
theorem mo_E : MOk psD msE := ⟨by decide, by
  show ∀ p ∈ msE, isNm p.1.cps.toList = true ∧ isNm p.2.1.cps.toList = true
  decide +kernel, by decide +kernel, by decide +kernel⟩
abbrev txA : Str := "pipe src o a\npipe left a b\npipe right a c\npipe lout b o\npipe rout c o"
abbrev txm : Str := "\nmeter m src sealed"
abbrev txC : Str := "pipe p a b"
abbrev txD : Str := "pipe p a b\npipe q b a"
abbrev txE : Str := "pipe p a b\npipe q b a\nmeter m q"
theorem tx_A : txA = netT psA [] := by decide +kernel
theorem tx_B : txA ++ txm = netT psA msB := by decide +kernel
theorem tx_C : txC = netT psC [] := by decide +kernel
theorem tx_D : txD = netT psD [] := by decide +kernel
theorem tx_E : txE = netT psD msE := by decide +kernel
theorem out_of {ps : List P3} {ms : List M3} {fees : List Int} {L Lc C : List Nat} {ys ns : List Str} (hc : OrdF fees Lc) (hC : (splitI ps (Lc.filter (barP ps ms))).2.2 = C) (hn : ns.Perm (C.map (pN ps))) (as : ascS ns) (nd : ns.Nodup)
    (hL : OrdF fees L) (hp : ys.Perm ((splitI ps (L.filter (barP ps ms))).2.2.map (pN ps))) (ay : ascS ys) : ys = ns := by
  obtain rfl := hc.uniq hL
  rw [hC] at hp
  have h := hp.trans hn.symm
  exact asc_uniq Lt.irr Lt.tr (asc_of ay (h.nodup_iff.mpr nd)) (asc_of as nd) fun k => h.mem_iff
section
variable {L : List Nat} {ys : List Str}
theorem out_A (hL : OrdF [5, 2, 2, 1, 3] L) (hp : ys.Perm ((splitI psA (L.filter (barP psA []))).2.2.map (pN psA))) (ay : ascS ys) : ys = ([("lout" : Str), ("right" : Str)] : List Str) :=
  out_of (Lc := [0, 4, 1, 2, 3]) (C := [2, 3]) ⟨by decide +kernel, by decide +kernel⟩ (by decide +kernel) (by decide +kernel) (by decide +kernel) (by decide +kernel) hL hp ay
theorem out_B (hL : OrdF [9, 1, 2, 3, 4] L) (hp : ys.Perm ((splitI psA (L.filter (barP psA msB))).2.2.map (pN psA))) (ay : ascS ys) : ys = ([("left" : Str)] : List Str) :=
  out_of (Lc := [0, 4, 3, 2, 1]) (C := [1]) ⟨by decide +kernel, by decide +kernel⟩ (by decide +kernel) (by decide +kernel) (by decide +kernel) (by decide +kernel) hL hp ay
theorem out_C (hL : OrdF [0] L) (hp : ys.Perm ((splitI psC (L.filter (barP psC []))).2.2.map (pN psC))) (ay : ascS ys) : ys = [] :=
  out_of (Lc := [0]) (C := []) ⟨by decide +kernel, by decide +kernel⟩ (by decide +kernel) (by decide +kernel) (by decide +kernel) (by decide +kernel) hL hp ay
theorem out_D (hL : OrdF [0, 7] L) (hp : ys.Perm ((splitI psD (L.filter (barP psD []))).2.2.map (pN psD))) (ay : ascS ys) : ys = ([("p" : Str)] : List Str) :=
  out_of (Lc := [1, 0]) (C := [0]) ⟨by decide +kernel, by decide +kernel⟩ (by decide +kernel) (by decide +kernel) (by decide +kernel) (by decide +kernel) hL hp ay
theorem out_E (hL : OrdF [4, 7] L) (hp : ys.Perm ((splitI psD (L.filter (barP psD msE))).2.2.map (pN psD))) (ay : ascS ys) : ys = [] :=
  out_of (Lc := [1, 0]) (C := []) ⟨by decide +kernel, by decide +kernel⟩ (by decide +kernel) (by decide +kernel) (by decide +kernel) (by decide +kernel) hL hp ay
end
/-! ### told rows as data -/
def dT (xs : List Str) : PyData := .tuple (xs.map PyData.str)
theorem shw_dT {xs : List Str} (h : ∀ x ∈ xs, IsNm x) (l : xs.length ≤ 2) : Shw (dT xs) 1 400 := (shw_tuple (n := 0) (k := 100) fun d hd => by
  obtain ⟨x, hx, rfl⟩ := List.mem_map.mp hd
  exact (short_nm (h x hx)).shw : Shw (dT xs) (0 + 1) _).mono (by decide) (by rw [List.length_map]; omega)
def tl5 : PyData := .list [dT [("lout" : Str), ("right" : Str)], dT [("left" : Str)], dT [], dT [("p" : Str)], dT []]
theorem shw_tl5 : Shw tl5 60 10000 := (shw_list (n := 1) (k := 400) fun d hd => by
  simp only [List.mem_cons, List.not_mem_nil, or_false] at hd
  rcases hd with rfl | rfl | rfl | rfl | rfl
  · refine shw_dT (fun x hx => ?_) (by decide)
    simp only [List.mem_cons, List.not_mem_nil, or_false] at hx
    rcases hx with rfl | rfl
    · show isNm _ = true
      decide +kernel
    · show isNm _ = true
      decide +kernel
  · refine shw_dT (fun x hx => ?_) (by decide)
    obtain rfl := List.mem_singleton.mp hx
    show isNm _ = true
    decide +kernel
  · exact shw_dT (fun _ h => nomatch h) (by decide)
  · refine shw_dT (fun x hx => ?_) (by decide)
    obtain rfl := List.mem_singleton.mp hx
    show isNm _ = true
    decide +kernel
  · exact shw_dT (fun _ h => nomatch h) (by decide) : Shw tl5 (1 + 1) _).mono (by decide) (by simp)
theorem Cel.addF {H0 H : Hp} {F : List (Addr × HO)} {p : Addr} {o : HO} (h : Cel H0 [] F H) (e : H p = some o) : Cel H0 [] ((p, o) :: F) H :=
  ⟨h.sm, h.m, h.md, fun q hq => by
    rcases List.mem_cons.mp hq with rfl | hq
    · exact ⟨e, fun _ h => nomatch h⟩
    · exact h.f q hq⟩
theorem cheap_step {K : PySem.W.Frag} {CN CP CM : Addr} {H0 H : Hp} {F : List (Addr × HO)} {fees : List Int} {ps : List P3} {ms : List M3} {x t : Addr} {ns : List Str} {Q : VK} {E : XK} (c : Cel H0 [] F H) (nr : NetR K CN CP CM H x ps ms) (nt : H t = none) (fl : fees.length = ps.length) (p12 : ps.length ≤ 12) (m12 : ms.length ≤ 12) (f0 : ∀ f ∈ fees, 0 ≤ f)
    (out : ∀ L ys, OrdF fees L → ys.Perm ((splitI ps (L.filter (barP ps ms))).2.2.map (pN ps)) → ascS ys → ys = ns) (k : ∀ d H', Cel H0 [] ((d, .tup (ns.map V.str)) :: F) H' → Q (.ref d) H') : Irr (sp_cheap K CN CP CM) [.ref x, .ref t] (upd H t (.tup (fees.map V.int))) Q E := by
  have s1 : Same H (upd H t (.tup (fees.map V.int))) := fun b o e => (upd_ne (ne_of_none e nt)).trans e
  refine irr ⟨x, t, ps, ms, fees, rfl, nr.ext s1, SqT.of upd_same, fl, p12, m12, f0, fun d L ys H' s hL pm as ed => ?_⟩
  obtain rfl := out L ys hL pm as
  exact k d H' ((c.same (s1.trans s)).addF ed)
end RV
/-! Methods inside comprehensions. -/
namespace RV
open PySem L2 PyProof.Rows TL
theorem pe_bmL {X : Cx} {K : PySem.W.Frag} {T : String} {name : Str} {id : String} {r : V → List V → Hp → VK → Prop} {o e : Expr} {es : List Expr} {to : TE} {t : TA} {apos cpos : Pos} (hK : X.K = K) (pa : PlainAttrs T) (slot : Slot T name id) (hty : typeOf (.builtin id) = pure (.type "method_descriptor")) (hm : MtR X id r) (ho : PE X o to) (ha : PA X (e :: es) t)
    (hbase : attributeBase o name X.env (eval o X.env) = eval o X.env := by rfl)
    (hfew : ((backTo cpos (starEach (e :: es) X.env)).all (fun x => !x.1) && (backToKw cpos (keywordEach [] X.env)).all (fun x => x.1.isSome)
      && decide ((e :: es).length + ([] : List Keyword).length + (if ([] : List Keyword).isEmpty then 0 else 1) < 30)) = true := by rfl)
    (hline : (apos.endLine == cpos.line) = true := by rfl) (hs : starEach (e :: es) X.env = (false, eval e X.env) :: starEach es X.env := by rfl) (hplain : (backTo cpos (starEach es X.env)).any (·.1) = false := by rfl) :
    PE X (.Call (.Attribute o name apos) (e :: es) [] cpos) (tBM K T r to t) := by
  subst hK
  exact pe_bm pa slot hty hm ho ha hbase hfew hline hs hplain
end RV
namespace RV
open PySem L2
def top (i : Nat) : Stmt := PySem.Challenge.pw_ringvotes_k61_whole_cheapest_pipes.main.body.getD i (.Pass ⟨0, 0, 0, 0⟩)
abbrev s_is_number : Stmt := top 4
abbrev sc_is_number_N : List Str := ["value"]
theorem sc_is_number : FnScope sc_is_number_N ["value"] (defScope s_is_number) := ⟨rfl, rfl, rfl, by decide +kernel, rfl, by decide +kernel, by decide +kernel⟩
abbrev s_is_name : Stmt := top 5
abbrev sc_is_name_N : List Str := ["value", "letter"]
theorem sc_is_name : FnScope sc_is_name_N ["value"] (defScope s_is_name) := ⟨rfl, rfl, rfl, by decide +kernel, rfl, by decide +kernel, by decide +kernel⟩
abbrev s_Pipe___init__ : Stmt := inClass (top 22) 0
abbrev sc_Pipe___init___N : List Str := ["self", "name", "start", "end"]
theorem sc_Pipe___init__ : FnScope sc_Pipe___init___N ["self", "name", "start", "end"] (defScope s_Pipe___init__) := ⟨rfl, rfl, rfl, by decide +kernel, rfl, by decide +kernel, by decide +kernel⟩
abbrev s_Pipe_name : Stmt := inClass (top 22) 1
abbrev sc_Pipe_name_N : List Str := ["self"]
theorem sc_Pipe_name : FnScope sc_Pipe_name_N ["self"] (defScope s_Pipe_name) := ⟨rfl, rfl, rfl, by decide +kernel, rfl, by decide +kernel, by decide +kernel⟩
abbrev s_Pipe_start : Stmt := inClass (top 22) 2
abbrev sc_Pipe_start_N : List Str := ["self"]
theorem sc_Pipe_start : FnScope sc_Pipe_start_N ["self"] (defScope s_Pipe_start) := ⟨rfl, rfl, rfl, by decide +kernel, rfl, by decide +kernel, by decide +kernel⟩
abbrev s_Pipe_end : Stmt := inClass (top 22) 3
abbrev sc_Pipe_end_N : List Str := ["self"]
theorem sc_Pipe_end : FnScope sc_Pipe_end_N ["self"] (defScope s_Pipe_end) := ⟨rfl, rfl, rfl, by decide +kernel, rfl, by decide +kernel, by decide +kernel⟩
abbrev s_Pipe___eq__ : Stmt := inClass (top 22) 4
abbrev sc_Pipe___eq___N : List Str := ["self", "other"]
theorem sc_Pipe___eq__ : FnScope sc_Pipe___eq___N ["self", "other"] (defScope s_Pipe___eq__) := ⟨rfl, rfl, rfl, by decide +kernel, rfl, by decide +kernel, by decide +kernel⟩
abbrev s_Meter___init__ : Stmt := inClass (top 23) 0
abbrev sc_Meter___init___N : List Str := ["self", "name", "at", "sealed"]
theorem sc_Meter___init__ : FnScope sc_Meter___init___N ["self", "name", "at", "sealed"] (defScope s_Meter___init__) := ⟨rfl, rfl, rfl, by decide +kernel, rfl, by decide +kernel, by decide +kernel⟩
abbrev s_Meter_name : Stmt := inClass (top 23) 1
abbrev sc_Meter_name_N : List Str := ["self"]
theorem sc_Meter_name : FnScope sc_Meter_name_N ["self"] (defScope s_Meter_name) := ⟨rfl, rfl, rfl, by decide +kernel, rfl, by decide +kernel, by decide +kernel⟩
abbrev s_Meter_at : Stmt := inClass (top 23) 2
abbrev sc_Meter_at_N : List Str := ["self"]
theorem sc_Meter_at : FnScope sc_Meter_at_N ["self"] (defScope s_Meter_at) := ⟨rfl, rfl, rfl, by decide +kernel, rfl, by decide +kernel, by decide +kernel⟩
abbrev s_Meter_sealed : Stmt := inClass (top 23) 3
abbrev sc_Meter_sealed_N : List Str := ["self"]
theorem sc_Meter_sealed : FnScope sc_Meter_sealed_N ["self"] (defScope s_Meter_sealed) := ⟨rfl, rfl, rfl, by decide +kernel, rfl, by decide +kernel, by decide +kernel⟩
abbrev s_Meter___eq__ : Stmt := inClass (top 23) 4
abbrev sc_Meter___eq___N : List Str := ["self", "other"]
theorem sc_Meter___eq__ : FnScope sc_Meter___eq___N ["self", "other"] (defScope s_Meter___eq__) := ⟨rfl, rfl, rfl, by decide +kernel, rfl, by decide +kernel, by decide +kernel⟩
abbrev s_Net___init__ : Stmt := inClass (top 24) 0
abbrev sc_Net___init___N : List Str := ["self", "pipes", "meters"]
theorem sc_Net___init__ : FnScope sc_Net___init___N ["self", "pipes", "meters"] (defScope s_Net___init__) := ⟨rfl, rfl, rfl, by decide +kernel, rfl, by decide +kernel, by decide +kernel⟩
abbrev s_Net_read : Stmt := inClass (top 24) 1
abbrev sc_Net_read_N : List Str := ["cls", "text", "net"]
theorem sc_Net_read : FnScope sc_Net_read_N ["cls", "text"] (defScope s_Net_read) := ⟨rfl, rfl, rfl, by decide +kernel, rfl, by decide +kernel, by decide +kernel⟩
abbrev s_Net_pipes : Stmt := inClass (top 24) 2
abbrev sc_Net_pipes_N : List Str := ["self"]
theorem sc_Net_pipes : FnScope sc_Net_pipes_N ["self"] (defScope s_Net_pipes) := ⟨rfl, rfl, rfl, by decide +kernel, rfl, by decide +kernel, by decide +kernel⟩
abbrev s_Net_meters : Stmt := inClass (top 24) 3
abbrev sc_Net_meters_N : List Str := ["self"]
theorem sc_Net_meters : FnScope sc_Net_meters_N ["self"] (defScope s_Net_meters) := ⟨rfl, rfl, rfl, by decide +kernel, rfl, by decide +kernel, by decide +kernel⟩
abbrev s_Net_places : Stmt := inClass (top 24) 4
abbrev sc_Net_places_N : List Str := ["self", "part", "place"]
theorem sc_Net_places : FnScope sc_Net_places_N ["self"] (defScope s_Net_places) := ⟨rfl, rfl, rfl, by decide +kernel, rfl, by decide +kernel, by decide +kernel⟩
abbrev s_Net_pipe : Stmt := inClass (top 24) 5
abbrev sc_Net_pipe_N : List Str := ["self", "name", "index"]
abbrev s_Net_meter : Stmt := inClass (top 24) 6
abbrev sc_Net_meter_N : List Str := ["self", "name", "index"]
abbrev s_Net___add__ : Stmt := inClass (top 24) 7
abbrev sc_Net___add___N : List Str := ["self", "other", "index"]
abbrev s_Net___sub__ : Stmt := inClass (top 24) 8
abbrev sc_Net___sub___N : List Str := ["self", "other", "index"]
abbrev s_Net___contains__ : Stmt := inClass (top 24) 9
abbrev sc_Net___contains___N : List Str := ["self", "x"]
abbrev s_Net___len__ : Stmt := inClass (top 24) 10
abbrev sc_Net___len___N : List Str := ["self"]
theorem sc_Net___len__ : FnScope sc_Net___len___N ["self"] (defScope s_Net___len__) := ⟨rfl, rfl, rfl, by decide +kernel, rfl, by decide +kernel, by decide +kernel⟩
abbrev s_Net___str__ : Stmt := inClass (top 24) 11
abbrev sc_Net___str___N : List Str := ["self"]
theorem sc_Net___str__ : FnScope sc_Net___str___N ["self"] (defScope s_Net___str__) := ⟨rfl, rfl, rfl, by decide +kernel, rfl, by decide +kernel, by decide +kernel⟩
abbrev s_Net___repr__ : Stmt := inClass (top 24) 12
abbrev sc_Net___repr___N : List Str := ["self"]
abbrev s_Net___eq__ : Stmt := inClass (top 24) 13
abbrev sc_Net___eq___N : List Str := ["self", "other"]
theorem sc_Net___eq__ : FnScope sc_Net___eq___N ["self", "other"] (defScope s_Net___eq__) := ⟨rfl, rfl, rfl, by decide +kernel, rfl, by decide +kernel, by decide +kernel⟩
abbrev s_check_names : Stmt := top 25
abbrev sc_check_names_N : List Str := ["values", "value"]
theorem sc_check_names : FnScope sc_check_names_N ["values"] (defScope s_check_names) := ⟨rfl, rfl, rfl, by decide +kernel, rfl, by decide +kernel, by decide +kernel⟩
abbrev s_check_pipes : Stmt := top 26
abbrev sc_check_pipes_N : List Str := ["pipes", "names", "index", "part"]
theorem sc_check_pipes : FnScope sc_check_pipes_N ["pipes"] (defScope s_check_pipes) := ⟨rfl, rfl, rfl, by decide +kernel, rfl, by decide +kernel, by decide +kernel⟩
abbrev s_check_meters : Stmt := top 27
abbrev sc_check_meters_N : List Str := ["meters", "pipes", "names", "index", "part"]
theorem sc_check_meters : FnScope sc_check_meters_N ["meters", "pipes"] (defScope s_check_meters) := ⟨rfl, rfl, rfl, by decide +kernel, rfl, by decide +kernel, by decide +kernel⟩
abbrev s_index_of : Stmt := top 28
abbrev sc_index_of_N : List Str := ["parts", "name", "index", "part"]
theorem sc_index_of : FnScope sc_index_of_N ["parts", "name"] (defScope s_index_of) := ⟨rfl, rfl, rfl, by decide +kernel, rfl, by decide +kernel, by decide +kernel⟩
abbrev s_lines : Stmt := top 29
abbrev sc_lines_N : List Str := ["pipes", "meters", "part"]
theorem sc_lines : FnScope sc_lines_N ["pipes", "meters"] (defScope s_lines) := ⟨rfl, rfl, rfl, by decide +kernel, rfl, by decide +kernel, by decide +kernel⟩
abbrev s_pipe_line : Stmt := top 30
abbrev sc_pipe_line_N : List Str := ["part"]
theorem sc_pipe_line : FnScope sc_pipe_line_N ["part"] (defScope s_pipe_line) := ⟨rfl, rfl, rfl, by decide +kernel, rfl, by decide +kernel, by decide +kernel⟩
abbrev s_meter_line : Stmt := top 31
abbrev sc_meter_line_N : List Str := ["part", "seal"]
theorem sc_meter_line : FnScope sc_meter_line_N ["part"] (defScope s_meter_line) := ⟨rfl, rfl, rfl, by decide +kernel, rfl, by decide +kernel, by decide +kernel⟩
abbrev s_rows_in : Stmt := top 32
abbrev sc_rows_in_N : List Str := ["text", "line"]
theorem sc_rows_in : FnScope sc_rows_in_N ["text"] (defScope s_rows_in) := ⟨rfl, rfl, rfl, by decide +kernel, rfl, by decide +kernel, by decide +kernel⟩
abbrev s_pipes_in : Stmt := top 33
abbrev sc_pipes_in_N : List Str := ["text", "rows", "row"]
theorem sc_pipes_in : FnScope sc_pipes_in_N ["text"] (defScope s_pipes_in) := ⟨rfl, rfl, rfl, by decide +kernel, rfl, by decide +kernel, by decide +kernel⟩
abbrev s_meters_in : Stmt := top 34
abbrev sc_meters_in_N : List Str := ["text", "rows", "row"]
theorem sc_meters_in : FnScope sc_meters_in_N ["text"] (defScope s_meters_in) := ⟨rfl, rfl, rfl, by decide +kernel, rfl, by decide +kernel, by decide +kernel⟩
abbrev s_check_net : Stmt := top 36
abbrev sc_check_net_N : List Str := ["net"]
theorem sc_check_net : FnScope sc_check_net_N ["net"] (defScope s_check_net) := ⟨rfl, rfl, rfl, by decide +kernel, rfl, by decide +kernel, by decide +kernel⟩
abbrev s_check_prices : Stmt := top 37
abbrev sc_check_prices_N : List Str := ["net", "prices", "index", "price"]
theorem sc_check_prices : FnScope sc_check_prices_N ["net", "prices"] (defScope s_check_prices) := ⟨rfl, rfl, rfl, by decide +kernel, rfl, by decide +kernel, by decide +kernel⟩
abbrev s_split : Stmt := top 39
abbrev sc_split_N : List Str := ["net", "parts", "marks", "kept", "closing", "part", "place"]
theorem sc_split : FnScope sc_split_N ["net", "parts"] (defScope s_split) := ⟨rfl, rfl, rfl, by decide +kernel, rfl, by decide +kernel, by decide +kernel⟩
abbrev s_merged : Stmt := top 40
abbrev sc_merged_N : List Str := ["marks", "part", "old", "new", "place"]
theorem sc_merged : FnScope sc_merged_N ["marks", "part"] (defScope s_merged) := ⟨rfl, rfl, rfl, by decide +kernel, rfl, by decide +kernel, by decide +kernel⟩
abbrev s_meters_at : Stmt := top 42
abbrev sc_meters_at_N : List Str := ["net", "name", "part"]
theorem sc_meters_at : FnScope sc_meters_at_N ["net", "name"] (defScope s_meters_at) := ⟨rfl, rfl, rfl, by decide +kernel, rfl, by decide +kernel, by decide +kernel⟩
abbrev s_cheapest : Stmt := top 44
abbrev sc_cheapest_N : List Str := ["net", "prices", "part"]
theorem sc_cheapest : FnScope sc_cheapest_N ["net", "prices"] (defScope s_cheapest) := ⟨rfl, rfl, rfl, by decide +kernel, rfl, by decide +kernel, by decide +kernel⟩
abbrev s_split_by_price : Stmt := top 45
abbrev sc_split_by_price_N : List Str := ["net", "prices", "ranks", "parts", "index", "price", "_", "part"]
theorem sc_split_by_price : FnScope sc_split_by_price_N ["net", "prices"] (defScope s_split_by_price) := ⟨rfl, rfl, rfl, by decide +kernel, rfl, by decide +kernel, by decide +kernel⟩
abbrev s_spring : Stmt := top 47
abbrev sc_spring_N : List Str := ["_law_script", "_law_k", "_law_cell", "_law_state", "_law_part"]
theorem sc_spring : FnScope sc_spring_N ["_law_script", "_law_k"] (defScope s_spring) := ⟨rfl, rfl, rfl, by decide +kernel, rfl, by decide +kernel, by decide +kernel⟩
abbrev s_take : Stmt := top 48
abbrev sc_take_N : List Str := ["_law_spring_here", "_law_many", "_law_digit", "_law_times", "_law_more"]
theorem sc_take : FnScope sc_take_N ["_law_spring_here", "_law_many"] (defScope s_take) := ⟨rfl, rfl, rfl, by decide +kernel, rfl, by decide +kernel, by decide +kernel⟩
abbrev s_titles : Stmt := top 49
abbrev sc_titles_N : List Str := ["_law_spring_here", "_law_many", "_law_signs", "_law_found", "_law_words", "_law_k", "_law_size", "_law_title", "_law_turn", "_law_spare", "_law_sign", "_law_one"]
theorem sc_titles : FnScope sc_titles_N ["_law_spring_here", "_law_many"] (defScope s_titles) := ⟨rfl, rfl, rfl, by decide +kernel, rfl, by decide +kernel, by decide +kernel⟩
abbrev s_plan : Stmt := top 50
abbrev sc_plan_N : List Str := ["_law_spring_here", "_law_tubes", "_law_gauges", "_law_spots", "_law_titles_here", "_law_many", "_law_round_here", "_law_pipes_here", "_law_meters_here", "_law_k", "_law_first", "_law_step", "_law_second", "_law_turned", "_law_even", "_law_tags", "_law_spot"]
theorem sc_plan : FnScope sc_plan_N ["_law_spring_here", "_law_tubes", "_law_gauges"] (defScope s_plan) := ⟨rfl, rfl, rfl, by decide +kernel, rfl, by decide +kernel, by decide +kernel⟩
abbrev s_grid : Stmt := top 51
abbrev sc_grid_N : List Str := ["_law_plan_here", "_law_lines", "_law_one"]
theorem sc_grid : FnScope sc_grid_N ["_law_plan_here"] (defScope s_grid) := ⟨rfl, rfl, rfl, by decide +kernel, rfl, by decide +kernel, by decide +kernel⟩
abbrev s_path : Stmt := top 52
abbrev sc_path_N : List Str := ["_law_tubes", "_law_kept", "_law_first", "_law_last", "_law_roads", "_law_turn", "_law_k", "_law_begin", "_law_finish"]
theorem sc_path : FnScope sc_path_N ["_law_tubes", "_law_kept", "_law_first", "_law_last"] (defScope s_path) := ⟨rfl, rfl, rfl, by decide +kernel, rfl, by decide +kernel, by decide +kernel⟩
abbrev s_rings : Stmt := top 53
abbrev sc_rings_N : List Str := ["_law_tubes", "_law_kept", "_law_found", "_law_k", "_law_way", "_law_ring", "_law_step", "_law_one"]
theorem sc_rings : FnScope sc_rings_N ["_law_tubes"] (defScope s_rings) := ⟨rfl, rfl, rfl, by decide +kernel, rfl, by decide +kernel, by decide +kernel⟩
abbrev s_sets : Stmt := top 54
abbrev sc_sets_N : List Str := ["_law_items_here", "_law_size", "_law_found", "_law_item", "_law_one"]
theorem sc_sets : FnScope sc_sets_N ["_law_items_here", "_law_size"] (defScope s_sets) := ⟨rfl, rfl, rfl, by decide +kernel, rfl, by decide +kernel, by decide +kernel⟩
abbrev s_open : Stmt := top 55
abbrev sc_open_N : List Str := ["_law_plan_here", "_law_chosen", "_law_metered", "_law_left", "_law_one", "_law_k"]
theorem sc_open : FnScope sc_open_N ["_law_plan_here", "_law_chosen"] (defScope s_open) := ⟨rfl, rfl, rfl, by decide +kernel, rfl, by decide +kernel, by decide +kernel⟩
abbrev s_least : Stmt := top 56
abbrev sc_least_N : List Str := ["_law_plan_here", "_law_fees", "_law_metered", "_law_found", "_law_bare", "_law_size", "_law_one", "_law_price_here", "_law_k"]
theorem sc_least : FnScope sc_least_N ["_law_plan_here", "_law_fees"] (defScope s_least) := ⟨rfl, rfl, rfl, by decide +kernel, rfl, by decide +kernel, by decide +kernel⟩
abbrev s_right : Stmt := top 57
abbrev sc_right_N : List Str := ["_law_spring_here", "_law_plan_here", "_law_way", "_law_fees", "_law_one", "_law_grid_here", "_law_titles_here", "_law_metered", "_law_least_here", "_law_told", "_law_spots", "_law_k", "_law_left"]
theorem sc_right : FnScope sc_right_N ["_law_spring_here"] (defScope s_right) := ⟨rfl, rfl, rfl, by decide +kernel, rfl, by decide +kernel, by decide +kernel⟩
abbrev s_law : Stmt := top 58
abbrev sc_law_N : List Str := ["_law_script", "_law_lines", "_law_grid_here", "_law_told", "_law_k"]
theorem sc_law : FnScope sc_law_N ["_law_script"] (defScope s_law) := ⟨rfl, rfl, rfl, by decide +kernel, rfl, by decide +kernel, by decide +kernel⟩
end RV
namespace RV
open PySem L2
section
variable {P : Program} {w : World} {K : PySem.W.Frag} {mg : Str → Option Value} {base : Heap}
theorem ok_is_name {f : Addr} {fd : FuncData} (F : Fun K "is_name" "is_name" s_is_name f fd) (T : Blt mg) (C : Cst mg) : FnOk P w K mg base CX0 1 f fd ["value"] (sp_is_name K) := by
  refine F.ok sc_is_name (fun vs H Q E h => ?_) (fun cdv A outer s H vs Q E hr h => ?_)
  · obtain ⟨_, rfl, _⟩ := h
    rfl
  · obtain ⟨v, rfl, k⟩ := h
    refine ⟨_, (pss_cons (ps_if (PW.pt (pw_or (pt_not (pt_val (pe_callB call_isi (by rfl) T.b_isinstance (by decide +kernel) (pa_cons (pv 0) (pa_cons (pe_bltn (v := .ty "str") (by rfl) T.b_str (by decide +kernel) rfl) pa_nil))))) (pw_or1 (pt_not (pt_chain op_le op_le pe_int (pe_callB call_len_str (by rfl) T.b_len (by decide +kernel) (pa_cons (pv 0) pa_nil)) (pe_gI C.c__LONGEST_NAME)))))) (pss_one (ps_ret pe_bl)) pss_nil)
      (pss_one (ps_ret (pe_and (pe_cmpR op_in_sign (pe_ix ix_str (pv 0) pe_int (fun _ _ => rfl)) (pe_gS C.c__LETTERS) (by rfl)) (pe_one (pe_callB (cr_all rfl) (by rfl) T.b_all (by decide +kernel) (pa_cons (pe_lc (own := [("letter", 1)]) (g := gName 1) (tt := tYes) rfl sc_is_name.nd (pi_str (pv 0)) (blkOk_by (N := sc_is_name_N) (sc := defScope s_is_name) (by decide +kernel)) (fun _ _ _ _ _ => pg_name (i := 1) sc_is_name.nd rfl (Or.inl rfl)) (fun _ _ _ _ _ => pts_nil) (fun _ _ _ _ _ => (pe_cmpR op_in_sign (pv 1) (pe_op op_add_str (pe_gS C.c__LETTERS) (pe_gS C.c__DIGITS)) (by rfl)))) pa_nil))))))), ?_⟩
    rcases k with ⟨x, rfl, hx, k⟩ | ⟨t, ty, kt, k⟩
    · refine ⟨_, rfl, _, _, .type "str", .type "str", true, rfl, .ty _, .base (.str x), kit_ty (by decide +kernel), true, rfl, ?_⟩
      refine iteF ⟨_, rfl, _, rfl, hx, _, _, rfl, rfl, _, rfl, ?_⟩
      have out : isNm (cd x) = false → Q (.bl false) H := fun e => e ▸ k H (Same.refl H)
      refine ite2 (fun h1 => ?_) (fun h1 => ?_)
      · refine ⟨_, _, rfl, rfl, _, rfl, ?_⟩
        have h1' := of_decide_eq_true h1
        cases e8 : decide ((x.length : Int) ≤ 8) with
        | false =>
          refine out ?_
          cases q : isNm (cd x) with
          | false => rfl
          | true =>
            have := isNm_len q
            rw [← cd_len] at this
            have h8 := of_decide_eq_false e8
            omega
        | true =>
          have h8 := of_decide_eq_true e8
          obtain ⟨c, r, ec⟩ : ∃ c r, cd x = c :: r := by
            cases e : cd x with
            | nil =>
              rw [cd_len, e] at h1'
              simp at h1'
            | cons c r => exact ⟨c, r, rfl⟩
          have hr7 : r.length ≤ 7 := by
            rw [cd_len, ec, List.length_cons] at h8
            omega
          refine ⟨_, rfl, x, _, c, rfl, rfl, hx, atI_nat (j := 0) (by show (cd x)[0]? = some c; rw [ec]; rfl), c, _, rfl, rfl, _, rfl, ?_⟩
          have el : decide (c ∈ cd "abcdefghijklmnopqrstuvwxyz") = lowC c := low_in c
          refine ite2 (fun hl => ?_) (fun hl => ?_)
          · have hl' : lowC c = true := el.symm.trans hl
            refine ⟨_, rfl, x, rfl, fun D nD => lc_str (z := x) (fun i H' => Same H H' ∧ H' D = some (.lst ((((cd x).take i).map tailC).map V.bl))) ⟨fun b o e => by rw [upd_ne (ne_of_none e nD)]; exact e, upd_same⟩ ?_ ?_⟩
            · rintro i d H6 hi ⟨s6, h6⟩
              refine ⟨rfl, _, rfl, _, _, rfl, rfl, by decide, d, _, rfl, rfl, _, h6, ?_, ?_⟩
              · rw [List.length_map, List.length_map, List.length_take, ← cd_len]
                exact Nat.lt_of_lt_of_le (show _ < 1000 by omega) (by decide)
              · refine ⟨fun b o e => by rw [upd_ne (ne_of_none e nD)]; exact s6 b o e, ?_⟩
                rw [upd_same]
                obtain ⟨hl6, e'⟩ := List.getElem?_eq_some_iff.mp hi
                rw [List.take_succ_eq_append_getElem hl6, e', List.map_append, List.map_append]
                show some (HO.lst (_ ++ [V.bl (decide (d ∈ cd (("abcdefghijklmnopqrstuvwxyz" : Str) ++ ("0123456789" : Str))))])) = _
                rw [tail_in]
                rfl
            · rintro H6 ⟨s6, h6⟩
              rw [List.take_of_length_le (Nat.le_refl _)] at h6
              refine ⟨D, _, rfl, SqL.of h6, ?_⟩
              have e : isNm (cd x) = ((cd x).map tailC).all id := by
                rw [ec]
                show (lowC c && r.all tailC && decide (r.length ≤ 7)) = (tailC c && (r.map tailC).all id)
                rw [hl', tail_of_low hl', decide_eq_true hr7, List.all_map]
                simp
              have := k H6 s6
              rwa [e] at this
          · refine out ?_
            have hl' : lowC c = false := by
              rw [← el]
              exact Bool.eq_false_iff.mpr hl
            rw [ec]
            simp [isNm, hl']
      · refine ⟨_, rfl, ?_⟩
        refine out ?_
        cases q : isNm (cd x) with
        | false => rfl
        | true =>
          have := isNm_len q
          rw [← cd_len] at this
          exact absurd (decide_eq_true (by omega)) h1
    · refine ⟨_, rfl, _, _, t, .type "str", false, rfl, .ty _, ty, kt, false, rfl, ?_⟩
      exact iteT (iteT k)
end
end RV
namespace RV
open PySem L2
section
variable {P : Program} {w : World} {K : PySem.W.Frag} {mg : Str → Option Value} {base : Heap}
theorem ok_check_names {f : Addr} {fd : FuncData} (F : Fun K "_check_names" "_check_names" s_check_names f fd) (h_is_name : Fn P w K mg base "is_name" 1 ["value"] (Irr (sp_is_name K))) : FnOk P w K mg base CX0 2 f fd ["values"] (sp_check K) := by
  refine F.ok sc_check_names (fun vs H Q E h => ?_) (fun cdv A outer s H vs Q E hr h => ?_)
  · obtain ⟨_, _, rfl, _⟩ := h
    rfl
  · obtain ⟨t, xs, rfl, ht, hx, k⟩ := h
    refine ⟨_, (pss_one (ps_for PassesOwn.never rfl (pi_tup (pv 0)) (pg_name (i := 1) sc_check_names.nd rfl (Or.inl rfl)) (pss_one (ps_if (pt_not (pt_val (pe_fn h_is_name (hr.mono (by decide)) (pa_cons (pv 1) pa_nil)))) (pss_one ps_never) pss_nil)))), ?_⟩
    have sqt : ∀ {H'}, Same H H' → SqT K H' t (xs.map V.str) := fun e => by
      rcases ht with (h | ⟨o, h⟩) | h
      · exact .inl (.inl (e _ _ h))
      · exact .inl (.inr ⟨o, e _ _ h⟩)
      · exact .inr h
    refine ⟨_, rfl, t, rfl, ⟨_, ht⟩, for_tup (K := K) (a := t) (xs := xs.map V.str) (fun i σ H' => Same H H' ∧ ∃ o, σ = [some (.ref t), o]) ⟨Same.refl H, none, rfl⟩ (fun _ _ _ _ h => sqt h.1) ?_ ?_⟩
    · rintro i v σ H' hi ⟨sm, o, rfl⟩
      obtain ⟨y, rfl, hy⟩ : ∃ y, v = V.str y ∧ y ∈ xs := by
        rw [List.getElem?_map] at hi
        cases e : xs[i]? with
        | none => rw [e] at hi; cases hi
        | some y => rw [e] at hi; exact ⟨y, (Option.some.inj hi).symm, List.mem_of_getElem? e⟩
      have hn := hx y hy
      have hl := isNm_len hn
      rw [← cd_len] at hl
      refine ⟨_, rfl, irr ⟨_, rfl, .inl ⟨y, rfl, szn (by omega), fun H2 s2 => ?_⟩⟩⟩
      rw [show isNm (cd y) = true from hn]
      exact ⟨true, rfl, sm.trans s2, _, rfl⟩
    · rintro σ H' ⟨sm, o, rfl⟩
      exact k H' sm
theorem ok_Pipe_i {C f : Addr} {fd : FuncData} (F : Fun K "__init__" "Pipe.__init__" s_Pipe___init__ f fd) (T : PClass K mg C) (h_check_names : Fn P w K mg base "_check_names" 2 ["values"] (Irr (sp_check K))) : FnOk P w K mg base CX0 3 f fd ["self", "name", "start", "end"] (sp_Pipe C) := by
  refine F.ok sc_Pipe___init__ (fun vs H Q E h => ?_) (fun cdv A outer s H vs Q E hr h => ?_)
  · obtain ⟨_, _, _, _, _, rfl, _⟩ := h
    rfl
  · obtain ⟨x, dx, n, st, e, rfl, hx, hn, hs, he, hne, k⟩ := h
    refine ⟨_, (pss_cons (ps_expr (pe_fn h_check_names (hr.mono (by decide)) (pa_cons (pe_tup (pa_cons (pv 1) (pa_cons (pv 2) (pa_cons (pv 3) pa_nil)))) pa_nil)))
      (pss_cons (ps_if (pt_cmpR op_eq (pv 3) (pv 2) (nomark _)) (pss_one ps_never) pss_nil)
      (pss_cons (ps_fld (pv 0) (pv 1) rfl)
      (pss_cons (ps_fld (pv 0) (pv 2) rfl)
      (pss_one (ps_fld (pv 0) (pv 3) rfl)))))), ?_⟩
    refine ⟨_, rfl, _, rfl, _, rfl, (by show 3 ≤ sizeLine; decide), fun p np => irr ⟨p, [n, st, e], rfl, SqT.of upd_same, ?_, fun H1 s1 => ?_⟩⟩
    · intro y hy
      simp only [List.mem_cons, List.not_mem_nil, or_false] at hy
      rcases hy with rfl | rfl | rfl
      · exact hn
      · exact hs
      · exact he
    have hx1 := s1 _ _ (show (upd H p (.tup ([n, st, e].map V.str))) x = _ by rw [upd_ne (ne_of_none hx np)]; exact hx)
    refine ⟨_, rfl, _, rfl, rfl, _, rfl, ?_⟩
    refine ite2 (fun q => absurd (of_decide_eq_true q) fun z => hne (V.str.inj z)) (fun _ => ?_)
    refine ⟨_, rfl, _, rfl, x, C, dx, _, rfl, hx1, T.x.cl, T.n1, (by show 0 < 1000; decide), ?_⟩
    refine ⟨_, rfl, _, rfl, x, C, dx, _, rfl, upd_same, T.x.cl, T.n2, (by have := putF_len "_name" (.str n) []; simp at this ⊢; omega), ?_⟩
    refine ⟨_, rfl, _, rfl, x, C, dx, _, rfl, upd_same, T.x.cl, T.n3, (by have := putF_len "_name" (.str n) []; have := putF_len "_start" (.str st) (putF "_name" (.str n) []); simp at *; omega), ?_⟩
    refine k _ (fun b o hb eb => ?_) ⟨dx, upd_same⟩
    rw [upd_ne hb, upd_ne hb, upd_ne hb]
    exact s1 _ _ (by rw [upd_ne (ne_of_none eb np)]; exact eb)
theorem ok_Meter_i {C f : Addr} {fd : FuncData} {kws : List (Str × V)} (F : FunD K "__init__" "Meter.__init__" (defArgs s_Meter___init__) (defBody s_Meter___init__) (defScope s_Meter___init__) [] kws f fd) (T : MClass K mg C) (h_check_names : Fn P w K mg base "_check_names" 2 ["values"] (Irr (sp_check K))) : FnOk P w K mg base CX0 3 f fd ["self", "name", "at", "sealed"] (sp_Meter C) := by
  refine F.ok sc_Meter___init__ (fun vs H Q E h => ?_) (fun cdv A outer s H vs Q E hr h => ?_)
  · obtain ⟨_, _, _, _, _, rfl, _⟩ := h
    rfl
  · obtain ⟨x, dx, n, a, z, rfl, hx, hn, ha, k⟩ := h
    refine ⟨_, (pss_cons (ps_expr (pe_fn h_check_names (hr.mono (by decide)) (pa_cons (pe_tup (pa_cons (pv 1) (pa_cons (pv 2) pa_nil))) pa_nil)))
      (pss_cons (ps_if (PW.pt (pw_and (pt_cmpR op_isnot_bl (pv 3) pe_bl (nomark _)) (pw_and1 (pt_cmpR op_isnot_bl (pv 3) pe_bl (nomark _))))) (pss_one ps_never) pss_nil)
      (pss_cons (ps_fld (pv 0) (pv 1) rfl)
      (pss_cons (ps_fld (pv 0) (pv 2) rfl)
      (pss_one (ps_fld (pv 0) (pv 3) rfl)))))), ?_⟩
    refine ⟨_, rfl, _, rfl, (by show 2 ≤ sizeLine; decide), fun p np => irr ⟨p, [n, a], rfl, SqT.of upd_same, ?_, fun H1 s1 => ?_⟩⟩
    · intro y hy
      simp only [List.mem_cons, List.not_mem_nil, or_false] at hy
      rcases hy with rfl | rfl
      · exact hn
      · exact ha
    have hx1 := s1 _ _ (show (upd H p (.tup ([n, a].map V.str))) x = _ by rw [upd_ne (ne_of_none hx np)]; exact hx)
    have rest : tSeq (sFld K (tVar 0) (tVar 1) "_name") (tSeq (sFld K (tVar 0) (tVar 2) "_at") (sFld K (tVar 0) (tVar 3) "_sealed")) { nx := fun _ H' => Q .non H', rt := Q } [some (.ref x), some (.str n), some (.str a), some (.bl z)] H1 := by
      refine ⟨_, rfl, _, rfl, x, C, dx, _, rfl, hx1, T.x.cl, T.n1, (by show 0 < 1000; decide), ?_⟩
      refine ⟨_, rfl, _, rfl, x, C, dx, _, rfl, upd_same, T.x.cl, T.n2, (by have := putF_len "_name" (.str n) []; simp at this ⊢; omega), ?_⟩
      refine ⟨_, rfl, _, rfl, x, C, dx, _, rfl, upd_same, T.x.cl, T.n3, (by have := putF_len "_name" (.str n) []; have := putF_len "_at" (.str a) (putF "_name" (.str n) []); simp at *; omega), ?_⟩
      refine k _ (fun b o hb eb => ?_) ⟨dx, upd_same⟩
      rw [upd_ne hb, upd_ne hb, upd_ne hb]
      exact s1 _ _ (by rw [upd_ne (ne_of_none eb np)]; exact eb)
    refine ⟨_, rfl, _, _, rfl, rfl, _, rfl, ?_⟩
    cases z with
    | true => exact rest
    | false => exact ⟨_, rfl, _, _, rfl, rfl, _, rfl, rest⟩
theorem ok_Pipe_q {C f : Addr} {fd : FuncData} (F : Fun K "__eq__" "Pipe.__eq__" s_Pipe___eq__ f fd) (T : PClass K mg C) (B : Blt mg) : FnOk P w K mg base CX0 1 f fd ["self", "other"] (sp_Peq C) := by
  refine F.ok sc_Pipe___eq__ (fun vs H Q E h => ?_) (fun cdv A outer s H vs Q E hr h => ?_)
  · obtain ⟨_, _, _, _, rfl, _⟩ := h
    rfl
  · obtain ⟨a, b, ⟨n, st, e⟩, ⟨n', s', e'⟩, rfl, ⟨dx, ha⟩, ⟨dy, hb⟩, k⟩ := h
    refine ⟨_, (pss_one (ps_ret (pe_and (pe_callB call_isi (by rfl) B.b_isinstance (by decide +kernel) (pa_cons (pv 1) (pa_cons (pe_gC T.k) pa_nil))) (pe_and (pe_cmpR op_eq (pe_fld (pv 0) rfl) (pe_fld (pv 1) rfl) (nomark _)) (pe_and (pe_cmpR op_eq (pe_fld (pv 0) rfl) (pe_fld (pv 1) rfl) (nomark _)) (pe_one (pe_cmpR op_eq (pe_fld (pv 0) rfl) (pe_fld (pv 1) rfl) (nomark _)))))))), ?_⟩
    have dd : decide ((n, st, e) = (n', s', e')) = decide (n = n' ∧ st = s' ∧ e = e') := by simp only [Prod.mk.injEq]
    rw [dd] at k
    refine ⟨_, rfl, _, _, _, .ref C, true, rfl, .own C, T.x.ty hb, T.me, true, rfl, iteT ?_⟩
    refine ⟨_, rfl, a, C, dx, _, _, rfl, ha, T.x.cl, T.n1, pipeF_n _ _ _, _, rfl, b, C, dy, _, _, rfl, hb, T.x.cl, T.n1, pipeF_n _ _ _, rfl, _, rfl, ?_⟩
    refine ite2 (fun h1 => ?_) (fun h1 => ?_)
    · have e1 : n = n' := V.str.inj (of_decide_eq_true h1)
      refine ⟨_, rfl, a, C, dx, _, _, rfl, ha, T.x.cl, T.n2, pipeF_s _ _ _, _, rfl, b, C, dy, _, _, rfl, hb, T.x.cl, T.n2, pipeF_s _ _ _, rfl, _, rfl, ?_⟩
      refine ite2 (fun h2 => ?_) (fun h2 => ?_)
      · have e2 : st = s' := V.str.inj (of_decide_eq_true h2)
        refine ⟨_, rfl, a, C, dx, _, _, rfl, ha, T.x.cl, T.n3, pipeF_e _ _ _, _, rfl, b, C, dy, _, _, rfl, hb, T.x.cl, T.n3, pipeF_e _ _ _, rfl, ?_⟩
        have e3 : decide (V.str e = V.str e') = decide (n = n' ∧ st = s' ∧ e = e') := by
          subst e1 e2
          by_cases q : e = e' <;> simp [q]
        show Q (.bl (decide (V.str e = V.str e'))) H
        rw [e3]
        exact k
      · have : decide (n = n' ∧ st = s' ∧ e = e') = false := decide_eq_false fun z => h2 (decide_eq_true (congrArg V.str z.2.1))
        rw [← this]
        exact k
    · have : decide (n = n' ∧ st = s' ∧ e = e') = false := decide_eq_false fun z => h1 (decide_eq_true (congrArg V.str z.1))
      rw [← this]
      exact k
theorem ok_Meter_q {C f : Addr} {fd : FuncData} (F : Fun K "__eq__" "Meter.__eq__" s_Meter___eq__ f fd) (T : MClass K mg C) (B : Blt mg) : FnOk P w K mg base CX0 1 f fd ["self", "other"] (sp_Meq C) := by
  refine F.ok sc_Meter___eq__ (fun vs H Q E h => ?_) (fun cdv A outer s H vs Q E hr h => ?_)
  · obtain ⟨_, _, _, _, rfl, _⟩ := h
    rfl
  · obtain ⟨a, b, ⟨n, st, e⟩, ⟨n', s', e'⟩, rfl, ⟨dx, ha⟩, ⟨dy, hb⟩, k⟩ := h
    refine ⟨_, (pss_one (ps_ret (pe_and (pe_callB call_isi (by rfl) B.b_isinstance (by decide +kernel) (pa_cons (pv 1) (pa_cons (pe_gC T.k) pa_nil))) (pe_and (pe_cmpR op_eq (pe_fld (pv 0) rfl) (pe_fld (pv 1) rfl) (nomark _)) (pe_and (pe_cmpR op_eq (pe_fld (pv 0) rfl) (pe_fld (pv 1) rfl) (nomark _)) (pe_one (pe_cmpR op_eq (pe_fld (pv 0) rfl) (pe_fld (pv 1) rfl) (nomark _)))))))), ?_⟩
    have dd : decide ((n, st, e) = (n', s', e')) = decide (n = n' ∧ st = s' ∧ e = e') := by simp only [Prod.mk.injEq]
    rw [dd] at k
    refine ⟨_, rfl, _, _, _, .ref C, true, rfl, .own C, T.x.ty hb, T.me, true, rfl, iteT ?_⟩
    refine ⟨_, rfl, a, C, dx, _, _, rfl, ha, T.x.cl, T.n1, metF_n _ _ _, _, rfl, b, C, dy, _, _, rfl, hb, T.x.cl, T.n1, metF_n _ _ _, rfl, _, rfl, ?_⟩
    refine ite2 (fun h1 => ?_) (fun h1 => ?_)
    · have e1 : n = n' := V.str.inj (of_decide_eq_true h1)
      refine ⟨_, rfl, a, C, dx, _, _, rfl, ha, T.x.cl, T.n2, metF_a _ _ _, _, rfl, b, C, dy, _, _, rfl, hb, T.x.cl, T.n2, metF_a _ _ _, rfl, _, rfl, ?_⟩
      refine ite2 (fun h2 => ?_) (fun h2 => ?_)
      · have e2 : st = s' := V.str.inj (of_decide_eq_true h2)
        refine ⟨_, rfl, a, C, dx, _, _, rfl, ha, T.x.cl, T.n3, metF_z _ _ _, _, rfl, b, C, dy, _, _, rfl, hb, T.x.cl, T.n3, metF_z _ _ _, rfl, ?_⟩
        have e3 : decide (V.bl e = V.bl e') = decide (n = n' ∧ st = s' ∧ e = e') := by
          subst e1 e2
          by_cases q : e = e' <;> simp [q]
        show Q (.bl (decide (V.bl e = V.bl e'))) H
        rw [e3]
        exact k
      · have : decide (n = n' ∧ st = s' ∧ e = e') = false := decide_eq_false fun z => h2 (decide_eq_true (congrArg V.str z.2.1))
        rw [← this]
        exact k
    · have : decide (n = n' ∧ st = s' ∧ e = e') = false := decide_eq_false fun z => h1 (decide_eq_true (congrArg V.str z.1))
      rw [← this]
      exact k
theorem ok_Pipe_name {C f : Addr} {fd : FuncData} (F : Fun K "name" "Pipe.name" s_Pipe_name f fd) (T : PClass K mg C) : FnOk P w K mg base CX0 1 f fd ["self"] (sp_pn C) := by
  refine F.ok sc_Pipe_name (fun vs H Q E h => ?_) (fun cdv A outer s H vs Q E hr h => ?_)
  · obtain ⟨_, _, rfl, _⟩ := h
    rfl
  · obtain ⟨a, q, rfl, ⟨dx, ha⟩, k⟩ := h
    refine ⟨_, (pss_one (ps_ret (pe_fld (pv 0) rfl))), ?_⟩
    exact ⟨_, rfl, a, C, dx, _, _, rfl, ha, T.x.cl, T.n1, pipeF_n _ _ _, k⟩
theorem ok_Pipe_start {C f : Addr} {fd : FuncData} (F : Fun K "start" "Pipe.start" s_Pipe_start f fd) (T : PClass K mg C) : FnOk P w K mg base CX0 1 f fd ["self"] (sp_ps C) := by
  refine F.ok sc_Pipe_start (fun vs H Q E h => ?_) (fun cdv A outer s H vs Q E hr h => ?_)
  · obtain ⟨_, _, rfl, _⟩ := h
    rfl
  · obtain ⟨a, q, rfl, ⟨dx, ha⟩, k⟩ := h
    refine ⟨_, (pss_one (ps_ret (pe_fld (pv 0) rfl))), ?_⟩
    exact ⟨_, rfl, a, C, dx, _, _, rfl, ha, T.x.cl, T.n2, pipeF_s _ _ _, k⟩
theorem ok_Pipe_end {C f : Addr} {fd : FuncData} (F : Fun K "end" "Pipe.end" s_Pipe_end f fd) (T : PClass K mg C) : FnOk P w K mg base CX0 1 f fd ["self"] (sp_pe C) := by
  refine F.ok sc_Pipe_end (fun vs H Q E h => ?_) (fun cdv A outer s H vs Q E hr h => ?_)
  · obtain ⟨_, _, rfl, _⟩ := h
    rfl
  · obtain ⟨a, q, rfl, ⟨dx, ha⟩, k⟩ := h
    refine ⟨_, (pss_one (ps_ret (pe_fld (pv 0) rfl))), ?_⟩
    exact ⟨_, rfl, a, C, dx, _, _, rfl, ha, T.x.cl, T.n3, pipeF_e _ _ _, k⟩
theorem ok_Meter_name {C f : Addr} {fd : FuncData} (F : Fun K "name" "Meter.name" s_Meter_name f fd) (T : MClass K mg C) : FnOk P w K mg base CX0 1 f fd ["self"] (sp_mn C) := by
  refine F.ok sc_Meter_name (fun vs H Q E h => ?_) (fun cdv A outer s H vs Q E hr h => ?_)
  · obtain ⟨_, _, rfl, _⟩ := h
    rfl
  · obtain ⟨a, q, rfl, ⟨dx, ha⟩, k⟩ := h
    refine ⟨_, (pss_one (ps_ret (pe_fld (pv 0) rfl))), ?_⟩
    exact ⟨_, rfl, a, C, dx, _, _, rfl, ha, T.x.cl, T.n1, metF_n _ _ _, k⟩
theorem ok_Meter_at {C f : Addr} {fd : FuncData} (F : Fun K "at" "Meter.at" s_Meter_at f fd) (T : MClass K mg C) : FnOk P w K mg base CX0 1 f fd ["self"] (sp_ma C) := by
  refine F.ok sc_Meter_at (fun vs H Q E h => ?_) (fun cdv A outer s H vs Q E hr h => ?_)
  · obtain ⟨_, _, rfl, _⟩ := h
    rfl
  · obtain ⟨a, q, rfl, ⟨dx, ha⟩, k⟩ := h
    refine ⟨_, (pss_one (ps_ret (pe_fld (pv 0) rfl))), ?_⟩
    exact ⟨_, rfl, a, C, dx, _, _, rfl, ha, T.x.cl, T.n2, metF_a _ _ _, k⟩
theorem ok_Meter_sealed {C f : Addr} {fd : FuncData} (F : Fun K "sealed" "Meter.sealed" s_Meter_sealed f fd) (T : MClass K mg C) : FnOk P w K mg base CX0 1 f fd ["self"] (sp_mz C) := by
  refine F.ok sc_Meter_sealed (fun vs H Q E h => ?_) (fun cdv A outer s H vs Q E hr h => ?_)
  · obtain ⟨_, _, rfl, _⟩ := h
    rfl
  · obtain ⟨a, q, rfl, ⟨dx, ha⟩, k⟩ := h
    refine ⟨_, (pss_one (ps_ret (pe_fld (pv 0) rfl))), ?_⟩
    exact ⟨_, rfl, a, C, dx, _, _, rfl, ha, T.x.cl, T.n3, metF_z _ _ _, k⟩
end
end RV
namespace RV
open PySem L2
section
variable {P : Program} {w : World} {K : PySem.W.Frag} {mg : Str → Option Value} {base : Heap} {CN CP CM : Addr}
theorem ok_index_of {f : Addr} {fd : FuncData} (F : Fun K "_index_of" "_index_of" s_index_of f fd) (T : Blt mg) (T2 : Blt2 mg) (h_pn : Prp P w K mg base CP "name" 1 (Irr (sp_pn CP))) : FnOk P w K mg base CX0 3 f fd ["parts", "name"] (sp_index K CP) := by
  refine F.ok sc_index_of (fun vs H Q E h => ?_) (fun cdv A outer s H vs Q E hr h => ?_)
  · obtain ⟨_, _, _, rfl, _⟩ := h
    rfl
  · obtain ⟨t, us, y, rfl, ht, hl, hy, k⟩ := h
    refine ⟨_, (pss_cons (ps_if (pt_not (pt_val (pe_callB call_isi (by rfl) T.b_isinstance (by decide +kernel) (pa_cons (pv 1) (pa_cons (pe_bltn (v := .ty "str") (by rfl) T.b_str (by decide +kernel) rfl) pa_nil))))) (pss_one (ps_ret pe_non)) pss_nil)
      (pss_cons (ps_for PassesOwn.never rfl (pi_enumT (by rfl) T2.b_enumerate (pa_cons (pv 0) pa_nil)) (pg_tup (by rfl) (pgs_cons (pg_name (i := 2) sc_index_of.nd rfl (Or.inl rfl)) (pgs_cons (pg_name (i := 3) sc_index_of.nd rfl (Or.inl rfl)) pgs_nil))) (pss_one (ps_if (pt_cmpR op_eq (pe_propN h_pn (hr.mono (by decide)) (pv 3)) (pv 1) (nomark _)) (pss_one (ps_ret (pv 2))) pss_nil)))
      (pss_one (ps_ret pe_non)))), ?_⟩
    refine ⟨_, rfl, _, _, .type "str", .type "str", true, rfl, .ty _, .base (.str _), kit_ty (by decide +kernel), true, rfl, iteF ?_⟩
    refine ⟨_, rfl, t, _, rfl, ht.t, for_enumT (xs := rf us) (fun i σ H' => (∃ o2 o3, σ = [some (.ref t), some (.str y), o2, o3]) ∧ Same H H' ∧ ∀ j q, j < i → (sn us)[j]? = some q → q.1 ≠ y) ⟨⟨none, none, rfl⟩, fun _ _ e => e, fun j q hj => absurd hj (Nat.not_lt_zero j)⟩ ?_ ?_ ?_⟩
    · rintro i σ H1 _ ⟨_, s1, _⟩
      exact ht.t.ext s1
    · rintro i x σ H1 T' hx' ⟨⟨o1, o2, rfl⟩, s1, hj⟩ nT
      rw [rf, List.getElem?_map] at hx'
      cases hu : us[i]? with
      | none => rw [hu] at hx'; cases hx'
      | some u =>
        rw [hu] at hx'
        obtain rfl : V.ref u.1 = x := Option.some.inj hx'
        have hm := List.mem_of_getElem? hu
        have s2 : Same H (upd H1 T' (.tup [.int (i : Nat), .ref u.1])) := fun b o e => by
          rw [upd_ne (ne_of_none (s1 b o e) nT)]
          exact s1 b o e
        obtain ⟨dx, ex⟩ := (ht.o u hm).ext s2
        refine ⟨T', _, rfl, SqT.of upd_same, rfl, _, _, rfl, _, _, rfl, rfl, ?_⟩
        refine ⟨_, rfl, u.1, dx, _, rfl, ex, irr ⟨u.1, u.2, rfl, ⟨dx, ex⟩, _, rfl, rfl, _, rfl, ?_⟩⟩
        refine ite2 (fun hq => ⟨_, rfl, k _ _ (by rw [sn, List.getElem?_map, hu]; exact congrArg some (V.str.inj (of_decide_eq_true hq))) s2⟩) fun hne => ?_
        refine ⟨⟨_, _, rfl⟩, s2, fun j q hji hq => ?_⟩
        by_cases e : j = i
        · subst e
          rw [sn, List.getElem?_map, hu] at hq
          obtain rfl : u.2 = q := Option.some.inj hq
          exact fun z => hne (decide_eq_true (congrArg V.str z))
        · exact hj j q (by omega) hq
    · rintro σ H1 ⟨⟨o1, o2, rfl⟩, s1, hj⟩
      obtain ⟨q, hq, e⟩ := List.mem_map.mp hy
      obtain ⟨j, hlt, ej⟩ := List.mem_iff_getElem.mp hq
      exact absurd e (hj j q (by rw [rf_len]; rwa [sn_len] at hlt) (by rw [List.getElem?_eq_getElem hlt, ej]))
/-- how many pipes and meters there may be -/
structure Cst3 (mg : Str → Option Value) : Prop where
  pipes : ∃ u, mg "MOST_PIPES" = some u ∧ RelV (.int 12) u
  meters : ∃ u, mg "MOST_METERS" = some u ∧ RelV (.int 12) u
theorem ok_check_pipes {f : Addr} {fd : FuncData} (F : Fun K "_check_pipes" "_check_pipes" s_check_pipes f fd) (T : Blt mg) (T2 : Blt2 mg) (C3 : Cst3 mg) (PC : PClass K mg CP) (h_pn : Prp P w K mg base CP "name" 1 (Irr (sp_pn CP))) : FnOk P w K mg base CX0 3 f fd ["pipes"] (sp_chkP K CP) := by
  refine F.ok sc_check_pipes (fun vs H Q E h => ?_) (fun cdv A outer s H vs Q E hr h => ?_)
  · obtain ⟨_, _, rfl, _⟩ := h
    rfl
  · obtain ⟨t, us, rfl, ht, po, k⟩ := h
    refine ⟨_, (pss_cons (ps_if (PW.pt (pw_or (pt_not (pt_val (pe_callB call_isi (by rfl) T.b_isinstance (by decide +kernel) (pa_cons (pv 0) (pa_cons (pe_bltn (v := .ty "tuple") (by rfl) T2.b_tuple (by decide +kernel) rfl) pa_nil))))) (pw_or1 (pt_not (pt_truth (pv 0) (by intro _; rfl)))))) (pss_one ps_never) pss_nil)
      (pss_cons (ps_set (i := 1) sc_check_pipes.nd rfl (Or.inl rfl) (pe_lst pa_nil))
      (pss_one (ps_for PassesOwn.never rfl (pi_enumT (by rfl) T2.b_enumerate (pa_cons (pv 0) pa_nil)) (pg_tup (by rfl) (pgs_cons (pg_name (i := 2) sc_check_pipes.nd rfl (Or.inl rfl)) (pgs_cons (pg_name (i := 3) sc_check_pipes.nd rfl (Or.inl rfl)) pgs_nil))) (pss_cons (ps_if (PW.pt (pw_or (pt_not (pt_val (pe_callB call_isi (by rfl) T.b_isinstance (by decide +kernel) (pa_cons (pv 3) (pa_cons (pe_gC PC.k) pa_nil))))) (pw_or (pt_cmpR op_in_seq (pe_propN h_pn (hr.mono (by decide)) (pv 3)) (pv 1) (by rfl)) (pw_or1 (pt_cmpR op_ge (pv 2) (pe_gI C3.pipes) (nomark _)))))) (pss_one ps_never) pss_nil) (pss_one (ps_expr (pe_bm PySem.F.plainAttrs_list PySem.F.slot_list_append PySem.F.type_list_append mt_append (pv 1) (pa_cons (pe_propN h_pn (hr.mono (by decide)) (pv 3)) pa_nil))))))))), ?_⟩
    refine ⟨_, rfl, _, _, .type "tuple", .type "tuple", true, rfl, .ty _, tyx_tup ht.t, kit_ty (by decide +kernel), true, rfl, iteF ?_⟩
    have une : (rf us).isEmpty = false := by
      cases us with
      | nil => exact absurd rfl po.n0
      | cons u us => rfl
    refine ⟨_, rfl, true, .inr (.inl ⟨rf us, ht.t, by rw [une]; rfl⟩), iteF ?_⟩
    refine ⟨by decide, fun nl nn => ?_⟩
    have ul : us.length ≤ 12 := by rw [← sn_len]; exact po.ln
    dsimp only [gName]
    refine ⟨_, rfl, t, _, rfl, ht.t.ext (fun b o e => by rw [upd_ne (ne_of_none e nn)]; exact e), for_enumT (xs := rf us) (fun i σ H' => (∃ o2 o3, σ = [some (.ref t), some (.ref nl), o2, o3]) ∧ Same H H' ∧ H' nl = some (.lst ((((sn us).take i).map (·.1)).map V.str))) ⟨⟨none, none, rfl⟩, fun b o e => by rw [upd_ne (ne_of_none e nn)]; exact e, upd_same⟩ ?_ ?_ ?_⟩
    · rintro i σ H1 _ ⟨_, s1, _⟩
      exact ht.t.ext s1
    · rintro i x σ H1 T' hx' ⟨⟨o1, o2, rfl⟩, s1, e1⟩ nT
      rw [rf, List.getElem?_map] at hx'
      cases hu : us[i]? with
      | none => rw [hu] at hx'; cases hx'
      | some u =>
        rw [hu] at hx'
        obtain rfl : V.ref u.1 = x := Option.some.inj hx'
        have hm := List.mem_of_getElem? hu
        have hlt := (List.getElem?_eq_some_iff.mp hu).1
        have s2 : Same H (upd H1 T' (.tup [.int (i : Nat), .ref u.1])) := fun b o e => by
          rw [upd_ne (ne_of_none (s1 b o e) nT)]
          exact s1 b o e
        have e2 := (upd_ne (o := .tup [.int (i : Nat), .ref u.1]) (ne_of_none e1 nT)).trans e1
        obtain ⟨dx, ex⟩ := (ht.o u hm).ext s2
        have hsn : (sn us)[i]? = some u.2 := by rw [sn, List.getElem?_map, hu]; rfl
        refine ⟨T', _, rfl, SqT.of upd_same, rfl, _, _, rfl, _, _, rfl, rfl, ?_⟩
        refine ⟨_, rfl, _, _, _, .ref CP, true, rfl, .own CP, PC.x.ty ex, PC.me, true, rfl, iteF ?_⟩
        refine ⟨_, rfl, u.1, dx, _, rfl, ex, irr ⟨u.1, u.2, rfl, ⟨dx, ex⟩, _, rfl, nl, _, rfl, .inl (SqL.of e2), rfl, strs_flat _, ?_⟩⟩
        rw [inV_str, decide_eq_false (nodup_take po.nd hsn)]
        refine ⟨_, rfl, iteF ⟨_, rfl, _, _, rfl, rfl, _, rfl, ?_⟩⟩
        refine ite2 (fun h => ?_) fun _ => ?_
        · have := of_decide_eq_true h
          omega
        refine ⟨_, rfl, .inl ⟨rfl, _, SqL.of e2⟩, _, rfl, u.1, dx, _, rfl, ex, irr ⟨u.1, u.2, rfl, ⟨dx, ex⟩, nl, _, _, rfl, rfl, e2, ?_, ⟨_, _, rfl⟩, fun b o e => ?_, ?_⟩⟩
        · rw [List.length_map, List.length_map]
          exact Nat.lt_of_le_of_lt (List.length_take_le _ _) (Nat.lt_of_lt_of_le (show i < 13 by omega) (by decide))
        · rw [upd_ne (ne_of_none e nn)]
          exact s2 b o e
        · rw [upd_same, List.take_add_one, hsn]
          simp
    · rintro σ H1 ⟨⟨o1, o2, rfl⟩, s1, _⟩
      exact k H1 s1
end
end RV
namespace RV
open PySem L2
section
variable {P : Program} {w : World} {K : PySem.W.Frag} {mg : Str → Option Value} {base : Heap} {CN CP CM : Addr}
theorem ok_check_meters {f : Addr} {fd : FuncData} (F : Fun K "_check_meters" "_check_meters" s_check_meters f fd) (T : Blt mg) (T2 : Blt2 mg) (C3 : Cst3 mg) (MC : MClass K mg CM) (h_mn : Prp P w K mg base CM "name" 1 (Irr (sp_mn CM))) (h_ma : Prp P w K mg base CM "at" 1 (Irr (sp_ma CM))) (h_index_of : Fn P w K mg base "_index_of" 3 ["parts", "name"] (Irr (sp_index K CP))) : FnOk P w K mg base CX0 4 f fd ["meters", "pipes"] (sp_chkM K CP CM) := by
  refine F.ok sc_check_meters (fun vs H Q E h => ?_) (fun cdv A outer s H vs Q E hr h => ?_)
  · obtain ⟨_, _, _, _, rfl, _⟩ := h
    rfl
  · obtain ⟨t, tp, us, pu, rfl, ht, hp, pl, mo, k⟩ := h
    refine ⟨_, (pss_cons (ps_if (pt_not (pt_val (pe_callB call_isi (by rfl) T.b_isinstance (by decide +kernel) (pa_cons (pv 0) (pa_cons (pe_bltn (v := .ty "tuple") (by rfl) T2.b_tuple (by decide +kernel) rfl) pa_nil))))) (pss_one ps_never) pss_nil)
      (pss_cons (ps_set (i := 2) sc_check_meters.nd rfl (Or.inl rfl) (pe_lst pa_nil))
      (pss_one (ps_for PassesOwn.never rfl (pi_enumT (by rfl) T2.b_enumerate (pa_cons (pv 0) pa_nil)) (pg_tup (by rfl) (pgs_cons (pg_name (i := 3) sc_check_meters.nd rfl (Or.inl rfl)) (pgs_cons (pg_name (i := 4) sc_check_meters.nd rfl (Or.inl rfl)) pgs_nil))) (pss_cons (ps_if (PW.pt (pw_or (pt_not (pt_val (pe_callB call_isi (by rfl) T.b_isinstance (by decide +kernel) (pa_cons (pv 4) (pa_cons (pe_gC MC.k) pa_nil))))) (pw_or (pt_cmpR op_in_seq (pe_propN h_mn (hr.mono (by decide)) (pv 4)) (pv 2) (by rfl)) (pw_or1 (pt_cmpR op_ge (pv 3) (pe_gI C3.meters) (nomark _)))))) (pss_one ps_never) pss_nil) (pss_cons (ps_if (pt_cmpR op_isN (pe_fn h_index_of (hr.mono (by decide)) (pa_cons (pv 1) (pa_cons (pe_propN h_ma (hr.mono (by decide)) (pv 4)) pa_nil))) pe_non (nomark _)) (pss_one ps_never) pss_nil) (pss_one (ps_expr (pe_bm PySem.F.plainAttrs_list PySem.F.slot_list_append PySem.F.type_list_append mt_append (pv 2) (pa_cons (pe_propN h_mn (hr.mono (by decide)) (pv 4)) pa_nil)))))))))), ?_⟩
    refine ⟨_, rfl, _, _, .type "tuple", .type "tuple", true, rfl, .ty _, tyx_tup ht.t, kit_ty (by decide +kernel), true, rfl, iteF ?_⟩
    refine ⟨by decide, fun nl nn => ?_⟩
    have ul : us.length ≤ 12 := by rw [← sn_len]; exact mo.ln
    dsimp only [gName]
    refine ⟨_, rfl, t, _, rfl, ht.t.ext (fun b o e => by rw [upd_ne (ne_of_none e nn)]; exact e), for_enumT (xs := rf us) (fun i σ H' => (∃ o3 o4, σ = [some (.ref t), some (.ref tp), some (.ref nl), o3, o4]) ∧ Same H H' ∧ H' nl = some (.lst ((((sn us).take i).map (·.1)).map V.str))) ⟨⟨none, none, rfl⟩, fun b o e => by rw [upd_ne (ne_of_none e nn)]; exact e, upd_same⟩ ?_ ?_ ?_⟩
    · rintro i σ H1 _ ⟨_, s1, _⟩
      exact ht.t.ext s1
    · rintro i x σ H1 T' hx' ⟨⟨o1, o2, rfl⟩, s1, e1⟩ nT
      rw [rf, List.getElem?_map] at hx'
      cases hu : us[i]? with
      | none => rw [hu] at hx'; cases hx'
      | some u =>
        rw [hu] at hx'
        obtain rfl : V.ref u.1 = x := Option.some.inj hx'
        have hm := List.mem_of_getElem? hu
        have hlt := (List.getElem?_eq_some_iff.mp hu).1
        have s2 : Same H (upd H1 T' (.tup [.int (i : Nat), .ref u.1])) := fun b o e => by
          rw [upd_ne (ne_of_none (s1 b o e) nT)]
          exact s1 b o e
        have e2 := (upd_ne (o := .tup [.int (i : Nat), .ref u.1]) (ne_of_none e1 nT)).trans e1
        have mu := (ht.o u hm).ext s2
        obtain ⟨dx, ex⟩ := id mu
        have hsn : (sn us)[i]? = some u.2 := by rw [sn, List.getElem?_map, hu]; rfl
        refine ⟨T', _, rfl, SqT.of upd_same, rfl, _, _, rfl, _, _, rfl, rfl, ?_⟩
        refine ⟨_, rfl, _, _, _, .ref CM, true, rfl, .own CM, MC.x.ty ex, MC.me, true, rfl, iteF ?_⟩
        refine ⟨_, rfl, u.1, dx, _, rfl, ex, irr ⟨u.1, u.2, rfl, mu, _, rfl, nl, _, rfl, .inl (SqL.of e2), rfl, strs_flat _, ?_⟩⟩
        rw [inV_str, decide_eq_false (nodup_take mo.nd hsn)]
        refine ⟨_, rfl, iteF ⟨_, rfl, _, _, rfl, rfl, _, rfl, ?_⟩⟩
        refine ite2 (fun h => ?_) fun _ => ?_
        · have := of_decide_eq_true h
          omega
        refine ⟨_, rfl, _, rfl, u.1, dx, _, rfl, ex, irr ⟨u.1, u.2, rfl, mu, irr ⟨tp, pu, u.2.2.1, rfl, hp.ext s2, pl, mo.on u.2 (List.mem_of_getElem? hsn), fun ix H2 _ s3 => ?_⟩⟩⟩
        refine ⟨rfl, _, rfl, iteF ?_⟩
        have e3 := s3 _ _ e2
        have mu3 := mu.ext s3
        obtain ⟨dx3, ex3⟩ := id mu3
        refine ⟨_, rfl, .inl ⟨rfl, _, SqL.of e3⟩, _, rfl, u.1, dx3, _, rfl, ex3, irr ⟨u.1, u.2, rfl, mu3, nl, _, _, rfl, rfl, e3, ?_, ⟨_, _, rfl⟩, fun b o e => ?_, ?_⟩⟩
        · rw [List.length_map, List.length_map]
          exact Nat.lt_of_le_of_lt (List.length_take_le _ _) (Nat.lt_of_lt_of_le (show i < 13 by omega) (by decide))
        · rw [upd_ne (ne_of_none e nn)]
          exact s3 _ _ (s2 b o e)
        · rw [upd_same, List.take_add_one, hsn]
          simp
    · rintro σ H1 ⟨⟨o1, o2, rfl⟩, s1, _⟩
      exact k H1 s1
theorem ok_Net_i {f : Addr} {fd : FuncData} {pds : List V} {kws : List (Str × V)} (F : FunD K "__init__" "Net.__init__" (defArgs s_Net___init__) (defBody s_Net___init__) (defScope s_Net___init__) pds kws f fd) (T : NClass K mg CN) (h_check_pipes : Fn P w K mg base "_check_pipes" 3 ["pipes"] (Irr (sp_chkP K CP))) (h_check_meters : Fn P w K mg base "_check_meters" 4 ["meters", "pipes"] (Irr (sp_chkM K CP CM))) : FnOk P w K mg base CX0 5 f fd ["self", "pipes", "meters"] (sp_Net K CN CP CM) := by
  refine F.ok sc_Net___init__ (fun vs H Q E h => ?_) (fun cdv A outer s H vs Q E hr h => ?_)
  · obtain ⟨_, _, _, _, _, _, rfl, _⟩ := h
    rfl
  · obtain ⟨x, dx, tp, tm, pu, mu, rfl, hx, hp, hm, po, mo, k⟩ := h
    refine ⟨_, (pss_cons (ps_expr (pe_fn h_check_pipes (hr.mono (by decide)) (pa_cons (pv 1) pa_nil)))
      (pss_cons (ps_expr (pe_fn h_check_meters (hr.mono (by decide)) (pa_cons (pv 2) (pa_cons (pv 1) pa_nil))))
      (pss_cons (ps_fld (pv 0) (pv 1) rfl)
      (pss_one (ps_fld (pv 0) (pv 2) rfl))))), ?_⟩
    refine ⟨_, rfl, irr ⟨tp, pu, rfl, hp, po, fun H1 s1 => ?_⟩⟩
    refine ⟨_, rfl, _, rfl, irr ⟨tm, tp, mu, pu, rfl, hm.ext s1, hp.ext s1, by rw [← sn_len]; exact po.ln, mo, fun H2 s2 => ?_⟩⟩
    have hx2 := s2 _ _ (s1 _ _ hx)
    refine ⟨_, rfl, _, rfl, x, CN, dx, _, rfl, hx2, T.x.cl, T.n1, (by show 0 < 1000; decide), ?_⟩
    refine ⟨_, rfl, _, rfl, x, CN, dx, _, rfl, upd_same, T.x.cl, T.n2, (by have := putF_len "_pipes" (.ref tp) []; simp at this ⊢; omega), ?_⟩
    refine k _ (fun b o hb eb => ?_) ⟨dx, upd_same⟩
    rw [upd_ne hb, upd_ne hb]
    exact s2 _ _ (s1 _ _ eb)
/-- the tuple of a net's pipes, of a net's meters -/
def sp_npi (CN : Addr) : Sp := fun vs H Q _ => ∃ (a dx tp tm : Addr), vs = [.ref a] ∧ H a = some (.ins CN dx (netF tp tm)) ∧ Q (.ref tp) H
def sp_nme (CN : Addr) : Sp := fun vs H Q _ => ∃ (a dx tp tm : Addr), vs = [.ref a] ∧ H a = some (.ins CN dx (netF tp tm)) ∧ Q (.ref tm) H
def sp_nlen (K : PySem.W.Frag) (CN : Addr) : Sp := fun vs H Q _ => ∃ (a dx tp tm : Addr) (xs : List V), vs = [.ref a] ∧ H a = some (.ins CN dx (netF tp tm)) ∧ SqT K H tp xs ∧ ∃ n : Nat, n = xs.length ∧ n < 2 ^ 62 ∧ Q (.int n) H
theorem ok_Net_p {f : Addr} {fd : FuncData} (F : Fun K "pipes" "Net.pipes" s_Net_pipes f fd) (T : NClass K mg CN) : FnOk P w K mg base CX0 1 f fd ["self"] (sp_npi CN) := by
  refine F.ok sc_Net_pipes (fun vs H Q E h => ?_) (fun cdv A outer s H vs Q E hr h => ?_)
  · obtain ⟨_, _, _, _, rfl, _⟩ := h
    rfl
  · obtain ⟨a, dx, tp, tm, rfl, ha, k⟩ := h
    refine ⟨_, (pss_one (ps_ret (pe_fld (pv 0) rfl))), ?_⟩
    exact ⟨_, rfl, a, CN, dx, _, _, rfl, ha, T.x.cl, T.n1, netF_p _ _, k⟩
theorem ok_Net_m {f : Addr} {fd : FuncData} (F : Fun K "meters" "Net.meters" s_Net_meters f fd) (T : NClass K mg CN) : FnOk P w K mg base CX0 1 f fd ["self"] (sp_nme CN) := by
  refine F.ok sc_Net_meters (fun vs H Q E h => ?_) (fun cdv A outer s H vs Q E hr h => ?_)
  · obtain ⟨_, _, _, _, rfl, _⟩ := h
    rfl
  · obtain ⟨a, dx, tp, tm, rfl, ha, k⟩ := h
    refine ⟨_, (pss_one (ps_ret (pe_fld (pv 0) rfl))), ?_⟩
    exact ⟨_, rfl, a, CN, dx, _, _, rfl, ha, T.x.cl, T.n2, netF_m _ _, k⟩
theorem ok_Net_l {f : Addr} {fd : FuncData} (F : Fun K "__len__" "Net.__len__" s_Net___len__ f fd) (T : NClass K mg CN) (B : Blt mg) : FnOk P w K mg base CX0 1 f fd ["self"] (sp_nlen K CN) := by
  refine F.ok sc_Net___len__ (fun vs H Q E h => ?_) (fun cdv A outer s H vs Q E hr h => ?_)
  · obtain ⟨_, _, _, _, _, rfl, _⟩ := h
    rfl
  · obtain ⟨a, dx, tp, tm, xs, rfl, ha, ht, n, en, nb, k⟩ := h
    refine ⟨_, (pss_one (ps_ret (pe_callB call_len_seq (by rfl) B.b_len (by decide +kernel) (pa_cons (pe_fld (pv 0) rfl) pa_nil)))), ?_⟩
    refine ⟨_, rfl, a, CN, dx, _, _, rfl, ha, T.x.cl, T.n1, netF_p _ _, tp, xs, rfl, .inr ht, ?_⟩
    rw [← en]
    exact k
end
end RV
namespace RV
open PySem L2 TL
section
variable {P : Program} {w : World} {K : PySem.W.Frag} {mg : Str → Option Value} {base : Heap} {CN CP CM : Addr}
theorem ok_pipe_line {f : Addr} {fd : FuncData} (F : Fun K "_pipe_line" "_pipe_line" s_pipe_line f fd) (h_pn : Prp P w K mg base CP "name" 1 (Irr (sp_pn CP))) (h_ps : Prp P w K mg base CP "start" 1 (Irr (sp_ps CP))) (h_pe : Prp P w K mg base CP "end" 1 (Irr (sp_pe CP))) : FnOk P w K mg base CX0 3 f fd ["part"] (sp_pline CP) := by
  refine F.ok sc_pipe_line (fun vs H Q E h => ?_) (fun cdv A outer s H vs Q E hr h => ?_)
  · obtain ⟨_, _, rfl, _⟩ := h
    rfl
  · obtain ⟨a, q, rfl, ha, h1, h2, h3, k⟩ := h
    refine ⟨_, (pss_one (ps_ret (pe_joined (.cons pe_str (.cons (pe_fmt (pe_propN h_pn (hr.mono (by decide)) (pv 0))) (.cons pe_str (.cons (pe_fmt (pe_propN h_ps (hr.mono (by decide)) (pv 0))) (.cons pe_str (.cons (pe_fmt (pe_propN h_pe (hr.mono (by decide)) (pv 0))) .nil))))))))), ?_⟩
    obtain ⟨dx, ea⟩ := id ha
    have l1 := nm8 h1
    have l2 := nm8 h2
    have l3 := nm8 h3
    have e1 : Str.length " " = 1 := by decide +kernel
    have e2 : Str.length Str.empty = 0 := by decide +kernel
    have e3 : Str.length "pipe " = 5 := by decide +kernel
    refine ⟨_, rfl, ?_, _, rfl, a, dx, _, rfl, ea, irr ⟨a, q, rfl, ha, .inl ⟨_, rfl, szn (by omega), _, rfl, ?_, _, rfl, ?_, _, rfl, a, dx, _, rfl, ea, irr ⟨a, q, rfl, ha, .inl ⟨_, rfl, szn (by omega), _, rfl, ?_, _, rfl, ?_, _, rfl, a, dx, _, rfl, ea, irr ⟨a, q, rfl, ha, .inl ⟨_, rfl, szn (by omega), _, rfl, ?_, k⟩⟩⟩⟩⟩⟩⟩
    all_goals (repeat rw [sl_app]); rw [e2, e3]; try rw [e1]
    all_goals exact szn (by omega)
theorem ok_meter_line {f : Addr} {fd : FuncData} (F : Fun K "_meter_line" "_meter_line" s_meter_line f fd) (h_mn : Prp P w K mg base CM "name" 1 (Irr (sp_mn CM))) (h_ma : Prp P w K mg base CM "at" 1 (Irr (sp_ma CM))) (h_mz : Prp P w K mg base CM "sealed" 1 (Irr (sp_mz CM))) : FnOk P w K mg base CX0 3 f fd ["part"] (sp_mline CM) := by
  refine F.ok sc_meter_line (fun vs H Q E h => ?_) (fun cdv A outer s H vs Q E hr h => ?_)
  · obtain ⟨_, _, rfl, _⟩ := h
    rfl
  · obtain ⟨a, q, rfl, ha, h1, h2, k⟩ := h
    refine ⟨_, (pss_cons (ps_set (i := 1) sc_meter_line.nd rfl (Or.inl rfl) (pe_ifExp (pt_val (pe_propN h_mz (hr.mono (by decide)) (pv 0))) pe_str pe_str))
      (pss_one (ps_ret (pe_joined (.cons pe_str (.cons (pe_fmt (pe_propN h_mn (hr.mono (by decide)) (pv 0))) (.cons pe_str (.cons (pe_fmt (pe_propN h_ma (hr.mono (by decide)) (pv 0))) (.cons (pe_fmt (pv 1)) .nil))))))))), ?_⟩
    obtain ⟨dx, ea⟩ := id ha
    have l1 := nm8 h1
    have l2 := nm8 h2
    have e1 : Str.length " " = 1 := by decide +kernel
    have e2 : Str.length Str.empty = 0 := by decide +kernel
    have e3 : Str.length "meter " = 6 := by decide +kernel
    have e4 : ∀ z, (mseal z).length ≤ 7 := fun z => by
      cases z
      · show Str.length "" ≤ 7
        decide +kernel
      · show Str.length " sealed" ≤ 7
        decide +kernel
    have l4 := e4 q.2.2
    refine seq_of (fun σ' H' => σ' = [some (.ref a), some (.str (mseal q.2.2))] ∧ H' = H) ?rest (fun N hN => ?main)
    case main =>
      refine ⟨_, rfl, a, dx, _, rfl, ea, irr ⟨a, q, rfl, ha, q.2.2, rfl, ?_⟩⟩
      cases hz : q.2.2 with
      | true => exact iteT (hN _ _ ⟨by rw [hz]; rfl, rfl⟩)
      | false => exact iteF (hN _ _ ⟨by rw [hz]; rfl, rfl⟩)
    rintro σ1 H1 ⟨rfl, rfl⟩
    refine ⟨_, rfl, ?_, _, rfl, a, dx, _, rfl, ea, irr ⟨a, q, rfl, ha, .inl ⟨_, rfl, szn (by omega), _, rfl, ?_, _, rfl, ?_, _, rfl, a, dx, _, rfl, ea, irr ⟨a, q, rfl, ha, .inl ⟨_, rfl, szn (by omega), _, rfl, ?_, _, rfl, .inl ⟨_, rfl, szn (by omega), _, rfl, ?_, k⟩⟩⟩⟩⟩⟩
    all_goals (repeat rw [sl_app]); rw [e2, e3]; try rw [e1]
    all_goals exact szn (by omega)
end
end RV
namespace RV
open PySem L2 TL
section
variable {P : Program} {w : World} {K : PySem.W.Frag} {mg : Str → Option Value} {base : Heap} {CN CP CM : Addr}
theorem ok_lines {f : Addr} {fd : FuncData} (F : Fun K "_lines" "_lines" s_lines f fd) (h_pipe_line : Fn P w K mg base "_pipe_line" 3 ["part"] (Irr (sp_pline CP))) (h_meter_line : Fn P w K mg base "_meter_line" 3 ["part"] (Irr (sp_mline CM))) : FnOk P w K mg base CX0 4 f fd ["pipes", "meters"] (sp_lines K CP CM) := by
  refine F.ok sc_lines (fun vs H Q E h => ?_) (fun cdv A outer s H vs Q E hr h => ?_)
  · obtain ⟨_, _, _, _, rfl, _⟩ := h
    rfl
  · obtain ⟨tp, tm, pu, mu, rfl, hp, hm, np, nm, pl, ml, k⟩ := h
    refine ⟨_, (pss_one (ps_ret (pe_op op_cat (pe_lc (own := [("part", 2)]) (g := gName 2) (tt := tYes) rfl sc_lines.nd (pi_tup (pv 0)) (blkOk_by (N := sc_lines_N) (sc := defScope s_lines) (by decide +kernel)) (fun _ _ _ _ _ => pg_name (i := 2) sc_lines.nd rfl (Or.inl rfl)) (fun _ _ _ _ _ => pts_nil) (fun _ _ _ _ _ => (pe_fn h_pipe_line (hr.mono (by decide)) (pa_cons (pv 2) pa_nil)))) (pe_lc (own := [("part", 2)]) (g := gName 2) (tt := tYes) rfl sc_lines.nd (pi_tup (pv 1)) (blkOk_by (N := sc_lines_N) (sc := defScope s_lines) (by decide +kernel)) (fun _ _ _ _ _ => pg_name (i := 2) sc_lines.nd rfl (Or.inl rfl)) (fun _ _ _ _ _ => pts_nil) (fun _ _ _ _ _ => (pe_fn h_meter_line (hr.mono (by decide)) (pa_cons (pv 2) pa_nil))))))), ?_⟩
    refine ⟨_, rfl, tp, rfl, ⟨_, hp.t⟩, fun D nD => lc_to (xs := rf pu) (((sn pu).map pline).map V.str) (by rw [List.length_map, List.length_map, sn_len, rf_len]) walk_tup nD (by rw [rf_len]; omega) (fun H' s' => hp.t.ext s') (fun _ => rfl) (fun j x y hx hy H2 s2 R kR => ?_) fun H2 s2 hD => ?_⟩
    · rw [rf, List.getElem?_map] at hx
      cases hu : pu[j]? with
      | none => rw [hu] at hx; cases hx
      | some u =>
        rw [hu] at hx
        obtain rfl : V.ref u.1 = x := Option.some.inj hx
        rw [List.getElem?_map, List.getElem?_map, sn, List.getElem?_map, hu] at hy
        obtain rfl : V.str (pline u.2) = y := Option.some.inj hy
        have hm := List.mem_of_getElem? hu
        have n := np u.2 (List.mem_map.mpr ⟨u, hm, rfl⟩)
        exact ⟨_, rfl, irr ⟨u.1, u.2, rfl, (hp.o u hm).ext s2, n.1, n.2.1, n.2.2, kR _ (Same.refl _)⟩⟩
    refine ⟨_, rfl, tm, rfl, ⟨_, hm.t.ext s2⟩, fun D2 nD2 => lc_to (xs := rf mu) (((sn mu).map mline).map V.str) (by rw [List.length_map, List.length_map, sn_len, rf_len]) walk_tup nD2 (by rw [rf_len]; omega) (fun H' s' => (hm.t.ext s2).ext s') (fun _ => rfl) (fun j x y hx hy H3 s3 R kR => ?_) fun H3 s3 hD2 => ?_⟩
    · rw [rf, List.getElem?_map] at hx
      cases hu : mu[j]? with
      | none => rw [hu] at hx; cases hx
      | some u =>
        rw [hu] at hx
        obtain rfl : V.ref u.1 = x := Option.some.inj hx
        rw [List.getElem?_map, List.getElem?_map, sn, List.getElem?_map, hu] at hy
        obtain rfl : V.str (mline u.2) = y := Option.some.inj hy
        have hmu := List.mem_of_getElem? hu
        have n := nm u.2 (List.mem_map.mpr ⟨u, hmu, rfl⟩)
        exact ⟨_, rfl, irr ⟨u.1, u.2, rfl, ((hm.o u hmu).ext s2).ext s3, n.1, n.2, kR _ (Same.refl _)⟩⟩
    refine ⟨D, D2, _, _, rfl, rfl, s3 _ _ hD, hD2, ?_, fun lo nlo => ?_⟩
    · simp only [List.length_map, sn_len]
      exact Nat.le_trans (show pu.length + mu.length ≤ 40 by omega) (by decide)
    · refine k lo _ ⟨fun b o e => ?_, fun p hp => ?_⟩
      · rw [upd_ne (ne_of_none (s3 _ _ (s2 _ _ e)) nlo)]
        exact s3 _ _ (s2 _ _ e)
      · rw [List.mem_singleton.mp hp]
        refine ⟨?_, by rw [upd_same, netL, List.map_append]⟩
        show H lo = none
        cases e : H lo with
        | none => rfl
        | some o => rw [s3 _ _ (s2 _ _ e)] at nlo; cases nlo
theorem ok_Net_s {f : Addr} {fd : FuncData} (F : Fun K "__str__" "Net.__str__" s_Net___str__ f fd) (T : NClass K mg CN) (h_lines : Fn P w K mg base "_lines" 4 ["pipes", "meters"] (Irr (sp_lines K CP CM))) : FnOk P w K mg base CX0 5 f fd ["self"] (sp_nstr K CN CP CM) := by
  refine F.ok sc_Net___str__ (fun vs H Q E h => ?_) (fun cdv A outer s H vs Q E hr h => ?_)
  · obtain ⟨_, _, _, rfl, _⟩ := h
    rfl
  · obtain ⟨x, ps, ms, rfl, hx, np, nm, pl, ml, k⟩ := h
    refine ⟨_, (pss_one (ps_ret (pe_join pe_str (pe_fn h_lines (hr.mono (by decide)) (pa_cons (pe_fld (pv 0) rfl) (pa_cons (pe_fld (pv 0) rfl) pa_nil)))))), ?_⟩
    obtain ⟨dx, tp, tm, pu, mu, ex, hp, hm, rfl, rfl⟩ := hx.ex
    refine ⟨⟨_, rfl⟩, _, rfl, x, CN, dx, _, _, rfl, ex, T.x.cl, T.n1, netF_p _ _, _, rfl, x, CN, dx, _, _, rfl, ex, T.x.cl, T.n2, netF_m _ _, irr ⟨tp, tm, pu, mu, rfl, hp, hm, np, nm, by rw [← sn_len]; exact pl, by rw [← sn_len]; exact ml, fun m H' kp => ⟨_, m, netL (sn pu) (sn mu), rfl, rfl, .inl (SqL.of (kp.at List.mem_cons_self)), ?_, k H' kp.sm⟩⟩⟩
    have h1 := netL_sum np nm
    have h2 : (netL (sn pu) (sn mu)).length = (sn pu).length + (sn mu).length := by rw [netL, List.length_append, List.length_map, List.length_map]
    have h3 : Str.length "\n" = 1 := by decide +kernel
    rw [h3]
    omega
end
end RV
namespace RV
open PySem L2 TL
section
variable {P : Program} {w : World} {K : PySem.W.Frag} {mg : Str → Option Value} {base : Heap} {CN CP CM : Addr}
theorem ok_Net_q {f : Addr} {fd : FuncData} (F : Fun K "__eq__" "Net.__eq__" s_Net___eq__ f fd) (T : NClass K mg CN) (B : Blt mg) (oP : OwnEq P w K mg base CP 1 (sp_Peq CP)) (oM : OwnEq P w K mg base CM 1 (sp_Meq CM)) : FnOk P w K mg base CX0 4 f fd ["self", "other"] (sp_Neq K CN CP CM) := by
  refine F.ok sc_Net___eq__ (fun vs H Q E h => ?_) (fun cdv A outer s H vs Q E hr h => ?_)
  · obtain ⟨_, _, _, _, _, rfl, _⟩ := h
    rfl
  · obtain ⟨a, b, ps, ms, ms', rfl, ha, hb, hor, k⟩ := h
    refine ⟨_, (pss_one (ps_ret (pe_and (pe_callB call_isi (by rfl) B.b_isinstance (by decide +kernel) (pa_cons (pv 1) (pa_cons (pe_gC T.k) pa_nil))) (pe_and (pe_cmpR (op_eqTup (rc_pipes oP) (hr.mono (by decide))) (pe_fld (pv 0) rfl) (pe_fld (pv 1) rfl) (nomark _)) (pe_one (pe_cmpR (op_eqTup (rc_meters oM) (hr.mono (by decide))) (pe_fld (pv 0) rfl) (pe_fld (pv 1) rfl) (nomark _))))))), ?_⟩
    obtain ⟨dx, tp, tm, pu, mu, ex, hp, hm, e1, e2⟩ := ha.ex
    obtain ⟨dx', tp', tm', pu', mu', ex', hp', hm', e1', e2'⟩ := hb.ex
    refine ⟨_, rfl, _, _, _, .ref CN, true, rfl, .own CN, T.x.ty ex', T.me, true, rfl, iteT ?_⟩
    refine ⟨_, rfl, a, CN, dx, _, _, rfl, ex, T.x.cl, T.n1, netF_p _ _, _, rfl, b, CN, dx', _, _, rfl, ex', T.x.cl, T.n1, netF_p _ _, .inl ⟨dtup_of hp.t hp'.t (e1.trans e1'.symm) fun i u v hu hv e => ?_, fun H1 s1 => ⟨true, rfl, iteT ?_⟩⟩⟩
    · obtain ⟨dy, ey⟩ := hp.o u (List.mem_of_getElem? hu)
      obtain ⟨dz, ez⟩ := hp'.o v (List.mem_of_getElem? hv)
      exact ⟨u.1, v.1, dy, dz, _, _, rfl, rfl, ey, ez, u.2, ⟨dy, ey⟩, by rw [e]; exact ⟨dz, ez⟩⟩
    refine ⟨_, rfl, a, CN, dx, _, _, rfl, s1 _ _ ex, T.x.cl, T.n2, netF_m _ _, _, rfl, b, CN, dx', _, _, rfl, s1 _ _ ex', T.x.cl, T.n2, netF_m _ _, ?_⟩
    have hm1 := hm.ext s1
    have hm1' := hm'.ext s1
    by_cases e : ms = ms'
    · refine .inl ⟨dtup_of hm1.t hm1'.t (e2.trans (e.trans e2'.symm)) fun i u v hu hv e => ?_, fun H2 s2 => ?_⟩
      · obtain ⟨dy, ey⟩ := hm1.o u (List.mem_of_getElem? hu)
        obtain ⟨dz, ez⟩ := hm1'.o v (List.mem_of_getElem? hv)
        exact ⟨u.1, v.1, dy, dz, _, _, rfl, rfl, ey, ez, u.2, ⟨dy, ey⟩, by rw [e]; exact ⟨dz, ez⟩⟩
      · have := k H2 fun b o e => s2 b o (s1 b o e)
        rwa [decide_eq_true e] at this
    · have hl1 : (rf mu).length = ms.length := by rw [rf_len, ← sn_len, e2]
      have hl2 : (rf mu').length = ms'.length := by rw [rf_len, ← sn_len, e2']
      refine .inr ⟨tm, tm', _, _, rfl, rfl, hm1.t, hm1'.t, ?_, ?_, ?_⟩
      · rw [hl1, hl2, List.length_eq_zero_iff, List.length_eq_zero_iff]
        exact hor.resolve_left e
      · rw [hl1, hl2]
        rcases hor.resolve_left e with z | z
        · subst z
          intro q
          exact e (List.length_eq_zero_iff.mp q.symm).symm
        · subst z
          intro q
          exact e (List.length_eq_zero_iff.mp q)
      · have := k H1 s1
        rwa [decide_eq_false e] at this
theorem ok_rows_in {f : Addr} {fd : FuncData} (F : Fun K "_rows_in" "_rows_in" s_rows_in f fd) : FnOk P w K mg base CX0 1 f fd ["text"] sp_rows := by
  refine F.ok sc_rows_in (fun vs H Q E h => ?_) (fun cdv A outer s H vs Q E hr h => ?_)
  · obtain ⟨_, _, rfl, _⟩ := h
    rfl
  · obtain ⟨ps, ms, rfl, ok, k⟩ := h
    refine ⟨_, (pss_one (ps_ret (pe_lc (own := [("line", 1)]) (g := gName 1) (tt := tYes) rfl sc_rows_in.nd (pi_list (pe_split (pv 0) pe_str)) (blkOk_by (N := sc_rows_in_N) (sc := defScope s_rows_in) (by decide +kernel)) (fun _ _ _ _ _ => pg_name (i := 1) sc_rows_in.nd rfl (Or.inl rfl)) (fun _ _ _ _ _ => pts_nil) (fun _ _ _ _ _ => (pe_split (pv 1) pe_str))))), ?_⟩
    have tl := netT_len ok.pn ok.mn ok.pl ok.ml
    refine ⟨_, rfl, ⟨_, rfl⟩, _, _, rfl, rfl, by decide +kernel, Nat.le_trans (show _ ≤ 5010 by omega) (by decide), fun p np => ?_⟩
    rw [split_netT ok.n0 ok.pn ok.mn]
    have s1 : Same H (upd H p (.lst ((netL ps ms).map V.str))) := fun b o e => (upd_ne (ne_of_none e np)).trans e
    have hll : ((netL ps ms).map V.str).length = ps.length + ms.length := by rw [List.length_map, netL, List.length_append, List.length_map, List.length_map]
    have hl1 : SqL K (upd H p (.lst ((netL ps ms).map V.str))) p ((netL ps ms).map V.str) := SqL.of upd_same
    have := ok.pl
    have := ok.ml
    refine ⟨p, rfl, ⟨_, hl1⟩, fun D nD => lc_new (β := RU) (xs := (netL ps ms).map V.str) (fun u => .ref u.1) (fun j u H' => H' u.1 = some (.lst (u.2.map V.str)) ∧ u.1 ≠ D ∧ (rowsL ps ms)[j]? = some u.2) walk_list nD (by omega) (fun H' s' => hl1.ext s') (fun _ => rfl) (fun j u H' H'' s' z => ⟨s' _ _ z.1, z.2⟩) (fun j u H' acc acc' _ z => ⟨by rw [upd_ne z.2.1]; exact z.1, z.2⟩) (fun j x hx H2 s2 hD R kR => ?_) fun us H2 s2 ul up hD => ?_⟩
    · rw [List.getElem?_map] at hx
      cases hu : (netL ps ms)[j]? with
      | none => rw [hu] at hx; cases hx
      | some z =>
        rw [hu] at hx
        obtain rfl : V.str z = x := Option.some.inj hx
        obtain ⟨row, er, hl, es⟩ : ∃ row, (rowsL ps ms)[j]? = some row ∧ z.length ≤ 40 ∧ Txt.split z " " = row := by
          unfold netL at hu
          unfold rowsL
          rw [List.getElem?_append] at hu ⊢
          rw [List.length_map] at hu ⊢
          split at hu
          · rename_i hlt
            rw [if_pos hlt]
            rw [List.getElem?_map] at hu ⊢
            cases hq : ps[j]? with
            | none => rw [hq] at hu; cases hu
            | some q =>
              rw [hq] at hu
              obtain rfl : pline q = z := Option.some.inj hu
              have n := ok.pn q (List.mem_of_getElem? hq)
              exact ⟨_, rfl, pline_len n.1 n.2.1 n.2.2, split_pline n.1 n.2.1 n.2.2⟩
          · rename_i hlt
            rw [if_neg hlt]
            rw [List.getElem?_map] at hu ⊢
            cases hq : ms[j - ps.length]? with
            | none => rw [hq] at hu; cases hu
            | some q =>
              rw [hq] at hu
              obtain rfl : mline q = z := Option.some.inj hu
              have n := ok.mn q (List.mem_of_getElem? hq)
              exact ⟨_, rfl, mline_len n.1 n.2, split_mline n.1 n.2⟩
        obtain ⟨acc, eD⟩ := hD
        refine ⟨_, rfl, ⟨_, rfl⟩, _, _, rfl, rfl, by decide +kernel, szn (by omega), fun t nt => ?_⟩
        rw [es]
        exact kR (t, row) _ (fun b o e => (upd_ne (ne_of_none e nt)).trans e) ⟨upd_same, fun e => (by rw [show t = D from e, eD] at nt; cases nt), er⟩
    · refine k D us H2 (fun b o e => s2 b o (s1 b o e)) ⟨hD, fun u hu => ?_⟩ (List.ext_getElem? fun j => ?_)
      · obtain ⟨j, hj, e⟩ := List.mem_iff_getElem.mp hu
        exact (up j u (by rw [List.getElem?_eq_getElem hj, e])).1
      · rw [sn, List.getElem?_map]
        cases e : us[j]? with
        | some u => exact (up j u e).2.2.symm
        | none =>
          rw [List.getElem?_eq_none_iff] at e
          rw [List.getElem?_eq_none (by rw [rowsL, List.length_append, List.length_map, List.length_map]; omega)]
          rfl
end
end RV
namespace RV
open PySem L2 TL
section
variable {P : Program} {w : World} {K : PySem.W.Frag} {mg : Str → Option Value} {base : Heap} {CN CP CM : Addr}
theorem ok_pipes_in {f : Addr} {fd : FuncData} (F : Fun K "_pipes_in" "_pipes_in" s_pipes_in f fd) (T : Blt mg) (T2 : Blt2 mg) (h_rows_in : Fn P w K mg base "_rows_in" 1 ["text"] (Irr sp_rows)) (h_Pipe : Mkr P w K mg base "Pipe" CP 3 (Irr (sp_Pipe CP)) []) : FnOk P w K mg base CX0 5 f fd ["text"] (sp_pin K CP) := by
  refine F.ok sc_pipes_in (fun vs H Q E h => ?_) (fun cdv A outer s H vs Q E hr h => ?_)
  · obtain ⟨_, _, rfl, _⟩ := h
    rfl
  · obtain ⟨ps, ms, rfl, ok, po, k⟩ := h
    refine ⟨_, (pss_cons (ps_setLc (i := 1) (own := [("row", 2)]) (g := gName 2) rfl sc_pipes_in.nd rfl rfl (sw_true rfl rfl rfl (by decide +kernel)) (pi_list (pe_fn h_rows_in (hr.mono (by decide)) (pa_cons (pv 0) pa_nil))) (blkOk_by (N := sc_pipes_in_N) (sc := defScope s_pipes_in) (by decide +kernel)) (fun _ _ _ _ _ => pg_name (i := 2) sc_pipes_in.nd rfl (Or.inl rfl)) (fun _ _ _ _ _ => pts_one (PW.pt (pw_and (pt_cmpR op_eq (pe_ix ix_listK (pv 2) pe_int (fun _ _ => rfl)) pe_str (nomark _)) (pw_and1 (pt_cmpR op_eq (pe_callB call_lenK (by rfl) T.b_len (by decide +kernel) (pa_cons (pv 2) pa_nil)) pe_int (nomark _)))))) (fun _ _ _ _ _ => (pv 2)))
      (pss_one (ps_ret (pe_callTy call_tuple_of (by rfl) T2.b_tuple (by decide +kernel) (pa_cons (pe_lc (own := [("row", 2)]) (g := gName 2) (tt := tYes) rfl sc_pipes_in.nd (pi_list (pv 1)) (blkOk_by (N := sc_pipes_in_N) (sc := defScope s_pipes_in) (by decide +kernel)) (fun _ _ _ _ _ => pg_name (i := 2) sc_pipes_in.nd rfl (Or.inl rfl)) (fun _ _ _ _ _ => pts_nil) (fun _ _ _ _ _ => (pe_mk h_Pipe (hr.mono (by decide)) (pa_cons (pe_ix ix_listK (pv 2) pe_int (fun _ _ => rfl)) (pa_cons (pe_ix ix_listK (pv 2) pe_int (fun _ _ => rfl)) (pa_cons (pe_ix ix_listK (pv 2) pe_int (fun _ _ => rfl)) pa_nil)))))) pa_nil))))), ?_⟩
    refine ⟨_, rfl, irr ⟨ps, ms, rfl, ok, fun l us H1 s1 rw1 er => ⟨l, rfl, ⟨_, SqL.of rw1.l⟩, fun D nD => ?_⟩⟩⟩
    have hl1 : SqL K H1 l (rf us) := SqL.of rw1.l
    have ul : us.length ≤ 40 := by
      rw [← sn_len, er, rowsL, List.length_append, List.length_map, List.length_map]
      have := ok.pl
      have := ok.ml
      omega
    have row_of : ∀ u ∈ us, (∃ q, u.2 = prow q) ∨ ∃ q, u.2 = mrow q := fun u hu => by
      have : u.2 ∈ rowsL ps ms := by rw [← er]; exact List.mem_map.mpr ⟨u, hu, rfl⟩
      rcases List.mem_append.mp this with h | h
      · obtain ⟨q, _, e⟩ := List.mem_map.mp h
        exact .inl ⟨q, e.symm⟩
      · obtain ⟨q, _, e⟩ := List.mem_map.mp h
        exact .inr ⟨q, e.symm⟩
    refine lc_keep (us := us) (fun u => isP u.2) walk_list nD (by omega) (fun H' s' => hl1.ext s') (fun _ => rfl) (fun u hu H2 s2 R kR => ?_) (fun u hu H2 R r => ⟨_, rfl, r⟩) fun H2 s2 hD => ?_
    · have eu := s2 _ _ (rw1.o u hu)
      rcases row_of u hu with ⟨q, e⟩ | ⟨q, e⟩
      · rw [e] at eu
        have kR' := kR H2 (Same.refl H2)
        rw [e, isP_p] at kR'
        refine ⟨_, rfl, u.1, _, 0, _, rfl, rfl, SqL.of eu, rfl, rfl, _, rfl, ite2 (fun _ => ?_) fun h => absurd (decide_eq_true rfl) h⟩
        exact ⟨_, rfl, u.1, _, rfl, .inl (SqL.of eu), rfl, _, rfl, kR'⟩
      · have kR' := kR H2 (Same.refl H2)
        rw [e, isP_m] at kR'
        obtain ⟨r, er⟩ : ∃ r : List Str, mrow q = ("meter" : Str) :: r := by unfold mrow; split <;> exact ⟨_, rfl⟩
        rw [e, er] at eu
        refine ⟨_, rfl, u.1, _, 0, .str "meter", rfl, rfl, SqL.of eu, atI_nat (j := 0) rfl, rfl, _, rfl, ite2 (fun h => ?_) fun _ => kR'⟩
        exact absurd (V.str.inj (of_decide_eq_true h)).symm p_ne_m
    generalize hfu : us.filter (fun u => isP u.2) = fu at hD
    have efu : sn fu = ps.map prow := by rw [← hfu, sn_filter, er, rows_p]
    have ofu : ∀ u ∈ fu, H2 u.1 = some (.lst (u.2.map V.str)) := fun u hu => s2 _ _ (rw1.o u (List.mem_filter.mp (by rw [hfu]; exact hu : u ∈ us.filter (fun u => isP u.2)) |>.1))
    have lfu : fu.length = ps.length := by rw [← sn_len, efu, List.length_map]
    have hl2 : SqL K H2 D (rf fu) := SqL.of hD
    dsimp only [gName]
    refine ⟨_, rfl, D, rfl, ⟨_, hl2⟩, fun D2 nD2 => lc_new (β := PU) (xs := rf fu) (fun u => .ref u.1) (fun j u H' => PipeAt CP H' u.1 u.2 ∧ ps[j]? = some u.2) walk_list nD2 (by rw [rf_len, lfu]; have := ok.pl; omega) (fun H' s' => hl2.ext s') (fun _ => rfl) (fun j u H' H'' s' z => ⟨z.1.ext s', z.2⟩) (fun j u H' acc acc' e z => ⟨z.1.gro e Grow.put, z.2⟩) (fun j x hx H3 s3 hD3 R kR => ?_) fun bs H3 s3 bl bp hD3 => ?_⟩
    · obtain ⟨u, hu, rfl⟩ := rf_get hx
      have hs := sn_get hu
      rw [efu, List.getElem?_map] at hs
      cases hq : ps[j]? with
      | none => rw [hq] at hs; cases hs
      | some q =>
        rw [hq] at hs
        have e : u.2 = prow q := (Option.some.inj hs).symm
        have eu := s3 _ _ (ofu u (List.mem_of_getElem? hu))
        rw [e] at eu
        obtain ⟨n1, n2, n3, n4⟩ := po.nm q (List.mem_of_getElem? hq)
        refine ⟨_, rfl, u.1, _, 1, _, rfl, rfl, SqL.of eu, rfl, _, rfl, u.1, _, 2, _, rfl, rfl, SqL.of eu, rfl, _, rfl, u.1, _, 3, _, rfl, rfl, SqL.of eu, rfl, ?_⟩
        exact fun x dx hx hd ne => Pipe_kp n1 n2 n3 n4 hx hd ne fun H4 s4 pa => kR (x, q) H4 s4 ⟨pa, hq⟩
    · refine ⟨D2, _, rfl, .inl ⟨SqL.of hD3, fun t nt => ?_⟩⟩
      have s4 : Same H3 (upd H3 t (.tup (bs.map fun u => .ref u.1))) := fun b o e => (upd_ne (ne_of_none e nt)).trans e
      refine k t bs _ (fun b o e => s4 b o (s3 b o (s2 b o (s1 b o e)))) ⟨SqT.of upd_same, fun u hu => ?_⟩ (List.ext_getElem? fun j => ?_)
      · obtain ⟨j, hj, e⟩ := List.mem_iff_getElem.mp hu
        exact (bp j u (by rw [List.getElem?_eq_getElem hj, e])).1.ext s4
      · cases e : bs[j]? with
        | some u => rw [sn_get e]; exact (bp j u e).2.symm
        | none =>
          rw [List.getElem?_eq_none_iff] at e
          rw [rf_len, lfu] at bl
          rw [List.getElem?_eq_none (by rw [sn_len]; omega), List.getElem?_eq_none (by omega)]
theorem ok_meters_in {f : Addr} {fd : FuncData} (F : Fun K "_meters_in" "_meters_in" s_meters_in f fd) (T : Blt mg) (T2 : Blt2 mg) (h_rows_in : Fn P w K mg base "_rows_in" 1 ["text"] (Irr sp_rows)) (h_MeterK : MkrK P w K mg base "Meter" CM 3 2 ["sealed"] (Irr (sp_Meter CM)) gM2) : FnOk P w K mg base CX0 5 f fd ["text"] (sp_min K CM) := by
  refine F.ok sc_meters_in (fun vs H Q E h => ?_) (fun cdv A outer s H vs Q E hr h => ?_)
  · obtain ⟨_, _, rfl, _⟩ := h
    rfl
  · obtain ⟨ps, ms, rfl, ok, k⟩ := h
    refine ⟨_, (pss_cons (ps_setLc (i := 1) (own := [("row", 2)]) (g := gName 2) rfl sc_meters_in.nd rfl rfl (sw_true rfl rfl rfl (by decide +kernel)) (pi_list (pe_fn h_rows_in (hr.mono (by decide)) (pa_cons (pv 0) pa_nil))) (blkOk_by (N := sc_meters_in_N) (sc := defScope s_meters_in) (by decide +kernel)) (fun _ _ _ _ _ => pg_name (i := 2) sc_meters_in.nd rfl (Or.inl rfl)) (fun _ _ _ _ _ => pts_one (PW.pt (pw_and (pt_cmpR op_eq (pe_ix ix_listK (pv 2) pe_int (fun _ _ => rfl)) pe_str (nomark _)) (pw_and1 (pt_cmpR (op_inK (K := K)) (pe_callB call_lenK (by rfl) T.b_len (by decide +kernel) (pa_cons (pv 2) pa_nil)) (pe_tup (pa_cons pe_int (pa_cons pe_int pa_nil))) (by rfl)))))) (fun _ _ _ _ _ => (pv 2)))
      (pss_one (ps_ret (pe_callTy call_tuple_of (by rfl) T2.b_tuple (by decide +kernel) (pa_cons (pe_lc (own := [("row", 2)]) (g := gName 2) (tt := tYes) rfl sc_meters_in.nd (pi_list (pv 1)) (blkOk_by (N := sc_meters_in_N) (sc := defScope s_meters_in) (by decide +kernel)) (fun _ _ _ _ _ => pg_name (i := 2) sc_meters_in.nd rfl (Or.inl rfl)) (fun _ _ _ _ _ => pts_nil) (fun _ _ _ _ _ => (pe_mkK h_MeterK (hr.mono (by decide)) (pa_cons (pe_ix ix_listK (pv 2) pe_int (fun _ _ => rfl)) (pa_cons (pe_ix ix_listK (pv 2) pe_int (fun _ _ => rfl)) pa_nil)) (pk_cons (pe_cmpR op_eq (pe_callB call_lenK (by rfl) T.b_len (by decide +kernel) (pa_cons (pv 2) pa_nil)) pe_int (nomark _)) pk_nil)))) pa_nil))))), ?_⟩
    refine ⟨_, rfl, irr ⟨ps, ms, rfl, ok, fun l us H1 s1 rw1 er => ⟨l, rfl, ⟨_, SqL.of rw1.l⟩, fun D nD => ?_⟩⟩⟩
    have hl1 : SqL K H1 l (rf us) := SqL.of rw1.l
    have ul : us.length ≤ 40 := by
      rw [← sn_len, er, rowsL, List.length_append, List.length_map, List.length_map]
      have := ok.pl
      have := ok.ml
      omega
    have row_of : ∀ u ∈ us, (∃ q, u.2 = prow q) ∨ ∃ q, u.2 = mrow q := fun u hu => by
      have : u.2 ∈ rowsL ps ms := by rw [← er]; exact List.mem_map.mpr ⟨u, hu, rfl⟩
      rcases List.mem_append.mp this with h | h
      · obtain ⟨q, _, e⟩ := List.mem_map.mp h
        exact .inl ⟨q, e.symm⟩
      · obtain ⟨q, _, e⟩ := List.mem_map.mp h
        exact .inr ⟨q, e.symm⟩
    refine lc_keep (us := us) (fun u => isM u.2) walk_list nD (by omega) (fun H' s' => hl1.ext s') (fun _ => rfl) (fun u hu H2 s2 R kR => ?_) (fun u hu H2 R r => ⟨_, rfl, r⟩) fun H2 s2 hD => ?_
    · have eu := s2 _ _ (rw1.o u hu)
      rcases row_of u hu with ⟨q, e⟩ | ⟨q, e⟩
      · rw [e] at eu
        have kR' := kR H2 (Same.refl H2)
        rw [e, isM_p] at kR'
        refine ⟨_, rfl, u.1, _, 0, .str "pipe", rfl, rfl, SqL.of eu, rfl, rfl, _, rfl, ite2 (fun h => ?_) fun _ => kR'⟩
        exact absurd (V.str.inj (of_decide_eq_true h)) p_ne_m
      · obtain ⟨r, er, lr⟩ : ∃ r : List Str, mrow q = ("meter" : Str) :: r ∧ (r.length = 2 ∨ r.length = 3) := by
          unfold mrow
          split
          · exact ⟨_, rfl, .inr rfl⟩
          · exact ⟨_, rfl, .inl rfl⟩
        have em : isM u.2 = true := by rw [e, isM_m]
        rw [e, er] at eu
        refine ⟨_, rfl, u.1, _, 0, .str "meter", rfl, rfl, SqL.of eu, atI_nat (j := 0) rfl, rfl, _, rfl, ite2 (fun _ => ?_) fun h => absurd (decide_eq_true rfl) h⟩
        refine ⟨_, rfl, u.1, _, rfl, .inl (SqL.of eu), (by show 2 ≤ sizeLine; decide), fun t nt => ⟨t, _, rfl, .inr (SqT.of upd_same), rfl, rfl, ?_⟩⟩
        have kR' := kR _ (fun b o e => (upd_ne (o := .tup [.int 3, .int 4]) (ne_of_none e nt)).trans e)
        rw [em] at kR'
        have ev : inV (V.int ((List.map V.str (("meter" : Str) :: r)).length : Nat)) [V.int 3, V.int 4] = true := by
          rw [List.length_map, List.length_cons]
          rcases lr with z | z <;> rw [z] <;> rfl
        refine ⟨_, rfl, ?_⟩
        rw [ev]
        exact kR'
    generalize hfu : us.filter (fun u => isM u.2) = fu at hD
    have efu : sn fu = ms.map mrow := by rw [← hfu, sn_filter, er, rows_m]
    have ofu : ∀ u ∈ fu, H2 u.1 = some (.lst (u.2.map V.str)) := fun u hu => s2 _ _ (rw1.o u (List.mem_filter.mp (by rw [hfu]; exact hu : u ∈ us.filter (fun u => isM u.2)) |>.1))
    have lfu : fu.length = ms.length := by rw [← sn_len, efu, List.length_map]
    have hl2 : SqL K H2 D (rf fu) := SqL.of hD
    dsimp only [gName]
    refine ⟨_, rfl, D, rfl, ⟨_, hl2⟩, fun D2 nD2 => lc_new (β := MU) (xs := rf fu) (fun u => .ref u.1) (fun j u H' => MetAt CM H' u.1 u.2 ∧ ms[j]? = some u.2) walk_list nD2 (by rw [rf_len, lfu]; have := ok.ml; omega) (fun H' s' => hl2.ext s') (fun _ => rfl) (fun j u H' H'' s' z => ⟨z.1.ext s', z.2⟩) (fun j u H' acc acc' e z => ⟨z.1.gro e Grow.put, z.2⟩) (fun j x hx H3 s3 hD3 R kR => ?_) fun bs H3 s3 bl bp hD3 => ?_⟩
    · obtain ⟨u, hu, rfl⟩ := rf_get hx
      have hs := sn_get hu
      rw [efu, List.getElem?_map] at hs
      cases hq : ms[j]? with
      | none => rw [hq] at hs; cases hs
      | some q =>
        rw [hq] at hs
        have e : u.2 = mrow q := (Option.some.inj hs).symm
        have eu := s3 _ _ (ofu u (List.mem_of_getElem? hu))
        obtain ⟨n1, n2⟩ := ok.mn q (List.mem_of_getElem? hq)
        obtain ⟨r, er, lr⟩ : ∃ r : List Str, mrow q = ("meter" : Str) :: q.1 :: q.2.1 :: r ∧ decide ((r.length + 3 : Nat) = 4) = q.2.2 := by
          unfold mrow
          split
          · rename_i hz
            exact ⟨_, rfl, by rw [hz]; rfl⟩
          · rename_i hz
            exact ⟨_, rfl, by simp at hz; rw [hz]; rfl⟩
        rw [e, er] at eu
        refine ⟨_, rfl, u.1, _, 1, .str q.1, rfl, rfl, SqL.of eu, atI_nat (j := 1) rfl, _, rfl, u.1, _, 2, .str q.2.1, rfl, rfl, SqL.of eu, atI_nat (j := 2) rfl, ?_⟩
        refine ⟨_, rfl, u.1, _, rfl, .inl (SqL.of eu), rfl, rfl, rfl, ?_⟩
        have ez : decide (V.int ((List.map V.str (("meter" : Str) :: q.1 :: q.2.1 :: r)).length : Nat) = V.int 4) = q.2.2 := by
          rw [← lr, List.length_map, List.length_cons, List.length_cons, List.length_cons]
          refine decide_eq_decide.mpr ⟨fun h => ?_, fun h => ?_⟩
          · have := V.int.inj h
            omega
          · congr 1
            omega
        rw [ez]
        exact fun x dx hx hd ne => Meter_kp n1 n2 hx hd ne fun H4 s4 pa => kR (x, q) H4 s4 ⟨pa, hq⟩
    · refine ⟨D2, _, rfl, .inl ⟨SqL.of hD3, fun t nt => ?_⟩⟩
      have s4 : Same H3 (upd H3 t (.tup (bs.map fun u => .ref u.1))) := fun b o e => (upd_ne (ne_of_none e nt)).trans e
      refine k t bs _ (fun b o e => s4 b o (s3 b o (s2 b o (s1 b o e)))) ⟨SqT.of upd_same, fun u hu => ?_⟩ (List.ext_getElem? fun j => ?_)
      · obtain ⟨j, hj, e⟩ := List.mem_iff_getElem.mp hu
        exact (bp j u (by rw [List.getElem?_eq_getElem hj, e])).1.ext s4
      · cases e : bs[j]? with
        | some u => rw [sn_get e]; exact (bp j u e).2.symm
        | none =>
          rw [List.getElem?_eq_none_iff] at e
          rw [rf_len, lfu] at bl
          rw [List.getElem?_eq_none (by rw [sn_len]; omega), List.getElem?_eq_none (by omega)]
theorem ok_Net_r {f : Addr} {fd : FuncData} (F : Fun K "read" "Net.read" s_Net_read f fd) (T : Blt mg) (h_Net : Mkr P w K mg base "Net" CN 5 (Irr (sp_Net K CN CP CM)) []) (h_pipes_in : Fn P w K mg base "_pipes_in" 5 ["text"] (Irr (sp_pin K CP))) (h_meters_in : Fn P w K mg base "_meters_in" 5 ["text"] (Irr (sp_min K CM))) (h_str : OwnM P w K mg base CN "__str__" 5 (Irr (sp_nstr K CN CP CM))) : FnOk P w K mg base CX0 8 f fd ["cls", "text"] (sp_nread K CN CP CM) := by
  refine F.ok sc_Net_read (fun vs H Q E h => ?_) (fun cdv A outer s H vs Q E hr h => ?_)
  · obtain ⟨_, _, rfl, _⟩ := h
    rfl
  · obtain ⟨ps, ms, rfl, po, mo, k⟩ := h
    refine ⟨_, (pss_cons (ps_if (pt_not (pt_val (pe_callB call_isi (by rfl) T.b_isinstance (by decide +kernel) (pa_cons (pv 1) (pa_cons (pe_bltn (v := .ty "str") (by rfl) T.b_str (by decide +kernel) rfl) pa_nil))))) (pss_one ps_never) pss_nil)
      (pss_cons (ps_try_thru0 (pss_one (ps_set (i := 2) sc_Net_read.nd rfl (Or.inl rfl) (pe_mkL (i := 0) h_Net (hr.mono (by decide)) rfl (Or.inl rfl) (pa_cons (pe_fn h_pipes_in (hr.mono (by decide)) (pa_cons (pv 1) pa_nil)) (pa_cons (pe_fn h_meters_in (hr.mono (by decide)) (pa_cons (pv 1) pa_nil)) pa_nil))))))
      (pss_cons (ps_if (pt_cmpR op_ne (pe_callTy (call_strO h_str (hr.mono (by decide))) (by rfl) T.b_str (by decide +kernel) (pa_cons (pv 2) pa_nil)) (pv 1) (nomark _)) (pss_one ps_never) pss_nil)
      (pss_one (ps_ret (pv 2)))))), ?_⟩
    have ok := TOk.of po mo
    refine ⟨_, rfl, _, _, .type "str", .type "str", true, rfl, .ty _, .base (.str _), kit_ty (by decide +kernel), true, rfl, iteF ?_⟩
    refine ⟨rfl, _, rfl, irr ⟨ps, ms, rfl, ok, po, fun tp pu H1 s1 hp ep => ⟨_, rfl, irr ⟨ps, ms, rfl, ok, fun tm mu H2 s2 hm em => ?_⟩⟩⟩⟩
    have hp2 := hp.ext s2
    refine fun x dx hx hd ne => Net_kp hp2 hm (ep ▸ po) (by rw [ep, em]; exact mo) hx hd ne fun H3 s3 hn => ?_
    rw [ep, em] at hn
    obtain ⟨dx', tp', tm', pu', mu', ex, _⟩ := id hn.ex
    refine ⟨_, rfl, x, dx', _, rfl, ex, irr ⟨x, ps, ms, rfl, hn, ok.pn, ok.mn, ok.pl, ok.ml, fun H4 s4 => ?_⟩⟩
    refine ⟨_, rfl, _, rfl, rfl, _, rfl, ?_⟩
    refine ite2 (fun h => ?_) (fun _ => ?_)
    · simp at h
    exact ⟨_, rfl, k x H4 (fun b o e => s4 b o (s3 b o (s2 b o (s1 b o e)))) (hn.ext s4)⟩
end
end RV
namespace RV
open PySem L2
/-! Net(p, m); Meter(n, a, sealed=z); Net.read(text=t) -/
theorem chainN {f t0 : Addr} {K : PySem.W.Frag} {fd : FuncData} (F : FunD K "__init__" "Net.__init__" (defArgs s_Net___init__) (defBody s_Net___init__) (defScope s_Net___init__) [.ref t0] [] f fd) : ∃ ds, Vals [] ds ∧ Binds K fd ["self", "pipes", "meters"] ds := by
  refine FunD.binds1 F 3 1 (by simp) rfl fun T kV doc pm an cdv ct us its h1 h2 => ?_
  match us, h1, its, h2 with
  | [x, y, z], _, [d], _ => exact ⟨_, rfl, rfl⟩
def gM2' (us ws : List Value) : List Value := match us, ws with
  | [x, n, a], [z] => [x, n, a, z]
  | _, _ => []
theorem gM2_rel {vs : List V} {us : List Value} {zs : List V} {ws : List Value} (r1 : Vals vs us) (r2 : Vals zs ws) : Vals (gM2 vs zs) (gM2' us ws) := by
  cases r1 with
  | nil => cases r2 <;> exact .nil
  | cons a1 r1 =>
    cases r1 with
    | nil => cases r2 <;> exact .nil
    | cons a2 r1 =>
      cases r1 with
      | nil => cases r2 <;> exact .nil
      | cons a3 r1 =>
        cases r1 with
        | cons a4 r1 => cases r2 <;> exact .nil
        | nil =>
          cases r2 with
          | nil => exact .nil
          | cons b r2 =>
            cases r2 with
            | nil => exact .cons a1 (.cons a2 (.cons a3 (.cons b .nil)))
            | cons c r2 => exact .nil
theorem kbM2 {f : Addr} {K : PySem.W.Frag} {fd : FuncData} (F : FunD K "__init__" "Meter.__init__" (defArgs s_Meter___init__) (defBody s_Meter___init__) (defScope s_Meter___init__) [] [("sealed", V.bl false)] f fd) :
    KBn K fd ["self", "name", "at", "sealed"] 3 ["sealed"] gM2' gM2 := by
  refine ⟨fun s us ws X h1 h2 => ?_, gM2_rel⟩
  obtain ⟨oc, od, dV, kV, doc, pm, an, cdv, ct, osl, rfl, lk, hcd, hD, hK⟩ := F.ex
  rcases hD with ⟨_, rfl⟩ | ⟨e, _⟩
  · match us, h1, ws, h2 with
    | [x, n, a], _, [z], _ => exact BindsTo.of_eq rfl
  · exact absurd rfl e
def gR' (us ws : List Value) : List Value := match us, ws with
  | [x], [t] => [x, t]
  | _, _ => []
theorem gR_rel {vs : List V} {us : List Value} {zs : List V} {ws : List Value} (r1 : Vals vs us) (r2 : Vals zs ws) : Vals (gR vs zs) (gR' us ws) := by
  cases r1 with
  | nil => exact .nil
  | cons a r =>
    cases r with
    | cons b r => exact .nil
    | nil =>
      cases r2 with
      | nil => exact .nil
      | cons c r2 =>
        cases r2 with
        | nil => exact .cons a (.cons c .nil)
        | cons d r2 => exact .nil
theorem kbNR {f : Addr} {K : PySem.W.Frag} {fd : FuncData} (F : Fun K "read" "Net.read" s_Net_read f fd) : KBn K fd ["cls", "text"] 1 ["text"] gR' gR := by
  refine ⟨fun s us ws X h1 h2 => ?_, gR_rel⟩
  obtain ⟨oc, od, kV, doc, pm, an, cdv, ct, osl, rfl, lk, hcd⟩ := F.ex
  match us, h1, ws, h2 with
  | [x], _, [t], _ => exact BindsTo.of_eq rfl
end RV
namespace RV
open PySem L2 TL
section
variable {P : Program} {w : World} {K : PySem.W.Frag} {mg : Str → Option Value} {base : Heap} {CN CP CM : Addr}
theorem ok_chkn {f : Addr} {fd : FuncData} (F : Fun K "check_net" "check_net" s_check_net f fd) (T : Blt mg) (NC : NClass K mg CN) : FnOk P w K mg base CX0 1 f fd ["net"] (sp_chkn K CN CP CM) := by
  refine F.ok sc_check_net (fun vs H Q E h => ?_) (fun cdv A outer s H vs Q E hr h => ?_)
  · obtain ⟨_, _, _, rfl, _⟩ := h
    rfl
  · obtain ⟨x, ps, ms, rfl, nr, k⟩ := h
    refine ⟨_, (pss_one (ps_if (pt_not (pt_val (pe_callB call_isi (by rfl) T.b_isinstance (by decide +kernel) (pa_cons (pv 0) (pa_cons (pe_gC NC.k) pa_nil))))) (pss_one ps_never) pss_nil)), ?_⟩
    obtain ⟨dx, tp, tm, pu, mu, ex, hp, hm, rfl, rfl⟩ := nr.ex
    exact ⟨_, rfl, _, _, _, .ref CN, true, rfl, .own CN, NC.x.ty ex, NC.me, true, rfl, iteF k⟩
theorem ok_mat {f : Addr} {fd : FuncData} (F : Fun K "meters_at" "meters_at" s_meters_at f fd) (h_nm : Prp P w K mg base CN "meters" 1 (Irr (sp_nme CN))) (h_ma : Prp P w K mg base CM "at" 1 (Irr (sp_ma CM))) : FnOk P w K mg base CX0 3 f fd ["net", "name"] (sp_mat K CN CP CM) := by
  refine F.ok sc_meters_at (fun vs H Q E h => ?_) (fun cdv A outer s H vs Q E hr h => ?_)
  · obtain ⟨_, _, _, _, rfl, _⟩ := h
    rfl
  · obtain ⟨x, ps, ms, y, rfl, nr, hl, k⟩ := h
    refine ⟨_, (pss_one (ps_ret (pe_lc (own := [("part", 2)]) (g := gName 2) rfl sc_meters_at.nd (pi_tup (pe_propN h_nm (hr.mono (by decide)) (pv 0))) (blkOk_by (N := sc_meters_at_N) (sc := defScope s_meters_at) (by decide +kernel)) (fun _ _ _ _ _ => pg_name (i := 2) sc_meters_at.nd rfl (Or.inl rfl)) (fun _ _ _ _ _ => pts_one (pt_cmpR op_eq (pe_propN h_ma (hr.mono (by decide)) (pv 2)) (pv 1) (nomark _))) (fun _ _ _ _ _ => (pv 2))))), ?_⟩
    obtain ⟨dx, tp, tm, pu, mu, ex, hp, hm, rfl, rfl⟩ := nr.ex
    have ml : mu.length ≤ 12 := by rw [sn_len] at hl; exact hl
    refine ⟨_, rfl, x, dx, _, rfl, ex, irr ⟨x, dx, tp, tm, rfl, ex, tm, rfl, ⟨_, hm.t⟩, fun D nD => lc_keep (fun u : MU => decide (u.2.2.1 = y)) walk_tup nD (by omega) (fun H' s' => hm.t.ext s') (fun _ => rfl) (fun u hu H2 s2 R kR => ?_) (fun u hu H2 R kR => ⟨_, rfl, kR⟩) fun H2 s2 hD => ?_⟩⟩
    · have mu2 := (hm.o u hu).ext s2
      obtain ⟨dx2, ex2⟩ := id mu2
      refine ⟨_, rfl, u.1, dx2, _, rfl, ex2, irr ⟨u.1, u.2, rfl, mu2, _, rfl, rfl, _, rfl, ?_⟩⟩
      rw [decV]
      exact kR H2 (Same.refl _)
    · refine k D _ H2 s2 hD (fun u hu => (hm.o u (List.mem_filter.mp hu).1).ext s2) ?_
      rw [sn, onP, sn, List.filter_map]
      rfl
end
end RV
namespace RV
open PySem L2 TL
theorem pls_take {ps : List P3} {i : Nat} {p : P3} (h : ps[i]? = some p) : pls (ps.take (i + 1)) = pls (ps.take i) ++ [p.2.1, p.2.2] := by
  rw [List.take_add_one, h, pls, pls, List.flatMap_append]
  rfl
section
variable {P : Program} {w : World} {K : PySem.W.Frag} {mg : Str → Option Value} {base : Heap} {CN CP CM : Addr}
theorem ok_Net_pl {f : Addr} {fd : FuncData} (F : Fun K "places" "Net.places" s_Net_places f fd) (T : Blt mg) (T2 : Blt2 mg) (NC : NClass K mg CN) (h_ps : Prp P w K mg base CP "start" 1 (Irr (sp_ps CP))) (h_pe : Prp P w K mg base CP "end" 1 (Irr (sp_pe CP))) : FnOk P w K mg base CX0 3 f fd ["self"] (sp_plc K CN CP CM) := by
  refine F.ok sc_Net_places (fun vs H Q E h => ?_) (fun cdv A outer s H vs Q E hr h => ?_)
  · obtain ⟨_, _, _, rfl, _⟩ := h
    rfl
  · obtain ⟨x, ps, ms, rfl, nr, pl, k⟩ := h
    refine ⟨_, (pss_one (ps_ret (pe_callTy call_tuple_of (by rfl) T2.b_tuple (by decide +kernel) (pa_cons (pe_callB (cr_sortS rfl) (by rfl) T2.b_sorted (by decide +kernel) (pa_cons
      (pe_set2 (own := [("part", 1), ("place", 2)]) (ws := [2]) (g := gName 1) (g1 := gName 2) (tt := tYes) (tt1 := tYes) rfl sc_Net_places.nd (pi_tup (pe_fld (pv 0) rfl)) (blkOk_by (N := sc_Net_places_N) (sc := defScope s_Net_places) (by decide +kernel)) (by decide) (fun _ _ _ _ _ => pg_name (i := 1) sc_Net_places.nd rfl (Or.inl rfl)) (fun _ _ _ _ _ => pts_nil)
        (fun _ _ _ _ _ => pi_tupK (K := K) (pe_tup (pa_cons (pe_propN h_ps (hr.mono (by decide)) (pv 1)) (pa_cons (pe_propN h_pe (hr.mono (by decide)) (pv 1)) pa_nil)))) (fun _ _ _ _ _ => pg_name (i := 2) sc_Net_places.nd rfl (Or.inl rfl)) (fun _ _ _ _ _ => pts_nil) (fun _ _ _ _ _ => pv 2)) pa_nil)) pa_nil)))), ?_⟩
    obtain ⟨dx, tp, tm, pu, mu, ex, hp, hm, ep, em⟩ := id nr.ex
    have pul : pu.length ≤ 12 := by rw [← sn_len, ep]; exact pl
    refine ⟨_, rfl, x, CN, dx, _, _, rfl, ex, NC.x.cl, NC.n1, netF_p _ _, ?_⟩
    refine ⟨tp, rfl, ⟨_, hp.t⟩, fun D nD => ?_⟩
    have s0 : Same H (upd H D (SetT P w D (fun _ => false) 0)) := fun b o e => (upd_ne (ne_of_none e nD)).trans e
    refine cl_walk (walk_tup (xs := rf pu)) (fun i H' => ∃ (S : Str → Bool) (n : Nat), Sb D (upd H D (SetT P w D (fun _ => false) 0)) H' ∧ H' D = some (SetT P w D S n) ∧ n ≤ 2 * i ∧ ∀ z, S z = true ↔ z ∈ pls (ps.take i)) ⟨_, 0, Sb.refl _, upd_same, Nat.zero_le _, fun z => by simp [pls]⟩ ?_ ?_ ?_
    · rintro i H' _ ⟨_, _, sb, _⟩
      exact hp.t.ext (Sb.same s0 nD sb)
    · rintro i v Ha Hb hi ⟨S, n, sb, hD, hn, hS⟩ ⟨rfl, hx⟩
      rw [rf_len] at hi
      obtain ⟨u, hu, rfl⟩ := rf_get hx
      have hpi : ps[i]? = some u.2 := ep ▸ sn_get hu
      have hm2 := List.mem_of_getElem? hu
      have pa := (hp.o u hm2).ext (Sb.same s0 nD sb)
      obtain ⟨dp, edp⟩ := id pa
      dsimp only [gName]
      have e0 : ∀ (σ : L2.St) (H : Hp) (R : Bool → Hp → Prop), R true H → tYes σ H R := fun _ _ _ r => r
      refine ⟨rfl, e0 _ _ _ ?_⟩
      simp only [↓reduceIte]
      refine ⟨_, rfl, u.1, dp, _, rfl, edp, irr ⟨u.1, u.2, rfl, pa, _, rfl, u.1, dp, _, rfl, edp, irr ⟨u.1, u.2, rfl, pa, ⟨(by show 2 ≤ sizeLine; decide), fun T1 nT1 => ⟨T1, rfl, ⟨_, SqT.of upd_same⟩, ?_⟩⟩⟩⟩⟩
      have s1 : Same Hb (upd Hb T1 (.tup [.str u.2.2.1, .str u.2.2.2])) := fun b o e => (upd_ne (ne_of_none e nT1)).trans e
      have nDT : T1 ≠ D := fun z => by rw [z, hD] at nT1; cases nT1
      refine cl_walk (walk_tup (xs := [V.str u.2.2.1, V.str u.2.2.2])) (fun j H' => ∃ (S : Str → Bool) (n : Nat), Sb D (upd Hb T1 (.tup [.str u.2.2.1, .str u.2.2.2])) H' ∧ H' D = some (SetT P w D S n) ∧ n ≤ 2 * i + j ∧ ∀ z, S z = true ↔ z ∈ pls (ps.take i) ++ [u.2.2.1, u.2.2.2].take j) ⟨S, n, Sb.refl _, s1 _ _ hD, by omega, fun z => by simp [hS]⟩ ?_ ?_ ?_
      · rintro j H' _ ⟨_, _, sb1, _⟩
        exact SqT.of (sb1 _ _ nDT upd_same)
      · rintro j v Hc Hd hj ⟨S1, n1, sb1, hD1, hn1, hS1⟩ ⟨rfl, hv⟩
        have hv2 : ∃ z, v = .str z ∧ [u.2.2.1, u.2.2.2][j]? = some z := by
          match j, hj with
          | 0, _ => exact ⟨_, (Option.some.inj hv).symm, rfl⟩
          | 1, _ => exact ⟨_, (Option.some.inj hv).symm, rfl⟩
        obtain ⟨z, rfl, hz⟩ := hv2
        have hj : j < 2 := hj
        dsimp only [gName]
        refine ⟨rfl, e0 _ _ _ ?_⟩
        simp only [↓reduceIte]
        refine ⟨_, rfl, z, S1, n1, rfl, hD1, by omega, fun n' hn' => ⟨_, n', fun b o ne e => (upd_ne ne).trans (sb1 b o ne e), upd_same, by omega, fun y => ?_⟩⟩
        rw [Bool.or_eq_true, decide_eq_true_eq, hS1 y, List.take_add_one, hz]
        simp only [List.mem_append, Option.toList_some, List.mem_singleton, or_assoc]
      · rintro H' ⟨S1, n1, sb1, hD1, hn1, hS1⟩
        have hn1 : n1 ≤ 2 * i + 2 := hn1
        refine ⟨S1, n1, fun b o ne e => sb1 b o ne (s1 _ _ (sb b o ne e)), hD1, by omega, fun y => ?_⟩
        rw [hS1 y, pls_take hpi]
        rfl
    · rintro H' ⟨S, n, sb, hD, hn, hS⟩
      rw [rf_len] at hn hS
      refine ⟨D, S, n, rfl, hD, fun xs p h1 h2 h3 h4 np => ?_⟩
      refine ⟨p, xs.map V.str, rfl, .inl ⟨SqL.of upd_same, fun l nl => ?_⟩⟩
      have sH := Sb.same s0 nD sb
      have sA : Same H (upd H' p (.lst (xs.map V.str))) := fun b o e => (upd_ne (ne_of_none (sH _ _ e) np)).trans (sH _ _ e)
      refine k l xs _ (fun b o e => (upd_ne (ne_of_none (sA _ _ e) nl)).trans (sA _ _ e)) upd_same ⟨h1, h2, fun z => (h3 z).trans ((hS z).trans ?_)⟩ (by omega)
      rw [show pu.length = ps.length by rw [← ep, sn_len], List.take_length]
end
end RV
namespace RV
open PySem L2 TL
section
variable {P : Program} {w : World} {K : PySem.W.Frag} {mg : Str → Option Value} {base : Heap} {CN CP CM : Addr}
theorem ok_is_number {f : Addr} {fd : FuncData} (F : Fun K "is_number" "is_number" s_is_number f fd) (T : Blt mg) (T2 : Blt2 mg) : FnOk P w K mg base CX0 1 f fd ["value"] (sp_is_number K) := by
  refine F.ok sc_is_number (fun vs H Q E h => ?_) (fun cdv A outer s H vs Q E hr h => ?_)
  · obtain ⟨_, rfl, _⟩ := h
    rfl
  · obtain ⟨v, rfl, k⟩ := h
    refine ⟨_, (pss_one (ps_ret (pe_and (pe_callB call_isi (by rfl) T.b_isinstance (by decide +kernel) (pa_cons (pv 0) (pa_cons (pe_bltn (v := .ty "int") (by rfl) T.b_int (by decide +kernel) rfl) pa_nil))) (pe_one (pe_not (pe_callB call_isi (by rfl) T.b_isinstance (by decide +kernel) (pa_cons (pv 0) (pa_cons (pe_bltn (v := .ty "bool") (by rfl) T2.b_bool (by decide +kernel) rfl) pa_nil)))))))), ?_⟩
    rcases k with ⟨z, rfl, k⟩ | ⟨b, rfl, k⟩ | ⟨t, ty, kt, k⟩
    · refine ⟨_, rfl, _, _, .type "int", .type "int", true, rfl, .ty _, .base (.int z), kit_ty (by decide +kernel), true, rfl, ?_⟩
      exact iteT ⟨_, rfl, _, _, .type "int", .type "bool", false, rfl, .ty _, .base (.int z), kit_ty (by decide +kernel), false, rfl, k⟩
    · refine ⟨_, rfl, _, _, .type "bool", .type "int", true, rfl, .ty _, .base (.bl b), kit_ty (by decide +kernel), true, rfl, ?_⟩
      exact iteT ⟨_, rfl, _, _, .type "bool", .type "bool", true, rfl, .ty _, .base (.bl b), kit_ty (by decide +kernel), true, rfl, k⟩
    · refine ⟨_, rfl, _, _, t, .type "int", false, rfl, .ty _, ty, kt, false, rfl, ?_⟩
      exact iteF k
end
end RV
/-! springs: the wells of the later laws -/
namespace RV
open PySem L2
section
variable {P : Program} {w : World} {K : PySem.W.Frag} {mg : Str → Option Value} {base : Heap}
theorem ok_spring {f : Addr} {fd : FuncData} (F : Fun K "_law_spring" "_law_spring" s_spring f fd) (T : Blt mg) : FnOk P w K mg base CX0 1 f fd ["_law_script", "_law_k"] (sp_spring K) := by
  refine F.ok sc_spring (fun vs H Q E h => ?_) (fun cdv A outer s H vs Q E hr h => ?_)
  · obtain ⟨_, _, _, rfl, _⟩ := h
    rfl
  · obtain ⟨c, ns, i, rfl, hS, hl, hi, k⟩ := h
    refine ⟨_, (pss_cons (ps_set (i := 2) sc_spring.nd rfl (Or.inl rfl) (pe_ifExp (pt_cmpR op_lt (pv 1) (pe_callB call_len_seq (by rfl) T.b_len (by decide +kernel) (pa_cons (pv 0) pa_nil)) (nomark _)) (pe_callTy call_int1 (by rfl) T.b_int (by decide +kernel) (pa_cons (pe_ix ix_list (pv 0) (pv 1) (fun _ _ => rfl)) pa_nil)) (pe_op op_add (pe_op op_mul pe_int (pv 1)) pe_int)))
      (pss_cons (ps_set (i := 3) sc_spring.nd rfl (Or.inl rfl) (pe_op op_add pe_int (pe_op op_mul pe_int (pv 1))))
      (pss_cons (ps_for PassesOwn.never rfl (pi_list (pe_slice sl_list (pv 0) po_none (po_some pe_int))) (pg_name (i := 4) sc_spring.nd rfl (Or.inl rfl)) (pss_one (ps_set (i := 3) sc_spring.nd rfl (Or.inl rfl) (pe_op op_mod (pe_callTy call_int1 (by rfl) T.b_int (by decide +kernel) (pa_cons (pe_op op_add (pe_op op_add (pe_op op_mul (pv 3) pe_int) (pe_op op_mul (pe_callTy call_int1 (by rfl) T.b_int (by decide +kernel) (pa_cons (pv 4) pa_nil)) pe_int)) pe_int) pa_nil)) pe_int))))
      (pss_cons (ps_set (i := 3) sc_spring.nd rfl (Or.inl rfl) (pe_op op_mod (pe_callTy call_int1 (by rfl) T.b_int (by decide +kernel) (pa_cons (pe_op op_add (pe_op op_add (pe_op op_mul (pv 3) (pv 3)) (pe_op op_mul (pv 2) pe_int)) pe_int) pa_nil)) pe_int))
      (pss_one (ps_ret (pe_lst (pa_cons (pe_op op_mod (pe_callTy call_int1 (by rfl) T.b_int (by decide +kernel) (pa_cons (pe_op op_add (pe_op op_mul (pv 3) pe_int) pe_int) pa_nil)) pe_int) (pa_cons (pe_ifExp (pt_cmpR op_ge (pe_callB call_abs (by rfl) T.b_abs (by decide +kernel) (pa_cons (pv 2) pa_nil)) (pe_op op_pow pe_int pe_int) (nomark _)) (pe_callB call_abs (by rfl) T.b_abs (by decide +kernel) (pa_cons (pv 2) pa_nil)) pe_int) (pa_cons (pv 1) pa_nil)))))))))), ?_⟩
    refine seq_of (fun σ' H' => ∃ z : Int, σ' = [some (.ref c), some (.int i), some (.int z), none, none] ∧ H' = H) ?rest (fun N hN => ?main)
    case main =>
      refine tif_int (b := decide ((i : Int) < ns.length)) (fun R r => ⟨_, rfl, _, rfl, c, _, rfl, .inl hS, _, _, rfl, rfl, _, rfl, by rw [List.length_map]; exact r⟩) (fun hb => ?_) (fun hb => ?_) (fun z => hN _ _ ⟨z, rfl, rfl⟩)
      · have hlt : (i : Int) < ns.length := of_decide_eq_true hb
        have hlt' : i < ns.length := by omega
        exact ⟨ns[i], fun R r => ⟨_, rfl, _, rfl, c, _, _, _, rfl, rfl, hS, atI_nat (by rw [List.getElem?_map, List.getElem?_eq_getElem hlt']; rfl), .inl ⟨_, rfl, r⟩⟩⟩
      · exact ⟨5 * i + 3, fun R r => ⟨_, rfl, _, _, rfl, rfl, .inl ⟨by decide, by decide⟩, _, _, rfl, rfl, r⟩⟩
    rintro σ1 H1 ⟨z, rfl, rfl⟩
    refine ⟨_, rfl, _, _, rfl, rfl, .inl ⟨by decide, by decide⟩, _, _, rfl, rfl, ?_⟩
    dsimp only [gName]
    refine ⟨_, rfl, _, rfl, c, _, rfl, hS, fun p np => ?_⟩
    obtain ⟨ms, em, lm⟩ := cutV_int ns none (some 3)
    rw [em]
    have s1 : Same H1 (upd H1 p (.lst (ms.map V.int))) := fun b o e => (upd_ne (ne_of_none e np)).trans e
    have hp : SqL K (upd H1 p (.lst (ms.map V.int))) p (ms.map V.int) := SqL.of upd_same
    revert s1 hp
    generalize upd H1 p (.lst (ms.map V.int)) = H2
    intro s1 hp
    refine ⟨p, rfl, ⟨_, hp⟩, for_list (K := K) (a := p) (xs := ms.map V.int) (fun j σ H' => H' = H2 ∧ ∃ (y : Int) (o : Option V), 0 ≤ y ∧ y < 2147483543 ∧ σ = [some (.ref c), some (.int i), some (.int z), some (.int y), o]) ⟨rfl, _, none, ?_, ?_, rfl⟩ (fun j σ H' _ h => by rw [h.1]; exact hp) ?_ ?_⟩
    · show (0 : Int) ≤ 991 + 613 * (i : Int)
      omega
    · show 991 + 613 * (i : Int) < 2147483543
      omega
    · rintro j y σ H' hj ⟨rfl, y', o, y0, y1, rfl⟩
      obtain ⟨u, rfl⟩ : ∃ u, y = V.int u := by
        rw [List.getElem?_map] at hj
        cases e : ms[j]? with
        | none => rw [e] at hj; cases hj
        | some u => rw [e] at hj; exact ⟨u, (Option.some.inj hj).symm⟩
      dsimp only [gName]
      refine ⟨_, rfl, _, _, rfl, rfl, .inr ⟨by decide, by decide⟩, _, rfl, .inl ⟨_, rfl, _, _, rfl, rfl, .inr ⟨by decide, by decide⟩, _, _, rfl, rfl, _, _, rfl, rfl, .inl ⟨_, rfl, _, _, rfl, rfl, (by show (0 : Int) < 2147483543; decide), rfl, _, _, ?_, ?_, rfl⟩⟩⟩
      · exact Int.emod_nonneg _ (by decide)
      · exact Int.emod_lt_of_pos _ (by decide)
    · rintro σ H' ⟨rfl, y, o, y0, y1, rfl⟩
      refine ⟨_, rfl, _, rfl, _, _, rfl, rfl, .inl ⟨by omega, by omega⟩, _, rfl, _, _, rfl, rfl, .inr ⟨by decide, by decide⟩, _, _, rfl, rfl, _, _, rfl, rfl, .inl ⟨_, rfl, _, _, rfl, rfl, (by show (0 : Int) < 2147483543; decide), ?_⟩⟩
      dsimp only [gName]
      generalize hx : (y * y + z * 7 + 11) % 2147483543 = x
      have hx0 : 0 ≤ x ∧ x < 2147483543 := by subst hx; exact ⟨Int.emod_nonneg _ (by decide), Int.emod_lt_of_pos _ (by decide)⟩
      refine ⟨_, rfl, _, _, rfl, rfl, .inr ⟨by decide, by decide⟩, _, _, rfl, rfl, .inl ⟨_, rfl, _, _, rfl, rfl, (by show (0 : Int) < 2147483543; decide), ?_⟩⟩
      dsimp only
      generalize hx2 : (x * 40009 + 77) % 2147483543 = x2
      have hx3 : 0 ≤ x2 ∧ x2 < 2147483629 := by subst hx2; omega
      refine ⟨_, rfl, _, rfl, _, _, rfl, rfl, ⟨by decide, by decide, by decide⟩, _, _, rfl, rfl, _, rfl, ?_⟩
      have out : ∀ y : Int, 0 ≤ y → ∀ p, H' p = none → Q (.ref p) (upd H' p (.lst [.int x2, .int y, .int i])) := fun y hy q nq =>
        k q _ (by
          cases e : H1 q with
          | none => rfl
          | some o => rw [s1 _ _ e] at nq; cases nq) (fun b o e => (upd_ne (ne_of_none (s1 b o e) nq)).trans (s1 b o e)) ⟨_, _, _, upd_same, hx3, hy, by omega⟩
      have hz : (0 : Int) ≤ if z < 0 then -z else z := by split <;> omega
      refine ite2 (fun _ => ?_) (fun _ => ?_)
      · exact ⟨_, rfl, _, rfl, _, rfl, (by show 3 ≤ sizeLine; decide), out _ hz⟩
      · exact ⟨_, rfl, (by show 3 ≤ sizeLine; decide), out _ (by decide)⟩
theorem ok_take {f : Addr} {fd : FuncData} (F : Fun K "_law_take" "_law_take" s_take f fd) (T : Blt mg) : FnOk P w K mg base CX0 1 f fd ["_law_spring_here", "_law_many"] sp_dip := by
  refine F.ok sc_take (fun vs H Q E h => ?_) (fun cdv A outer s H vs Q E hr h => ?_)
  · obtain ⟨_, _, _, rfl, _⟩ := h
    rfl
  · obtain ⟨a, m, n, rfl, ⟨x, y, z, e, hx, hy, hz⟩, hn, hm, hm2, k⟩ := h
    refine ⟨_, (pss_cons (ps_if (pt_cmpR op_gt (pe_ix ix_list (pv 0) pe_int (fun _ _ => rfl)) pe_int (nomark _)) (pss_cons (ps_asg (pe_callB call_divmodW (by rfl) T.b_divmod (by decide +kernel) (pa_cons (pe_ix ix_list (pv 0) pe_int (fun _ _ => rfl)) (pa_cons (pv 1) pa_nil))) (pg_tup (by rfl) (pgs_cons (pg_sub (pv 0) pe_int set_list) (pgs_cons (pg_name (i := 2) sc_take.nd rfl (Or.inl rfl)) pgs_nil)))) (pss_one (ps_ret (pv 2)))) pss_nil)
      (pss_cons (ps_asg (pe_op op_add (pe_ix ix_list (pv 0) pe_int (fun _ _ => rfl)) pe_int) (pg_sub (pv 0) pe_int set_list))
      (pss_cons (ps_par (i := 3) (j := 4) (by rfl) sc_take.nd rfl rfl (by decide) rfl rfl (pa_cons (pe_op op_add pe_int (pe_op op_mul pe_int (pe_ix ix_list (pv 0) pe_int (fun _ _ => rfl)))) (pa_cons (pe_op op_add (pe_op op_mul pe_int (pe_ix ix_list (pv 0) pe_int (fun _ _ => rfl))) pe_int) pa_nil)) (by rfl))
      (pss_cons (ps_asg (pe_op op_mod (pe_callTy call_int1 (by rfl) T.b_int (by decide +kernel) (pa_cons (pe_op op_add (pe_op op_mul (pe_ix ix_list (pv 0) pe_int (fun _ _ => rfl)) (pv 3)) (pv 4)) pa_nil)) pe_int) (pg_sub (pv 0) pe_int set_list))
      (pss_one (ps_ret (pe_op op_mod (pe_callTy call_int1 (by rfl) T.b_int (by decide +kernel) (pa_cons (pe_op op_fdiv (pe_ix ix_list (pv 0) pe_int (fun _ _ => rfl)) pe_int) pa_nil)) (pv 1)))))))), ?_⟩
    refine ⟨_, rfl, a, _, 1, _, rfl, rfl, SqL.of e, rfl, _, _, rfl, rfl, _, rfl, ?_⟩
    refine ite2 (fun hp => ?_) (fun _ => ?_)
    · refine ⟨_, rfl, a, _, 1, _, rfl, rfl, SqL.of e, rfl, _, rfl, _, _, rfl, ⟨hm, ?_⟩, fun p np => ?_⟩
      · refine PyProof.noPylong_of_log2 ?_
        have q := PySem.Flt.log2_lt_of (n := m.natAbs) (k := 200) (by decide) (by omega)
        omega
      · have npa : a ≠ p := fun w => by rw [← w, e] at np; cases np
        refine ⟨p, _, rfl, SqT.of upd_same, rfl, _, _, rfl, ⟨_, rfl, a, _, _, 1, rfl, rfl, Eq.trans (upd_ne npa) e, rfl, _, _, rfl, ⟨rfl, _, rfl, ?_⟩⟩⟩
        refine k _ _ (Int.emod_nonneg _ (by omega)) (Int.emod_lt_of_pos _ hm) (fun b o hb eb => ?_) ⟨_, _, _, upd_same, hx, Int.ediv_nonneg hy (by omega), hz.1, by omega⟩
        rw [upd_ne hb, upd_ne (ne_of_none eb np)]
        exact eb
    · refine ⟨_, rfl, a, _, 2, _, rfl, rfl, SqL.of e, rfl, _, _, rfl, rfl, _, rfl, a, _, _, 2, rfl, rfl, e, rfl, ?_⟩
      refine ⟨_, rfl, a, _, 2, _, rfl, rfl, SqL.of upd_same, rfl, _, _, rfl, rfl, .inl ⟨by decide, by decide⟩, _, _, rfl, rfl, _, rfl, a, _, 2, _, rfl, rfl, SqL.of upd_same, rfl, _, _, rfl, rfl, .inl ⟨by decide, by decide⟩, _, _, rfl, rfl, _, _, rfl, ?_⟩
      dsimp only
      refine ⟨_, rfl, a, _, 0, _, rfl, rfl, SqL.of upd_same, rfl, _, rfl, _, _, rfl, rfl, .inl ⟨by omega, by omega⟩, _, rfl, _, _, rfl, rfl, .inl ⟨_, rfl, _, _, rfl, rfl, (by show (0 : Int) < 2147483543; decide), _, rfl, a, _, _, 0, rfl, rfl, upd_same, rfl, ?_⟩⟩
      refine ⟨_, rfl, a, _, 0, _, rfl, rfl, SqL.of upd_same, rfl, _, _, rfl, rfl, ⟨by decide, by decide⟩, .inl ⟨_, rfl, _, rfl, _, _, rfl, rfl, hm, ?_⟩⟩
      refine k _ _ (Int.emod_nonneg _ (by omega)) (Int.emod_lt_of_pos _ hm) (fun b o hb eb => by rw [upd_ne hb, upd_ne hb]; exact eb) ⟨_, _, _, upd_same, ⟨Int.emod_nonneg _ (by decide), Int.lt_of_lt_of_le (Int.emod_lt_of_pos _ (by decide)) (by decide)⟩, hy, by omega, by omega⟩
end
end RV
/-! names of the later laws -/
namespace RV
open PySem L2 TL
section
variable {P : Program} {w : World} {K : PySem.W.Frag} {mg : Str → Option Value} {base : Heap}
theorem ok_titles {f : Addr} {fd : FuncData} (F : Fun K "_law_titles" "_law_titles" s_titles f fd) (T : Blt mg) (h_take : Fn P w K mg base "_law_take" 1 ["_law_spring_here", "_law_many"] (Irr sp_dip)) : FnOk P w K mg base CX0 2 f fd ["_law_spring_here", "_law_many"] sp_names := by
  refine F.ok sc_titles (fun vs H Q E h => ?_) (fun cdv A outer s H vs Q E hr h => ?_)
  · obtain ⟨_, _, _, rfl, _⟩ := h
    rfl
  · obtain ⟨a, n, m, rfl, wl, hn, hm, k⟩ := h
    refine ⟨_, (pss_cons (ps_asg (pe_tup (pa_cons pe_str (pa_cons (pe_lst pa_nil) pa_nil))) (pg_tup (by rfl) (pgs_cons (pg_name (i := 2) sc_titles.nd rfl (Or.inl rfl)) (pgs_cons (pg_name (i := 3) sc_titles.nd rfl (Or.inr rfl)) pgs_nil))))
      (pss_cons (ps_set (i := 4) sc_titles.nd rfl (Or.inl rfl) (pe_lst (pa_cons pe_str (pa_cons pe_str (pa_cons pe_str (pa_cons pe_str (pa_cons pe_str (pa_cons pe_str (pa_cons pe_str (pa_cons pe_str pa_nil))))))))))
      (pss_cons (ps_for PassesOwn.never rfl (pi_range1 rfl T.b_range (pa_cons (pv 1) pa_nil)) (pg_name (i := 5) sc_titles.nd rfl (Or.inl rfl)) (pss_cons (ps_asg (pe_tup (pa_cons (pe_ix ix_list (pe_lst (pa_cons pe_int (pa_cons pe_int (pa_cons pe_int (pa_cons pe_int (pa_cons pe_int (pa_cons pe_int pa_nil))))))) (pe_fn h_take (hr.mono (by decide)) (pa_cons (pv 0) (pa_cons pe_int pa_nil))) (fun _ _ => rfl)) (pa_cons (pe_ix ix_str (pv 2) (pe_fn h_take (hr.mono (by decide)) (pa_cons (pv 0) (pa_cons pe_int pa_nil))) (fun _ _ => rfl)) pa_nil))) (pg_tup (by rfl) (pgs_cons (pg_name (i := 6) sc_titles.nd rfl (Or.inl rfl)) (pgs_cons (pg_name (i := 7) sc_titles.nd rfl (Or.inr rfl)) pgs_nil)))) (pss_cons (ps_for PassesOwn.never rfl (pi_range1 rfl T.b_range (pa_cons (pv 6) pa_nil)) (pg_name (i := 8) sc_titles.nd rfl (Or.inl rfl)) (pss_one (ps_set (i := 7) sc_titles.nd rfl (Or.inr rfl) (pe_op op_add_str (pv 7) (pe_ix ix_str (pv 2) (pe_fn h_take (hr.mono (by decide)) (pa_cons (pv 0) (pa_cons pe_int pa_nil))) (fun _ _ => rfl)))))) (pss_cons (ps_if (pt_cmpR op_eq (pe_fn h_take (hr.mono (by decide)) (pa_cons (pv 0) (pa_cons pe_int pa_nil))) pe_int (nomark _)) (pss_one (ps_set (i := 7) sc_titles.nd rfl (Or.inr rfl) (pe_ix ix_list (pv 4) (pe_fn h_take (hr.mono (by decide)) (pa_cons (pv 0) (pa_cons pe_int pa_nil))) (fun _ _ => rfl)))) pss_nil) (pss_cons (ps_set (i := 9) sc_titles.nd rfl (Or.inl rfl) (pe_op op_cat (pe_lst (pa_cons (pv 7) pa_nil)) (pe_lc (own := [("_law_sign", 10)]) (g := gName 10) (tt := tYes) rfl sc_titles.nd (pi_str (pv 2)) (blkOk_by (N := sc_titles_N) (sc := defScope s_titles) (by decide +kernel)) (fun _ _ _ _ _ => pg_name (i := 10) sc_titles.nd rfl (Or.inl rfl)) (fun _ _ _ _ _ => pts_nil) (fun _ _ _ _ _ => (pe_op op_add_str (pe_slice sl_str (pv 7) po_none (po_some pe_int)) (pv 10)))))) (pss_one (ps_expr (pe_bm PySem.F.plainAttrs_list PySem.F.slot_list_append PySem.F.type_list_append mt_append (pv 3) (pa_cons (pe_ix ix_list (pe_lc (own := [("_law_one", 11)]) (g := gName 11) rfl sc_titles.nd (pi_list (pv 9)) (blkOk_by (N := sc_titles_N) (sc := defScope s_titles) (by decide +kernel)) (fun _ _ _ _ _ => pg_name (i := 11) sc_titles.nd rfl (Or.inl rfl)) (fun _ _ _ _ _ => pts_one (pt_cmpR (op_notInK (K := K)) (pv 11) (pv 3) (by rfl))) (fun _ _ _ _ _ => (pv 11))) pe_int (fun _ _ => rfl)) pa_nil)))))))))
      (pss_one (ps_ret (pv 3)))))), ?_⟩
    have b0 := Bag.start wl
    refine ⟨by decide, fun fl f0 => ⟨(by show 2 ≤ sizeLine; decide), fun T0 nT0 => ⟨T0, _, rfl, SqT.of upd_same, rfl, _, _, rfl, _, _, rfl, rfl, ?_⟩⟩⟩
    have b1 := (b0.newM (o := .lst []) f0).new (o := .tup [.str signs, .ref fl]) nT0
    dsimp only
    refine ⟨(by show 8 ≤ sizeLine; decide), fun W0 nW0 => ?_⟩
    have b2 := (b1.new (o := .lst (words3.map V.str)) nW0).sub (F' := [(W0, .lst (words3.map V.str))]) fun p hp => by
      rw [List.mem_singleton.mp hp]
      exact List.mem_cons_self
    dsimp only [gName]
    refine ⟨_, rfl, m, rfl, by omega, by omega, for_range (lo := 0) (n := m) (fun j σ H' => ∃ (xs : List Str) (o5 o6 o7 o8 o9 o10 o11 : Option V), σ = [some (.ref a), some (.int m), some (.str signs), some (.ref fl), some (.ref W0), o5, o6, o7, o8, o9, o10, o11] ∧
      xs.length = j ∧ xs.Nodup ∧ (∀ x ∈ xs, IsNm x) ∧ Bag H a (n + 15 * j) [(fl, .lst (xs.map V.str))] [(W0, .lst (words3.map V.str))] H') ?_ ?_ ?_⟩
    · exact ⟨[], _, _, _, _, _, _, _, rfl, rfl, .nil, (fun _ hx => nomatch hx), b2⟩
    · rintro j σ H2 hj ⟨xs, o5, o6, o7, o8, o9, o10, o11, rfl, xl, xd, xn, b3⟩
      dsimp only [gName]
      rw [Int.zero_add]
      -- size, first sign
      refine ⟨(by show 6 ≤ sizeLine; decide), fun q0 nq0 => ?_⟩
      have b4 := b3.new (o := .lst [.int 0, .int 0, .int 1, .int 1, .int 3, .int 7]) nq0
      refine ⟨_, rfl, b4.dip (by omega) (by decide) (by decide) fun r H3 r0 r1 b5 => ?_⟩
      obtain ⟨sz, hsz, esz⟩ := sizes_at r0 r1
      refine ⟨q0, _, _, _, rfl, rfl, SqL.of (b5.at List.mem_cons_self), esz, _, rfl, _, rfl, b5.dip (by omega) (by decide) (by decide) fun r H4 r0 r1 b6 => ?_⟩
      obtain ⟨c, hc, lc⟩ := at_low r0 r1
      refine ⟨signs, _, c, rfl, rfl, by decide, hc, (by show 2 ≤ sizeLine; decide), fun T1 nT1 => ⟨T1, _, rfl, SqT.of upd_same, rfl, _, _, rfl, _, _, rfl, rfl, ?_⟩⟩
      have b7 := ((b6.new (o := .tup [.int sz, .str ⟨#[c]⟩]) nT1).wm (m := n + 15 * j + 2) (by omega)).sub (F' := [(W0, .lst (words3.map V.str))]) fun p hp => List.mem_cons_of_mem _ (List.mem_cons_of_mem _ hp)
      dsimp only
      -- the further signs
      refine ⟨_, rfl, (sz : Int), rfl, by omega, by omega, for_range (lo := 0) (n := sz) (fun t σ H' => ∃ (x : Str) (o8 : Option V), σ = [some (.ref a), some (.int m), some (.str signs), some (.ref fl), some (.ref W0), some (.int (j : Int)), some (.int (sz : Int)), some (.str x), o8, o9, o10, o11] ∧
        IsNm x ∧ x.length = t + 1 ∧ Bag H a (n + 15 * j + 2 + t) [(fl, .lst (xs.map V.str))] [(W0, .lst (words3.map V.str))] H') ?_ ?_ ?_⟩
      · exact ⟨_, _, rfl, isNm_iff.mpr ⟨c, [], rfl, lc, rfl, by decide⟩, rfl, b7⟩
      · rintro t σ H5 ht ⟨x, o8, rfl, nx, lx, b8⟩
        dsimp only [gName]
        refine ⟨_, rfl, _, rfl, _, rfl, b8.dip (by omega) (by decide) (by decide) fun r H6 r0 r1 b9 => ?_⟩
        obtain ⟨d, hd, ld⟩ := at_tail r0 r1
        refine ⟨signs, _, d, rfl, rfl, by decide, hd, _, _, rfl, rfl, szn (by rw [lx]; show t + 1 + 1 ≤ 1000; omega), _, _, rfl, ?_, by rw [sl_app, lx]; rfl, b9⟩
        show isNm (cd _) = true
        rw [cd_app]
        exact isNm_snoc nx (by rw [← cd_len]; omega) ld
      rintro σ H5 ⟨x, o8', rfl, nx, lx, b8⟩
      dsimp only
      -- a word
      refine seq_of (fun σ' H' => ∃ x : Str, IsNm x ∧ σ' = [some (.ref a), some (.int m), some (.str signs), some (.ref fl), some (.ref W0), some (.int (j : Int)), some (.int (sz : Int)), some (.str x), o8', o9, o10, o11] ∧ Bag H a (n + 15 * j + 12) [(fl, .lst (xs.map V.str))] [(W0, .lst (words3.map V.str))] H') ?rest3 (fun N hN => ?main3)
      case main3 =>
        refine ⟨_, rfl, b8.dip (by omega) (by decide) (by decide) fun r H6 _ _ b9 => ⟨rfl, _, rfl, ite2 (fun _ => ?_) fun _ => hN _ _ ⟨x, nx, rfl, b9.wm (by omega)⟩⟩⟩
        refine ⟨_, rfl, _, rfl, b9.dip (by omega) (by decide) (by decide) fun r H7 r0 r1 b10 => ?_⟩
        obtain ⟨y, hy, hyn⟩ := word3_at r0 r1
        exact ⟨W0, _, r, .str y, rfl, rfl, SqL.of (b10.at List.mem_cons_self), hy, hN _ _ ⟨y, hyn, rfl, b10.wm (by omega)⟩⟩
      rintro σ3 H6 ⟨y, ny, rfl, b9⟩
      clear b8 nx lx b7 b6 b5 b4
      have ly := nm8 ny
      -- the spare ones
      refine ⟨_, rfl, (by show 1 ≤ sizeLine; decide), fun p np => ?_⟩
      have b10 := b9.new (o := .lst [.str y]) np
      refine ⟨_, rfl, signs, rfl, fun D nD => lc_str (z := signs) (fun i H' => Bag H a (n + 15 * j + 12) [(D, .lst (((cands y).take i).map V.str)), (fl, .lst (xs.map V.str))] ((p, .lst [.str y]) :: [(W0, .lst (words3.map V.str))]) H') (b10.newM nD) ?_ ?_⟩
      · rintro i c H7 hi b11
        refine ⟨rfl, _, rfl, _, rfl, _, rfl, szn (by omega), _, rfl, _, _, rfl, rfl, ?_, _, b11.am List.mem_cons_self, ?_, ?_⟩
        · rw [show cutS y none (some 7) = cutS y none (some ((7 : Nat) : Int)) from rfl, cd_len, cd_pre, List.length_take, ← cd_len]
          have e2 : Str.length ⟨#[c]⟩ = 1 := rfl
          rw [e2]
          exact szn (by omega)
        · rw [List.length_map, List.length_take]
          exact Nat.lt_of_lt_of_le (show min i (cands y).length < 1000 by rw [cands_len]; omega) (by decide)
        · have e : (cands y)[i]? = some (cutS y none (some 7) ++ ⟨#[c]⟩) := by
            unfold cands
            rw [List.getElem?_map, hi]
            rfl
          rw [List.take_add_one, e, List.map_append]
          exact b11.put0
      rintro H7 b11
      rw [List.take_of_length_le (by rw [cands_len, cd_signs]; decide)] at b11
      refine ⟨p, D, _, _, rfl, rfl, b11.at List.mem_cons_self, b11.am List.mem_cons_self, ?_, fun q nq => ?_⟩
      · rw [List.length_map, cands_len]
        exact (by show 1 + 36 ≤ sizeLine; decide)
      have b12 := b11.frz.new (o := .lst ([V.str y] ++ (cands y).map V.str)) nq
      have eq1 : [V.str y] ++ (cands y).map V.str = (y :: cands y).map V.str := rfl
      rw [eq1] at b12 ⊢
      have esp : SqL K _ q ((y :: cands y).map V.str) := SqL.of (b12.at List.mem_cons_self)
      have eF := b12.am List.mem_cons_self
      dsimp only [gName]
      refine ⟨_, rfl, .inl ⟨rfl, _, SqL.of eF⟩, _, rfl, q, rfl, ⟨_, esp⟩, fun D2 nD2 => lc_keepV (xs := (y :: cands y).map V.str) (fun v => !inV v (xs.map V.str)) walk_list nD2 (by rw [List.length_map, List.length_cons, cands_len]; decide) (fun H' s' => esp.ext s') (fun _ => rfl) (fun v hv H8 s8 R kR => ?_) (fun v hv H8 R r => ⟨_, rfl, r⟩) fun H8 s8 hD2 => ?_⟩
      · obtain ⟨z, _, rfl⟩ := List.mem_map.mp hv
        exact ⟨_, rfl, _, rfl, fl, _, rfl, .inl (SqL.of (s8 _ _ eF)), rfl, strs_flat _, _, rfl, kR⟩
      have b13 := b12.same s8
      have ef : ((y :: cands y).map V.str).filter (fun v => !inV v (xs.map V.str)) = ((y :: cands y).filter fun z => !decide (z ∈ xs)).map V.str := by
        rw [List.filter_map]
        congr 1
        exact List.filter_congr fun y _ => by rw [Function.comp, inV_str]
      rw [ef] at hD2
      obtain ⟨z, hz, hzx⟩ := one_free (cands_nodup y) (xs := xs) (by rw [cands_len]; omega)
      have hm2 : z ∈ (y :: cands y).filter (fun z => !decide (z ∈ xs)) := List.mem_filter.mpr ⟨List.mem_cons_of_mem _ hz, by simp [hzx]⟩
      cases eg : (y :: cands y).filter (fun z => !decide (z ∈ xs)) with
      | nil => rw [eg] at hm2; cases hm2
      | cons u us =>
        rw [eg] at hD2
        have hu : u ∈ (y :: cands y).filter (fun z => !decide (z ∈ xs)) := by rw [eg]; exact List.mem_cons_self
        obtain ⟨hu1, hu2⟩ := List.mem_filter.mp hu
        have hux : u ∉ xs := by simpa using hu2
        have hun : IsNm u := by
          rcases List.mem_cons.mp hu1 with z | z
          · rw [z]; exact ny
          · exact cands_nm ny u z
        refine ⟨D2, _, 0, .str u, rfl, rfl, SqL.of hD2, atI_nat (j := 0) rfl, fl, _, _, rfl, rfl, b13.am List.mem_cons_self, ?_, xs ++ [u], _, _, _, _, _, _, _, rfl, by rw [List.length_append, xl]; rfl, nodup_snoc xd hux, fun z hz => ?_, ?_⟩
        · rw [List.length_map, xl]
          exact Nat.lt_of_lt_of_le (show j < 20 by omega) (by decide)
        · exact (List.mem_append.mp hz).elim (xn z) fun w => by rw [List.mem_singleton.mp w]; exact hun
        · rw [List.map_append]
          exact ((b13.put0 (o' := .lst (xs.map V.str ++ [V.str u]))).wm (by omega)).sub fun p hp => by
            rw [List.mem_singleton.mp hp]
            exact List.mem_cons_of_mem _ (List.mem_cons_of_mem _ (List.mem_cons_of_mem _ List.mem_cons_self))
    · rintro σ H2 ⟨xs, o5, o6, o7, o8, o9, o10, o11, rfl, xl, xd, xn, b3⟩
      exact ⟨_, rfl, k fl xs H2 f0 (b3.m _ List.mem_cons_self).2.1 b3.gr (b3.well.mono (by omega)) (b3.am List.mem_cons_self) xl xd xn⟩
end
end RV
/-! drawn nets of the later laws -/
namespace RV
open PySem L2 TL
section
variable {P : Program} {w : World} {K : PySem.W.Frag} {mg : Str → Option Value} {base : Heap}
theorem ok_plan {f : Addr} {fd : FuncData} (F : Fun K "_law_plan" "_law_plan" s_plan f fd) (T : Blt mg) (h_take : Fn P w K mg base "_law_take" 1 ["_law_spring_here", "_law_many"] (Irr sp_dip)) (h_titles : Fn P w K mg base "_law_titles" 2 ["_law_spring_here", "_law_many"] (Irr sp_names)) : FnOk P w K mg base CX0 3 f fd ["_law_spring_here", "_law_tubes", "_law_gauges"] sp_plan := by
  refine F.ok sc_plan (fun vs H Q E h => ?_) (fun cdv A outer s H vs Q E hr h => ?_)
  · obtain ⟨_, _, _, _, rfl, _⟩ := h
    rfl
  · obtain ⟨a, n, most, more, rfl, wl, hn, m1, m12, o12, k⟩ := h
    refine ⟨_, (pss_cons (ps_par (i := 3) (j := 4) (by rfl) sc_plan.nd rfl rfl (by decide) rfl rfl (pa_cons (pe_fn h_titles (hr.mono (by decide)) (pa_cons (pv 0) (pa_cons (pe_op op_add pe_int (pe_fn h_take (hr.mono (by decide)) (pa_cons (pv 0) (pa_cons pe_int pa_nil)))) pa_nil))) (pa_cons (pe_fn h_titles (hr.mono (by decide)) (pa_cons (pv 0) (pa_cons (pe_op op_add pe_int (pe_fn h_take (hr.mono (by decide)) (pa_cons (pv 0) (pa_cons (pv 1) pa_nil)))) pa_nil))) pa_nil)) (by rfl))
      (pss_cons (ps_asg (pe_tup (pa_cons (pe_callB call_len_seq (by rfl) T.b_len (by decide +kernel) (pa_cons (pv 3) pa_nil)) (pa_cons (pe_cmpR op_eq (pe_fn h_take (hr.mono (by decide)) (pa_cons (pv 0) (pa_cons pe_int pa_nil))) pe_int (nomark _)) (pa_cons (pe_lst pa_nil) (pa_cons (pe_lst pa_nil) pa_nil))))) (pg_tup (by rfl) (pgs_cons (pg_name (i := 5) sc_plan.nd rfl (Or.inl rfl)) (pgs_cons (pg_name (i := 6) sc_plan.nd rfl (Or.inl rfl)) (pgs_cons (pg_name (i := 7) sc_plan.nd rfl (Or.inl rfl)) (pgs_cons (pg_name (i := 8) sc_plan.nd rfl (Or.inl rfl)) pgs_nil))))))
      (pss_cons (ps_for PassesOwn.never rfl (pi_range1 rfl T.b_range (pa_cons (pe_callB call_len_seq (by rfl) T.b_len (by decide +kernel) (pa_cons (pv 4) pa_nil)) pa_nil)) (pg_name (i := 9) sc_plan.nd rfl (Or.inl rfl)) (pss_cons (ps_set (i := 10) sc_plan.nd rfl (Or.inl rfl) (pe_ifExp (PW.pt (pw_and (pt_val (pv 6)) (pw_and1 (pt_cmpR op_lt (pv 9) (pv 5) (nomark _))))) (pv 9) (pe_fn h_take (hr.mono (by decide)) (pa_cons (pv 0) (pa_cons (pv 5) pa_nil))))) (pss_cons (ps_set (i := 11) sc_plan.nd rfl (Or.inl rfl) (pe_ifExp (PW.pt (pw_and (pt_val (pv 6)) (pw_and1 (pt_cmpR op_lt (pv 9) (pv 5) (nomark _))))) pe_int (pe_op op_add pe_int (pe_fn h_take (hr.mono (by decide)) (pa_cons (pv 0) (pa_cons (pe_op op_sub (pv 5) pe_int) pa_nil)))))) (pss_cons (ps_set (i := 12) sc_plan.nd rfl (Or.inl rfl) (pe_op op_mod (pe_callTy call_int1 (by rfl) T.b_int (by decide +kernel) (pa_cons (pe_op op_add (pv 10) (pv 11)) pa_nil)) (pv 5))) (pss_cons (ps_set (i := 13) sc_plan.nd rfl (Or.inl rfl) (pe_cmpR op_eq (pe_fn h_take (hr.mono (by decide)) (pa_cons (pv 0) (pa_cons pe_int pa_nil))) pe_int (nomark _))) (pss_one (ps_expr (pe_bm PySem.F.plainAttrs_list PySem.F.slot_list_append PySem.F.type_list_append mt_append (pv 7) (pa_cons (pe_ifExp (pt_val (pv 13)) (pe_tup (pa_cons (pe_ix ix_list (pv 4) (pv 9) (fun _ _ => rfl)) (pa_cons (pv 12) (pa_cons (pv 10) pa_nil)))) (pe_tup (pa_cons (pe_ix ix_list (pv 4) (pv 9) (fun _ _ => rfl)) (pa_cons (pv 10) (pa_cons (pv 12) pa_nil))))) pa_nil)))))))))
      (pss_cons (ps_par (i := 14) (j := 15) (by rfl) sc_plan.nd rfl rfl (by decide) rfl rfl (pa_cons (pe_cmpR op_eq (pe_fn h_take (hr.mono (by decide)) (pa_cons (pv 0) (pa_cons pe_int pa_nil))) pe_int (nomark _)) (pa_cons (pe_fn h_titles (hr.mono (by decide)) (pa_cons (pv 0) (pa_cons (pe_fn h_take (hr.mono (by decide)) (pa_cons (pv 0) (pa_cons (pe_op op_add (pv 2) pe_int) pa_nil))) pa_nil))) pa_nil)) (by rfl))
      (pss_cons (ps_for PassesOwn.never rfl (pi_range1 rfl T.b_range (pa_cons (pe_callB call_len_seq (by rfl) T.b_len (by decide +kernel) (pa_cons (pv 15) pa_nil)) pa_nil)) (pg_name (i := 9) sc_plan.nd rfl (Or.inl rfl)) (pss_cons (ps_set (i := 16) sc_plan.nd rfl (Or.inl rfl) (pe_ifExp (PW.pt (pw_and (pt_val (pv 14)) (pw_and1 (pt_cmpR op_lt (pv 9) (pe_callB call_len_seq (by rfl) T.b_len (by decide +kernel) (pa_cons (pv 4) pa_nil)) (nomark _))))) (pv 9) (pe_fn h_take (hr.mono (by decide)) (pa_cons (pv 0) (pa_cons (pe_callB call_len_seq (by rfl) T.b_len (by decide +kernel) (pa_cons (pv 4) pa_nil)) pa_nil))))) (pss_one (ps_expr (pe_bm PySem.F.plainAttrs_list PySem.F.slot_list_append PySem.F.type_list_append mt_append (pv 8) (pa_cons (pe_tup (pa_cons (pe_ix ix_list (pv 15) (pv 9) (fun _ _ => rfl)) (pa_cons (pv 16) (pa_cons (pe_cmpR op_eq (pe_fn h_take (hr.mono (by decide)) (pa_cons (pv 0) (pa_cons pe_int pa_nil))) pe_int (nomark _)) pa_nil)))) pa_nil))))))
      (pss_one (ps_ret (pe_lst (pa_cons (pv 3) (pa_cons (pv 7) (pa_cons (pv 8) pa_nil))))))))))), ?_⟩
    have b0 := Bag.start wl
    refine ⟨_, rfl, _, rfl, b0.dip (by omega) (by decide) (by decide) fun r H1 r0 r1 b1 => ?_⟩
    obtain ⟨cn, rfl⟩ := Int.eq_ofNat_of_zero_le r0
    refine ⟨_, _, rfl, rfl, irr ⟨a, _, 2 + cn, rfl, b1.well, by omega, by omega, fun lp pl H2 np pa g2 w2 ep pll pld pln => ?_⟩⟩
    have b2 := (b1.grow g2 w2).add pa ep
    refine ⟨_, rfl, _, rfl, _, rfl, b2.dip (by omega) (by omega) (by omega) fun r H3 r0' r1' b3 => ?_⟩
    obtain ⟨sz, rfl⟩ := Int.eq_ofNat_of_zero_le r0'
    refine ⟨_, _, rfl, rfl, irr ⟨a, _, 1 + sz, rfl, b3.well, by omega, by omega, fun lt tl H4 nt ta g4 w4 et tll tld tln => ?_⟩⟩
    have b4 := (b3.grow g4 w4).add ta et
    refine ⟨_, _, rfl, ?_⟩
    dsimp only
    have p25 : 2 ≤ pl.length ∧ pl.length ≤ 5 := by omega
    have t1m : 1 ≤ tl.length ∧ tl.length ≤ most := by omega
    -- what stays
    refine ⟨_, rfl, lp, _, rfl, .inl (SqL.of (b4.at (List.mem_cons_of_mem _ List.mem_cons_self))), _, rfl, b4.dip (by omega) (by decide) (by decide) fun r H5 _ _ b5 => ⟨rfl, ?_⟩⟩
    generalize decide (V.int r = V.int 0) = rd
    rw [List.length_map]
    refine ⟨by decide, fun lq nq => ⟨by decide, fun lg ng => ⟨(by show 4 ≤ sizeLine; decide), fun T0 nT0 => ⟨T0, _, rfl, SqT.of upd_same, rfl, _, _, rfl, _, _, rfl, _, _, rfl, _, _, rfl, rfl, ?_⟩⟩⟩⟩
    have b6 := ((((b5.newM (o := .lst []) nq).newM (o := .lst []) ng).new (o := .tup [.int (pl.length : Int), .bl rd, .ref lq, .ref lg]) nT0).sub (F' := [(lt, .lst (tl.map V.str)), (lp, .lst (pl.map V.str))]) fun p hp => List.mem_cons_of_mem _ hp).wm (m := n + 410) (by omega)
    dsimp only
    have tn : ∀ {j : Nat} (h : j < tl.length), atI (tl.map V.str) (j : Int) = some (V.str tl[j]) := fun {j} h => atI_nat (by rw [List.getElem?_map, List.getElem?_eq_getElem h]; rfl)
    -- the pipes
    refine ⟨_, rfl, lt, _, rfl, .inl (SqL.of (b6.at List.mem_cons_self)), ?_⟩
    rw [List.length_map]
    refine ⟨(tl.length : Int), rfl, by omega, by omega, for_range (lo := 0) (n := tl.length) (fun j σ H' => ∃ (pu : List QU) (o9 o10 o11 o12 o13 : Option V), σ = [some (.ref a), some (.int most), some (.int more), some (.ref lp), some (.ref lt), some (.int (pl.length : Int)), some (.bl rd), some (.ref lq), some (.ref lg), o9, o10, o11, o12, o13, none, none, none] ∧
      pu.length = j ∧ (sn pu).map (·.1) = tl.take j ∧ (∀ q ∈ sn pu, q.2.1 < pl.length ∧ q.2.2 < pl.length ∧ q.2.1 ≠ q.2.2) ∧ Bag H a (n + 410 + 3 * j) [(lg, .lst []), (lq, .lst (rf pu))] ((lt, .lst (tl.map V.str)) :: (lp, .lst (pl.map V.str)) :: pu.map fun u => (u.1, oQ u.2)) H') ?_ ?_ ?_⟩
    · exact ⟨[], _, _, _, _, _, rfl, rfl, rfl, (fun _ hq => nomatch hq), b6⟩
    · rintro j σ H6 hj ⟨pu, o9, o10, o11, o12, o13, rfl, ul, un, uq, b7⟩
      dsimp only [gName]
      rw [Int.zero_add]
      -- first
      refine seq_of (fun σ' H' => ∃ f : Nat, f < pl.length ∧ σ' = [some (.ref a), some (.int most), some (.int more), some (.ref lp), some (.ref lt), some (.int (pl.length : Int)), some (.bl rd), some (.ref lq), some (.ref lg), some (.int (j : Int)), some (.int (f : Int)), o11, o12, o13, none, none, none] ∧ Bag H a (n + 410 + 3 * j + 1) [(lg, .lst []), (lq, .lst (rf pu))] ((lt, .lst (tl.map V.str)) :: (lp, .lst (pl.map V.str)) :: pu.map fun u => (u.1, oQ u.2)) H') ?rest1 (fun N hN => ?main1)
      case main1 =>
        cases rd with
        | true =>
          refine ⟨_, rfl, true, rfl, iteT ⟨_, rfl, _, rfl, _, _, rfl, rfl, _, rfl, ite2 (fun h => ?_) fun _ => ?_⟩⟩
          · have := of_decide_eq_true h
            exact ⟨_, rfl, hN _ _ ⟨j, by omega, rfl, b7.wm (by omega)⟩⟩
          · refine ⟨_, rfl, _, rfl, b7.dip (by omega) (by omega) (by omega) fun r H7 r0 r1 b8 => ?_⟩
            obtain ⟨q, rfl⟩ := Int.eq_ofNat_of_zero_le r0
            exact hN _ _ ⟨q, by omega, rfl, b8⟩
        | false =>
          refine ⟨_, rfl, false, rfl, iteF (iteF ⟨_, rfl, _, rfl, b7.dip (by omega) (by omega) (by omega) fun r H7 r0 r1 b8 => ?_⟩)⟩
          obtain ⟨q, rfl⟩ := Int.eq_ofNat_of_zero_le r0
          exact hN _ _ ⟨q, by omega, rfl, b8⟩
      rintro σ1 H7 ⟨f1, hf1, rfl, b8⟩
      refine seq_of (fun σ' H' => ∃ f : Nat, f + 1 < pl.length ∧ σ' = [some (.ref a), some (.int most), some (.int more), some (.ref lp), some (.ref lt), some (.int (pl.length : Int)), some (.bl rd), some (.ref lq), some (.ref lg), some (.int (j : Int)), some (.int (f1 : Int)), some (.int ((1 + f : Nat) : Int)), o12, o13, none, none, none] ∧ Bag H a (n + 410 + 3 * j + 2) [(lg, .lst []), (lq, .lst (rf pu))] ((lt, .lst (tl.map V.str)) :: (lp, .lst (pl.map V.str)) :: pu.map fun u => (u.1, oQ u.2)) H') ?rest2 (fun N hN => ?main2)
      case main2 =>
        have dr : ∀ {Q' : VK}, (∀ (q : Nat) H', q + 1 < pl.length → Bag H a (n + 410 + 3 * j + 2) [(lg, .lst []), (lq, .lst (rf pu))] ((lt, .lst (tl.map V.str)) :: (lp, .lst (pl.map V.str)) :: pu.map fun u => (u.1, oQ u.2)) H' → Q' (.int ((1 + q : Nat) : Int)) H') → tOp (rI0 fun i j => V.int (i + j)) (tC (.int 1)) (tCall (Irr sp_dip) [] E0 (tCons (tVar 0) (tCons (tOp (rI0 fun i j => V.int (i - j)) (tVar 5) (tC (.int 1))) tNil))) [some (.ref a), some (.int most), some (.int more), some (.ref lp), some (.ref lt), some (.int (pl.length : Int)), some (.bl rd), some (.ref lq), some (.ref lg), some (.int (j : Int)), some (.int (f1 : Int)), o11, o12, o13, none, none, none] H7 Q' := fun {Q'} kq => by
          refine ⟨_, rfl, _, rfl, _, _, rfl, rfl, b8.dip (by omega) (by omega) (by omega) fun r H8 r0 r1 b9 => ?_⟩
          obtain ⟨q, rfl⟩ := Int.eq_ofNat_of_zero_le r0
          refine ⟨_, _, rfl, rfl, ?_⟩
          have := kq q H8 (by omega) b9
          rwa [show ((1 + q : Nat) : Int) = 1 + (q : Int) by omega] at this
        cases rd with
        | true =>
          refine ⟨_, rfl, true, rfl, iteT ⟨_, rfl, _, rfl, _, _, rfl, rfl, _, rfl, ite2 (fun h => ?_) fun _ => ?_⟩⟩
          · exact hN _ _ ⟨0, by omega, rfl, b8.wm (by omega)⟩
          · exact dr fun q H8 hq b9 => hN _ _ ⟨q, hq, rfl, b9⟩
        | false =>
          exact ⟨_, rfl, false, rfl, iteF (iteF (dr fun q H8 hq b9 => hN _ _ ⟨q, hq, rfl, b9⟩))⟩
      rintro σ2 H8 ⟨f2, hf2, rfl, b9⟩
      have hjt : j < tl.length := hj
      have em : ((f1 : Int) + ((1 + f2 : Nat) : Int)) % (pl.length : Int) = (((f1 + (1 + f2)) % pl.length : Nat) : Int) := by
        rw [show (f1 : Int) + ((1 + f2 : Nat) : Int) = ((f1 + (1 + f2) : Nat) : Int) by omega]
        exact (Int.natCast_emod (f1 + (1 + f2)) pl.length).symm
      refine ⟨_, rfl, _, rfl, _, _, rfl, rfl, .inl ⟨_, rfl, _, rfl, _, _, rfl, rfl, (by show (0 : Int) < (pl.length : Int); omega), ?_⟩⟩
      dsimp only [gName]
      rw [em]
      have hs2 : (f1 + (1 + f2)) % pl.length < pl.length := Nat.mod_lt _ (by omega)
      have hne : (f1 + (1 + f2)) % pl.length ≠ f1 := step_ne hf1 hf2
      revert hs2 hne
      generalize (f1 + (1 + f2)) % pl.length = s2
      intro hs2 hne
      refine ⟨_, rfl, b9.dip (by omega) (by decide) (by decide) fun r H9 _ _ b10 => ⟨rfl, ?_⟩⟩
      generalize decide (V.int r = V.int 0) = tu
      have eQ := b10.am (p := lq) (List.mem_cons_of_mem _ List.mem_cons_self)
      have eT := b10.at List.mem_cons_self
      have fin : ∀ (x y : Nat), x < pl.length → y < pl.length → x ≠ y → ∀ tt, H9 tt = none → ∃ (pu' : List QU), rf pu' = rf pu ++ [.ref tt] ∧ pu'.length = j + 1 ∧ (sn pu').map (·.1) = tl.take (j + 1) ∧ (∀ q ∈ sn pu', q.2.1 < pl.length ∧ q.2.2 < pl.length ∧ q.2.1 ≠ q.2.2) ∧
          Bag H a (n + 410 + 3 * (j + 1)) [(lg, .lst []), (lq, .lst (rf pu'))] ((lt, .lst (tl.map V.str)) :: (lp, .lst (pl.map V.str)) :: pu'.map fun u => (u.1, oQ u.2)) (upd (upd H9 tt (oQ (tl[j], x, y))) lq (.lst (rf pu ++ [.ref tt]))) := fun x y hx hy hxy tt nt => by
        have e : rf (pu ++ [(tt, tl[j], x, y)]) = rf pu ++ [.ref tt] := by rw [rf, List.map_append]; rfl
        refine ⟨pu ++ [(tt, tl[j], x, y)], e, by rw [List.length_append, ul]; rfl, ?_, fun q hq => ?_, ?_⟩
        · rw [sn, List.map_append, List.map_append]
          show (sn pu).map (·.1) ++ [tl[j]] = _
          rw [un, List.take_add_one, List.getElem?_eq_getElem hjt]
          rfl
        · rw [sn, List.map_append] at hq
          rcases List.mem_append.mp hq with z | z
          · exact uq q z
          · rw [List.mem_singleton.mp z]
            exact ⟨hx, hy, hxy⟩
        · rw [e]
          refine (((b10.new (o := oQ (tl[j], x, y)) nt).put (i := 1) rfl (o' := .lst (rf pu ++ [.ref tt]))).wm (m := n + 410 + 3 * (j + 1)) (by omega)).sub fun p hp => ?_
          rw [List.map_append] at hp
          simp only [List.mem_cons, List.mem_append, List.map_cons, List.map_nil, List.not_mem_nil, or_false] at hp ⊢
          rcases hp with z | z | z | z
          · exact .inr (.inl z)
          · exact .inr (.inr (.inl z))
          · exact .inr (.inr (.inr z))
          · exact .inl z
      have hlq : (rf pu).length < sizeLine := by
        rw [rf_len, ul]
        exact Nat.lt_of_lt_of_le (show j < 20 by omega) (by decide)
      dsimp only [gName]
      cases tu with
      | true =>
        refine ⟨_, rfl, .inl ⟨rfl, _, SqL.of eQ⟩, _, rfl, true, rfl, iteT ⟨_, rfl, _, rfl, lt, _, _, _, rfl, rfl, SqL.of eT, tn hjt, _, rfl, _, rfl, (by show 3 ≤ sizeLine; decide), fun tt nt => ?_⟩⟩
        obtain ⟨pu', c1, c2, c3, c4, c5⟩ := fin s2 f1 hs2 hf1 hne tt nt
        refine ⟨lq, _, _, rfl, rfl, (upd_ne (ne_of_none eQ nt)).trans eQ, hlq, pu', _, _, _, _, _, rfl, c2, c3, c4, c5⟩
      | false =>
        refine ⟨_, rfl, .inl ⟨rfl, _, SqL.of eQ⟩, _, rfl, false, rfl, iteF ⟨_, rfl, _, rfl, lt, _, _, _, rfl, rfl, SqL.of eT, tn hjt, _, rfl, _, rfl, (by show 3 ≤ sizeLine; decide), fun tt nt => ?_⟩⟩
        obtain ⟨pu', c1, c2, c3, c4, c5⟩ := fin f1 s2 hf1 hs2 (fun e => hne e.symm) tt nt
        refine ⟨lq, _, _, rfl, rfl, (upd_ne (ne_of_none eQ nt)).trans eQ, hlq, pu', _, _, _, _, _, rfl, c2, c3, c4, c5⟩
    rintro σ H6 ⟨pu, o9, o10, o11, o12, o13, rfl, ul, un, uq, b7⟩
    dsimp only
    refine ⟨_, rfl, b7.dip (by omega) (by decide) (by decide) fun r H7 _ _ b8 => ⟨rfl, ?_⟩⟩
    generalize decide (V.int r = V.int 0) = ev
    refine ⟨_, rfl, _, rfl, _, rfl, _, _, rfl, rfl, b8.dip (by omega) (by omega) (by omega) fun r H8 r0 r1 b9 => ?_⟩
    obtain ⟨gm, rfl⟩ := Int.eq_ofNat_of_zero_le r0
    refine irr ⟨a, _, gm, rfl, b9.well, by omega, by omega, fun ln gl H9 nln na g9 w9 el gll gld gln => ?_⟩
    have b10 := (b9.addN nln na g9 w9 el).wm (m := n + 700) (by omega)
    refine ⟨_, _, rfl, ?_⟩
    dsimp only
    have gn : ∀ {j : Nat} (h : j < gl.length), atI (gl.map V.str) (j : Int) = some (V.str gl[j]) := fun {j} h => atI_nat (by rw [List.getElem?_map, List.getElem?_eq_getElem h]; rfl)
    refine ⟨_, rfl, ln, _, rfl, .inl (SqL.of (b10.at List.mem_cons_self)), ?_⟩
    rw [List.length_map]
    refine ⟨(gl.length : Int), rfl, by omega, by omega, for_range (lo := 0) (n := gl.length) (fun j σ H' => ∃ (gu : List GU) (o9 o16 : Option V), σ = [some (.ref a), some (.int most), some (.int more), some (.ref lp), some (.ref lt), some (.int (pl.length : Int)), some (.bl rd), some (.ref lq), some (.ref lg), o9, o10, o11, o12, o13, some (.bl ev), some (.ref ln), o16] ∧
      gu.length = j ∧ (sn gu).map (·.1) = gl.take j ∧ (∀ g ∈ sn gu, g.2.1 < tl.length) ∧ Bag H a (n + 700 + 2 * j) [(lg, .lst (rf gu)), (lq, .lst (rf pu))] ((ln, .lst (gl.map V.str)) :: (lt, .lst (tl.map V.str)) :: (lp, .lst (pl.map V.str)) :: ((pu.map fun u => (u.1, oQ u.2)) ++ gu.map fun u => (u.1, oG u.2))) H') ?_ ?_ ?_⟩
    · refine ⟨[], _, _, rfl, rfl, rfl, (fun _ hq => nomatch hq), b10.sub fun p hp => ?_⟩
      simp only [List.map_nil, List.append_nil] at hp
      exact hp
    · rintro j σ H10 hj ⟨gu, o9', o16, rfl, gul, gun, guq, b11⟩
      dsimp only [gName]
      rw [Int.zero_add]
      refine seq_of (fun σ' H' => ∃ f : Nat, f < tl.length ∧ σ' = [some (.ref a), some (.int most), some (.int more), some (.ref lp), some (.ref lt), some (.int (pl.length : Int)), some (.bl rd), some (.ref lq), some (.ref lg), some (.int (j : Int)), o10, o11, o12, o13, some (.bl ev), some (.ref ln), some (.int (f : Int))] ∧ Bag H a (n + 700 + 2 * j + 1) [(lg, .lst (rf gu)), (lq, .lst (rf pu))] ((ln, .lst (gl.map V.str)) :: (lt, .lst (tl.map V.str)) :: (lp, .lst (pl.map V.str)) :: ((pu.map fun u => (u.1, oQ u.2)) ++ gu.map fun u => (u.1, oG u.2))) H') ?rest4 (fun N hN => ?main4)
      case main4 =>
        have mT : (lt, HO.lst (tl.map V.str)) ∈ ((ln, .lst (gl.map V.str)) :: (lt, .lst (tl.map V.str)) :: (lp, .lst (pl.map V.str)) :: ((pu.map fun u => (u.1, oQ u.2)) ++ gu.map fun u => (u.1, oG u.2))) := List.mem_cons_of_mem _ List.mem_cons_self
        have dr : ∀ {N : V → Hp → Prop}, (∀ (q : Nat) H', q < tl.length → Bag H a (n + 700 + 2 * j + 1) [(lg, .lst (rf gu)), (lq, .lst (rf pu))] ((ln, .lst (gl.map V.str)) :: (lt, .lst (tl.map V.str)) :: (lp, .lst (pl.map V.str)) :: ((pu.map fun u => (u.1, oQ u.2)) ++ gu.map fun u => (u.1, oG u.2))) H' → N (.int (q : Int)) H') → Irr sp_dip [.ref a, .int (tl.length : Int)] H10 N E0 := fun {N} kq => b11.dip (by omega) (by omega) (by omega) fun r H8 r0 r1 b9 => by
          obtain ⟨q, rfl⟩ := Int.eq_ofNat_of_zero_le r0
          exact kq q H8 (by omega) b9
        have lenE : ((tl.map V.str).length : Int) = (tl.length : Int) := by rw [List.length_map]
        cases ev with
        | true =>
          refine ⟨_, rfl, true, rfl, iteT ⟨_, rfl, _, rfl, lt, _, rfl, .inl (SqL.of (b11.at mT)), _, _, rfl, rfl, _, rfl, ?_⟩⟩
          rw [lenE]
          refine ite2 (fun h => ?_) fun _ => ?_
          · have := of_decide_eq_true h
            exact ⟨_, rfl, hN _ _ ⟨j, by omega, rfl, b11.wm (by omega)⟩⟩
          · refine ⟨_, rfl, _, rfl, lt, _, rfl, .inl (SqL.of (b11.at mT)), ?_⟩
            rw [lenE]
            exact dr fun q H8 hq b9 => hN _ _ ⟨q, hq, rfl, b9⟩
        | false =>
          refine ⟨_, rfl, false, rfl, iteF (iteF ⟨_, rfl, _, rfl, lt, _, rfl, .inl (SqL.of (b11.at mT)), ?_⟩)⟩
          rw [lenE]
          exact dr fun q H8 hq b9 => hN _ _ ⟨q, hq, rfl, b9⟩
      rintro σ2 H11 ⟨pq, hpq, rfl, b12⟩
      have eG := b12.am (p := lg) List.mem_cons_self
      have eL := b12.at List.mem_cons_self
      refine ⟨_, rfl, .inl ⟨rfl, _, SqL.of eG⟩, _, rfl, _, rfl, ln, _, _, _, rfl, rfl, SqL.of eL, gn hj, _, rfl, _, rfl, b12.dip (by omega) (by decide) (by decide) fun r H12 _ _ b13 => ⟨rfl, ?_⟩⟩
      generalize decide (V.int r = V.int 0) = shut
      refine ⟨(by show 3 ≤ sizeLine; decide), fun tt nt => ?_⟩
      have b14 := b13.new (o := oG (gl[j], pq, shut)) nt
      have e : rf (gu ++ [(tt, gl[j], pq, shut)]) = rf gu ++ [.ref tt] := by rw [rf, List.map_append]; rfl
      refine ⟨lg, _, _, rfl, rfl, b14.am List.mem_cons_self, ?_, gu ++ [(tt, gl[j], pq, shut)], _, _, rfl, by rw [List.length_append, gul]; rfl, ?_, fun g hg => ?_, ?_⟩
      · rw [rf_len, gul]
        exact Nat.lt_of_lt_of_le (show j < 20 by omega) (by decide)
      · rw [sn, List.map_append, List.map_append]
        show (sn gu).map (·.1) ++ [gl[j]] = _
        rw [gun, List.take_add_one, List.getElem?_eq_getElem hj]
        rfl
      · rw [sn, List.map_append] at hg
        rcases List.mem_append.mp hg with z | z
        · exact guq g z
        · rw [List.mem_singleton.mp z]
          exact hpq
      · rw [e]
        refine ((b14.put0 (o' := .lst (rf gu ++ [.ref tt]))).wm (m := n + 700 + 2 * (j + 1)) (by omega)).sub fun p hp => ?_
        rw [List.map_append] at hp
        simp only [List.mem_cons, List.mem_append, List.map_cons, List.map_nil, List.not_mem_nil, or_false] at hp ⊢
        rcases hp with z | z | z | z | z | z
        · exact .inr (.inl z)
        · exact .inr (.inr (.inl z))
        · exact .inr (.inr (.inr (.inl z)))
        · exact .inr (.inr (.inr (.inr (.inl z))))
        · exact .inr (.inr (.inr (.inr (.inr z))))
        · exact .inl z
    rintro σ3 H10 ⟨gu, o9', o16, rfl, gul, gun, guq, b11⟩
    refine ⟨_, rfl, _, rfl, _, rfl, (by show 3 ≤ sizeLine; decide), fun l nl => ?_⟩
    have b12 := ((b11.new (o := .lst [.ref lp, .ref lq, .ref lg]) nl).frz.frz).wm (m := n + 2000) (by omega)
    rw [List.take_length] at gun un
    refine k l lp lq lg pl pu gu _ (b12.sub fun p hp => ?_) ⟨p25.1, p25.2, pln, pld, by show 1 ≤ (sn pu).length; rw [sn_len]; omega, by show (sn pu).length ≤ most; rw [sn_len]; omega, fun q hq => ?_, by show ((sn pu).map (·.1)).Nodup; rw [un]; exact tld, by show (sn gu).length ≤ more; rw [sn_len]; omega, fun g hg => ?_, by show ((sn gu).map (·.1)).Nodup; rw [gun]; exact gld⟩
    · simp only [lM, List.mem_cons] at hp ⊢
      rcases hp with z | z | z | z | z
      · exact .inr (.inr (.inl z))
      · exact .inr (.inr (.inr (.inr (.inr (.inl z)))))
      · exact .inl z
      · exact .inr (.inl z)
      · exact .inr (.inr (.inr (.inr (.inr (.inr z)))))
    · have hq1 : q.1 ∈ tl := by rw [← un]; exact List.mem_map.mpr ⟨q, hq, rfl⟩
      obtain ⟨c1, c2, c3⟩ := uq q hq
      exact ⟨tln _ hq1, c1, c2, c3⟩
    · have hg1 : g.1 ∈ gl := by rw [← gun]; exact List.mem_map.mpr ⟨g, hg, rfl⟩
      exact ⟨gln _ hg1, by show g.2.1 < (sn pu).length; rw [sn_len, ul]; exact guq g hg⟩
end
end RV
/-! the text of a drawn net -/
namespace RV
open PySem L2 TL
section
variable {P : Program} {w : World} {K : PySem.W.Frag} {mg : Str → Option Value} {base : Heap}
theorem ok_grid {f : Addr} {fd : FuncData} (F : Fun K "_law_grid" "_law_grid" s_grid f fd) : FnOk P w K mg base CX0 1 f fd ["_law_plan_here"] sp_grid := by
  refine F.ok sc_grid (fun vs H Q E h => ?_) (fun cdv A outer s H vs Q E hr h => ?_)
  · obtain ⟨_, _, _, _, rfl, _⟩ := h
    rfl
  · obtain ⟨l, M, most, more, rfl, md, ok, m12, o12, k⟩ := h
    refine ⟨_, (pss_cons (ps_setLc (i := 1) (own := [("_law_one", 2)]) (g := gName 2) (tt := tYes) rfl sc_grid.nd rfl rfl (sw_true rfl rfl rfl (by decide +kernel)) (pi_list (pe_ix ix_list (pv 0) pe_int (fun _ _ => rfl))) (blkOk_by (N := sc_grid_N) (sc := defScope s_grid) (by decide +kernel)) (fun _ _ _ _ _ => pg_name (i := 2) sc_grid.nd rfl (Or.inl rfl)) (fun _ _ _ _ _ => pts_nil) (fun _ _ _ _ _ => (pe_op op_add_str (pe_op op_add_str (pe_op op_add_str (pe_op op_add_str (pe_op op_add_str pe_str (pe_ix (ix_tupK (K := K)) (pv 2) pe_int (fun _ _ => rfl))) pe_str) (pe_ix (ix_listK (K := K)) (pe_ix (ix_listK (K := K)) (pv 0) pe_int (fun _ _ => rfl)) (pe_ix (ix_tupK (K := K)) (pv 2) pe_int (fun _ _ => rfl)) (fun _ _ => rfl))) pe_str) (pe_ix (ix_listK (K := K)) (pe_ix (ix_listK (K := K)) (pv 0) pe_int (fun _ _ => rfl)) (pe_ix (ix_tupK (K := K)) (pv 2) pe_int (fun _ _ => rfl)) (fun _ _ => rfl)))))
      (pss_cons (ps_for PassesOwn.never rfl (pi_list (pe_ix ix_list (pv 0) pe_int (fun _ _ => rfl))) (pg_name (i := 2) sc_grid.nd rfl (Or.inl rfl)) (pss_one (ps_expr (pe_bm PySem.F.plainAttrs_list PySem.F.slot_list_append PySem.F.type_list_append mt_append (pv 1) (pa_cons (pe_op op_add_str (pe_op op_add_str (pe_op op_add_str (pe_op op_add_str pe_str (pe_ix ix_tup (pv 2) pe_int (fun _ _ => rfl))) pe_str) (pe_ix ix_tup (pe_ix ix_list (pe_ix ix_list (pv 0) pe_int (fun _ _ => rfl)) (pe_ix ix_tup (pv 2) pe_int (fun _ _ => rfl)) (fun _ _ => rfl)) pe_int (fun _ _ => rfl))) (pe_ifExp (pt_truth (pe_ix ix_tup (pv 2) pe_int (fun _ _ => rfl)) (by intro _; rfl)) pe_str pe_str)) pa_nil)))))
      (pss_one (ps_ret (pe_bm PySem.F.plainAttrs_str PySem.F.slot_str_join PySem.F.type_str_join mt_join pe_str (pa_cons (pv 1) pa_nil)))))), ?_⟩
    obtain ⟨lp, lq, lg, pu, gu, e1, e2, kp⟩ := md.ex
    have ekl : H l = some (.lst [.ref lp, .ref lq, .ref lg]) := kp (l, _) List.mem_cons_self
    have ekp : H lp = some (.lst (M.pl.map V.str)) := kp (lp, _) (List.mem_cons_of_mem _ List.mem_cons_self)
    have ekq : H lq = some (.lst (rf pu)) := kp (lq, _) (List.mem_cons_of_mem _ (List.mem_cons_of_mem _ List.mem_cons_self))
    have ekg : H lg = some (.lst (rf gu)) := kp (lg, _) (List.mem_cons_of_mem _ (List.mem_cons_of_mem _ (List.mem_cons_of_mem _ List.mem_cons_self)))
    have eku : ∀ u ∈ pu, H u.1 = some (oQ u.2) := fun u hu => kp (u.1, _) (List.mem_cons_of_mem _ (List.mem_cons_of_mem _ (List.mem_cons_of_mem _ (List.mem_cons_of_mem _ (List.mem_append_left _ (List.mem_map.mpr ⟨u, hu, rfl⟩))))))
    have ekv : ∀ u ∈ gu, H u.1 = some (oG u.2) := fun u hu => kp (u.1, _) (List.mem_cons_of_mem _ (List.mem_cons_of_mem _ (List.mem_cons_of_mem _ (List.mem_cons_of_mem _ (List.mem_append_right _ (List.mem_map.mpr ⟨u, hu, rfl⟩))))))
    have po := ok.po m12
    have mo := ok.mo o12
    have ul : pu.length ≤ 12 := by rw [← sn_len, e1]; exact Nat.le_trans ok.qm m12
    have gl : gu.length ≤ 12 := by rw [← sn_len, e2]; exact Nat.le_trans ok.gm o12
    have atp : ∀ {i : Nat} (h : i < M.pl.length), atI (M.pl.map V.str) (i : Int) = some (V.str (M.pl.getD i "")) := fun {i} h => atI_nat (by rw [List.getElem?_map, List.getElem?_eq_getElem h, getD_lt h]; rfl)
    have ep1 : Str.length " " = 1 := by decide +kernel
    have ep5 : Str.length "pipe " = 5 := by decide +kernel
    have ep6 : Str.length "meter " = 6 := by decide +kernel
    have psl : M.ps.length = pu.length := by rw [Mod.ps, List.length_map, ← e1, sn_len]
    refine ⟨_, rfl, l, _, 1, _, rfl, rfl, SqL.of ekl, rfl, lq, rfl, ⟨_, SqL.of ekq⟩, fun ll nl => lc_to (xs := rf pu) ((M.ps.map pline).map V.str) (by rw [List.length_map, List.length_map, psl, rf_len]) walk_list nl (by rw [rf_len]; omega) (fun H' s' => SqL.of (s' _ _ ekq)) (fun _ => rfl) (fun j v y hv hy H1 s1 R kR => ?_) fun H1 s1 eL => ?_⟩
    · obtain ⟨u, hu, rfl⟩ := rf_get hv
      have hsg := sn_get hu
      rw [e1] at hsg
      have hm := List.mem_of_getElem? hsg
      obtain ⟨n1, n2, n3, n4⟩ := ok.qn _ hm
      have eu := s1 _ _ (eku u (List.mem_of_getElem? hu))
      have hps : M.ps[j]? = some (u.2.1, M.pl.getD u.2.2.1 "", M.pl.getD u.2.2.2 "") := by rw [Mod.ps, List.getElem?_map, hsg]; rfl
      rw [List.getElem?_map, List.getElem?_map, hps] at hy
      obtain rfl := Option.some.inj hy
      obtain ⟨b1, b2, b3, _⟩ := po.nm _ (List.mem_of_getElem? hps)
      have l1 := nm8 b1
      have l2 := nm8 b2
      have l3 := nm8 b3
      dsimp only at l1 l2 l3
      refine ⟨_, rfl, u.1, _, 0, .str u.2.1, rfl, rfl, SqT.of eu, rfl, _, _, rfl, rfl, ?_, _, _, rfl, rfl, ?_, _, rfl, l, _, 0, _, rfl, rfl, SqL.of (s1 _ _ ekl), rfl, _, rfl, u.1, _, 1, _, rfl, rfl, SqT.of eu, rfl, lp, _, _, _, rfl, rfl, SqL.of (s1 _ _ ekp), atp n2, _, _, rfl, rfl, ?_, _, _, rfl, rfl, ?_, _, rfl, l, _, 0, _, rfl, rfl, SqL.of (s1 _ _ ekl), rfl, _, rfl, u.1, _, 2, _, rfl, rfl, SqT.of eu, rfl, lp, _, _, _, rfl, rfl, SqL.of (s1 _ _ ekp), atp n3, _, _, rfl, rfl, ?_, ?_⟩
      · rw [ep5]; exact szn (by omega)
      · rw [sl_app, ep5, ep1]; exact szn (by omega)
      · rw [sl_app, sl_app, ep5, ep1]; exact szn (by omega)
      · rw [sl_app, sl_app, sl_app, ep5, ep1]; exact szn (by omega)
      · rw [sl_app, sl_app, sl_app, sl_app, ep5, ep1]; exact szn (by omega)
      rw [pline_app2]
      exact kR H1 (Same.refl _)
    have hl0 : H ll = none := nl
    have ens : M.ms.length = gu.length := by rw [Mod.ms, List.length_map, ← e2, sn_len]
    dsimp only [gName]
    refine ⟨_, rfl, l, _, 2, _, rfl, rfl, SqL.of (s1 _ _ ekl), rfl, lg, rfl, ⟨_, SqL.of (s1 _ _ ekg)⟩, for_list (xs := rf gu) (fun j σ H' => (∃ o2, σ = [some (.ref l), some (.ref ll), o2]) ∧ Same H H' ∧ H' ll = some (.lst ((M.ps.map pline).map V.str ++ ((M.ms.take j).map mline).map V.str))) ⟨⟨_, rfl⟩, s1, by rw [eL]; simp⟩ (fun j σ H' _ z => SqL.of (z.2.1 _ _ ekg)) ?_ ?_⟩
    · rintro j y σ H2 hy ⟨⟨o2, rfl⟩, s2, eL2⟩
      obtain ⟨u, hu, rfl⟩ := rf_get hy
      have hsg := sn_get hu
      rw [e2] at hsg
      have hm := List.mem_of_getElem? hsg
      obtain ⟨n1, n2⟩ := ok.gn _ hm
      have eu := s2 _ _ (ekv u (List.mem_of_getElem? hu))
      have hms : M.ms[j]? = some (u.2.1, (M.qs.getD u.2.2.1 ("", 0, 0)).1, u.2.2.2) := by rw [Mod.ms, List.getElem?_map, hsg]; rfl
      obtain ⟨b1, b2⟩ := mo.nm _ (List.mem_of_getElem? hms)
      have l1 := nm8 b1
      have l2 := nm8 b2
      dsimp only at l1 l2
      have hqu : u.2.2.1 < pu.length := by rw [← sn_len, e1]; exact n2
      have eq1 := sn_get (List.getElem?_eq_getElem hqu)
      rw [e1] at eq1
      have eq2 : M.qs.getD u.2.2.1 ("", 0, 0) = (pu[u.2.2.1]).2 := by rw [List.getD, eq1]; rfl
      have epq := s2 _ _ (eku _ (List.getElem_mem hqu))
      rw [eq2] at hms l2
      have atq : atI (rf pu) ((u.2.2.1 : Nat) : Int) = some (V.ref (pu[u.2.2.1]).1) := atI_nat (by rw [rf, List.getElem?_map, List.getElem?_eq_getElem hqu]; rfl)
      have e3 : (mseal u.2.2.2).length ≤ 7 := by cases u.2.2.2 <;> decide +kernel
      have ez0 : Str.length "" = 0 := by decide +kernel
      have ez7 : Str.length " sealed" = 7 := by decide +kernel
      have ed := mline_app (u.2.1, (pu[u.2.2.1]).2.1, u.2.2.2)
      dsimp only at ed
      dsimp only [gName]
      refine ⟨_, rfl, .inl ⟨rfl, _, SqL.of eL2⟩, _, rfl, u.1, _, 0, .str u.2.1, rfl, rfl, SqT.of eu, rfl, _, _, rfl, rfl, ?_, _, _, rfl, rfl, ?_, _, rfl, l, _, 1, _, rfl, rfl, SqL.of (s2 _ _ ekl), rfl, _, rfl, u.1, _, 1, _, rfl, rfl, SqT.of eu, rfl, lq, _, _, _, rfl, rfl, SqL.of (s2 _ _ ekq), atq, _, _, 0, .str (pu[u.2.2.1]).2.1, rfl, rfl, SqT.of epq, rfl, _, _, rfl, rfl, ?_, _, rfl, u.1, _, 2, .bl u.2.2.2, rfl, rfl, SqT.of eu, rfl, u.2.2.2, rfl, ?_⟩
      · rw [ep6]; exact szn (by omega)
      · rw [sl_app, ep6, ep1]; exact szn (by omega)
      · rw [sl_app, sl_app, ep6, ep1]; exact szn (by omega)
      cases hz : u.2.2.2
      refine iteF ?_
      rotate_left
      refine iteT ?_
      all_goals
        rw [hz] at ed hms
        refine ⟨_, _, rfl, rfl, ?_, ll, _, _, rfl, rfl, eL2, ?_, ⟨_, rfl⟩, fun b o e => ?_, ?_⟩
        · rw [sl_app, sl_app, sl_app, ep6, ep1]; first | rw [ez0] | rw [ez7]
          exact szn (by omega)
        · simp only [List.length_append, List.length_map]
          have h1 := List.length_take_le' j M.ms
          have h2 := po.ln
          have h3 := mo.ln
          exact Nat.lt_of_le_of_lt (show _ ≤ 30 by omega) (by decide)
        · rw [upd_ne (ne_of_none e hl0)]
          exact s2 _ _ e
        · rw [upd_same, List.take_add_one, hms, List.map_append, List.map_append, List.append_assoc]
          exact congrArg (fun z => some (HO.lst (_ ++ (_ ++ [V.str z])))) ed
    rintro σ H2 ⟨⟨o2, rfl⟩, s2, eL2⟩
    rw [rf_len, ← ens, List.take_length, ← List.map_append] at eL2
    have pn : PNm M.ps := fun p hp => ⟨(po.nm p hp).1, (po.nm p hp).2.1, (po.nm p hp).2.2.1⟩
    have mn : MNm M.ms := fun p hp => mo.nm p hp
    have h1 := netL_sum pn mn
    have h2 : (netL M.ps M.ms).length = M.ps.length + M.ms.length := by rw [netL, List.length_append, List.length_map, List.length_map]
    have h3 : Str.length "\n" = 1 := by decide +kernel
    have h4 := po.ln
    have h5 := mo.ln
    refine ⟨rfl, _, rfl, _, ll, netL M.ps M.ms, rfl, rfl, .inl (SqL.of eL2), ?_, k _ s2⟩
    rw [h3]
    omega
end
end RV
/-! a way along kept pipes -/
namespace RV
open PySem L2 TL
section
variable {P : Program} {w : World} {K : PySem.W.Frag} {mg : Str → Option Value} {base : Heap}
theorem ok_path {f : Addr} {fd : FuncData} (F : Fun K "_law_path" "_law_path" s_path f fd) (T : Blt mg) : FnOk P w K mg base CX0 1 f fd ["_law_tubes", "_law_kept", "_law_first", "_law_last"] (sp_path K) := by
  refine F.ok sc_path (fun vs H Q E h => ?_) (fun cdv A outer s H vs Q E hr h => ?_)
  · obtain ⟨_, _, _, _, _, _, rfl, _⟩ := h
    rfl
  · obtain ⟨lt, lk, pu, kept, first, last, rfl, eT, eP, eK, k12, p12, kn, k⟩ := h
    have hu : (A.deeper (PyProof.Rows.envOfC "_law_path" (defScope s_path) s.heap.objs.size f cdv)).units + 1 < cLine := by have := hr.units; omega
    refine ⟨_, (pss_cons (ps_set (i := 4) sc_path.nd rfl (Or.inl rfl) (pe_disp (pps_cons (pv 2) (pe_lst pa_nil) pps_nil) rfl rfl (by simp) (by simp)))
      (pss_cons (ps_for PassesOwn.never rfl (pi_range1 rfl T.b_range (pa_cons (pe_callB call_len_seq (by rfl) T.b_len (by decide +kernel) (pa_cons (pv 1) pa_nil)) pa_nil)) (pg_name (i := 5) sc_path.nd rfl (Or.inl rfl)) (pss_one (ps_for PassesOwn.never rfl (pi_list (pv 1)) (pg_name (i := 6) sc_path.nd rfl (Or.inl rfl)) (pss_cons (ps_par (i := 7) (j := 8) (by rfl) sc_path.nd rfl rfl (by decide) rfl rfl (pa_cons (pe_ix ix_tup (pe_ix ix_list (pv 0) (pv 6) (fun _ _ => rfl)) pe_int (fun _ _ => rfl)) (pa_cons (pe_ix ix_tup (pe_ix ix_list (pv 0) (pv 6) (fun _ _ => rfl)) pe_int (fun _ _ => rfl)) pa_nil)) (by rfl)) (pss_one (ps_if (PW.pt (pw_and (pt_cmp (pc_din hu (pv 7) (pv 4))) (pw_and1 (pt_cmp (pc_dnotin hu (pv 8) (pv 4)))))) (pss_one (ps_dput hu (pv 4) (pv 8) (pe_op op_cat (pe_dget hu (pv 4) (pv 7) (fun _ _ => rfl)) (pe_lst (pa_cons (pe_tup (pa_cons (pv 6) (pa_cons pe_int pa_nil))) pa_nil))) (by rfl))) (pss_one (ps_if (PW.pt (pw_and (pt_cmp (pc_din hu (pv 8) (pv 4))) (pw_and1 (pt_cmp (pc_dnotin hu (pv 7) (pv 4)))))) (pss_one (ps_dput hu (pv 4) (pv 7) (pe_op op_cat (pe_dget hu (pv 4) (pv 8) (fun _ _ => rfl)) (pe_lst (pa_cons (pe_tup (pa_cons (pv 6) (pa_cons (pe_un un_neg pe_int) pa_nil))) pa_nil))) (by rfl))) pss_nil))))))))
      (pss_one (ps_ret (pe_dget1 hu (pv 4) (pv 3) ⟨rfl, rfl, rfl, rfl⟩))))), ?_⟩
    intro d nd
    have c0 := (Cel.start H).newM (o := .dK []) nd
    refine ⟨_, rfl, by decide, fun l0 nl0 => ?_⟩
    have c1 := c0.new (o := .lst []) nl0
    refine ⟨c1.am List.mem_cons_self, [(.inl (first : Int), .ref l0)], rfl, by simp, ?_⟩
    rw [show mergeK [] [((Sum.inl (first : Int) : Key), V.ref l0)] = kvW [(first, l0, [])] from rfl]
    have c2 := (c1.put0 (o' := .dK (kvW [(first, l0, [])]))).sub (F' := ledW [(first, l0, [])]) fun p hp => hp
    dsimp only [gName]
    have eKH : ∀ {H' : Hp}, Same H H' → SqL K H' lk (kept.map vI) := fun s => eK.ext s
    refine ⟨_, rfl, lk, _, rfl, .inl (eKH c2.sm), ?_⟩
    rw [List.length_map]
    refine ⟨(kept.length : Int), rfl, by omega, by omega, for_range (lo := 0) (n := kept.length) (fun r σ H' => ∃ (rs : List WU) (o5 o6 o7 o8 : Option V), σ = [some (.ref lt), some (.ref lk), some (.int (first : Int)), some (.int (last : Int)), some (.ref d), o5, o6, o7, o8] ∧ rs.map (·.1) = roundsK (stQ (sn pu)) (enQ (sn pu)) kept first r ∧ WaysOk pu.length (r * kept.length) rs ∧ Cel H [(d, .dK (kvW rs))] (ledW rs) H') ?_ ?_ ?_⟩
    · exact ⟨[(first, l0, [])], _, _, _, _, rfl, rfl, ⟨(fun r hr s hs => by rw [List.mem_singleton.mp hr] at hs; exact absurd hs (by simp)), (fun r hr => by rw [List.mem_singleton.mp hr]; exact Nat.zero_le _), (by show 1 ≤ 0 * kept.length + 1; omega)⟩, c2⟩
    · rintro r σ H1 hr1 ⟨rs, o5, o6, o7, o8, rfl, ek, wo, c3⟩
      dsimp only [gName]
      refine ⟨_, rfl, lk, rfl, ⟨_, eKH c3.sm⟩, for_list (xs := kept.map vI) (fun i σ H' => ∃ (rs : List WU) (o5 o6 o7 o8 : Option V), σ = [some (.ref lt), some (.ref lk), some (.int (first : Int)), some (.int (last : Int)), some (.ref d), o5, o6, o7, o8] ∧ rs.map (·.1) = (kept.take i).foldl (stepK (stQ (sn pu)) (enQ (sn pu))) (roundsK (stQ (sn pu)) (enQ (sn pu)) kept first r) ∧ WaysOk pu.length (r * kept.length + i) rs ∧ Cel H [(d, .dK (kvW rs))] (ledW rs) H') ⟨rs, _, _, _, _, rfl, ek, wo, c3⟩ (fun i σ H' _ z => by obtain ⟨_, _, _, _, _, _, _, _, c⟩ := z; exact eKH c.sm) ?_ ?_⟩
      · clear ek wo c3 c2 c1 c0
        rintro i v σ H2 hv ⟨rs, o5, o6, o7, o8, rfl, ek, wo, c3⟩
        obtain ⟨q, hq, rfl⟩ : ∃ q, kept[i]? = some q ∧ v = vI q := by
          rw [List.getElem?_map] at hv
          cases e : kept[i]? with
          | none => rw [e] at hv; cases hv
          | some q => rw [e] at hv; exact ⟨q, rfl, (Option.some.inj hv).symm⟩
        have hqm := List.mem_of_getElem? hq
        have hqp := kn q hqm
        have eT2 : SqL K H2 lt (rf pu) := eT.ext c3.sm
        have epu := c3.old (eP _ (List.getElem_mem hqp))
        have atp : atI (rf pu) ((q : Nat) : Int) = some (V.ref (pu[q]).1) := atI_nat (by rw [rf, List.getElem?_map, List.getElem?_eq_getElem hqp]; rfl)
        obtain ⟨es, en⟩ := q_at (sn_get (List.getElem?_eq_getElem hqp))
        have etk : (kept.take (i + 1)).foldl (stepK (stQ (sn pu)) (enQ (sn pu))) (roundsK (stQ (sn pu)) (enQ (sn pu)) kept first r) = stepK (stQ (sn pu)) (enQ (sn pu)) (rs.map (·.1)) q := by
          rw [List.take_add_one, hq, Option.toList_some, List.foldl_append, ek]
          rfl
        rw [etk]
        dsimp only [gName]
        refine ⟨_, rfl, _, rfl, lt, _, _, _, rfl, rfl, eT2, atp, pu[q].1, _, 1, _, rfl, rfl, SqT.of epu, rfl, _, rfl, _, rfl, lt, _, _, _, rfl, rfl, eT2, atp, pu[q].1, _, 2, _, rfl, rfl, SqT.of epu, rfl, _, _, rfl, ?_⟩
        dsimp only
        rw [← es, ← en]
        unfold stepK
        generalize stQ (sn pu) q = b
        generalize enQ (sn pu) q = e
        have ed := c3.am List.mem_cons_self
        have get : ∀ (x : Nat) (H' : Hp), H' d = some (.dK (kvW rs)) → DGet H' d (.int (x : Int)) (valV (kvW rs) (.inl (x : Int))) := fun x H' e => DGet.k (k := Sum.inl (x : Int)) e
        have isd : ∀ x : Nat, ∀ H' : Hp, H' d = some (.dK (kvW rs)) → ∃ o, DGet H' d (.int (x : Int)) o ∧ o.isSome = decide (x ∈ rs.map (·.1)) := fun x H' e => by
          refine ⟨_, get x H' e, ?_⟩
          by_cases m : x ∈ rs.map (·.1)
          · obtain ⟨r', _, _, h3⟩ := valW_some m
            rw [h3, decide_eq_true m]
            rfl
          · rw [valW_none m, decide_eq_false m]
            rfl
        have fin : ∀ (y : Nat) (c : Int) (r' : WU), r' ∈ rs → y ∉ rs.map (·.1) → ∀ t l1 l2, H2 t = none → upd H2 t (oS (t, q, c)) l1 = none → upd (upd H2 t (oS (t, q, c))) l1 (.lst [.ref t]) l2 = none →
            ∃ rs' : List WU, rs'.map (·.1) = rs.map (·.1) ++ [y] ∧ WaysOk pu.length (r * kept.length + (i + 1)) rs' ∧ Cel H [(d, .dK (kvW rs'))] (ledW rs') (upd (upd (upd (upd H2 t (oS (t, q, c))) l1 (.lst [.ref t])) l2 (.lst (rf r'.2.2 ++ [.ref t]))) d (.dK (putK (kvW rs) (.inl (y : Int)) (.ref l2)))) := fun y c r' hr' hy t l1 l2 nt nl1 nl2 => by
          have e1 : putK (kvW rs) (.inl (y : Int)) (.ref l2) = kvW (rs ++ [(y, l2, r'.2.2 ++ [(t, q, c)])]) := by
            rw [putK_new _ (valW_none hy), kvW, kvW, List.map_append]
            rfl
          refine ⟨rs ++ [(y, l2, r'.2.2 ++ [(t, q, c)])], by rw [List.map_append]; rfl, wo.put hr' hqp, ?_⟩
          rw [e1]
          refine ((((c3.new nt).new nl1).new nl2).put0).sub fun p hp => ?_
          rcases ledW_put hr' p hp with z | z | z
          · exact List.mem_cons.mpr (.inl z)
          · exact List.mem_cons_of_mem _ (List.mem_cons_of_mem _ (List.mem_cons.mpr (.inl z)))
          · exact List.mem_cons_of_mem _ (List.mem_cons_of_mem _ (List.mem_cons_of_mem _ z))
        have sd : ∀ {t l1 l2 : Addr} {o1 o2 o3 : HO}, H2 t = none → upd H2 t o1 l1 = none → upd (upd H2 t o1) l1 o2 l2 = none → upd (upd (upd H2 t o1) l1 o2) l2 o3 d = some (.dK (kvW rs)) := fun n1 n2 n3 => (upd_ne (ne_of_none ((upd_ne (ne_of_none ((upd_ne (ne_of_none ed n1)).trans ed) n2)).trans ((upd_ne (ne_of_none ed n1)).trans ed)) n3)).trans ((upd_ne (ne_of_none ((upd_ne (ne_of_none ed n1)).trans ed) n2)).trans ((upd_ne (ne_of_none ed n1)).trans ed))
        have lenr : (kvW rs).length < sizeLine := by
          rw [kvW, List.length_map]
          have h1 := wo.all
          have h2 : r * kept.length ≤ 12 * 12 := Nat.mul_le_mul (by omega) k12
          have hi := (List.getElem?_eq_some_iff.mp hq).1
          exact Nat.lt_of_le_of_lt (show rs.length ≤ 200 by omega) (by decide)
        have lenw : ∀ r' ∈ rs, (rf r'.2.2).length + [V.ref d].length ≤ sizeLine := fun r' hr' => by
          rw [rf_len]
          have h1 := wo.ln r' hr'
          have h2 : r * kept.length ≤ 12 * 12 := Nat.mul_le_mul (by omega) k12
          have hi := (List.getElem?_eq_some_iff.mp hq).1
          exact szn (show r'.2.2.length + 1 ≤ 1000 by omega)
        have wo1 : WaysOk pu.length (r * kept.length + (i + 1)) rs := wo.mono (by omega)
        obtain ⟨ob, gb, ib⟩ := isd b H2 ed
        obtain ⟨oe, ge, ie⟩ := isd e H2 ed
        by_cases mb : b ∈ rs.map (·.1) <;> by_cases me : e ∈ rs.map (·.1)
        · refine ⟨_, rfl, _, rfl, d, ob, rfl, gb, true, by rw [ib, decide_eq_true mb], iteT ⟨_, rfl, _, rfl, d, oe, rfl, ge, false, by rw [ie, decide_eq_true me]; rfl, iteF ?_⟩⟩
          refine ⟨_, rfl, _, rfl, d, oe, rfl, ge, true, by rw [ie, decide_eq_true me], iteT ⟨_, rfl, _, rfl, d, ob, rfl, gb, false, by rw [ib, decide_eq_true mb]; rfl, iteF ?_⟩⟩
          exact ⟨rs, _, _, _, _, rfl, by rw [if_neg (fun z => z.2 me), if_neg (fun z => z.2 mb)], wo1, c3⟩
        · refine ⟨_, rfl, _, rfl, d, ob, rfl, gb, true, by rw [ib, decide_eq_true mb], iteT ⟨_, rfl, _, rfl, d, oe, rfl, ge, true, by rw [ie, decide_eq_false me]; rfl, iteT ?_⟩⟩
          obtain ⟨r', hr', _, vr⟩ := valW_some mb
          have er' : ∀ {t l1 : Addr} {o1 o2 : HO}, H2 t = none → upd H2 t o1 l1 = none → upd (upd H2 t o1) l1 o2 r'.2.1 = some (.lst (rf r'.2.2)) := fun n1 n2 => by
            have a := c3.at (ledW_l hr')
            exact (upd_ne (ne_of_none ((upd_ne (ne_of_none a n1)).trans a) n2)).trans ((upd_ne (ne_of_none a n1)).trans a)
          refine ⟨_, rfl, _, rfl, d, _, rfl, by rw [← vr]; exact get b H2 ed, _, rfl, (by show 2 ≤ sizeLine; decide), fun t nt => ⟨(by show 1 ≤ sizeLine; decide), fun l1 nl1 => ⟨r'.2.1, l1, _, _, rfl, rfl, er' nt nl1, upd_same, lenw r' hr', fun l2 nl2 => ?_⟩⟩⟩
          obtain ⟨rs', f1, f2, f3⟩ := fin e 1 r' hr' me t l1 l2 nt nl1 nl2
          exact ⟨_, rfl, _, rfl, d, _, rfl, DPut.k (k := Sum.inl (e : Int)) (sd nt nl1 nl2) lenr, rs', _, _, _, _, rfl, by rw [if_pos ⟨mb, me⟩]; exact f1, f2, f3⟩
        · refine ⟨_, rfl, _, rfl, d, ob, rfl, gb, false, by rw [ib, decide_eq_false mb], iteF ?_⟩
          refine ⟨_, rfl, _, rfl, d, oe, rfl, ge, true, by rw [ie, decide_eq_true me], iteT ⟨_, rfl, _, rfl, d, ob, rfl, gb, true, by rw [ib, decide_eq_false mb]; rfl, iteT ?_⟩⟩
          obtain ⟨r', hr', _, vr⟩ := valW_some me
          have er' : ∀ {t l1 : Addr} {o1 o2 : HO}, H2 t = none → upd H2 t o1 l1 = none → upd (upd H2 t o1) l1 o2 r'.2.1 = some (.lst (rf r'.2.2)) := fun n1 n2 => by
            have a := c3.at (ledW_l hr')
            exact (upd_ne (ne_of_none ((upd_ne (ne_of_none a n1)).trans a) n2)).trans ((upd_ne (ne_of_none a n1)).trans a)
          refine ⟨_, rfl, _, rfl, d, _, rfl, by rw [← vr]; exact get e H2 ed, _, rfl, _, rfl, (by show 2 ≤ sizeLine; decide), fun t nt => ⟨(by show 1 ≤ sizeLine; decide), fun l1 nl1 => ⟨r'.2.1, l1, _, _, rfl, rfl, er' nt nl1, upd_same, lenw r' hr', fun l2 nl2 => ?_⟩⟩⟩
          obtain ⟨rs', f1, f2, f3⟩ := fin b (-1) r' hr' mb t l1 l2 nt nl1 nl2
          exact ⟨_, rfl, _, rfl, d, _, rfl, DPut.k (k := Sum.inl (b : Int)) (sd nt nl1 nl2) lenr, rs', _, _, _, _, rfl, by rw [if_neg (fun z => mb z.1), if_pos ⟨me, mb⟩]; exact f1, f2, f3⟩
        · refine ⟨_, rfl, _, rfl, d, ob, rfl, gb, false, by rw [ib, decide_eq_false mb], iteF ?_⟩
          refine ⟨_, rfl, _, rfl, d, oe, rfl, ge, false, by rw [ie, decide_eq_false me], iteF ?_⟩
          exact ⟨rs, _, _, _, _, rfl, by rw [if_neg (fun z => mb z.1), if_neg (fun z => me z.1)], wo1, c3⟩
      · rintro σ H2 ⟨rs, o5, o6, o7, o8, rfl, ek, wo, c3⟩
        refine ⟨rs, _, _, _, _, rfl, ?_, wo.mono ?_, c3⟩
        · rw [ek, List.length_map, List.take_length]
          rfl
        · rw [List.length_map, Nat.add_mul]
          omega
    · rintro σ H1 ⟨rs, o5, o6, o7, o8, rfl, ek, wo, c3⟩
      have ed := c3.am List.mem_cons_self
      have h2 : kept.length * kept.length ≤ 12 * 12 := Nat.mul_le_mul k12 k12
      refine ⟨_, rfl, d, rfl, .inl ⟨_, .inl ed⟩, _, rfl, _, DGet.k (k := Sum.inl (last : Int)) ed, ?_⟩
      obtain ⟨k1, k2⟩ := k H1 c3.sm
      have iff := roundsK_all (st := stQ (sn pu)) (en := enQ (sn pu)) (kept := kept) first last
      by_cases m : last ∈ rs.map (·.1)
      · obtain ⟨r', hr', _, vr⟩ := valW_some m
        rw [vr]
        refine k2 r'.2.1 r'.2.2 (iff.mp (by rw [← ek]; exact m)) (c3.at (ledW_l hr')) (fun s hs => ⟨c3.at (ledW_s hr' hs), wo.st r' hr' s hs⟩) ?_
        have := wo.ln r' hr'
        omega
      · rw [valW_none m]
        exact k1 fun c => m (by rw [ek]; exact iff.mpr c)
end
end RV
/-! rings of pipes -/
namespace RV
open PySem L2 TL
section
variable {P : Program} {w : World} {K : PySem.W.Frag} {mg : Str → Option Value} {base : Heap}
theorem ok_rings {f : Addr} {fd : FuncData} (F : Fun K "_law_rings" "_law_rings" s_rings f fd) (T : Blt mg) (h_path : Fn P w K mg base "_law_path" 1 ["_law_tubes", "_law_kept", "_law_first", "_law_last"] (Irr (sp_path K))) : FnOk P w K mg base CX0 2 f fd ["_law_tubes"] (sp_rings K) := by
  refine F.ok sc_rings (fun vs H Q E h => ?_) (fun cdv A outer s H vs Q E hr h => ?_)
  · obtain ⟨_, _, rfl, _⟩ := h
    rfl
  · obtain ⟨lt, pu, rfl, eT, eP, p12, k⟩ := h
    refine ⟨_, (pss_cons (ps_par (i := 1) (j := 2) (by rfl) sc_rings.nd rfl rfl (by decide) rfl rfl (pa_cons (pe_lst pa_nil) (pa_cons (pe_lst pa_nil) pa_nil)) (by rfl))
      (pss_cons (ps_for PassesOwn.never rfl (pi_range1 rfl T.b_range (pa_cons (pe_callB call_len_seq (by rfl) T.b_len (by decide +kernel) (pa_cons (pv 0) pa_nil)) pa_nil)) (pg_name (i := 3) sc_rings.nd rfl (Or.inl rfl)) (pss_cons (ps_set (i := 4) sc_rings.nd rfl (Or.inl rfl) (pe_fn h_path (hr.mono (by decide)) (pa_cons (pv 0) (pa_cons (pv 1) (pa_cons (pe_ix ix_tup (pe_ix ix_list (pv 0) (pv 3) (fun _ _ => rfl)) pe_int (fun _ _ => rfl)) (pa_cons (pe_ix ix_tup (pe_ix ix_list (pv 0) (pv 3) (fun _ _ => rfl)) pe_int (fun _ _ => rfl)) pa_nil)))))) (pss_one (ps_if (pt_cmpR op_isN (pv 4) pe_non (nomark _)) (pss_one (ps_expr (pe_bm PySem.F.plainAttrs_list PySem.F.slot_list_append PySem.F.type_list_append mt_append (pv 1) (pa_cons (pv 3) pa_nil)))) (pss_cons (ps_setLc (i := 5) (own := [("_law_one", 7)]) (g := gName 7) (tt := tYes) rfl sc_rings.nd rfl rfl (sw_true rfl rfl rfl (by decide +kernel)) (pi_list (pv 0)) (blkOk_by (N := sc_rings_N) (sc := defScope s_rings) (by decide +kernel)) (fun _ _ _ _ _ => pg_name (i := 7) sc_rings.nd rfl (Or.inl rfl)) (fun _ _ _ _ _ => pts_nil) (fun _ _ _ _ _ => pe_int)) (pss_cons (ps_asg pe_int (pg_sub (pv 5) (pv 3) set_list)) (pss_cons (ps_for PassesOwn.never rfl (pi_list (pv 4)) (pg_name (i := 6) sc_rings.nd rfl (Or.inl rfl)) (pss_one (ps_asg (pe_ix ix_tup (pv 6) pe_int (fun _ _ => rfl)) (pg_sub (pv 5) (pe_ix ix_tup (pv 6) pe_int (fun _ _ => rfl)) set_list)))) (pss_one (ps_expr (pe_bm PySem.F.plainAttrs_list PySem.F.slot_list_append PySem.F.type_list_append mt_append (pv 2) (pa_cons (pv 5) pa_nil)))))))))))
      (pss_one (ps_ret (pv 2))))), ?_⟩
    refine ⟨by decide, fun lk nk => ⟨by decide, fun lf nf => ?_⟩⟩
    have c0 := ((Cel.start H).newM (o := .lst []) nk).newM (o := .lst []) nf
    have f0 : H lf = none := ((Cel.start H).newM (o := .lst []) nk).none0 nf
    refine ⟨_, _, rfl, ?_⟩
    dsimp only
    refine ⟨_, rfl, lt, _, rfl, .inl (eT.ext c0.sm), ?_⟩
    rw [rf_len]
    refine ⟨(pu.length : Int), rfl, by omega, by omega, for_range (lo := 0) (n := pu.length) (fun j σ H' => ∃ (kept : List Nat) (fl : List V) (o3 o4 o5 o6 o7 : Option V), σ = [some (.ref lt), some (.ref lk), some (.ref lf), o3, o4, o5, o6, o7] ∧ (∀ i ∈ kept, i < j) ∧ kept.length ≤ j ∧ fl.length ≤ j ∧
      ((fl = [] ∧ kept = List.range j ∧ Fo (stQ (sn pu)) (enQ (sn pu)) (· < j)) ∨ (fl ≠ [] ∧ ¬ Fo (stQ (sn pu)) (enQ (sn pu)) (· < j))) ∧ Cel H [(lf, .lst fl), (lk, .lst (kept.map vI))] [] H') ?_ ?_ ?_⟩
    · exact ⟨[], [], _, _, _, _, _, rfl, (fun _ h => nomatch h), Nat.le_refl _, Nat.le_refl _, .inl ⟨rfl, rfl, Fo.none fun k h => by omega⟩, c0⟩
    · rintro j σ H1 hj ⟨kept, fl, o3, o4, o5, o6, o7, rfl, kj, kl, fll, alt, c1⟩
      have eT1 := eT.ext c1.sm
      have epu := c1.old (eP _ (List.getElem_mem hj))
      have atp : atI (rf pu) ((j : Nat) : Int) = some (V.ref (pu[j]).1) := atI_nat (by rw [rf, List.getElem?_map, List.getElem?_eq_getElem hj]; rfl)
      obtain ⟨es, en⟩ := q_at (sn_get (List.getElem?_eq_getElem hj))
      have eK := c1.am (p := lk) (List.mem_cons_of_mem _ List.mem_cons_self)
      dsimp only [gName]
      rw [Int.zero_add]
      refine ⟨_, rfl, _, rfl, _, rfl, _, rfl, lt, _, _, _, rfl, rfl, eT1, atp, pu[j].1, _, 2, _, rfl, rfl, SqT.of epu, rfl, _, rfl, _, rfl, lt, _, _, _, rfl, rfl, eT1, atp, pu[j].1, _, 1, _, rfl, rfl, SqT.of epu, rfl, ?_⟩
      refine irr ⟨lt, lk, pu, kept, enQ (sn pu) j, stQ (sn pu) j, by rw [es, en]; rfl, eT1, fun u hu => c1.old (eP u hu), SqL.of eK, by omega, p12, fun i hi => by have := kj i hi; omega, fun H2 s2 => ⟨fun nc => ?_, fun wy ss hc ew hss hl => ?_⟩⟩
      · have c2 := c1.same s2
        have eK2 := c2.am (p := lk) (List.mem_cons_of_mem _ List.mem_cons_self)
        dsimp only [gName]
        refine ⟨_, rfl, rfl, _, rfl, iteT ⟨_, rfl, .inl ⟨rfl, _, SqL.of eK2⟩, _, rfl, lk, _, _, rfl, rfl, eK2, ?_, kept ++ [j], fl, _, _, _, _, _, rfl, fun i hi => ?_, ?_, by omega, ?_, ?_⟩⟩
        · rw [List.length_map]
          exact Nat.lt_of_le_of_lt (show _ ≤ 20 by omega) (by decide)
        · rcases List.mem_append.mp hi with z | z
          · have := kj i z
            omega
          · rw [List.mem_singleton.mp z]
            omega
        · rw [List.length_append, List.length_singleton]
          omega
        · rcases alt with ⟨a, b, c⟩ | ⟨a, b⟩
          · refine .inl ⟨a, by rw [b, List.range_succ], ?_⟩
            refine (c.add (k := j) fun z => nc ?_).mono fun i hi => ?_
            · refine z.symm.mono fun i hi => ?_
              rw [b]
              exact List.mem_range.mpr hi
            · show i < j ∨ i = j
              omega
          · exact .inr ⟨a, fun z => b (z.mono fun i hi => by omega)⟩
        · rw [List.map_append]
          exact c2.put (i := 1) rfl
      · have c2 := c1.same s2
        have nfo : ¬ Fo (stQ (sn pu)) (enQ (sn pu)) (· < j + 1) := fun z => z j (by omega) (hc.symm.mono fun i hi => ⟨by have := kj i hi; show i < j + 1; omega, by have := kj i hi; omega⟩)
        have eT2 := eT.ext c2.sm
        dsimp only [gName]
        refine ⟨_, rfl, rfl, _, rfl, iteF ?_⟩
        refine ⟨_, rfl, lt, rfl, ⟨_, eT2⟩, fun D nD => lc_to (xs := rf pu) ((List.replicate pu.length (0 : Int)).map V.int) (by rw [List.length_map, List.length_replicate, rf_len]) walk_list nD (by rw [rf_len]; omega) (fun H' s' => eT2.ext s') (fun _ => rfl) (fun i v y hv hy H3 s3 R kR => ?_) fun H3 s3 hD => ?_⟩
        · obtain ⟨z, hz, rfl⟩ := List.mem_map.mp (List.mem_of_getElem? hy)
          rw [(List.mem_replicate.mp hz).2] at kR
          exact kR H3 (Same.refl _)
        have c3 := c2.addM nD s3 hD
        have hss3 : ∀ s ∈ ss, H3 s.1 = some (oS s) := fun s hs => s3 _ _ (hss s hs).1
        have ew3 := s3 _ _ ew
        have nDw : wy ≠ D := fun z => by rw [z, nD] at ew; cases ew
        have nDs : ∀ s ∈ ss, s.1 ≠ D := fun s hs z => by have := (hss s hs).1; rw [z, nD] at this; cases this
        dsimp only [gName]
        refine ⟨_, rfl, _, rfl, D, _, _, j, rfl, rfl, hD, ixN_nat (by rw [List.length_map, List.length_replicate]; exact hj), ?_⟩
        have c4 : Cel H [(D, .lst (((List.replicate pu.length (0 : Int)).map V.int).set j (.int 1))), (lf, .lst fl), (lk, .lst (kept.map vI))] [] _ := c3.put0
        have e4 : ((List.replicate pu.length (0 : Int)).map V.int).set j (.int 1) = ((List.replicate pu.length (0 : Int)).set j 1).map V.int := (List.map_set ..).symm
        rw [e4] at c4 ⊢
        have len4 : ((List.replicate pu.length (0 : Int)).set j 1).length = pu.length := by rw [List.length_set, List.length_replicate]
        revert c4 len4
        generalize (List.replicate pu.length (0 : Int)).set j 1 = ring
        intro c4 len4
        have keep : ∀ {p : Addr} {o : HO}, p ≠ D → H3 p = some o → upd H3 D (.lst (ring.map V.int)) p = some o := fun n e => (upd_ne n).trans e
        have ew4 := keep nDw ew3
        have hss4 : ∀ s ∈ ss, upd H3 D (.lst (ring.map V.int)) s.1 = some (oS s) := fun s hs => keep (nDs s hs) (hss3 s hs)
        generalize upd H3 D (.lst (ring.map V.int)) = H4 at c4 ew4 hss4 ⊢
        refine ⟨_, rfl, wy, rfl, ⟨_, SqL.of ew4⟩, for_list (xs := rf ss) (fun i σ H' => ∃ (ring : List Int) (o6 o7 : Option V), σ = [some (.ref lt), some (.ref lk), some (.ref lf), some (.int (j : Int)), some (.ref wy), some (.ref D), o6, o7] ∧ ring.length = pu.length ∧ (∀ s ∈ ss, H' s.1 = some (oS s)) ∧ H' wy = some (.lst (rf ss)) ∧
          Cel H [(D, .lst (ring.map V.int)), (lf, .lst fl), (lk, .lst (kept.map vI))] [] H') ⟨ring, _, _, rfl, len4, hss4, ew4, c4⟩ (fun i σ H' _ z => by obtain ⟨_, _, _, _, _, _, e, _⟩ := z; exact SqL.of e) ?_ ?_⟩
        · rintro i v σ H5 hv ⟨ring, o6, o7, rfl, rl, hs5, ew5, c5⟩
          obtain ⟨s, hs, rfl⟩ := rf_get hv
          have hsm := List.mem_of_getElem? hs
          have es5 := hs5 s hsm
          have lt5 := (hss s hsm).2
          have eD5 := c5.am (p := D) List.mem_cons_self
          dsimp only [gName]
          refine ⟨_, rfl, s.1, _, 1, _, rfl, rfl, SqT.of es5, rfl, _, rfl, _, rfl, s.1, _, 0, _, rfl, rfl, SqT.of es5, rfl, D, _, _, s.2.1, rfl, rfl, eD5, ixN_nat (by rw [List.length_map, rl]; exact lt5), ring.set s.2.1 s.2.2, _, _, rfl, by rw [List.length_set, rl], fun s' hs' => (upd_ne (nDs s' hs')).trans (hs5 s' hs'), (upd_ne nDw).trans ew5, ?_⟩
          rw [List.map_set]
          exact c5.put0
        · rintro σ H5 ⟨ring, o6, o7, rfl, rl, hs5, ew5, c5⟩
          have eF5 := c5.am (p := lf) (List.mem_cons_of_mem _ List.mem_cons_self)
          dsimp only
          refine ⟨_, rfl, .inl ⟨rfl, _, SqL.of eF5⟩, _, rfl, lf, _, _, rfl, rfl, eF5, Nat.lt_of_le_of_lt (show _ ≤ 20 by omega) (by decide), kept, fl ++ [.ref D], _, _, _, _, _, rfl, fun i hi => by have := kj i hi; omega, by omega, by rw [List.length_append, List.length_singleton]; omega, .inr ⟨by simp, nfo⟩, ?_⟩
          have c6 : Cel H [(D, .lst (ring.map V.int)), (lf, .lst (fl ++ [.ref D])), (lk, .lst (kept.map vI))] [] _ := c5.put (i := 1) rfl
          exact c6.frz.sub fun p hp => nomatch hp
    · rintro σ H1 ⟨kept, fl, o3, o4, o5, o6, o7, rfl, kj, kl, fll, alt, c1⟩
      refine ⟨_, rfl, k lf fl H1 c1.sm f0 (c1.am List.mem_cons_self) ?_⟩
      rcases alt with ⟨a, _, b⟩ | ⟨a, b⟩
      · exact ⟨fun _ => b, fun _ => a⟩
      · exact ⟨fun z => absurd z a, fun z => absurd z b⟩
end
end RV
/-! sets of so many of some indexes -/
namespace RV
open PySem L2 TL
section
variable {P : Program} {w : World} {K : PySem.W.Frag} {mg : Str → Option Value} {base : Heap}
theorem ok_sets {f : Addr} {fd : FuncData} (F : Fun K "_law_sets" "_law_sets" s_sets f fd) (T : Blt mg) (T2 : Blt2 mg) : FnOk P w K mg base CX0 1 f fd ["_law_items_here", "_law_size"] (sp_sets K) := by
  refine F.ok sc_sets (fun vs H Q E h => ?_) (fun cdv A outer s H vs Q E hr h => ?_)
  · obtain ⟨_, _, _, rfl, _⟩ := h
    rfl
  · obtain ⟨li, items, size, rfl, eI, asc, i7, s7, k12, k⟩ := h
    refine ⟨_, (pss_cons (ps_set (i := 2) sc_sets.nd rfl (Or.inl rfl) (pe_lst (pa_cons (pe_lst pa_nil) pa_nil)))
      (pss_cons (ps_for PassesOwn.never rfl (pi_list (pe_callB cr_sorted (by rfl) T2.b_sorted (by decide +kernel) (pa_cons (pv 0) pa_nil))) (pg_name (i := 3) sc_sets.nd rfl (Or.inr rfl)) (pss_one (ps_set (i := 2) sc_sets.nd rfl (Or.inl rfl) (pe_op op_cat (pv 2) (pe_lc (own := [("_law_one", 4)]) (g := gName 4) rfl sc_sets.nd (pi_list (pv 2)) (blkOk_by (N := sc_sets_N) (sc := defScope s_sets) (by decide +kernel)) (fun _ _ _ _ _ => pg_name (i := 4) sc_sets.nd rfl (Or.inl rfl)) (fun _ _ _ _ _ => pts_one (pt_cmpR op_lt (pe_callB (call_lenK (K := K)) (by rfl) T.b_len (by decide +kernel) (pa_cons (pv 4) pa_nil)) (pv 1) (nomark _))) (fun _ _ _ _ _ => (pe_op op_cat (pv 4) (pe_lst (pa_cons (pv 3) pa_nil)))))))))
      (pss_one (ps_ret (pe_callB (cr_sortFT (d := size) (B := 100)) (by rfl) T2.b_sorted (by decide +kernel) (pa_cons (pe_lc (own := [("_law_one", 4)]) (g := gName 4) rfl sc_sets.nd (pi_list (pv 2)) (blkOk_by (N := sc_sets_N) (sc := defScope s_sets) (by decide +kernel)) (fun _ _ _ _ _ => pg_name (i := 4) sc_sets.nd rfl (Or.inl rfl)) (fun _ _ _ _ _ => pts_one (pt_cmpR op_eq (pe_callB (call_lenK (K := K)) (by rfl) T.b_len (by decide +kernel) (pa_cons (pv 4) pa_nil)) (pv 1) (nomark _))) (fun _ _ _ _ _ => (pe_callTy (call_tuple_ofK (K := K)) (by rfl) T2.b_tuple (by decide +kernel) (pa_cons (pv 4) pa_nil)))) pa_nil)))))), ?_⟩
    refine ⟨by decide, fun p0 np0 => ⟨(by show 1 ≤ sizeLine; decide), fun lf nlf => ?_⟩⟩
    have c0 := ((Cel.start H).new (o := .lst []) np0).new (o := .lst [.ref p0]) nlf
    dsimp only [gName]
    refine ⟨_, rfl, li, items.map (fun (k : Nat) => (k : Int)), rfl, by rw [← vI_int]; exact eI.ext c0.sm, by rw [List.length_map]; omega, fun ns s0 pm sd ns0 => ?_⟩
    have c1 := c0.new (o := .lst (ns.map V.int)) ns0
    have ens := asc_int asc pm sd
    subst ens
    rw [← vI_int] at c1 ⊢
    have eS := c1.at List.mem_cons_self
    refine ⟨s0, rfl, ⟨_, SqL.of eS⟩, for_list (xs := items.map vI) (fun i σ H' => ∃ (l : Addr) (os : List LU) (o3 o4 : Option V), σ = [some (.ref li), some (.int (size : Int)), some (.ref l), o3, o4] ∧ sn os = setsF (items.take i) size ∧ Cel H [] ((l, .lst (rf os)) :: (s0, .lst (items.map vI)) :: ledL os) H') ?_ (fun i σ H' _ z => by obtain ⟨_, _, _, _, _, _, c⟩ := z; exact SqL.of (c.at (List.mem_cons_of_mem _ List.mem_cons_self))) ?_ ?_⟩
    · refine ⟨lf, [(p0, [])], _, _, rfl, rfl, c1.sub fun p hp => ?_⟩
      simp only [ledL, rf, List.map_cons, List.map_nil, List.mem_cons, List.not_mem_nil, or_false] at hp ⊢
      rcases hp with z | z | z
      · exact .inr (.inl z)
      · exact .inl z
      · exact .inr (.inr z)
    · rintro i v σ H1 hv ⟨l, os, o3, o4, rfl, eo, c2⟩
      obtain ⟨q, hq, rfl⟩ : ∃ q, items[i]? = some q ∧ v = vI q := by
        rw [List.getElem?_map] at hv
        cases e : items[i]? with
        | none => rw [e] at hv; cases hv
        | some q => rw [e] at hv; exact ⟨q, rfl, (Option.some.inj hv).symm⟩
      have esn : setsF (items.take (i + 1)) size = setsF (items.take i) size ++ ((setsF (items.take i) size).filter fun o => decide (o.length < size)).map (· ++ [q]) := by
        rw [List.take_add_one, hq, Option.toList_some, setsF_snoc]
      have tl7 : (items.take i).length ≤ 7 := by rw [List.length_take]; omega
      have tl8 : (items.take (i + 1)).length ≤ 7 := by rw [List.length_take]; omega
      have l128 : os.length ≤ 128 := by rw [← sn_len, eo]; exact (setsF_cnt tl7 s7).1
      have eL := c2.at List.mem_cons_self
      dsimp only [gName]
      refine ⟨_, rfl, _, rfl, l, rfl, ⟨_, SqL.of eL⟩, fun D nD => lc_list (xs := rf os) (fun j H' => ∃ os' : List LU, sn os' = (((sn os).take j).filter fun o => decide (o.length < size)).map (· ++ [q]) ∧ Cel H [(D, .lst (rf os'))] ((l, .lst (rf os)) :: (s0, .lst (items.map vI)) :: (ledL os ++ ledL os')) H') ⟨[], rfl, by rw [show ledL [] = [] from rfl, List.append_nil]; exact c2.newM nD⟩ (fun j H' _ z => by obtain ⟨_, _, c⟩ := z; exact SqL.of (c.at List.mem_cons_self)) ?_ ?_⟩
      · rintro j v H2 hv ⟨os', eo', c3⟩
        obtain ⟨u, hu, rfl⟩ := rf_get hv
        have hus := sn_get hu
        have hum := List.mem_of_getElem? hu
        have eu := c3.at (p := u.1) (o := .lst (u.2.map vI)) (List.mem_cons_of_mem _ (List.mem_cons_of_mem _ (List.mem_append_left _ (List.mem_map.mpr ⟨u, hum, rfl⟩))))
        have etk : ((sn os).take (j + 1)).filter (fun o => decide (o.length < size)) = ((sn os).take j).filter (fun o => decide (o.length < size)) ++ (if u.2.length < size then [u.2] else []) := by
          rw [List.take_add_one, hus, Option.toList_some, List.filter_append]
          congr 1
          by_cases z : u.2.length < size <;> simp [z]
        refine ⟨rfl, _, rfl, u.1, _, rfl, .inl (SqL.of eu), _, rfl, _, _, rfl, rfl, _, rfl, ?_⟩
        rw [List.length_map]
        have hj := (List.getElem?_eq_some_iff.mp hu).1
        by_cases z : u.2.length < size
        · rw [decide_eq_true (show (u.2.length : Int) < (size : Int) by omega)]
          refine iteT ⟨_, rfl, _, rfl, (by show 1 ≤ sizeLine; decide), fun p1 np1 => ?_⟩
          have c4 := c3.new (o := .lst [vI q]) np1
          refine ⟨u.1, p1, _, _, rfl, rfl, (upd_ne (ne_of_none eu np1)).trans eu, upd_same, ?_, fun p2 np2 => ?_⟩
          · rw [List.length_map]
            exact szn (show u.2.length + 1 ≤ 1000 by omega)
          have c5 := c4.new (o := .lst (u.2.map vI ++ [vI q])) np2
          refine ⟨_, c5.am List.mem_cons_self, ?_, os' ++ [(p2, u.2 ++ [q])], ?_, ?_⟩
          · have h1 := congrArg List.length eo'
            rw [sn_len, List.length_map] at h1
            have h2 := List.length_filter_le (fun o : List Nat => decide (o.length < size)) ((sn os).take j)
            have h3 := List.length_take_le' j (sn os)
            rw [sn_len] at h3
            rw [rf_len]
            exact Nat.lt_of_le_of_lt (show _ ≤ 200 by omega) (by decide)
          · rw [sn, List.map_append]
            show sn os' ++ [u.2 ++ [q]] = _
            rw [eo', etk, if_pos z, List.map_append]
            rfl
          · have e1 : rf (os' ++ [(p2, u.2 ++ [q])]) = rf os' ++ [.ref p2] := by rw [rf, List.map_append]; rfl
            rw [e1]
            refine c5.put0.sub fun p hp => ?_
            simp only [ledL, List.map_append, List.map_cons, List.map_nil, List.mem_cons, List.mem_append, List.not_mem_nil, or_false] at hp ⊢
            rcases hp with z | z | z | z | z
            · exact .inr (.inr (.inl z))
            · exact .inr (.inr (.inr (.inl z)))
            · exact .inr (.inr (.inr (.inr (.inl z))))
            · exact .inr (.inr (.inr (.inr (.inr z))))
            · exact .inl z
        · rw [decide_eq_false (show ¬ (u.2.length : Int) < (size : Int) by omega)]
          refine iteF ⟨os', ?_, c3⟩
          rw [eo', etk, if_neg z, List.append_nil]
      · rintro H2 ⟨os', eo', c3⟩
        rw [rf_len, ← sn_len, List.take_length] at eo'
        have ef : sn (os ++ os') = setsF (items.take (i + 1)) size := by
          rw [esn, ← eo, ← eo', sn, List.map_append]
          rfl
        have l128' : (os ++ os').length ≤ 128 := by rw [← sn_len, ef]; exact (setsF_cnt tl8 s7).1
        refine ⟨l, D, _, _, rfl, rfl, c3.at List.mem_cons_self, c3.am List.mem_cons_self, ?_, fun p3 np3 => ?_⟩
        · rw [rf_len, rf_len, ← List.length_append]
          exact szn (by omega)
        have c4 := c3.frz.new (o := .lst (rf os ++ rf os')) np3
        dsimp only [gName]
        refine ⟨p3, os ++ os', _, _, rfl, ef, c4.sub fun p hp => ?_⟩
        simp only [ledL, rf, List.map_append, List.mem_cons, List.mem_append] at hp ⊢
        rcases hp with z | z | z | z
        · exact .inl z
        · exact .inr (.inr (.inr (.inl z)))
        · exact .inr (.inr (.inr (.inr (.inl z))))
        · exact .inr (.inr (.inr (.inr (.inr z))))
    · rintro σ H1 ⟨l, os, o3, o4, rfl, eo, c2⟩
      rw [List.length_map, List.take_length] at eo
      have l128 : os.length ≤ 128 := by rw [← sn_len, eo]; exact (setsF_cnt i7 s7).1
      have eL := c2.at List.mem_cons_self
      have c2' := c2.sub (F' := (l, .lst (rf os)) :: ledL os) fun p hp => by
        rcases List.mem_cons.mp hp with z | z
        · exact List.mem_cons.mpr (.inl z)
        · exact List.mem_cons_of_mem _ (List.mem_cons_of_mem _ z)
      refine ⟨_, rfl, l, rfl, ⟨_, SqL.of eL⟩, fun D nD => lc_list (xs := rf os) (fun j H' => ∃ os' : List LU, sn os' = ((sn os).take j).filter (fun o => decide (o.length = size)) ∧ Cel H [(D, .lst (rf os'))] ((l, .lst (rf os)) :: (ledL os ++ os'.map fun u => (u.1, HO.tup (u.2.map vI)))) H') ⟨[], rfl, by rw [List.map_nil, List.append_nil]; exact c2'.newM nD⟩ (fun j H' _ z => by obtain ⟨_, _, c⟩ := z; exact SqL.of (c.at List.mem_cons_self)) ?_ ?_⟩
      · rintro j v H2 hv ⟨os', eo', c3⟩
        obtain ⟨u, hu, rfl⟩ := rf_get hv
        have hus := sn_get hu
        have hum := List.mem_of_getElem? hu
        have eu := c3.at (p := u.1) (o := .lst (u.2.map vI)) (List.mem_cons_of_mem _ (List.mem_append_left _ (List.mem_map.mpr ⟨u, hum, rfl⟩)))
        have etk : ((sn os).take (j + 1)).filter (fun o => decide (o.length = size)) = ((sn os).take j).filter (fun o => decide (o.length = size)) ++ (if u.2.length = size then [u.2] else []) := by
          rw [List.take_add_one, hus, Option.toList_some, List.filter_append]
          congr 1
          by_cases z : u.2.length = size <;> simp [z]
        have hj := (List.getElem?_eq_some_iff.mp hu).1
        refine ⟨rfl, _, rfl, u.1, _, rfl, .inl (SqL.of eu), _, rfl, rfl, _, rfl, ?_⟩
        rw [List.length_map]
        by_cases z : u.2.length = size
        · rw [decide_eq_true (show V.int (u.2.length : Int) = V.int (size : Int) by rw [z])]
          refine iteT ⟨_, rfl, u.1, _, rfl, .inl ⟨SqL.of eu, fun p2 np2 => ?_⟩⟩
          have c5 := c3.new (o := .tup (u.2.map vI)) np2
          refine ⟨_, c5.am List.mem_cons_self, ?_, os' ++ [(p2, u.2)], ?_, ?_⟩
          · have h1 := congrArg List.length eo'
            rw [sn_len] at h1
            have h2 := List.length_filter_le (fun o : List Nat => decide (o.length = size)) ((sn os).take j)
            have h3 := List.length_take_le' j (sn os)
            rw [sn_len] at h3
            rw [rf_len]
            exact Nat.lt_of_le_of_lt (show _ ≤ 200 by omega) (by decide)
          · rw [sn, List.map_append]
            show sn os' ++ [u.2] = _
            rw [eo', etk, if_pos z]
          · have e1 : rf (os' ++ [(p2, u.2)]) = rf os' ++ [.ref p2] := by rw [rf, List.map_append]; rfl
            rw [e1]
            refine c5.put0.sub fun p hp => ?_
            simp only [List.map_append, List.map_cons, List.map_nil, List.mem_cons, List.mem_append, List.not_mem_nil, or_false] at hp ⊢
            rcases hp with z | z | z | z
            · exact .inr (.inl z)
            · exact .inr (.inr (.inl z))
            · exact .inr (.inr (.inr z))
            · exact .inl z
        · rw [decide_eq_false (show ¬ V.int (u.2.length : Int) = V.int (size : Int) from fun e => z (by injection e with e; omega))]
          refine iteF ⟨os', ?_, c3⟩
          rw [eo', etk, if_neg z, List.append_nil]
      · rintro H2 ⟨os', eo', c3⟩
        rw [rf_len, ← sn_len, List.take_length, eo] at eo'
        have cnt := setsF_cnt i7 s7
        rw [← eo', sn_len] at cnt
        have eD := c3.am List.mem_cons_self
        have mem : ∀ o, o ∈ sn os' ↔ o ∈ setsF items size ∧ o.length = size := fun o => by
          rw [eo', List.mem_filter, decide_eq_true_eq]
        have tup : ∀ u ∈ os', H2 u.1 = some (.tup (u.2.map vI)) := fun u hu => c3.at (List.mem_cons_of_mem _ (List.mem_append_right _ (List.mem_map.mpr ⟨u, hu, rfl⟩)))
        by_cases z : size = 0
        · refine .inl ⟨D, _, rfl, SqL.of eD, by rw [rf_len]; exact cnt.2.2 z, fun p4 np4 => ?_⟩
          have c4 := c3.frz.new (o := .lst (rf os')) np4
          exact k p4 os' _ c4.sm (c4.at List.mem_cons_self) (fun u hu => (upd_ne (ne_of_none (tup u hu) np4)).trans (tup u hu)) mem
        · refine .inr ⟨by omega, D, _, rfl, SqL.of eD, by rw [rf_len]; exact cnt.2.1, fun x hx => ?_, fun ys p4 pm2 _ np4 => ?_⟩
          · obtain ⟨u, hu, rfl⟩ := List.mem_map.mp hx
            have hm := (mem u.2).mp (List.mem_map.mpr ⟨u, hu, rfl⟩)
            obtain ⟨pr, epr⟩ := setsF_sub (asc.imp fun h => by omega) u.2 hm.1
            refine ⟨u.2.map (fun (k : Nat) => (k : Int)), ⟨u.1, rfl, by rw [← vI_int]; exact SqT.of (tup u hu)⟩, by rw [List.length_map]; exact hm.2, fun m hmm => ?_⟩
            obtain ⟨q, hq, rfl⟩ := List.mem_map.mp hmm
            rw [epr] at hq
            have := k12 q (List.mem_filter.mp hq).1
            omega
          · obtain ⟨os3, pm3, e3⟩ := perm_lift (fun u : LU => V.ref u.1) pm2 os' rfl
            have e3' : ys = rf os3 := e3.symm
            subst e3'
            have c4 := c3.frz.new (o := .lst (rf os3)) np4
            refine k p4 os3 _ c4.sm (c4.at List.mem_cons_self) (fun u hu => (upd_ne (ne_of_none (tup u (pm3.mem_iff.mp hu)) np4)).trans (tup u (pm3.mem_iff.mp hu))) fun o => ?_
            rw [← mem o]
            exact (pm3.map (·.2)).mem_iff
end
end RV
/-! whether rings are left -/
namespace RV
open PySem L2 TL
section
variable {P : Program} {w : World} {K : PySem.W.Frag} {mg : Str → Option Value} {base : Heap}
theorem ok_open {f : Addr} {fd : FuncData} (F : Fun K "_law_open" "_law_open" s_open f fd) (T : Blt mg) (h_rings : Fn P w K mg base "_law_rings" 2 ["_law_tubes"] (Irr (sp_rings K))) : FnOk P w K mg base CX0 3 f fd ["_law_plan_here", "_law_chosen"] (sp_open K) := by
  refine F.ok sc_open (fun vs H Q E h => ?_) (fun cdv A outer s H vs Q E hr h => ?_)
  · obtain ⟨_, _, _, _, _, _, rfl, _⟩ := h
    rfl
  · obtain ⟨l, c, M, most, more, ch, rfl, md, ok, m12, o12, eC, k⟩ := h
    refine ⟨_, (pss_cons (ps_set (i := 2) sc_open.nd rfl (Or.inr rfl) (pe_lc (own := [("_law_one", 4)]) (g := gName 4) (tt := tYes) rfl sc_open.nd (pi_list (pe_ix ix_list (pv 0) pe_int (fun _ _ => rfl))) (blkOk_by (N := sc_open_N) (sc := defScope s_open) (by decide +kernel)) (fun _ _ _ _ _ => pg_name (i := 4) sc_open.nd rfl (Or.inl rfl)) (fun _ _ _ _ _ => pts_nil) (fun _ _ _ _ _ => (pe_ix (ix_tupK (K := K)) (pv 4) pe_int (fun _ _ => rfl)))))
      (pss_cons (ps_setLc (i := 3) (own := [("_law_k", 5)]) (g := gName 5) rfl sc_open.nd rfl rfl (sw_true rfl rfl rfl (by decide +kernel)) (pi_range1 rfl T.b_range (pa_cons (pe_callB call_len_seq (by rfl) T.b_len (by decide +kernel) (pa_cons (pe_ix ix_list (pv 0) pe_int (fun _ _ => rfl)) pa_nil)) pa_nil)) (blkOk_by (N := sc_open_N) (sc := defScope s_open) (by decide +kernel)) (fun _ _ _ _ _ => pg_name (i := 5) sc_open.nd rfl (Or.inl rfl)) (fun _ _ _ _ _ => pts_one (PW.pt (pw_and (pt_cmpR (op_notInK (K := K)) (pv 5) (pv 2) (by rfl)) (pw_and1 (pt_cmpR (op_notInK (K := K)) (pv 5) (pv 1) (by rfl)))))) (fun _ _ _ _ _ => (pe_ix (ix_listK (K := K)) (pe_ix (ix_listK (K := K)) (pv 0) pe_int (fun _ _ => rfl)) (pv 5) (fun _ _ => rfl))))
      (pss_one (ps_ret (pe_cmpR (op_neE (Nat.lt_of_le_of_lt (Nat.le_add_right _ 64) hr.units)) (pe_fn h_rings (hr.mono (by decide)) (pa_cons (pv 3) pa_nil)) (pe_lst pa_nil) (nomark _)))))), ?_⟩
    obtain ⟨lp, lq, lg, pu, gu, e1, e2, kp⟩ := md.ex
    have ekl : H l = some (.lst [.ref lp, .ref lq, .ref lg]) := kp (l, _) List.mem_cons_self
    have ekq : H lq = some (.lst (rf pu)) := kp (lq, _) (List.mem_cons_of_mem _ (List.mem_cons_of_mem _ List.mem_cons_self))
    have ekg : H lg = some (.lst (rf gu)) := kp (lg, _) (List.mem_cons_of_mem _ (List.mem_cons_of_mem _ (List.mem_cons_of_mem _ List.mem_cons_self)))
    have eku : ∀ u ∈ pu, H u.1 = some (oQ u.2) := fun u hu => kp (u.1, _) (List.mem_cons_of_mem _ (List.mem_cons_of_mem _ (List.mem_cons_of_mem _ (List.mem_cons_of_mem _ (List.mem_append_left _ (List.mem_map.mpr ⟨u, hu, rfl⟩))))))
    have ekv : ∀ u ∈ gu, H u.1 = some (oG u.2) := fun u hu => kp (u.1, _) (List.mem_cons_of_mem _ (List.mem_cons_of_mem _ (List.mem_cons_of_mem _ (List.mem_cons_of_mem _ (List.mem_append_right _ (List.mem_map.mpr ⟨u, hu, rfl⟩))))))
    have ul : pu.length = M.qs.length := by rw [← sn_len, e1]
    have gl : gu.length = M.gs.length := by rw [← sn_len, e2]
    have qm := ok.qm
    have gm := ok.gm
    -- the pipes with meters
    refine ⟨_, rfl, l, _, 2, _, rfl, rfl, SqL.of ekl, rfl, lg, rfl, ⟨_, SqL.of ekg⟩, fun D1 n1 => lc_to (xs := rf gu) ((metL M).map vI) (by rw [List.length_map, metL, List.length_map, rf_len, gl]) walk_list n1 (by rw [rf_len]; omega) (fun H' s' => SqL.of (s' _ _ ekg)) (fun _ => rfl) (fun j v y hv hy H1 s1 R kR => ?_) fun H1 s1 hD1 => ?_⟩
    · obtain ⟨u, hu, rfl⟩ := rf_get hv
      have hsg := sn_get hu
      rw [e2] at hsg
      rw [List.getElem?_map, metL, List.getElem?_map, hsg] at hy
      obtain rfl := Option.some.inj hy
      exact ⟨_, rfl, u.1, _, 1, _, rfl, rfl, SqT.of (s1 _ _ (ekv u (List.mem_of_getElem? hu))), rfl, kR H1 (Same.refl _)⟩
    dsimp only [gName]
    -- those that are left
    have eC1 : SqL K H1 c (ch.map vI) ∨ SqT K H1 c (ch.map vI) := eC.imp (fun h => h.ext s1) fun h => h.ext s1
    refine ⟨_, rfl, l, _, 1, _, rfl, rfl, SqL.of (s1 _ _ ekl), rfl, lq, _, rfl, .inl (SqL.of (s1 _ _ ekq)), ?_⟩
    rw [rf_len, ul]
    refine ⟨(M.qs.length : Int), rfl, by omega, by omega, fun D2 n2 => lc_idx (List.range M.qs.length) (fun k => !decide (k ∈ metL M) && !decide (k ∈ ch)) (fun k => .ref (pu.getD k (0, ("", 0, 0))).1) walk_rgi n2 (by rw [List.length_range]; omega) (fun _ _ => True.intro) (fun _ => rfl) (fun k hk H2 s2 R kR => ?_) (fun k hk hp H2 s2 R kR => ?_) fun H2 s2 hD2 => ?_⟩
    · have kR2 := kR H2 (Same.refl _)
      refine ⟨_, rfl, _, rfl, D1, _, rfl, .inl (SqL.of (s2 _ _ hD1)), rfl, flat_vI _, _, rfl, ?_⟩
      show if (!inV (vI k) ((metL M).map vI)) = true then _ else _
      rw [inV_vI]
      by_cases z : k ∈ metL M
      · rw [decide_eq_true z] at kR2 ⊢
        exact iteF kR2
      · rw [decide_eq_false z] at kR2 ⊢
        refine iteT ⟨_, rfl, _, rfl, c, _, rfl, eC1.imp (fun h => h.ext s2) (fun h => h.ext s2), rfl, flat_vI _, _, rfl, ?_⟩
        show R (!inV (vI k) (ch.map vI)) H2
        rw [inV_vI]
        exact kR2
    · have hk' := List.mem_range.mp hk
      have atp : atI (rf pu) (k : Int) = some (V.ref (pu.getD k (0, ("", 0, 0))).1) := atI_nat (by rw [rf, List.getElem?_map, List.getElem?_eq_getElem (by omega), getD_lt (show k < pu.length by omega)]; rfl)
      have s12 := s1.trans s2
      exact ⟨_, rfl, l, _, 1, _, rfl, rfl, SqL.of (s12 _ _ ekl), rfl, _, rfl, lq, _, _, _, rfl, rfl, SqL.of (s12 _ _ ekq), atp, kR H2 (Same.refl _)⟩
    have s12 := s1.trans s2
    have epu : (leftL M ch).map (fun k => V.ref (pu.getD k (0, ("", 0, 0))).1) = rf ((leftL M ch).map fun k => pu.getD k (0, ("", 0, 0))) := by
      rw [rf, List.map_map]
      rfl
    have hD2' : H2 D2 = some (.lst (rf ((leftL M ch).map fun k => pu.getD k (0, ("", 0, 0))))) := by rw [hD2, ← epu]; rfl
    have esn : sn ((leftL M ch).map fun k => pu.getD k (0, ("", 0, 0))) = (leftL M ch).map fun k => M.qs.getD k ("", 0, 0) := by
      rw [sn, List.map_map]
      refine List.map_congr_left fun k hk => ?_
      have hk' := (leftL_mem.mp hk).1
      show (pu.getD k (0, ("", 0, 0))).2 = _
      have hs := sn_get (List.getElem?_eq_getElem (show k < pu.length by omega))
      rw [e1] at hs
      rw [getD_lt (show k < pu.length by omega), List.getD, hs]
      rfl
    have iff := left_iff (M := M) (ch := ch) esn
    have len12 : ((leftL M ch).map fun k => pu.getD k (0, ("", 0, 0))).length ≤ 12 := by
      rw [List.length_map]
      have := List.length_filter_le (fun k => !decide (k ∈ metL M) && !decide (k ∈ ch)) (List.range M.qs.length)
      rw [List.length_range] at this
      show ((List.range M.qs.length).filter _).length ≤ 12
      omega
    have hput : ∀ u ∈ (leftL M ch).map (fun k => pu.getD k (0, ("", 0, 0))), H2 u.1 = some (oQ u.2) := fun u hu => by
      obtain ⟨k, hk, rfl⟩ := List.mem_map.mp hu
      have hk' := (leftL_mem.mp hk).1
      rw [getD_lt (show k < pu.length by omega)]
      exact s12 _ _ (eku _ (List.getElem_mem _))
    rw [sn_len] at iff
    revert hD2' iff len12 hput
    generalize (leftL M ch).map (fun k => pu.getD k (0, ("", 0, 0))) = pu'
    intro hD2' iff len12 hput
    dsimp only [gName]
    refine ⟨_, rfl, irr ⟨D2, pu', rfl, SqL.of hD2', hput, len12, fun lr xs H3 s3 _ eR ir => ⟨by decide, fun L0 nL0 => ?_⟩⟩⟩
    have s4 : Same H3 (upd H3 L0 (.lst [])) := fun b o e => (upd_ne (ne_of_none e nL0)).trans e
    refine ⟨lr, L0, xs, rfl, rfl, SqL.of (s4 _ _ eR), SqL.of upd_same, k _ _ (s12.trans (s3.trans s4)) ?_⟩
    rw [← iff, ← ir]
    cases xs <;> simp
end
end RV
/-! the least price -/
namespace RV
open PySem L2 TL
section
variable {P : Program} {w : World} {K : PySem.W.Frag} {mg : Str → Option Value} {base : Heap}
theorem ok_least {f : Addr} {fd : FuncData} (F : Fun K "_law_least" "_law_least" s_least f fd) (T : Blt mg) (T2 : Blt2 mg) (h_sets : Fn P w K mg base "_law_sets" 1 ["_law_items_here", "_law_size"] (Irr (sp_sets K))) (h_open : Fn P w K mg base "_law_open" 3 ["_law_plan_here", "_law_chosen"] (Irr (sp_open K))) : FnOk P w K mg base CX0 4 f fd ["_law_plan_here", "_law_fees"] (sp_least K) := by
  refine F.ok sc_least (fun vs H Q E h => ?_) (fun cdv A outer s H vs Q E hr h => ?_)
  · obtain ⟨_, _, _, _, _, _, rfl, _⟩ := h
    rfl
  · obtain ⟨l, lf, M, most, more, fees, rfl, md, ok, m7, o12, eF, fl7, k⟩ := h
    refine ⟨_, (pss_cons (ps_asg (pe_tup (pa_cons (pe_lc (own := [("_law_one", 6)]) (g := gName 6) (tt := tYes) rfl sc_least.nd (pi_list (pe_ix ix_list (pv 0) pe_int (fun _ _ => rfl))) (blkOk_by (N := sc_least_N) (sc := defScope s_least) (by decide +kernel)) (fun _ _ _ _ _ => pg_name (i := 6) sc_least.nd rfl (Or.inl rfl)) (fun _ _ _ _ _ => pts_nil) (fun _ _ _ _ _ => (pe_ix (ix_tupK (K := K)) (pv 6) pe_int (fun _ _ => rfl)))) (pa_cons (pe_lst pa_nil) pa_nil))) (pg_tup (by rfl) (pgs_cons (pg_name (i := 2) sc_least.nd rfl (Or.inr rfl)) (pgs_cons (pg_name (i := 3) sc_least.nd rfl (Or.inl rfl)) pgs_nil))))
      (pss_cons (ps_setLc (i := 4) (own := [("_law_k", 8)]) (g := gName 8) rfl sc_least.nd rfl rfl (sw_true rfl rfl rfl (by decide +kernel)) (pi_range1 rfl T.b_range (pa_cons (pe_callB call_len_seq (by rfl) T.b_len (by decide +kernel) (pa_cons (pe_ix ix_list (pv 0) pe_int (fun _ _ => rfl)) pa_nil)) pa_nil)) (blkOk_by (N := sc_least_N) (sc := defScope s_least) (by decide +kernel)) (fun _ _ _ _ _ => pg_name (i := 8) sc_least.nd rfl (Or.inl rfl)) (fun _ _ _ _ _ => pts_one (pt_cmpR (op_notInK (K := K)) (pv 8) (pv 2) (by rfl))) (fun _ _ _ _ _ => (pv 8)))
      (pss_cons (ps_for PassesOwn.never rfl (pi_range1 rfl T.b_range (pa_cons (pe_op op_add (pe_callB call_len_seq (by rfl) T.b_len (by decide +kernel) (pa_cons (pv 4) pa_nil)) pe_int) pa_nil)) (pg_name (i := 5) sc_least.nd rfl (Or.inl rfl)) (pss_one (ps_for PassesOwn.never rfl (pi_list (pe_fn h_sets (hr.mono (by decide)) (pa_cons (pv 4) (pa_cons (pv 5) pa_nil)))) (pg_name (i := 6) sc_least.nd rfl (Or.inl rfl)) (pss_cons (ps_set (i := 7) sc_least.nd rfl (Or.inl rfl) (pe_callB (cr_sum rfl) (by rfl) T2.b_sum (by decide +kernel) (pa_cons (pe_lc (own := [("_law_k", 8)]) (g := gName 8) (tt := tYes) rfl sc_least.nd (pi_tup (pv 6)) (blkOk_by (N := sc_least_N) (sc := defScope s_least) (by decide +kernel)) (fun _ _ _ _ _ => pg_name (i := 8) sc_least.nd rfl (Or.inl rfl)) (fun _ _ _ _ _ => pts_nil) (fun _ _ _ _ _ => (pe_ix (ix_listK (K := K)) (pv 1) (pv 8) (fun _ _ => rfl)))) pa_nil))) (pss_one (ps_if (PW.pt (pw_and (PW.pt (pw_or (pt_cmpR (op_eqD hr.units) (pv 3) (pe_lst pa_nil) (nomark _)) (pw_or1 (pt_cmpR op_lt (pv 7) (pe_ix ix_list (pv 3) pe_int (fun _ _ => rfl)) (nomark _))))) (pw_and1 (pt_not (pt_val (pe_fn h_open (hr.mono (by decide)) (pa_cons (pv 0) (pa_cons (pv 6) pa_nil)))))))) (pss_one (ps_set (i := 3) sc_least.nd rfl (Or.inl rfl) (pe_lst (pa_cons (pv 7) pa_nil)))) pss_nil))))))
      (pss_one (ps_ret (pe_ix ix_list (pv 3) pe_int (fun _ _ => rfl))))))), ?_⟩
    obtain ⟨lp, lq, lg, pu, gu, e1, e2, kp⟩ := id md.ex
    have ekl : H l = some (.lst [.ref lp, .ref lq, .ref lg]) := kp (l, _) List.mem_cons_self
    have ekq : H lq = some (.lst (rf pu)) := kp (lq, _) (List.mem_cons_of_mem _ (List.mem_cons_of_mem _ List.mem_cons_self))
    have ekg : H lg = some (.lst (rf gu)) := kp (lg, _) (List.mem_cons_of_mem _ (List.mem_cons_of_mem _ (List.mem_cons_of_mem _ List.mem_cons_self)))
    have ekv : ∀ u ∈ gu, H u.1 = some (oG u.2) := fun u hu => kp (u.1, _) (List.mem_cons_of_mem _ (List.mem_cons_of_mem _ (List.mem_cons_of_mem _ (List.mem_cons_of_mem _ (List.mem_append_right _ (List.mem_map.mpr ⟨u, hu, rfl⟩))))))
    have ul : pu.length = M.qs.length := by rw [← sn_len, e1]
    have gl : gu.length = M.gs.length := by rw [← sn_len, e2]
    have qm := ok.qm
    have gm := ok.gm
    -- the pipes with meters
    refine ⟨_, rfl, l, _, 2, _, rfl, rfl, SqL.of ekl, rfl, lg, rfl, ⟨_, SqL.of ekg⟩, fun D1 n1 => lc_to (xs := rf gu) ((metL M).map vI) (by rw [List.length_map, metL, List.length_map, rf_len, gl]) walk_list n1 (by rw [rf_len]; omega) (fun H' s' => SqL.of (s' _ _ ekg)) (fun _ => rfl) (fun j v y hv hy H1 s1 R kR => ?_) fun H1 s1 hD1 => ?_⟩
    · obtain ⟨u, hu, rfl⟩ := rf_get hv
      have hsg := sn_get hu
      rw [e2] at hsg
      rw [List.getElem?_map, metL, List.getElem?_map, hsg] at hy
      obtain rfl := Option.some.inj hy
      exact ⟨_, rfl, u.1, _, 1, _, rfl, rfl, SqT.of (s1 _ _ (ekv u (List.mem_of_getElem? hu))), rfl, kR H1 (Same.refl _)⟩
    refine ⟨by decide, fun lfd nfd => ⟨(by show 2 ≤ sizeLine; decide), fun T0 nT0 => ⟨T0, _, rfl, SqT.of upd_same, rfl, _, _, rfl, _, _, rfl, rfl, ?_⟩⟩⟩
    have c2 := ((Cel.start H1).new (o := .lst []) nfd).new (o := .tup [.ref D1, .ref lfd]) nT0
    have eFd := c2.at (p := lfd) (List.mem_cons_of_mem _ List.mem_cons_self)
    have s2 := c2.sm
    revert eFd s2
    generalize upd (upd H1 lfd (.lst [])) T0 (.tup [.ref D1, .ref lfd]) = H2
    intro eFd s2
    clear c2 nT0 nfd
    have s12 := s1.trans s2
    dsimp only
    -- those without
    refine ⟨_, rfl, l, _, 1, _, rfl, rfl, SqL.of (s12 _ _ ekl), rfl, lq, _, rfl, .inl (SqL.of (s12 _ _ ekq)), ?_⟩
    rw [rf_len, ul]
    refine ⟨(M.qs.length : Int), rfl, by omega, by omega, fun D2 n2 => lc_idx (List.range M.qs.length) (fun k => !decide (k ∈ metL M)) vI walk_rgi n2 (by rw [List.length_range]; omega) (fun _ _ => True.intro) (fun _ => rfl) (fun k hk H3 s3 R kR => ?_) (fun k hk hp H3 s3 R kR => ⟨_, rfl, kR H3 (Same.refl _)⟩) fun H3 s3 hD2 => ?_⟩
    · refine ⟨_, rfl, _, rfl, D1, _, rfl, .inl (SqL.of (s3 _ _ (s2 _ _ hD1))), rfl, flat_vI _, _, rfl, ?_⟩
      show R (!inV (vI k) ((metL M).map vI)) H3
      rw [inV_vI]
      exact kR H3 (Same.refl _)
    have s13 := s12.trans s3
    have hB : H3 D2 = some (.lst ((bareL M).map vI)) := hD2
    have md3 := md.ext s13
    have eF3 := eF.ext s13
    have eFd3 := s3 _ _ eFd
    have bl := bareL_len M
    dsimp only [gName]
    obtain ⟨nb, hnb⟩ : ∃ nb, (bareL M).length + 1 = nb := ⟨_, rfl⟩
    refine ⟨_, rfl, D2, _, rfl, .inl (SqL.of hB), _, _, rfl, rfl, (nb : Int), (by rw [List.length_map, ← hnb]; rfl), by omega, by omega, for_range (lo := 0) (n := nb) (fun z σ H' => ∃ (ld : Addr) (fl : List Int) (o5 o6 o7 o8 : Option V), σ = [some (.ref l), some (.ref lf), some (.ref D1), some (.ref ld), some (.ref D2), o5, o6, o7, o8] ∧ Same H3 H' ∧ H' ld = some (.lst (fl.map V.int)) ∧ LeastF M fees (triedF M z) fl) ?_ ?_ ?_⟩
    · exact ⟨lfd, [], _, _, _, _, rfl, Same.refl _, eFd3, .inl ⟨rfl, fun o ho => by obtain ⟨s, hs, _⟩ := ho; omega⟩⟩
    · rintro z σ H4 hz ⟨ld, fl, o5, o6, o7, o8, rfl, s4, eL, lst⟩
      dsimp only [gName]
      rw [Int.zero_add]
      refine ⟨_, rfl, _, rfl, irr ⟨D2, bareL M, z, rfl, SqL.of (s4 _ _ hB), bareL_asc M, by omega, by omega, fun k hk => by have := (bareL_mem.mp hk).1; omega, fun ls os H5 s5 eO tO mO => ?_⟩⟩
      refine ⟨ls, rfl, ⟨_, SqL.of eO⟩, for_list (xs := rf os) (fun j σ H' => ∃ (ld : Addr) (fl : List Int) (o6 o7 o8 : Option V), σ = [some (.ref l), some (.ref lf), some (.ref D1), some (.ref ld), some (.ref D2), some (.int (z : Int)), o6, o7, o8] ∧ Same H5 H' ∧ H' ld = some (.lst (fl.map V.int)) ∧ LeastF M fees (fun o => triedF M z o ∨ o ∈ (sn os).take j) fl) ⟨ld, fl, _, _, _, rfl, Same.refl _, s5 _ _ eL, lst.is fun o => by simp⟩ (fun j σ H' _ y => by obtain ⟨_, _, _, _, _, _, s, _⟩ := y; exact SqL.of (s _ _ eO)) ?_ ?_⟩
      · clear lst eL
        rintro j v σ H6 hv ⟨ld, fl, o6, o7, o8, rfl, s6, eL, lst⟩
        obtain ⟨u, hu, rfl⟩ := rf_get hv
        have hum := List.mem_of_getElem? hu
        have eu := s6 _ _ (tO u hum)
        have s36 := (s4.trans s5).trans s6
        have emem : ∀ x, (triedF M z x ∨ x ∈ (sn os).take (j + 1)) ↔ (triedF M z x ∨ x ∈ (sn os).take j) ∨ x = u.2 := fun x => by
          rw [List.take_add_one, sn_get hu, Option.toList_some, List.mem_append, List.mem_singleton, or_assoc]
        have hin : ∀ k ∈ u.2, k < fees.length := fun k hk => by
          obtain ⟨pr, epr⟩ := setsF_sub ((bareL_asc M).imp fun h => by omega) u.2 ((mO u.2).mp (List.mem_map.mpr ⟨u, hum, rfl⟩)).1
          rw [epr] at hk
          have := (bareL_mem.mp (List.mem_filter.mp hk).1).1
          omega
        dsimp only [gName]
        have eF6 := eF3.ext s36
        refine ⟨_, rfl, u.1, rfl, ⟨_, SqT.of eu⟩, fun Dp nDp => lc_to (xs := u.2.map vI) ((u.2.map fun k => fees.getD k 0).map V.int) (by rw [List.length_map, List.length_map, List.length_map]) walk_tup nDp ?_ (fun H' s' => SqT.of (s' _ _ eu)) (fun _ => rfl) (fun i v y hv hy H7 s7 R kR => ?_) fun H7 s7 hDp => ?_⟩
        · obtain ⟨pr, epr⟩ := setsF_sub ((bareL_asc M).imp fun h => by omega) u.2 ((mO u.2).mp (List.mem_map.mpr ⟨u, hum, rfl⟩)).1
          have := List.length_filter_le pr (bareL M)
          rw [List.length_map, epr]
          omega
        · rw [List.getElem?_map] at hv hy
          rw [List.getElem?_map] at hy
          cases e : u.2[i]? with
          | none => rw [e] at hv; cases hv
          | some q =>
            rw [e] at hv hy
            obtain rfl := Option.some.inj hv
            obtain rfl := Option.some.inj hy
            have hq := hin q (List.mem_of_getElem? e)
            exact ⟨_, rfl, _, rfl, lf, _, _, _, rfl, rfl, eF6.ext s7, atI_nat (by rw [List.getElem?_map, List.getElem?_eq_getElem hq]; exact congrArg (fun z => some (V.int z)) (getD_lt hq).symm), kR H7 (Same.refl _)⟩
        refine ⟨Dp, _, rfl, SqL.of hDp, ?_⟩
        have epr : (u.2.map fun k => fees.getD k 0).sum = priceF fees u.2 := rfl
        rw [epr]
        have eu7 := s7 _ _ eu
        have eL7 := s7 _ _ eL
        have md7 := md3.ext (s36.trans s7)
        dsimp only [gName]
        rcases id lst with ⟨e0, _⟩ | ⟨v, e0, _, _⟩
        · subst e0
          refine ⟨_, rfl, by decide, fun L0 nL0 => ?_⟩
          have s8 : Same H7 (upd H7 L0 (.lst [])) := fun b o e => (upd_ne (ne_of_none e nL0)).trans e
          refine ⟨.list [], .list [], .lst (SqL.of (s8 _ _ eL7)) .nil, .lst (SqL.of upd_same) .nil, shaped_nil, shaped_nil, _, rfl, ?_⟩
          rw [eqv_nil0]
          refine iteT (iteT ⟨_, rfl, _, rfl, irr ⟨l, u.1, M, most, more, u.2, rfl, md7.ext s8, ok, by omega, o12, .inr (SqT.of (s8 _ _ eu7)), fun b H9 s9 hb => ⟨b, rfl, ?_⟩⟩⟩)
          cases b with
          | true =>
            refine iteF ⟨ld, [], _, _, _, rfl, s6.trans (s7.trans (s8.trans s9)), s9 _ _ (s8 _ _ eL7), lst.skip (fun f => absurd f (hb.mp rfl)) emem⟩
          | false =>
            have fo : FoC M u.2 := Classical.byContradiction fun n => nomatch hb.mpr n
            refine iteT ⟨_, rfl, (by show 1 ≤ sizeLine; decide), fun L1 nL1 => ⟨L1, [priceF fees u.2], _, _, _, rfl, s6.trans (s7.trans (s8.trans (s9.trans fun b o e => (upd_ne (ne_of_none e nL1)).trans e))), upd_same, lst.take fo (fun v e => nomatch e) emem⟩⟩
        · subst e0
          refine ⟨_, rfl, by decide, fun L0 nL0 => ?_⟩
          have s8 : Same H7 (upd H7 L0 (.lst [])) := fun b o e => (upd_ne (ne_of_none e nL0)).trans e
          refine ⟨.list [.int v], .list [], .lst (SqL.of (s8 _ _ eL7)) (.cons (.int _) .nil), .lst (SqL.of upd_same) .nil, shaped_one v, shaped_nil, _, rfl, ?_⟩
          rw [eqv_one]
          refine iteF ⟨_, rfl, _, rfl, ld, _, 0, .int v, rfl, rfl, SqL.of (s8 _ _ eL7), rfl, _, _, rfl, rfl, _, rfl, ?_⟩
          by_cases lt : priceF fees u.2 < v
          · rw [decide_eq_true lt]
            refine iteT ⟨_, rfl, _, rfl, irr ⟨l, u.1, M, most, more, u.2, rfl, md7.ext s8, ok, by omega, o12, .inr (SqT.of (s8 _ _ eu7)), fun b H9 s9 hb => ⟨b, rfl, ?_⟩⟩⟩
            cases b with
            | true =>
              refine iteF ⟨ld, [v], _, _, _, rfl, s6.trans (s7.trans (s8.trans s9)), s9 _ _ (s8 _ _ eL7), lst.skip (fun f => absurd f (hb.mp rfl)) emem⟩
            | false =>
              have fo : FoC M u.2 := Classical.byContradiction fun n => nomatch hb.mpr n
              refine iteT ⟨_, rfl, (by show 1 ≤ sizeLine; decide), fun L1 nL1 => ⟨L1, [priceF fees u.2], _, _, _, rfl, s6.trans (s7.trans (s8.trans (s9.trans fun b o e => (upd_ne (ne_of_none e nL1)).trans e))), upd_same, lst.take fo (fun v' e => by cases e; omega) emem⟩⟩
          · rw [decide_eq_false lt]
            refine iteF (iteF ⟨ld, [v], _, _, _, rfl, s6.trans (s7.trans s8), s8 _ _ eL7, lst.skip (fun _ => ⟨v, rfl, by omega⟩) emem⟩)
      · rintro σ H6 ⟨ld, fl, o6, o7, o8, rfl, s6, eL, lst⟩
        refine ⟨ld, fl, _, _, _, _, rfl, (s4.trans s5).trans s6, eL, lst.is fun o => ?_⟩
        rw [rf_len, ← sn_len, List.take_length, mO o]
        constructor
        · rintro ⟨s, hs, h1, h2⟩
          by_cases e : s = z
          · subst e
            exact .inr ⟨h1, h2⟩
          · exact .inl ⟨s, by omega, h1, h2⟩
        · rintro (⟨s, hs, h1, h2⟩ | ⟨h1, h2⟩)
          · exact ⟨s, by omega, h1, h2⟩
          · exact ⟨z, by omega, h1, h2⟩
    · rintro σ H4 ⟨ld, fl, o5, o6, o7, o8, rfl, s4, eL, lst⟩
      rcases lst with ⟨_, b⟩ | ⟨v, rfl, a, b⟩
      · exact absurd (FoC_all M) (b _ (hnb ▸ tried_all M))
      · subst hnb
        exact ⟨_, rfl, ld, _, 0, .int v, rfl, rfl, SqL.of eL, rfl, k v H4 (s13.trans s4) a b⟩
end
end RV
/-! prices; parted pipes -/
namespace RV
open PySem L2 TL
section
variable {P : Program} {w : World} {K : PySem.W.Frag} {mg : Str → Option Value} {base : Heap} {CN CP CM : Addr}
theorem ok_chkpr {f : Addr} {fd : FuncData} (F : Fun K "check_prices" "check_prices" s_check_prices f fd) (T : Blt mg) (T2 : Blt2 mg) (h_np : Prp P w K mg base CN "pipes" 1 (Irr (sp_npi CN))) (h_is_number : Fn P w K mg base "is_number" 1 ["value"] (Irr (sp_is_number K))) : FnOk P w K mg base CX0 3 f fd ["net", "prices"] (sp_chkpr K CN CP CM) := by
  refine F.ok sc_check_prices (fun vs H Q E h => ?_) (fun cdv A outer s H vs Q E hr h => ?_)
  · obtain ⟨_, _, _, _, _, rfl, _⟩ := h
    rfl
  · obtain ⟨x, t, ps, ms, fees, rfl, nr, eF, fl, f0, k⟩ := h
    refine ⟨_, (pss_cons (ps_if (PW.pt (pw_or (pt_not (pt_val (pe_callB call_isi (by rfl) T.b_isinstance (by decide +kernel) (pa_cons (pv 1) (pa_cons (pe_bltn (v := .ty "tuple") (by rfl) T2.b_tuple (by decide +kernel) rfl) pa_nil))))) (pw_or1 (pt_cmpR op_ne (pe_callB call_len_seq (by rfl) T.b_len (by decide +kernel) (pa_cons (pv 1) pa_nil)) (pe_callB call_len_seq (by rfl) T.b_len (by decide +kernel) (pa_cons (pe_propN h_np (hr.mono (by decide)) (pv 0)) pa_nil)) (nomark _))))) (pss_one ps_never) pss_nil)
      (pss_one (ps_for PassesOwn.never rfl (pi_enumT (by rfl) T2.b_enumerate (pa_cons (pv 1) pa_nil)) (pg_tup (by rfl) (pgs_cons (pg_name (i := 2) sc_check_prices.nd rfl (Or.inl rfl)) (pgs_cons (pg_name (i := 3) sc_check_prices.nd rfl (Or.inl rfl)) pgs_nil))) (pss_one (ps_if (PW.pt (pw_or (pt_not (pt_val (pe_fn h_is_number (hr.mono (by decide)) (pa_cons (pv 3) pa_nil)))) (pw_or1 (pt_cmpR op_lt (pv 3) pe_int (nomark _))))) (pss_one ps_never) pss_nil))))), ?_⟩
    obtain ⟨dx, tp, tm, pu, mu, ex, hp, hm, ep, em⟩ := id nr.ex
    have pul : pu.length = ps.length := by rw [← ep, sn_len]
    refine ⟨_, rfl, _, _, .type "tuple", .type "tuple", true, rfl, .ty _, tyx_tup eF, kit_ty (by decide +kernel), true, rfl, iteF ?_⟩
    refine ⟨_, rfl, t, _, rfl, .inr eF, _, rfl, x, dx, _, rfl, ex, irr ⟨x, dx, tp, tm, rfl, ex, tp, _, rfl, .inr hp.t, rfl, _, rfl, ?_⟩⟩
    have el : (fees.map V.int).length = (rf pu).length := by rw [List.length_map, rf_len, pul, fl]
    rw [el, decide_eq_true rfl]
    refine iteF ?_
    refine ⟨_, rfl, t, _, rfl, eF, for_enumT (xs := fees.map V.int) (fun i σ H' => (∃ o2 o3, σ = [some (.ref x), some (.ref t), o2, o3]) ∧ Same H H') ⟨⟨_, _, rfl⟩, Same.refl _⟩ (fun i σ H' _ z => eF.ext z.2) ?_ ?_⟩
    · rintro i v σ H1 T' hv ⟨⟨o2, o3, rfl⟩, s1⟩ nT
      obtain ⟨z, hz, rfl⟩ := List.mem_map.mp (List.mem_of_getElem? hv)
      have z0 := f0 z hz
      refine ⟨T', _, rfl, SqT.of upd_same, rfl, _, _, rfl, _, _, rfl, rfl, ?_⟩
      refine ⟨_, rfl, irr ⟨_, rfl, .inl ⟨z, rfl, ?_⟩⟩⟩
      refine ⟨true, rfl, iteF ⟨_, rfl, _, _, rfl, rfl, _, rfl, ?_⟩⟩
      rw [decide_eq_false (show ¬ z < 0 by omega)]
      exact iteF ⟨⟨_, _, rfl⟩, fun b o e => (upd_ne (ne_of_none (s1 b o e) nT)).trans (s1 b o e)⟩
    · rintro σ H1 ⟨_, s1⟩
      exact k H1 s1
theorem ok_merged {f : Addr} {fd : FuncData} (F : Fun K "_merged" "_merged" s_merged f fd) (h_ps : Prp P w K mg base CP "start" 1 (Irr (sp_ps CP))) (h_pe : Prp P w K mg base CP "end" 1 (Irr (sp_pe CP))) : FnOk P w K mg base CX0 3 f fd ["marks", "part"] (sp_mrgd CP) := by
  refine F.ok sc_merged (fun vs H Q E h => ?_) (fun cdv A outer s H vs Q E hr h => ?_)
  · obtain ⟨_, _, _, _, _, rfl, _⟩ := h
    rfl
  · obtain ⟨d, a, zs, mk, q, rfl, eD, nd, z30, ms, me, pa, k⟩ := h
    have hu : (A.deeper (PyProof.Rows.envOfC "_merged" (defScope s_merged) s.heap.objs.size f cdv)).units + 1 < cLine := by have := hr.units; omega
    have hu2 := hu
    refine ⟨_, (pss_cons (ps_asg (pe_tup (pa_cons (pe_dget hu (pv 0) (pe_propN h_ps (hr.mono (by decide)) (pv 1)) (fun _ _ => rfl)) (pa_cons (pe_dget hu (pv 0) (pe_propN h_pe (hr.mono (by decide)) (pv 1)) (fun _ _ => rfl)) pa_nil))) (pg_tup (by rfl) (pgs_cons (pg_name (i := 2) sc_merged.nd rfl (Or.inr rfl)) (pgs_cons (pg_name (i := 3) sc_merged.nd rfl (Or.inr rfl)) pgs_nil))))
      (pss_one (ps_ret (pe_lock (pe_dc (own := [("place", 4)]) (g := gName 4) (tt := tYes) rfl sc_merged.nd (pi_keys (pv 0)) (blkOk_by (N := sc_merged_N) (sc := defScope s_merged) (by decide +kernel)) (fun _ _ _ _ _ => pg_name (i := 4) sc_merged.nd rfl (Or.inl rfl)) (fun _ _ _ _ _ => pts_nil) (fun _ _ _ _ _ => pv 4) (fun _ _ _ _ _ => pe_ifExp (pt_cmpR op_eq (pe_dget hu2 (pv 0) (pv 4) (fun _ _ => rfl)) (pv 2) (nomark _)) (pv 3) (pe_dget hu2 (pv 0) (pv 4) (fun _ _ => rfl)))))))), ?_⟩
    obtain ⟨dx, ex⟩ := id pa
    refine ⟨_, rfl, _, rfl, a, dx, _, rfl, ex, irr ⟨a, q, rfl, pa, d, _, rfl, by rw [← mkD_val (mk := mk) ms]; exact DGet.k (k := Sum.inr q.2.1) eD, _, rfl, _, rfl, a, dx, _, rfl, ex, irr ⟨a, q, rfl, pa, d, _, rfl, by rw [← mkD_val (mk := mk) me]; exact DGet.k (k := Sum.inr q.2.2) eD, ?_⟩⟩⟩
    refine ⟨(by show 2 ≤ sizeLine; decide), fun T0 nT0 => ⟨T0, _, rfl, SqT.of upd_same, rfl, _, _, rfl, _, _, rfl, rfl, ?_⟩⟩
    have s1 : Same H (upd H T0 (.tup [.str (mk q.2.1), .str (mk q.2.2)])) := fun b o e => (upd_ne (ne_of_none e nT0)).trans e
    generalize upd H T0 (.tup [.str (mk q.2.1), .str (mk q.2.2)]) = H1 at s1 ⊢
    have eD1 := s1 _ _ eD
    refine ⟨d, .dK (mkD zs mk), eD1, trivial, fun od => ⟨_, rfl, d, od, rfl, .inl ⟨mkD zs mk, upd_same, fun D nD => ?_⟩⟩⟩
    have nDd : d ≠ D := fun e => by
      rw [← e, upd_same] at nD
      cases nD
    have ml : (mkD zs mk).length = zs.length := List.length_map ..
    refine dc_it (n := zs.length) (ml ▸ walk_keys) (fun i H' => Same (upd H1 d (.frz od (.dK (mkD zs mk)))) H' ∧ H' D = some (.dK (mkD (zs.take i) (mrg mk q.2.1 q.2.2)))) ⟨fun b o e => (upd_ne (ne_of_none e nD)).trans e, upd_same⟩ (fun i H' _ z => z.1 _ _ upd_same) ?_ ?_
    · rintro i v Hb Ha hi ⟨s2, hD⟩ ⟨rfl, kk, vv, hk, rfl⟩
      have hz : zs[i]? = some zs[i] := List.getElem?_eq_getElem hi
      have e2 : ((.inr zs[i] : Key), V.str (mk zs[i])) = (kk, vv) := by
        rw [mkD, List.getElem?_map, hz] at hk
        exact Option.some.inj hk
      have ekk := congrArg Prod.fst e2
      dsimp only at ekk
      subst ekk
      have ed3 : Ha d = some (.frz od (.dK (mkD zs mk))) := s2 _ _ upd_same
      have hdg : ∀ z, z ∈ zs → DGet Ha d (V.str z) (some (V.str (mk z))) := fun z hz => .inl ⟨_, .inr z, .inr ⟨od, ed3⟩, rfl, (mkD_val hz).symm⟩
      have hnd : zs[i] ∉ zs.take i := fun m => by
        obtain ⟨j, hj, e⟩ := List.getElem_of_mem m
        rw [List.getElem_take] at e
        have hj2 := hj
        rw [List.length_take] at hj2
        exact absurd ((List.getElem_inj nd).mp e) (by omega)
      have fin : ∀ z, z = mrg mk q.2.1 q.2.2 zs[i] → ∃ kvs k, V.str zs[i] = kV k ∧ Ha D = some (HO.dK kvs) ∧ kvs.length < sizeLine ∧ Same (upd H1 d (HO.frz od (HO.dK (mkD zs mk)))) (upd Ha D (HO.dK (putK kvs k (.str z)))) ∧
          upd Ha D (HO.dK (putK kvs k (.str z))) D = some (HO.dK (mkD (List.take (i + 1) zs) (mrg mk q.2.1 q.2.2))) := by
        rintro z rfl
        refine ⟨_, .inr zs[i], rfl, hD, ?_, fun b o e => (upd_ne (ne_of_none e nD)).trans (s2 b o e), ?_⟩
        · rw [mkD, List.length_map, List.length_take]
          exact Nat.lt_of_le_of_lt (Nat.min_le_right _ _) (Nat.lt_of_le_of_lt z30 (by decide))
        · rw [upd_same, mkD_put hnd, List.take_succ, hz]
          rfl
      refine ⟨rfl, ?_⟩
      have e0 : ∀ (σ : L2.St) (H : Hp) (R : Bool → Hp → Prop), R true H → tYes σ H R := fun _ _ _ r => r
      refine e0 _ _ _ ?_
      simp only [↓reduceIte]
      have hm : zs[i] ∈ zs := List.getElem_mem hi
      refine ⟨_, rfl, _, rfl, _, rfl, d, _, rfl, hdg _ hm, _, rfl, rfl, _, rfl, ?_⟩
      by_cases e : mk zs[i] = mk q.2.1
      · rw [decide_eq_true (show V.str (mk zs[i]) = V.str (mk q.2.1) from congrArg V.str e)]
        refine ⟨_, rfl, fin _ ?_⟩
        rw [mrg, if_pos e]
      · rw [decide_eq_false (show ¬ V.str (mk zs[i]) = V.str (mk q.2.1) from fun w => e (V.str.inj w))]
        refine ⟨_, rfl, _, rfl, d, _, rfl, hdg _ hm, fin _ ?_⟩
        rw [mrg, if_neg e]
    · rintro H' ⟨s2, hD⟩
      rw [List.take_of_length_le (Nat.le_refl _)] at hD
      refine ⟨s2 _ _ upd_same, k D _ (fun b o e => ?_) ((upd_ne nDd.symm).trans hD)⟩
      by_cases ebd : b = d
      · subst ebd
        rw [eD] at e
        rw [upd_same, ← e]
      · exact (upd_ne ebd).trans (s2 b o ((upd_ne ebd).trans (s1 b o e)))
end
end RV
/-! parted pipes -/
namespace RV
open PySem L2 TL
theorem pls_in {ps : List P3} {q : P3} (h : q ∈ ps) : q.2.1 ∈ pls ps ∧ q.2.2 ∈ pls ps := by
  rw [pls, List.mem_flatMap, List.mem_flatMap]
  exact ⟨⟨q, h, by simp⟩, ⟨q, h, by simp⟩⟩
section
variable {P : Program} {w : World} {K : PySem.W.Frag} {mg : Str → Option Value} {base : Heap} {CN CP CM : Addr}
theorem ok_split {f : Addr} {fd : FuncData} (F : Fun K "split" "split" s_split f fd) (h_npl : Prp P w K mg base CN "places" 3 (Irr (sp_plc K CN CP CM))) (h_ps : Prp P w K mg base CP "start" 1 (Irr (sp_ps CP))) (h_pe : Prp P w K mg base CP "end" 1 (Irr (sp_pe CP))) (h_merged : Fn P w K mg base "_merged" 3 ["marks", "part"] (Irr (sp_mrgd CP))) : FnOk P w K mg base CX0 5 f fd ["net", "parts"] (sp_split K CN CP CM) := by
  refine F.ok sc_split (fun vs H Q E h => ?_) (fun cdv A outer s H vs Q E hr h => ?_)
  · obtain ⟨_, _, _, _, _, rfl, _⟩ := h
    rfl
  · obtain ⟨x, lp, pu, ms, I, rfl, nr, p12, pa, eL, i12, il, k⟩ := h
    have hu : (A.deeper (PyProof.Rows.envOfC "split" (defScope s_split) s.heap.objs.size f cdv)).units + 1 < cLine := by have := hr.units; omega
    refine ⟨_, (pss_cons (ps_setDc (j := 2) (mine := [("place", 6)]) (g := gName 6) (tt := tYes) rfl sc_split.nd rfl rfl (sw_dc rfl rfl rfl (by decide +kernel)) (pi_tup (pe_propN h_npl (hr.mono (by decide)) (pv 0))) (blkOk_by (N := sc_split_N) (sc := defScope s_split) (by decide +kernel)) (fun _ _ _ _ _ => pg_name (i := 6) sc_split.nd rfl (Or.inl rfl)) (fun _ _ _ _ _ => pts_nil) (fun _ _ _ _ _ => pv 6) (fun _ _ _ _ _ => pv 6))
      (pss_cons (ps_par (i := 3) (j := 4) (by rfl) sc_split.nd rfl rfl (by decide) rfl rfl (pa_cons (pe_lst pa_nil) (pa_cons (pe_lst pa_nil) pa_nil)) (by rfl))
      (pss_cons (ps_for PassesOwn.never rfl (pi_list (pv 1)) (pg_name (i := 5) sc_split.nd rfl (Or.inl rfl)) (pss_one (ps_if (pt_cmpR op_eq (pe_dget hu (pv 2) (pe_propN h_ps (hr.mono (by decide)) (pv 5)) (fun _ _ => rfl)) (pe_dget hu (pv 2) (pe_propN h_pe (hr.mono (by decide)) (pv 5)) (fun _ _ => rfl)) (nomark _)) (pss_one (ps_expr (pe_bm PySem.F.plainAttrs_list PySem.F.slot_list_append PySem.F.type_list_append mt_append (pv 4) (pa_cons (pv 5) pa_nil)))) (pss_cons (ps_expr (pe_bm PySem.F.plainAttrs_list PySem.F.slot_list_append PySem.F.type_list_append mt_append (pv 3) (pa_cons (pv 5) pa_nil))) (pss_one (ps_set (i := 2) sc_split.nd rfl (Or.inl rfl) (pe_fn h_merged (hr.mono (by decide)) (pa_cons (pv 2) (pa_cons (pv 5) pa_nil)))))))))
      (pss_one (ps_ret (pe_tup (pa_cons (pv 3) (pa_cons (pv 4) pa_nil)))))))), ?_⟩
    obtain ⟨dx, tp, tm, pu0, mu, ex, hp, hm, ep, em⟩ := id nr.ex
    refine ⟨_, rfl, x, dx, _, rfl, ex, irr ⟨x, sn pu, ms, rfl, nr, by rw [sn_len]; exact p12, fun t zs H1 s1 et sp z24 => ?_⟩⟩
    refine ⟨t, rfl, ⟨_, SqT.of et⟩, fun D nD => ?_⟩
    have s2 : Same H1 (upd H1 D (.dK [])) := fun b o e => (upd_ne (ne_of_none e nD)).trans e
    refine dc_it (n := zs.length) (List.length_map (as := zs) V.str ▸ walk_tup (K := K) (xs := zs.map V.str)) (fun i H' => Same H1 H' ∧ H' D = some (.dK (mkD (zs.take i) id))) ⟨s2, upd_same⟩ (fun i H' _ z => (SqT.of et).ext z.1) ?_ ?_
    · rintro i v Ha Hb hi ⟨s3, hD⟩ ⟨rfl, hv⟩
      rw [List.getElem?_map, List.getElem?_eq_getElem hi] at hv
      obtain rfl := Option.some.inj hv
      have hnd : zs[i] ∉ zs.take i := fun m => by
        obtain ⟨j, hj, e⟩ := List.getElem_of_mem m
        rw [List.getElem_take] at e
        have hj2 := hj
        rw [List.length_take] at hj2
        exact absurd ((List.getElem_inj sp.2.1).mp e) (by omega)
      refine ⟨rfl, ?_⟩
      have e0 : ∀ (σ : L2.St) (H : Hp) (R : Bool → Hp → Prop), R true H → tYes σ H R := fun _ _ _ r => r
      refine e0 _ _ _ ?_
      simp only [↓reduceIte]
      refine ⟨_, rfl, _, rfl, _, .inr zs[i], rfl, hD, ?_, fun b o e => (upd_ne (ne_of_none e nD)).trans (s3 b o e), ?_⟩
      · rw [mkD, List.length_map, List.length_take]
        exact Nat.lt_of_le_of_lt (Nat.min_le_right _ _) (Nat.lt_of_le_of_lt z24 (by decide))
      · rw [upd_same]
        refine congrArg (fun q => some (HO.dK q)) ((mkD_put (mk := id) hnd).trans ?_)
        rw [List.take_succ, List.getElem?_eq_getElem hi]
        rfl
    · rintro H2 ⟨s3, hD⟩
      rw [List.take_of_length_le (Nat.le_refl _)] at hD
      have s13 := s1.trans s3
      dsimp only [gName]
      refine ⟨by decide, fun lk nk => ⟨by decide, fun lc nc => ?_⟩⟩
      have c0 : Cel H2 [(lc, .lst []), (lk, .lst [])] [] _ := ((Cel.start H2).newM (o := .lst []) nk).newM (o := .lst []) nc
      generalize upd (upd H2 lk (.lst [])) lc (.lst []) = H3 at c0 ⊢
      refine ⟨_, _, rfl, ?_⟩
      dsimp only
      have bnd : ∀ j, (splitI (sn pu) (I.take j)).2.2.length ≤ j := fun j => by
        induction j with
        | zero => simp [splitI]
        | succ j ih =>
          rw [List.take_succ]
          cases I[j]? with
          | none => simpa using Nat.le_succ_of_le ih
          | some i =>
            show (splitI (sn pu) (I.take j ++ [i])).2.2.length ≤ j + 1
            rw [splitI_snoc, stpI]
            split
            · rw [List.length_append]
              exact Nat.succ_le_succ ih
            · exact Nat.le_succ_of_le ih
      refine ⟨_, rfl, lp, rfl, ⟨_, SqL.of (c0.old (s13 _ _ eL))⟩, for_list (xs := I.map fun i => V.ref (pu.getD i puD).1) (fun j σ H' => ∃ (d : Addr) (kp : List V) (o5 o6 : Option V), σ = [some (.ref x), some (.ref lp), some (.ref d), some (.ref lk), some (.ref lc), o5, o6] ∧ kp.length ≤ j ∧
        Cel H2 [(lc, .lst ((splitI (sn pu) (I.take j)).2.2.map fun i => .ref (pu.getD i puD).1)), (lk, .lst kp)] [(d, .dK (mkD zs (splitI (sn pu) (I.take j)).1))] H') ?_ ?_ ?_ ?_⟩
      · refine ⟨D, [], _, _, rfl, Nat.le_refl _, c0.sm, c0.m, c0.md, fun q hq => ?_⟩
        obtain rfl := List.mem_singleton.mp hq
        refine ⟨c0.old hD, fun p hp e => ?_⟩
        have := (c0.m p hp).1
        rw [← e, hD] at this
        cases this
      · rintro j σ H' _ ⟨d, kp, o5, o6, _, _, c1⟩
        exact SqL.of (c1.old (s13 _ _ eL))
      · rintro j v σ H4 hv ⟨d, kp, o5, o6, rfl, kl, c1⟩
        rw [List.getElem?_map] at hv
        have hj : j < I.length := by
          rcases Nat.lt_or_ge j I.length with h | h
          · exact h
          · rw [List.getElem?_eq_none h] at hv
            cases hv
        have hIj := List.getElem?_eq_getElem hj
        rw [hIj] at hv
        obtain rfl := Option.some.inj hv
        have hi := il _ (List.getElem_mem hj)
        have tk : I.take (j + 1) = I.take j ++ [I[j]] := by rw [List.take_succ, hIj]; rfl
        have bn := bnd j
        rw [tk, splitI_snoc]
        generalize splitI (sn pu) (I.take j) = sp0 at c1 bn ⊢
        obtain ⟨e1, e2, e3, e4⟩ := pu_at hi
        have hm1 : pu[I[j]] ∈ pu := List.getElem_mem hi
        have pa1 := ((pa _ hm1).ext s13).ext c1.sm
        obtain ⟨dp, edp⟩ := id pa1
        have hq := pls_in (List.mem_map_of_mem (f := Prod.snd) hm1)
        have z1 : pu[I[j]].2.2.1 ∈ zs := (sp.2.2 _).mpr hq.1
        have z2 : pu[I[j]].2.2.2 ∈ zs := (sp.2.2 _).mpr hq.2
        have ed := c1.at (p := d) List.mem_cons_self
        have dg : ∀ z, z ∈ zs → DGet H4 d (V.str z) (some (V.str (sp0.1 z))) := fun z hz => by
          rw [← mkD_val (mk := sp0.1) hz]
          exact DGet.k (k := Sum.inr z) ed
        rw [stpI, e2, e3]
        have nk4 := (c1.m (lk, _) (List.mem_cons_of_mem _ List.mem_cons_self))
        dsimp only [gName]
        rw [e1]
        refine ⟨_, rfl, _, rfl, _, dp, _, rfl, edp, irr ⟨_, _, rfl, pa1, d, _, rfl, dg _ z1, _, rfl, _, rfl, _, dp, _, rfl, edp, irr ⟨_, _, rfl, pa1, d, _, rfl, dg _ z2, ?_⟩⟩⟩
        refine ⟨rfl, _, rfl, ?_⟩
        have eC := c1.am (p := lc) List.mem_cons_self
        have eK := c1.am (p := lk) (List.mem_cons_of_mem _ List.mem_cons_self)
        by_cases e : sp0.1 pu[I[j]].2.2.1 = sp0.1 pu[I[j]].2.2.2
        · rw [if_pos e, decide_eq_true (show V.str (sp0.1 pu[I[j]].2.2.1) = V.str (sp0.1 pu[I[j]].2.2.2) from congrArg V.str e)]
          refine iteT ⟨_, rfl, .inl ⟨rfl, _, SqL.of eC⟩, _, rfl, lc, _, _, rfl, rfl, eC, ?_, d, kp, _, _, rfl, by omega, ?_⟩
          · rw [List.length_map]
            exact Nat.lt_of_le_of_lt (show _ ≤ 20 by omega) (by decide)
          · rw [List.map_append, ← e1]
            exact c1.put (i := 0) rfl
        · rw [if_neg e, decide_eq_false (show ¬ V.str (sp0.1 pu[I[j]].2.2.1) = V.str (sp0.1 pu[I[j]].2.2.2) from fun q => e (V.str.inj q))]
          refine iteF ⟨_, rfl, .inl ⟨rfl, _, SqL.of eK⟩, _, rfl, lk, _, _, rfl, rfl, eK, Nat.lt_of_le_of_lt (show _ ≤ 20 by omega) (by decide), ?_⟩
          have c2 : Cel H2 [(lc, .lst (sp0.2.2.map fun i => .ref (pu.getD i puD).1)), (lk, .lst (kp ++ [V.ref pu[I[j]].1]))] _ _ := c1.put (i := 1) rfl
          generalize upd H4 lk (.lst (kp ++ [V.ref pu[I[j]].1])) = H5 at c2 ⊢
          have ed5 := c2.at (p := d) List.mem_cons_self
          dsimp only
          refine ⟨_, rfl, _, rfl, irr ⟨d, _, zs, sp0.1, pu[I[j]].2, rfl, ed5, sp.2.1, by omega, z1, z2, ((pa _ hm1).ext s13).ext c2.sm, fun d2 H6 s6 e6 => ?_⟩⟩
          have c3 := c2.same s6
          refine ⟨d2, _, _, _, rfl, by rw [List.length_append]; exact Nat.succ_le_succ kl, c3.sm, c3.m, c3.md, fun q hq => ?_⟩
          obtain rfl := List.mem_singleton.mp hq
          refine ⟨e6, fun p hp e => ?_⟩
          have := (c3.m p hp).2
          dsimp only at e
          rw [← e, e6] at this
          rcases List.mem_cons.mp hp with rfl | hp
          · cases this
          · obtain rfl := List.mem_singleton.mp hp
            cases this
      · rintro σ H4 ⟨d, kp, o5, o6, rfl, kl, c1⟩
        rw [List.length_map, List.take_of_length_le (Nat.le_refl _)] at c1
        refine ⟨_, rfl, _, rfl, (by show 2 ≤ sizeLine; decide), fun T0 nT0 => ?_⟩
        have s5 : Same H4 (upd H4 T0 (.tup [.ref lk, .ref lc])) := fun b o e => (upd_ne (ne_of_none e nT0)).trans e
        exact k T0 lk lc _ ((s13.trans c1.sm).trans s5) upd_same (s5 _ _ (c1.am List.mem_cons_self))
end
end RV
/-! pipes parted by their prices -/
namespace RV
open PySem L2 TL
section
variable {P : Program} {w : World} {K : PySem.W.Frag} {mg : Str → Option Value} {base : Heap} {CN CP CM : Addr}
theorem ok_byp {f : Addr} {fd : FuncData} (F : Fun K "split_by_price" "split_by_price" s_split_by_price f fd) (T : Blt mg) (T2 : Blt2 mg) (h_np : Prp P w K mg base CN "pipes" 1 (Irr (sp_npi CN))) (h_pn : Prp P w K mg base CP "name" 1 (Irr (sp_pn CP))) (h_split : Fn P w K mg base "split" 5 ["net", "parts"] (Irr (sp_split K CN CP CM))) (h_mat : Fn P w K mg base "meters_at" 3 ["net", "name"] (Irr (sp_mat K CN CP CM))) : FnOk P w K mg base CX0 6 f fd ["net", "prices"] (sp_byp K CN CP CM) := by
  refine F.ok sc_split_by_price (fun vs H Q E h => ?_) (fun cdv A outer s H vs Q E hr h => ?_)
  · obtain ⟨_, _, _, _, _, rfl, _⟩ := h
    rfl
  · obtain ⟨x, t, ps, ms, fees, rfl, nr, eF, fl, p12, m12, k⟩ := h
    refine ⟨_, (pss_cons (ps_set (i := 2) sc_split_by_price.nd rfl (Or.inl rfl) (pe_callB cr_sortedPO (by rfl) T2.b_sorted (by decide +kernel) (pa_cons (pe_lc (own := [("index", 4), ("price", 5)]) (g := gPr K 4 5) (tt := tYes) rfl sc_split_by_price.nd (pi_enumT (by rfl) T2.b_enumerate (pa_cons (pv 1) pa_nil)) (blkOk_by (N := sc_split_by_price_N) (sc := defScope s_split_by_price) (by decide +kernel)) (fun _ _ _ _ _ => pg_tupK (by rfl) (pgs_cons (pg_name (i := 4) sc_split_by_price.nd rfl (Or.inl rfl)) (pgs_cons (pg_name (i := 5) sc_split_by_price.nd rfl (Or.inl rfl)) pgs_nil))) (fun _ _ _ _ _ => pts_nil) (fun _ _ _ _ _ => (pe_tup (pa_cons (pe_un un_neg (pv 5)) (pa_cons (pv 4) pa_nil))))) pa_nil)))
      (pss_cons (ps_setLc (i := 3) (own := [("_", 6), ("index", 4)]) (g := gPr K 6 4) (tt := tYes) rfl sc_split_by_price.nd rfl rfl (sw_true rfl rfl rfl (by decide +kernel)) (pi_list (pv 2)) (blkOk_by (N := sc_split_by_price_N) (sc := defScope s_split_by_price) (by decide +kernel)) (fun _ _ _ _ _ => pg_tupK (by rfl) (pgs_cons (pg_name (i := 6) sc_split_by_price.nd rfl (Or.inl rfl)) (pgs_cons (pg_name (i := 4) sc_split_by_price.nd rfl (Or.inl rfl)) pgs_nil))) (fun _ _ _ _ _ => pts_nil) (fun _ _ _ _ _ => (pe_ix (ix_tupK (K := K)) (pe_propN h_np (hr.mono (by decide)) (pv 0)) (pv 4) (fun _ _ => rfl))))
      (pss_one (ps_ret (pe_fn h_split (hr.mono (by decide)) (pa_cons (pv 0) (pa_cons (pe_lc (own := [("part", 7)]) (g := gName 7) rfl sc_split_by_price.nd (pi_list (pv 3)) (blkOk_by (N := sc_split_by_price_N) (sc := defScope s_split_by_price) (by decide +kernel)) (fun _ _ _ _ _ => pg_name (i := 7) sc_split_by_price.nd rfl (Or.inl rfl)) (fun _ _ _ _ _ => pts_one (pt_not (pt_truthK (K := K) (pe_fn h_mat (hr.mono (by decide)) (pa_cons (pv 0) (pa_cons (pe_propN h_pn (hr.mono (by decide)) (pv 7)) pa_nil))) (by intro _; rfl)))) (fun _ _ _ _ _ => (pv 7))) pa_nil))))))), ?_⟩
    obtain ⟨dx, tp, tm, pu, mu, ex, hp, hm, ep, em⟩ := id nr.ex
    have pul : pu.length = ps.length := by rw [← ep, sn_len]
    refine ⟨_, rfl, t, _, rfl, eF, fun D nD => ?_⟩
    refine L2.lc_it (n := fees.length) (List.length_map (as := fees) V.int ▸ walk_enumT (K := K) (xs := fees.map V.int)) (fun i H' => Same H H' ∧ ∃ us : List Addr, us.length = i ∧ H' D = some (.lst (us.map V.ref)) ∧ ∀ (j : Nat) T, us[j]? = some T → H' T = some (.tup [.int (-(fees.getD j 0)), .int (j : Nat)])) ⟨fun b o e => (upd_ne (ne_of_none e nD)).trans e, [], rfl, upd_same, fun j T h => nomatch h⟩ (fun i H' _ z => eF.ext z.1) ?_ ?_
    · rintro i v Ha Hb hi ⟨s1, us, ul, eD, hus⟩ ⟨T, y, rfl, nT, rfl, hy⟩
      have hz : y = .int (fees.getD i 0) := by
        rw [List.getElem?_map, List.getElem?_eq_getElem hi] at hy
        rw [getD_lt hi]
        exact (Option.some.inj hy).symm
      subst hz
      have e0 : ∀ (σ : L2.St) (H : Hp) (R : Bool → Hp → Prop), R true H → tYes σ H R := fun _ _ _ r => r
      refine ⟨T, _, rfl, SqT.of upd_same, rfl, _, _, rfl, _, _, rfl, ⟨rfl, ⟨rfl, e0 _ _ _ ?_⟩⟩⟩
      simp only [↓reduceIte]
      refine ⟨_, rfl, _, rfl, _, rfl, (by show 2 ≤ sizeLine; decide), fun S nS => ?_⟩
      have s2 : Same Ha (upd Ha T (.tup [.int (i : Nat), .int (fees.getD i 0)])) := fun b o e => (upd_ne (ne_of_none e nT)).trans e
      have s3 : Same (upd Ha T (.tup [.int (i : Nat), .int (fees.getD i 0)])) (upd (upd Ha T (.tup [.int (i : Nat), .int (fees.getD i 0)])) S (.tup [.int (-(fees.getD i 0)), .int (i : Nat)])) := fun b o e => (upd_ne (ne_of_none e nS)).trans e
      have eS : upd (upd Ha T (.tup [.int (i : Nat), .int (fees.getD i 0)])) S (.tup [.int (-(fees.getD i 0)), .int (i : Nat)]) S = some (.tup [.int (-(fees.getD i 0)), .int (i : Nat)]) := upd_same
      have s4 := s2.trans s3
      generalize upd (upd Ha T (.tup [.int (i : Nat), .int (fees.getD i 0)])) S (.tup [.int (-(fees.getD i 0)), .int (i : Nat)]) = H4 at s4 eS ⊢
      have eD4 := s4 _ _ eD
      have nSD : S ≠ D := fun z => by
        rw [z, eD4] at eS
        cases eS
      refine ⟨_, eD4, ?_, fun b o e => (upd_ne (ne_of_none e nD)).trans (s4 _ _ (s1 b o e)), us ++ [S], by rw [List.length_append, ul]; rfl, ?_, fun j T' hT' => ?_⟩
      · rw [List.length_map, ul]
        exact Nat.lt_of_lt_of_le (show i < 13 by omega) (by decide)
      · rw [upd_same, List.map_append]
        rfl
      · rw [List.getElem?_append] at hT'
        split at hT'
        · have h1 := s4 _ _ (hus j T' hT')
          refine (upd_ne ?_).trans h1
          rintro rfl
          rw [eD4] at h1
          cases h1
        · next hge =>
          have : j = i := by
            rcases Nat.lt_or_ge (j - us.length) 1 with h | h
            · omega
            · rw [List.getElem?_eq_none (by simpa using h)] at hT'
              cases hT'
          subst this
          rw [← ul, Nat.sub_self] at hT'
          obtain rfl := Option.some.inj hT'
          exact (upd_ne nSD).trans eS
    · rintro H1 ⟨s1, us, ul, eD, hus⟩
      refine ⟨D, _, kH H1, rfl, SqL.of eD, fun v hv => ?_, fun ys R hs1 hs2 nR => ?_⟩
      · obtain ⟨T, mT, rfl⟩ := List.mem_map.mp hv
        obtain ⟨j, hj⟩ := List.getElem?_of_mem mT
        have := hus j T hj
        exact ⟨T, rfl, by rw [kH_at this]; exact this⟩
      obtain ⟨L, hL, yl, hys⟩ := srt_ord ul hus hs1 hs2
      have Ll : L.length = ps.length := by rw [hL.1.length_eq, List.length_range, fl]
      have Lm : ∀ i ∈ L, i < ps.length := fun i hi => by
        have := hL.1.mem_iff.mp hi
        rw [List.mem_range] at this
        omega
      have s2 : Same H1 (upd H1 R (.lst ys)) := fun b o e => (upd_ne (ne_of_none e nR)).trans e
      have eR : upd H1 R (.lst ys) R = some (.lst ys) := upd_same
      generalize upd H1 R (.lst ys) = H2 at s2 eR ⊢
      have s12 := s1.trans s2
      have nr2 := nr.ext s12
      dsimp only [gName]
      refine ⟨_, rfl, R, rfl, ⟨_, SqL.of eR⟩, fun D2 nD2 => ?_⟩
      refine L2.lc_it (n := ys.length) (walk_list (K := K) (xs := ys)) (fun i H' => Same H2 H' ∧ H' D2 = some (.lst ((L.take i).map fun i => .ref (pu.getD i puD).1))) ⟨fun b o e => (upd_ne (ne_of_none e nD2)).trans e, upd_same⟩ (fun i H' _ z => SqL.of (z.1 _ _ eR)) ?_ ?_
      · rintro i v H3 H4 hi ⟨s3, eD3⟩ ⟨rfl, hv⟩
        have hLi : L[i]? = some (L[i]'(by omega)) := List.getElem?_eq_getElem (by omega)
        obtain ⟨T, hT, eT⟩ := hys i _ hLi
        rw [hv] at hT
        obtain rfl := Option.some.inj hT
        have hk := Lm _ (List.getElem_mem (show i < L.length by omega))
        have atp : atI (rf pu) ((L[i]'(by omega) : Nat) : Int) = some (V.ref (pu.getD (L[i]'(by omega)) puD).1) := atI_nat (by rw [rf, List.getElem?_map, List.getElem?_eq_getElem (by omega), getD_lt (show L[i]'(by omega) < pu.length by omega)]; rfl)
        have s13 := s12.trans s3
        have e0 : ∀ (σ : L2.St) (H : Hp) (R : Bool → Hp → Prop), R true H → tYes σ H R := fun _ _ _ r => r
        refine ⟨T, _, rfl, SqT.of (s3 _ _ (s2 _ _ eT)), rfl, _, _, rfl, _, _, rfl, ⟨rfl, ⟨rfl, e0 _ _ _ ?_⟩⟩⟩
        simp only [↓reduceIte]
        refine ⟨_, rfl, x, dx, _, rfl, s13 _ _ ex, irr ⟨x, dx, tp, tm, rfl, s13 _ _ ex, _, rfl, tp, _, _, _, rfl, rfl, hp.t.ext s13, atp, _, eD3, ?_, fun b o e => (upd_ne (ne_of_none e nD2)).trans (s3 b o e), ?_⟩⟩
        · rw [List.length_map, List.length_take]
          exact Nat.lt_of_le_of_lt (show _ ≤ 12 by omega) (by decide)
        · rw [upd_same, List.take_succ, hLi, List.map_append]
          rfl
      · rintro H3 ⟨s3, eD3⟩
        rw [yl, List.take_of_length_le (Nat.le_refl _)] at eD3
        have s13 := s12.trans s3
        have eD4 : H3 D2 = some (.lst (rf (L.map fun i => pu.getD i puD))) := by rw [eD3, rf, List.map_map]; rfl
        have hput : ∀ u ∈ L.map (fun i => pu.getD i puD), u ∈ pu := fun u hu => by
          obtain ⟨i, hi, rfl⟩ := List.mem_map.mp hu
          have := Lm i hi
          rw [getD_lt (show i < pu.length by omega)]
          exact List.getElem_mem _
        have nr3 := nr.ext s13
        dsimp only [gName]
        refine ⟨_, rfl, _, rfl, D2, rfl, ⟨_, SqL.of eD4⟩, fun D3 nD3 => lc_keep (fun u : PU => decide (onP ms u.2.1 = [])) walk_list nD3 (by rw [List.length_map]; omega) (fun H' s' => SqL.of (s' _ _ eD4)) (fun _ => rfl) (fun u hu H4 s4 R kR => ?_) (fun u hu H4 R kR => ⟨_, rfl, kR⟩) fun H4 s4 eD5 => ?_⟩
        · have s14 := s13.trans s4
          have pa := (hp.o u (hput u hu)).ext s14
          obtain ⟨dp, edp⟩ := id pa
          refine ⟨_, rfl, _, rfl, u.1, dp, _, rfl, edp, irr ⟨u.1, u.2, rfl, pa, irr ⟨x, ps, ms, u.2.1, rfl, nr.ext s14, m12, fun l us2 H5 s5 el _ hon => ⟨!(rf us2).isEmpty, .inl ⟨_, SqL.of el, rfl⟩, ?_⟩⟩⟩⟩
          have hb : (!(!(rf us2).isEmpty)) = decide (onP ms u.2.1 = []) := by
            rw [← hon]
            cases us2 <;> rfl
          show R (!(!(rf us2).isEmpty)) H5
          rw [hb]
          exact kR H5 s5
        · have el : rf ((L.map fun i => pu.getD i puD).filter fun u : PU => decide (onP ms u.2.1 = [])) = (L.filter (barP ps ms)).map fun i => V.ref (pu.getD i puD).1 := by
            rw [List.filter_map, rf, List.map_map]
            refine congrArg (List.map _) (List.filter_congr fun i hi => ?_)
            have hk := Lm i hi
            obtain ⟨a1, _, _, a4⟩ := pu_at (show i < pu.length by omega)
            show decide (onP ms (pu.getD i puD).2.1 = []) = _
            rw [a1, barP]
            exact congrArg (fun z => decide (onP ms z = [])) (a4.symm.trans (congrArg (pN · i) ep))
          rw [el] at eD5
          have s14 := s13.trans s4
          have fil := List.length_filter_le (barP ps ms) L
          refine irr ⟨x, D3, pu, ms, _, rfl, by rw [ep]; exact nr.ext s14, by omega, fun u hu => (hp.o u hu).ext s14, eD5, by omega, fun i hi => by have := Lm i (List.mem_filter.mp hi).1; omega, fun tt lk lc H5 s5 et ec => ?_⟩
          rw [ep] at ec
          exact k tt lk lc pu L H5 (s14.trans s5) hL ep (fun u hu => (hp.o u hu).ext (s14.trans s5)) et ec
end
end RV
/-! the cheapest pipes -/
namespace RV
open PySem L2 TL
theorem splitI_sub {ps : List P3} : ∀ {I : List Nat} {c : Nat}, c ∈ (splitI ps I).2.2 → c ∈ I := by
  have rev : ∀ (J : List Nat) (c : Nat), c ∈ (splitI ps J.reverse).2.2 → c ∈ J.reverse := by
    intro J
    induction J with
    | nil => exact fun c h => nomatch h
    | cons p J ih =>
      intro c h
      rw [List.reverse_cons] at h ⊢
      rw [splitI_snoc, stpI] at h
      split at h
      · rcases List.mem_append.mp h with z | z
        · exact List.mem_append_left _ (ih c z)
        · exact List.mem_append_right _ z
      · exact List.mem_append_left _ (ih c h)
  intro I c h
  have := rev I.reverse c
  rw [List.reverse_reverse] at this
  exact this h
theorem splitI_len {ps : List P3} : ∀ {I : List Nat}, (splitI ps I).2.2.length ≤ I.length := by
  have rev : ∀ (J : List Nat), (splitI ps J.reverse).2.2.length ≤ J.reverse.length := by
    intro J
    induction J with
    | nil => exact Nat.le_refl _
    | cons p J ih =>
      rw [List.reverse_cons, splitI_snoc, stpI, List.length_append, List.length_singleton]
      split
      · rw [List.length_append, List.length_singleton]
        exact Nat.succ_le_succ ih
      · exact Nat.le_succ_of_le ih
  intro I
  have := rev I.reverse
  rwa [List.reverse_reverse] at this
section
variable {P : Program} {w : World} {K : PySem.W.Frag} {mg : Str → Option Value} {base : Heap} {CN CP CM : Addr}
theorem ok_cheap {f : Addr} {fd : FuncData} (F : Fun K "cheapest" "cheapest" s_cheapest f fd) (T2 : Blt2 mg) (h_chkn : Fn P w K mg base "check_net" 1 ["net"] (Irr (sp_chkn K CN CP CM))) (h_chkpr : Fn P w K mg base "check_prices" 3 ["net", "prices"] (Irr (sp_chkpr K CN CP CM))) (h_byp : Fn P w K mg base "split_by_price" 6 ["net", "prices"] (Irr (sp_byp K CN CP CM))) (h_pn : Prp P w K mg base CP "name" 1 (Irr (sp_pn CP))) : FnOk P w K mg base CX0 7 f fd ["net", "prices"] (sp_cheap K CN CP CM) := by
  refine F.ok sc_cheapest (fun vs H Q E h => ?_) (fun cdv A outer s H vs Q E hr h => ?_)
  · obtain ⟨_, _, _, _, _, rfl, _⟩ := h
    rfl
  · obtain ⟨x, t, ps, ms, fees, rfl, nr, eF, fl, p12, m12, f0, k⟩ := h
    refine ⟨_, (pss_cons (ps_expr (pe_fn h_chkn (hr.mono (by decide)) (pa_cons (pv 0) pa_nil)))
      (pss_cons (ps_expr (pe_fn h_chkpr (hr.mono (by decide)) (pa_cons (pv 0) (pa_cons (pv 1) pa_nil))))
      (pss_one (ps_ret (pe_callTy call_tuple_of (by rfl) T2.b_tuple (by decide +kernel) (pa_cons (pe_callB cr_sortedS (by rfl) T2.b_sorted (by decide +kernel) (pa_cons (pe_lc (own := [("part", 2)]) (g := gName 2) (tt := tYes) rfl sc_cheapest.nd (pi_list (pe_ix ix_tup (pe_fn h_byp (hr.mono (by decide)) (pa_cons (pv 0) (pa_cons (pv 1) pa_nil))) pe_int (fun _ _ => rfl))) (blkOk_by (N := sc_cheapest_N) (sc := defScope s_cheapest) (by decide +kernel)) (fun _ _ _ _ _ => pg_name (i := 2) sc_cheapest.nd rfl (Or.inl rfl)) (fun _ _ _ _ _ => pts_nil) (fun _ _ _ _ _ => (pe_propN h_pn (hr.mono (by decide)) (pv 2)))) pa_nil)) pa_nil)))))), ?_⟩
    refine ⟨_, rfl, irr ⟨x, ps, ms, rfl, nr, _, rfl, _, rfl, irr ⟨x, t, ps, ms, fees, rfl, nr, eF, fl, f0, fun H1 s1 => ?_⟩⟩⟩
    refine ⟨_, rfl, _, rfl, irr ⟨x, t, ps, ms, fees, rfl, nr.ext s1, eF.ext s1, fl, p12, m12, fun tt lk lc pu L H2 s2 hL ep hp et ec => ?_⟩⟩
    have Lm : ∀ i ∈ L, i < ps.length := fun i hi => by
      have := hL.1.mem_iff.mp hi
      rw [List.mem_range] at this
      omega
    have pul : pu.length = ps.length := by rw [← ep, sn_len]
    have s12 := s1.trans s2
    have cl : (splitI ps (L.filter (barP ps ms))).2.2.length ≤ 12 := by
      have a := splitI_len (ps := ps) (I := L.filter (barP ps ms))
      have b := List.length_filter_le (barP ps ms) L
      have c := hL.1.length_eq
      rw [List.length_range] at c
      omega
    have cm : ∀ i ∈ (splitI ps (L.filter (barP ps ms))).2.2, i < ps.length := fun i hi => Lm i (List.mem_filter.mp (splitI_sub hi)).1
    refine ⟨tt, _, 1, _, rfl, rfl, SqT.of et, rfl, lc, rfl, ⟨_, SqL.of ec⟩, fun D nD => lc_to (((splitI ps (L.filter (barP ps ms))).2.2.map (pN ps)).map V.str) (by rw [List.length_map, List.length_map, List.length_map]) walk_list nD (by rw [List.length_map]; omega) (fun H' s' => SqL.of (s' _ _ ec)) (fun _ => rfl) (fun j v y hv hy H3 s3 R kR => ?_) fun H3 s3 eD => ?_⟩
    · rw [List.getElem?_map] at hv
      rw [List.getElem?_map, List.getElem?_map] at hy
      cases e : (splitI ps (L.filter (barP ps ms))).2.2[j]? with
      | none => rw [e] at hv; cases hv
      | some i =>
        rw [e] at hv hy
        obtain rfl := Option.some.inj hv
        obtain rfl := Option.some.inj hy
        have hk := cm i (List.mem_of_getElem? e)
        obtain ⟨a1, _, _, a4⟩ := pu_at (show i < pu.length by omega)
        have pa := (hp _ (List.getElem_mem (show i < pu.length by omega))).ext s3
        obtain ⟨dp, edp⟩ := id pa
        dsimp only
        rw [a1]
        refine ⟨_, rfl, _, dp, _, rfl, edp, irr ⟨_, _, rfl, pa, ?_⟩⟩
        have en : pu[i].2.1 = pN ps i := a4.symm.trans (congrArg (pN · i) ep)
        rw [en]
        exact kR H3 (Same.refl _)
    · refine ⟨D, _, rfl, SqL.of eD, by rw [List.length_map]; omega, fun ys p pm as np => ⟨p, _, rfl, .inl ⟨SqL.of upd_same, fun l nl => ?_⟩⟩⟩
      have s4 : Same H3 (upd H3 p (.lst (ys.map V.str))) := fun b o e => (upd_ne (ne_of_none e np)).trans e
      have s5 : Same (upd H3 p (.lst (ys.map V.str))) (upd (upd H3 p (.lst (ys.map V.str))) l (.tup (ys.map V.str))) := fun b o e => (upd_ne (ne_of_none e nl)).trans e
      exact k l L ys _ (s12.trans (s3.trans (s4.trans s5))) hL pm as upd_same
end
end RV
/-! k61: the cheapest pipes are right. -/
namespace RV
open PySem L2 TL
theorem mt_indexK {X : Cx} {K : PySem.W.Frag} (h : X.K = K := by rfl) : MtR X "list.index" (rIndex K) := h ▸ mt_index
/-- the scope of the comprehension over the chosen pipes -/
abbrev scL : Scope := { kind := .function, names := [(".0", .local), ("_law_left", .cell), ("_law_open", .globalImplicit), ("_law_plan_here", .cell), ("_law_spots", .cell)], isGenerator := false, isCoroutine := false }
theorem cmul_of (q : Nat) : CMul (q : Int) 3 := .inr ⟨by decide, by decide⟩
def sp_right61 : Sp := fun vs H Q _ => ∃ (a : Addr) (n : Nat), vs = [.ref a] ∧ WellAt H a n ∧ n ≤ 100 ∧ ∀ H', Grow a H H' → Q (.bl true) H'
section
variable {P : Program} {w : World} {K : PySem.W.Frag} {mg : Str → Option Value} {base : Heap} {CN CP CM : Addr}
theorem ok_right61 {f : Addr} {fd : FuncData} (F : Fun K "_law_right" "_law_right" s_right f fd) (T : Blt mg) (T2 : Blt2 mg) (b_list : mg "list" = none) (NC : NClass K mg CN)
    (h_take : Fn P w K mg base "_law_take" 1 ["_law_spring_here", "_law_many"] (Irr sp_dip)) (h_plan : Fn P w K mg base "_law_plan" 3 ["_law_spring_here", "_law_tubes", "_law_gauges"] (Irr sp_plan)) (h_grid : Fn P w K mg base "_law_grid" 1 ["_law_plan_here"] (Irr sp_grid))
    (h_least : Fn P w K mg base "_law_least" 4 ["_law_plan_here", "_law_fees"] (Irr (sp_least K))) (h_open : Fn P w K mg base "_law_open" 3 ["_law_plan_here", "_law_chosen"] (Irr (sp_open K)))
    (h_cheapest : Fn P w K mg base "cheapest" 7 ["net", "prices"] (Irr (sp_cheap K CN CP CM))) (h_cheapestK : FnKd P w K mg base "cheapest" 7 ["prices", "net"] (Irr (sp_cheap K CN CP CM)) gPN)
    (h_str : OwnM P w K mg base CN "__str__" 5 (Irr (sp_nstr K CN CP CM))) (h_read : ClsM P w K mg base CN "read" 8 ["cls", "text"] (Irr (sp_nread K CN CP CM))) : FnG P w K mg base 9 f fd ["_law_spring_here"] sp_right61 := by
  refine gFun F sc_right (fun vs H Q E h => ?_) (fun cdv A outer s H vs Q E gs hr h => ?_)
  · obtain ⟨_, _, rfl, _⟩ := h
    rfl
  · obtain ⟨a, n, rfl, wl, hn, k⟩ := h
    refine ⟨_, (pss_cons (ps_set (i := 1) sc_right.nd rfl (Or.inr rfl) (pe_fn h_plan (hr.mono (by decide)) (pa_cons (pv 0) (pa_cons pe_int (pa_cons (pe_op op_mul (pe_fn h_take (hr.mono (by decide)) (pa_cons (pv 0) (pa_cons pe_int pa_nil))) pe_int) pa_nil)))))
      (pss_cons (ps_asg (pe_tup (pa_cons (pe_fn h_take (hr.mono (by decide)) (pa_cons (pv 0) (pa_cons pe_int pa_nil))) (pa_cons (pe_lst pa_nil) pa_nil))) (pg_tup (by rfl) (pgs_cons (pg_name (i := 2) sc_right.nd rfl (Or.inl rfl)) (pgs_cons (pg_name (i := 3) sc_right.nd rfl (Or.inr rfl)) pgs_nil))))
      (pss_cons (ps_for PassesOwn.never rfl (pi_list (pe_ix ix_list (pv 1) pe_int (fun _ _ => rfl))) (pg_name (i := 4) sc_right.nd rfl (Or.inl rfl)) (pss_one (ps_expr (pe_bm PySem.F.plainAttrs_list PySem.F.slot_list_append PySem.F.type_list_append mt_append (pv 3) (pa_cons (pe_ifExp (pt_cmpR op_eq (pv 2) pe_int (nomark _)) (pe_op op_add (pe_ix ix_list (pe_lst (pa_cons pe_int (pa_cons (pe_op op_pow pe_int pe_int) pa_nil))) (pe_fn h_take (hr.mono (by decide)) (pa_cons (pv 0) (pa_cons pe_int pa_nil))) (fun _ _ => rfl)) (pe_fn h_take (hr.mono (by decide)) (pa_cons (pv 0) (pa_cons pe_int pa_nil)))) (pe_fn h_take (hr.mono (by decide)) (pa_cons (pv 0) (pa_cons pe_int pa_nil)))) pa_nil)))))
      (pss_cons (ps_asg (pe_tup (pa_cons (pe_cm h_read (hr.mono (by decide)) (pe_gC NC.k) (pa_cons (pe_fn h_grid (hr.mono (by decide)) (pa_cons (pv 1) pa_nil)) pa_nil)) (pa_cons (pe_lc (own := [("_law_one", 4)]) (g := gName 4) (tt := tYes) rfl sc_right.nd (pi_list (pe_ix ix_list (pv 1) pe_int (fun _ _ => rfl))) (blkOk_by (N := sc_right_N) (sc := defScope s_right) (by decide +kernel)) (fun _ _ _ _ _ => pg_name (i := 4) sc_right.nd rfl (Or.inl rfl)) (fun _ _ _ _ _ => pts_nil) (fun _ _ _ _ _ => (pe_ix (ix_tupK (K := K)) (pv 4) pe_int (fun _ _ => rfl)))) pa_nil))) (pg_tup (by rfl) (pgs_cons (pg_name (i := 5) sc_right.nd rfl (Or.inl rfl)) (pgs_cons (pg_name (i := 6) sc_right.nd rfl (Or.inr rfl)) pgs_nil))))
      (pss_cons (ps_asg (pe_tup (pa_cons (pe_lc (own := [("_law_one", 4)]) (g := gName 4) (tt := tYes) rfl sc_right.nd (pi_list (pe_ix ix_list (pv 1) pe_int (fun _ _ => rfl))) (blkOk_by (N := sc_right_N) (sc := defScope s_right) (by decide +kernel)) (fun _ _ _ _ _ => pg_name (i := 4) sc_right.nd rfl (Or.inl rfl)) (fun _ _ _ _ _ => pts_nil) (fun _ _ _ _ _ => (pe_ix (ix_tupK (K := K)) (pv 4) pe_int (fun _ _ => rfl)))) (pa_cons (pe_fn h_least (hr.mono (by decide)) (pa_cons (pv 1) (pa_cons (pv 3) pa_nil))) pa_nil))) (pg_tup (by rfl) (pgs_cons (pg_name (i := 7) sc_right.nd rfl (Or.inr rfl)) (pgs_cons (pg_name (i := 8) sc_right.nd rfl (Or.inl rfl)) pgs_nil))))
      (pss_cons (ps_for PassesOwn.never rfl (pi_list (pe_lst (pa_cons (pe_fn h_cheapest (hr.mono (by decide)) (pa_cons (pv 5) (pa_cons (pe_callTy call_tuple_of (by rfl) T2.b_tuple (by decide +kernel) (pa_cons (pv 3) pa_nil)) pa_nil))) (pa_cons (pe_fnK0 h_cheapestK (hr.mono (by decide)) (pk_cons (pe_callTy call_tuple_of (by rfl) T2.b_tuple (by decide +kernel) (pa_cons (pv 3) pa_nil)) (pk_cons (pv 5) pk_nil))) pa_nil)))) (pg_name (i := 9) sc_right.nd rfl (Or.inl rfl)) (pss_cons (ps_if (PW.pt (pw_or (pt_not (pt_val (pe_callB call_isi (by rfl) T.b_isinstance (by decide +kernel) (pa_cons (pv 9) (pa_cons (pe_bltn (v := .ty "tuple") (by rfl) T2.b_tuple (by decide +kernel) rfl) pa_nil))))) (pw_or1 (pt_not (pt_val (pe_callB (cr_all rfl) (by rfl) T.b_all (by decide +kernel) (pa_cons (pe_lc (own := [("_law_one", 4)]) (g := gName 4) (tt := tYes) rfl sc_right.nd (pi_tup (pv 9)) (blkOk_by (N := sc_right_N) (sc := defScope s_right) (by decide +kernel)) (fun _ _ _ _ _ => pg_name (i := 4) sc_right.nd rfl (Or.inl rfl)) (fun _ _ _ _ _ => pts_nil) (fun _ _ _ _ _ => (pe_cmpR (op_inK (K := K)) (pv 4) (pv 6) (by rfl)))) pa_nil))))))) (pss_one (ps_ret pe_bl)) pss_nil) (pss_cons (ps_set (i := 10) sc_right.nd rfl (Or.inr rfl) (pe_lc (own := [("_law_one", 4)]) (g := gName 4) (tt := tYes) rfl sc_right.nd (pi_tup (pv 9)) (blkOk_by (N := sc_right_N) (sc := defScope s_right) (by decide +kernel)) (fun _ _ _ _ _ => pg_name (i := 4) sc_right.nd rfl (Or.inl rfl)) (fun _ _ _ _ _ => pts_nil) (fun _ _ _ _ _ => (pe_bmL (K := K) rfl PySem.F.plainAttrs_list PySem.F.slot_list_index PySem.F.type_list_index mt_indexK (pv 6) (pa_cons (pv 4) pa_nil))))) (pss_cons (ps_if (PW.pt (pw_or (pt_cmpR (op_neD hr.units) (pe_callTy call_list_of (by rfl) b_list (by decide +kernel) (pa_cons (pv 9) pa_nil)) (pe_callB (cr_sortS rfl) (by rfl) T2.b_sorted (by decide +kernel) (pa_cons (pe_callTy (cr_setST rfl) (by rfl) T2.b_set (by decide +kernel) (pa_cons (pv 9) pa_nil)) pa_nil)) (nomark _)) (pw_or (pt_val (pe_callB (cr_any rfl) (by rfl) T.b_any (by decide +kernel) (pa_cons (pe_lc (own := [("_law_k", 11)]) (g := gName 11) (tt := tYes) rfl sc_right.nd (pi_list (pv 10)) (blkOk_by (N := sc_right_N) (sc := defScope s_right) (by decide +kernel)) (fun _ _ _ _ _ => pg_name (i := 11) sc_right.nd rfl (Or.inl rfl)) (fun _ _ _ _ _ => pts_nil) (fun _ _ _ _ _ => (pe_cmpR (op_inK (K := K)) (pv 11) (pv 7) (by rfl)))) pa_nil))) (pw_or1 (pt_val (pe_fn h_open (hr.mono (by decide)) (pa_cons (pv 1) (pa_cons (pv 10) pa_nil)))))))) (pss_one (ps_ret pe_bl)) pss_nil) (pss_cons (ps_if (pt_not (pt_val (pe_callB (cr_all rfl) (by rfl) T.b_all (by decide +kernel) (pa_cons (pe_lc (own := [("_law_left", 12)]) (g := gName 12) (tt := tYes) rfl sc_right.nd (pi_list (pv 10)) (blkOk_by (N := sc_right_N) (sc := defScope s_right) (by decide +kernel)) (fun _ _ _ _ _ => pg_name (i := 12) sc_right.nd rfl (Or.inr rfl)) (fun _ _ _ _ _ => pts_nil) (fun _ _ _ _ _ => (pe_fn h_open (hr.mono (by decide)) (pa_cons (pv 1) (pa_cons (pe_lc (own := [("_law_k", 11)]) (g := gName 11) rfl sc_right.nd (pi_listK (K := K) (pv 10)) (by refine blkOk_by (N := sc_right_N) (sc := scL) ?_; decide +kernel) (fun _ _ _ _ _ => pg_name (i := 11) sc_right.nd rfl (Or.inl rfl)) (fun _ _ _ _ _ => pts_one (pt_cmpR op_ne (pv 11) (pv 12) (nomark _))) (fun _ _ _ _ _ => (pv 11))) pa_nil))))) pa_nil)))) (pss_one (ps_ret pe_bl)) pss_nil) (pss_one (ps_if (pt_cmpR op_ne (pe_callB (cr_sum rfl) (by rfl) T2.b_sum (by decide +kernel) (pa_cons (pe_lc (own := [("_law_k", 11)]) (g := gName 11) (tt := tYes) rfl sc_right.nd (pi_list (pv 10)) (blkOk_by (N := sc_right_N) (sc := defScope s_right) (by decide +kernel)) (fun _ _ _ _ _ => pg_name (i := 11) sc_right.nd rfl (Or.inl rfl)) (fun _ _ _ _ _ => pts_nil) (fun _ _ _ _ _ => (pe_ix (ix_listK (K := K)) (pv 3) (pv 11) (fun _ _ => rfl)))) pa_nil)) (pv 8) (nomark _)) (pss_one (ps_ret pe_bl)) pss_nil)))))))
      (pss_one (ps_ret (pe_cmpR op_eq (pe_callTy (call_strO h_str (hr.mono (by decide))) (by rfl) T.b_str (by decide +kernel) (pa_cons (pv 5) pa_nil)) (pe_fn h_grid (hr.mono (by decide)) (pa_cons (pv 1) pa_nil)) (nomark _)))))))))), ?_⟩
    have b0 := Bag.start wl
    refine ⟨_, rfl, _, rfl, b0.dip (by omega) (by decide) (by decide) fun r H1 r0 r1 b1 => ?_⟩
    obtain ⟨q, rfl⟩ := Int.eq_ofNat_of_zero_le r0
    refine ⟨_, _, rfl, rfl, cmul_of q, ?_⟩
    dsimp only
    rw [show (q : Int) * 3 = ((q * 3 : Nat) : Int) by omega]
    refine irr ⟨a, _, 7, q * 3, rfl, b1.well, by omega, by decide, by decide, by omega, fun l lp lq lg pl pu gu H2 b2 ok => ?_⟩
    have g1 : Grow a H H1 := b1.gr
    have md2 : MdAt H2 l ⟨pl, sn pu, sn gu⟩ := ⟨lp, lq, lg, pu, gu, rfl, rfl, fun p hp => b2.at hp⟩
    have ul : pu.length = (sn pu).length := (sn_len ..).symm
    have u7 : (sn pu).length ≤ 7 := ok.qm
    dsimp only [gName]
    refine ⟨_, rfl, b2.dip (by omega) (by decide) (by decide) fun wy H3 _ _ b3 => ⟨by decide, fun fl nfl => ⟨by show 2 ≤ sizeLine; decide, fun T0 nT0 => ⟨T0, _, rfl, SqT.of upd_same, rfl, _, _, rfl, _, _, rfl, rfl, ?_⟩⟩⟩⟩
    have b4 := ((b3.newM (o := .lst []) nfl).new (o := .tup [.int wy, .ref fl]) nT0).sub (F' := lM l lp lq lg pl pu gu) fun p hp => List.mem_cons_of_mem _ hp
    generalize upd (upd H3 fl (.lst [])) T0 (.tup [.int wy, .ref fl]) = H4 at b4 ⊢
    have ekl : (l, HO.lst [.ref lp, .ref lq, .ref lg]) ∈ lM l lp lq lg pl pu gu := List.mem_cons_self
    have ekq : (lq, HO.lst (rf pu)) ∈ lM l lp lq lg pl pu gu := List.mem_cons_of_mem _ (List.mem_cons_of_mem _ List.mem_cons_self)
    dsimp only
    refine ⟨_, rfl, l, _, 1, _, rfl, rfl, SqL.of (b4.at ekl), rfl, lq, rfl, ⟨_, SqL.of (b4.at ekq)⟩, for_list (xs := rf pu) (fun i σ H' => ∃ (fees : List Int) (o4 o5 o6 o7 o8 o9 o10 o11 o12 : Option V), σ = [some (.ref a), some (.ref l), some (.int wy), some (.ref fl), o4, o5, o6, o7, o8, o9, o10, o11, o12] ∧ fees.length = i ∧ (∀ f ∈ fees, 0 ≤ f) ∧ Bag H1 a (n + 1 + 2000 + 1 + 3 * i) [(fl, .lst (fees.map V.int))] (lM l lp lq lg pl pu gu) H') ⟨[], _, _, _, _, _, _, _, _, _, rfl, rfl, (fun _ h => nomatch h), b4⟩ (fun i σ H' _ z => ?_) ?_ ?_⟩
    · obtain ⟨_, _, _, _, _, _, _, _, _, _, _, _, _, b⟩ := z
      exact SqL.of (b.at ekq)
    · rintro i v σ H5 hv ⟨fees, o4, o5, o6, o7, o8, o9, o10, o11, o12, rfl, fll, f0, b5⟩
      dsimp only [gName]
      refine ⟨_, rfl, .inl ⟨rfl, _, SqL.of (b5.am List.mem_cons_self)⟩, _, rfl, rfl, _, rfl, ?_⟩
      have hi : i < pu.length := by
        rcases Nat.lt_or_ge i (rf pu).length with h | h
        · rwa [rf_len] at h
        · rw [List.getElem?_eq_none h] at hv
          cases hv
      have ends : ∀ (z : Int) (H6 : Hp), 0 ≤ z → Bag H1 a (n + 1 + 2000 + 1 + 3 * i + 3) [(fl, .lst (fees.map V.int))] (lM l lp lq lg pl pu gu) H6 → (fees ++ [z]).length = i + 1 ∧ (∀ f ∈ fees ++ [z], 0 ≤ f) ∧ Bag H1 a (n + 1 + 2000 + 1 + 3 * (i + 1)) [(fl, .lst ((fees ++ [z]).map V.int))] (lM l lp lq lg pl pu gu) (upd H6 fl (.lst (fees.map V.int ++ [.int z]))) := fun z H6 hz b6 => by
        refine ⟨by rw [List.length_append, fll]; rfl, fun f hf => ?_, ?_⟩
        · rcases List.mem_append.mp hf with h | h
          · exact f0 f h
          · rw [List.mem_singleton.mp h]
            exact hz
        · rw [List.map_append]
          exact b6.put0
      have sz : (fees.map V.int).length < sizeLine := by
        rw [List.length_map, fll]
        exact Nat.lt_of_lt_of_le (show i < 8 by omega) (by decide)
      by_cases e : wy = 0
      · rw [decide_eq_true (show V.int wy = V.int 0 from congrArg V.int e)]
        refine iteT ⟨_, _, rfl, rfl, ⟨by decide, by decide, by decide⟩, by decide, fun L nL => ?_⟩
        have b6 := b5.new (o := .lst [.int 0, .int (10 ^ (30 : Int).toNat)]) nL
        refine ⟨_, rfl, b6.dip (by omega) (by decide) (by decide) fun r6 H7 r0 r1 b7 => ?_⟩
        have hx : ∃ x0 : Int, 0 ≤ x0 ∧ atI [V.int 0, V.int (10 ^ (30 : Int).toNat)] r6 = some (.int x0) := by
          rcases (show r6 = 0 ∨ r6 = 1 by omega) with rfl | rfl
          · exact ⟨0, by decide, rfl⟩
          · exact ⟨_, by decide, rfl⟩
        obtain ⟨x0, hx0, ex0⟩ := hx
        refine ⟨L, _, r6, _, rfl, rfl, SqL.of (b7.at List.mem_cons_self), ex0, _, rfl, b7.dip (by omega) (by decide) (by decide) fun r8 H8 r80 _ b8 => ?_⟩
        have b9 := (b8.sub (F' := lM l lp lq lg pl pu gu) fun p hp => List.mem_cons_of_mem _ hp).wm (m := n + 1 + 2000 + 1 + 3 * i + 3) (by omega)
        obtain ⟨z1, z2, z3⟩ := ends (x0 + r8) H8 (by omega) b9
        exact ⟨_, _, rfl, rfl, fl, _, _, rfl, rfl, b9.am List.mem_cons_self, sz, _, _, _, _, _, _, _, _, _, _, rfl, z1, z2, z3⟩
      · rw [decide_eq_false (show ¬ V.int wy = V.int 0 from fun q => e (V.int.inj q))]
        refine iteF ⟨_, rfl, b5.dip (by omega) (by decide) (by decide) fun r8 H8 r80 _ b8 => ?_⟩
        have b9 := b8.wm (m := n + 1 + 2000 + 1 + 3 * i + 3) (by omega)
        obtain ⟨z1, z2, z3⟩ := ends r8 H8 r80 b9
        exact ⟨fl, _, _, rfl, rfl, b9.am List.mem_cons_self, sz, _, _, _, _, _, _, _, _, _, _, rfl, z1, z2, z3⟩
    · rintro σ H5 ⟨fees, o4, o5, o6, o7, o8, o9, o10, o11, o12, rfl, fll, f0, b5⟩
      have b6 := b5.frz
      have gr5 := g1.trans b6.gr
      rw [rf_len] at fll
      have md5 : MdAt H5 l ⟨pl, sn pu, sn gu⟩ := ⟨lp, lq, lg, pu, gu, rfl, rfl, fun p hp => b6.at (List.mem_cons_of_mem _ hp)⟩
      have eF5 : H5 fl = some (.lst (fees.map V.int)) := b6.at List.mem_cons_self
      have eL5 : H5 l = some (.lst [.ref lp, .ref lq, .ref lg]) := b6.at (List.mem_cons_of_mem _ ekl)
      have eQ5 : H5 lq = some (.lst (rf pu)) := b6.at (List.mem_cons_of_mem _ ekq)
      have eG5 : H5 lg = some (.lst (rf gu)) := b6.at (List.mem_cons_of_mem _ (List.mem_cons_of_mem _ (List.mem_cons_of_mem _ (List.mem_cons_of_mem _ List.mem_cons_self))))
      have ep5 : ∀ u ∈ pu, H5 u.1 = some (oQ u.2) := fun u hu => b6.at (List.mem_cons_of_mem _ (List.mem_cons_of_mem _ (List.mem_cons_of_mem _ (List.mem_cons_of_mem _ (List.mem_cons_of_mem _ (List.mem_append_left _ (List.mem_map.mpr ⟨u, hu, rfl⟩)))))))
      have eg5 : ∀ u ∈ gu, H5 u.1 = some (oG u.2) := fun u hu => b6.at (List.mem_cons_of_mem _ (List.mem_cons_of_mem _ (List.mem_cons_of_mem _ (List.mem_cons_of_mem _ (List.mem_cons_of_mem _ (List.mem_append_right _ (List.mem_map.mpr ⟨u, hu, rfl⟩)))))))
      clear b6 b5 b4 b3 b2 b1 b0 md2
      have gl : gu.length = (sn gu).length := (sn_len ..).symm
      have gl6 : (sn gu).length ≤ q * 3 := ok.gm
      obtain ⟨M, eM⟩ : ∃ M : Mod, M = ⟨pl, sn pu, sn gu⟩ := ⟨_, rfl⟩
      have eqs : M.qs = sn pu := by rw [eM]
      have egs : M.gs = sn gu := by rw [eM]
      rw [← eM] at md5 ok
      have fq : fees.length = M.qs.length := by rw [eqs, fll, ul]
      have qln : M.ps.length = M.qs.length := by rw [Mod.ps, List.length_map]
      have mln : M.ms.length = M.gs.length := by rw [Mod.ms, List.length_map]
      have po := ok.po (by decide)
      have mo := ok.mo (by omega)
      clear eM
      dsimp only
      refine ⟨rfl, _, rfl, irr ⟨l, M, 7, q * 3, rfl, md5, ok, by decide, by omega, fun H6 s6 => irr ⟨M.ps, M.ms, rfl, po, mo, fun x H7 s7 nr => ?_⟩⟩⟩
      have s57 := s6.trans s7
      refine ⟨_, rfl, l, _, 1, _, rfl, rfl, SqL.of (s57 _ _ eL5), rfl, lq, rfl, ⟨_, SqL.of (s57 _ _ eQ5)⟩, fun D1 nD1 => lc_to (xs := rf pu) ((M.qs.map (·.1)).map V.str) (by rw [List.length_map, List.length_map, rf_len, eqs, ul]) walk_list nD1 (by rw [rf_len]; omega) (fun H' s' => SqL.of (s' _ _ (s57 _ _ eQ5))) (fun _ => rfl) (fun j v y hv hy H8 s8 R kR => ?_) fun H8 s8 eD1 => ?_⟩
      · obtain ⟨u, hu, rfl⟩ := rf_get hv
        have hs := sn_get hu
        rw [← eqs] at hs
        rw [List.getElem?_map, List.getElem?_map, hs] at hy
        obtain rfl := Option.some.inj hy
        exact ⟨_, rfl, u.1, _, 0, _, rfl, rfl, SqT.of (s8 _ _ (s57 _ _ (ep5 u (List.mem_of_getElem? hu)))), rfl, kR H8 (Same.refl _)⟩
      refine ⟨by show 2 ≤ sizeLine; decide, fun T1 nT1 => ⟨T1, _, rfl, SqT.of upd_same, rfl, _, _, rfl, _, _, rfl, rfl, ?_⟩⟩
      have s89 : Same H8 (upd H8 T1 (.tup [.ref x, .ref D1])) := fun b o e => (upd_ne (ne_of_none e nT1)).trans e
      generalize upd H8 T1 (.tup [.ref x, .ref D1]) = H9 at s89 ⊢
      have s59 := (s57.trans s8).trans s89
      have eT9 := s89 _ _ eD1
      have nr9 := nr.ext (s8.trans s89)
      clear s89 nT1 eD1 nD1
      dsimp only
      refine ⟨_, rfl, l, _, 2, _, rfl, rfl, SqL.of (s59 _ _ eL5), rfl, lg, rfl, ⟨_, SqL.of (s59 _ _ eG5)⟩, fun D2 nD2 => lc_to (xs := rf gu) ((metL M).map vI) (by rw [List.length_map, metL, List.length_map, rf_len, egs, gl]) walk_list nD2 (by rw [rf_len]; omega) (fun H' s' => SqL.of (s' _ _ (s59 _ _ eG5))) (fun _ => rfl) (fun j v y hv hy H10 s10 R kR => ?_) fun H10 s10 eD2 => ?_⟩
      · obtain ⟨u, hu, rfl⟩ := rf_get hv
        have hs := sn_get hu
        rw [← egs] at hs
        rw [List.getElem?_map, metL, List.getElem?_map, hs] at hy
        obtain rfl := Option.some.inj hy
        exact ⟨_, rfl, u.1, _, 1, _, rfl, rfl, SqT.of (s10 _ _ (s59 _ _ (eg5 u (List.mem_of_getElem? hu)))), rfl, kR H10 (Same.refl _)⟩
      have s510 := s59.trans s10
      refine ⟨_, rfl, _, rfl, irr ⟨l, fl, M, 7, q * 3, fees, rfl, md5.ext s510, ok, by decide, by omega, SqL.of (s510 _ _ eF5), fq, fun lv H11 s11 lex lle => ?_⟩⟩
      refine ⟨by show 2 ≤ sizeLine; decide, fun T2 nT2 => ⟨T2, _, rfl, SqT.of upd_same, rfl, _, _, rfl, _, _, rfl, rfl, ?_⟩⟩
      have s1112 : Same H11 (upd H11 T2 (.tup [.ref D2, .int lv])) := fun b o e => (upd_ne (ne_of_none e nT2)).trans e
      generalize upd H11 T2 (.tup [.ref D2, .int lv]) = H12 at s1112 ⊢
      have s912 := (s10.trans s11).trans s1112
      have s512 := s59.trans s912
      have eT12 := s912 _ _ eT9
      have eM12 := s1112 _ _ (s11 _ _ eD2)
      have nr12 := nr9.ext s912
      clear s1112 nT2 eD2 nD2 s11 s10 s510
      dsimp only
      have eF12 := s512 _ _ eF5
      refine ⟨_, rfl, _, rfl, fl, _, rfl, .inl ⟨SqL.of eF12, fun t1 nt1 => ?_⟩⟩
      have s13 : Same H12 (upd H12 t1 (.tup (fees.map V.int))) := fun b o e => (upd_ne (ne_of_none e nt1)).trans e
      refine irr ⟨x, t1, M.ps, M.ms, fees, rfl, nr12.ext s13, SqT.of upd_same, by omega, by omega, by rw [mln, egs]; omega, f0, fun d1 L1 y1 H14 s14 hL1 pm1 as1 ed1 => ?_⟩
      have s1214 := s13.trans s14
      refine ⟨_, rfl, fl, _, rfl, .inl ⟨SqL.of (s1214 _ _ eF12), fun t2 nt2 => ?_⟩⟩
      have s15 : Same H14 (upd H14 t2 (.tup (fees.map V.int))) := fun b o e => (upd_ne (ne_of_none e nt2)).trans e
      refine ⟨_, rfl, rfl, irr ⟨x, t2, M.ps, M.ms, fees, rfl, nr12.ext (s1214.trans s15), SqT.of upd_same, by omega, by omega, by rw [mln, egs]; omega, f0, fun d2 L2 y2 H16 s16 hL2 pm2 as2 ed2 => ?_⟩⟩
      refine ⟨by show 2 ≤ sizeLine; decide, fun LL nLL => ?_⟩
      have s17 : Same H16 (upd H16 LL (.lst [.ref d1, .ref d2])) := fun b o e => (upd_ne (ne_of_none e nLL)).trans e
      have eLL : upd H16 LL (.lst [.ref d1, .ref d2]) LL = some (.lst [.ref d1, .ref d2]) := upd_same
      have ed1' := s17 _ _ (s16 _ _ (s15 _ _ ed1))
      have ed2' := s17 _ _ ed2
      generalize upd H16 LL (.lst [.ref d1, .ref d2]) = H17 at s17 eLL ed1' ed2' ⊢
      have s1217 := s1214.trans (s15.trans (s16.trans s17))
      have s517 := s512.trans s1217
      have told : ∀ (i : Nat) v, [V.ref d1, V.ref d2][i]? = some v → ∃ (d : Addr) (ys : List Str), v = .ref d ∧ H17 d = some (.tup (ys.map V.str)) ∧ ToldR M fees ys := fun i v hv => by
        match i, hv with
        | 0, hv => exact ⟨d1, y1, (Option.some.inj hv).symm, ed1', _, ToldC.of ok fq f0 hL1, pm1, as1⟩
        | 1, hv => exact ⟨d2, y2, (Option.some.inj hv).symm, ed2', _, ToldC.of ok fq f0 hL2, pm2, as2⟩
        | i + 2, hv => exact nomatch hv
      have nr17 := nr12.ext s1217
      have eT17 := s1217 _ _ eT12
      have eM17 := s1217 _ _ eM12
      have eF17 := s1217 _ _ eF12
      have md17 := md5.ext s517
      clear s13 s14 s15 s16 s17 s1214 s1217 ed1 ed2 ed1' ed2' hL1 hL2 pm1 pm2 as1 as2 nr12 nr9 nr eT12 eM12 eF12 nt1 nt2 nLL
      refine ⟨LL, rfl, ⟨_, SqL.of eLL⟩, for_list (xs := [V.ref d1, V.ref d2]) (fun i σ H' => ∃ (o4 o9 o10 o11 o12 : Option V), σ = [some (.ref a), some (.ref l), some (.int wy), some (.ref fl), o4, some (.ref x), some (.ref D1), some (.ref D2), some (.int lv), o9, o10, o11, o12] ∧ Same H17 H') ⟨_, _, _, _, _, rfl, Same.refl _⟩ (fun i σ H' _ z => by obtain ⟨_, _, _, _, _, _, z⟩ := z; exact SqL.of (z _ _ eLL)) ?_ ?_⟩
      · rintro i v σ H18 hv ⟨o4, o9, o10, o11, o12, rfl, s18⟩
        obtain ⟨d, ys, rfl, ed, tr⟩ := told i v hv
        have ed18 := s18 _ _ ed
        obtain ⟨S, hyS, tc, ynd⟩ := tr.all ok
        have yl : ys.length = S.length := by rw [hyS, List.length_map]
        have ysub : ∀ k c, S[k]? = some c → ys[k]? = some (pN M.ps c) ∧ c < M.qs.length := fun k c hk => by
          rw [hyS, List.getElem?_map, hk]
          exact ⟨rfl, (tc.lt c (List.mem_of_getElem? hk)).1⟩
        have S7 : S.length ≤ 7 := by
          have := List.Nodup.length_le_of_subset tc.nd (fun k hk => List.mem_range.mpr (tc.lt k hk).1)
          rw [List.length_range, eqs] at this
          omega
        have qnm : ∀ c, c < M.qs.length → pN M.ps c ∈ M.qs.map (·.1) := fun c hc => List.mem_of_getElem? (qnames M hc)
        have eT18 := s18 _ _ eT17
        dsimp only [gName]
        -- told is a tuple of titles
        refine ⟨_, rfl, _, _, .type "tuple", .type "tuple", true, rfl, .ty _, tyx_tup (SqT.of ed18), kit_ty (by decide +kernel), true, rfl, iteF ?_⟩
        refine ⟨_, rfl, d, rfl, ⟨_, SqT.of ed18⟩, fun A1 nA1 => lc_to (xs := ys.map V.str) ((List.replicate ys.length true).map V.bl) (by rw [List.length_map, List.length_map, List.length_replicate]) walk_tup nA1 (by rw [List.length_map]; omega) (fun H' s' => SqT.of (s' _ _ ed18)) (fun _ => rfl) (fun j v y hv hy H19 s19 R kR => ?_) fun H19 s19 eA1 => ?_⟩
        · obtain ⟨b, hb, rfl⟩ := List.mem_map.mp (List.mem_of_getElem? hy)
          obtain rfl := List.eq_of_mem_replicate hb
          obtain ⟨z, hz, rfl⟩ := List.mem_map.mp (List.mem_of_getElem? hv)
          rw [hyS] at hz
          obtain ⟨c, hc, rfl⟩ := List.mem_map.mp hz
          refine ⟨_, rfl, _, rfl, D1, _, rfl, .inl (SqL.of (s19 _ _ eT18)), rfl, flat_str _, ?_⟩
          rw [inV_str, decide_eq_true (qnm c (tc.lt c hc).1)]
          exact kR H19 (Same.refl _)
        have s1 := s18.trans s19
        refine ⟨A1, _, rfl, SqL.of eA1, ?_⟩
        rw [show (List.replicate ys.length true).all id = true from List.all_eq_true.mpr fun b hb => List.eq_of_mem_replicate hb]
        refine ⟨_, rfl, iteF ?_⟩
        -- where they stand
        have ed1 := s19 _ _ ed18
        have eT1 := s19 _ _ eT18
        clear s19 nA1 eA1 eT18 ed18
        refine ⟨_, rfl, d, rfl, ⟨_, SqT.of ed1⟩, fun A2 nA2 => lc_to (xs := ys.map V.str) (S.map vI) (by rw [List.length_map, List.length_map, yl]) walk_tup nA2 (by rw [List.length_map]; omega) (fun H' s' => SqT.of (s' _ _ ed1)) (fun _ => rfl) (fun j v y hv hy H20 s20 R kR => ?_) fun H20 s20 eA2 => ?_⟩
        · rw [List.getElem?_map] at hv hy
          cases e : S[j]? with
          | none => rw [e] at hy; cases hy
          | some c =>
            rw [e] at hy
            obtain rfl := Option.some.inj hy
            obtain ⟨e2, hc⟩ := ysub j c e
            rw [e2] at hv
            obtain rfl := Option.some.inj hv
            refine ⟨_, rfl, .inl ⟨rfl, _, SqL.of (s20 _ _ eT1)⟩, _, rfl, D1, _, _, c, .str (pN M.ps c), rfl, rfl, SqL.of (s20 _ _ eT1), rfl, flat_str _, ?_, ?_, fun m z hm hz => ?_, kR H20 (Same.refl _)⟩
            · rw [List.getElem?_map, qnames M hc]
              rfl
            · exact decide_eq_true rfl
            · rw [List.getElem?_map, qnames M (show m < M.qs.length by omega)] at hz
              obtain rfl := Option.some.inj hz
              refine decide_eq_false fun w => ?_
              have pd : (M.ps.map (·.1)).Nodup := by rw [Mod.names]; exact ok.qd
              exact absurd (pN_inj pd (by omega) (by omega) w) (by omega)
        have ed2 := s20 _ _ ed1
        have s2 := s1.trans s20
        clear s20 nA2 ed1 eT1 s1
        dsimp only [gName]
        -- in order, each once
        refine ⟨_, rfl, d, _, rfl, .inr (SqT.of ed2), fun A3 nA3 => ?_⟩
        have s21 : Same H20 (upd H20 A3 (.lst (ys.map V.str))) := fun b o e => (upd_ne (ne_of_none e nA3)).trans e
        have eA3 : upd H20 A3 (.lst (ys.map V.str)) A3 = some (.lst (ys.map V.str)) := upd_same
        generalize upd H20 A3 (.lst (ys.map V.str)) = H21 at s21 eA3 ⊢
        refine ⟨_, rfl, d, ys, rfl, SqT.of (s21 _ _ ed2), by omega, fun A4 n4 nA4 _ => ⟨A4, _, n4, rfl, upd_same, fun xs A5 as nd mem _ nA5 => ?_⟩⟩
        have exs : xs = ys := tr.uniq ynd as nd fun k => by rw [mem, decide_eq_true_eq]
        subst exs
        have two : ∀ (p q : Addr) (o1 o2 : HO), H21 p = none → (upd H21 p o1) q = none → Same H21 (upd (upd H21 p o1) q o2) := fun p q o1 o2 h1 h2 b o e => by
          have e1 := (upd_ne (o := o1) (ne_of_none e h1)).trans e
          exact (upd_ne (ne_of_none e1 h2)).trans e1
        have s23 := two A4 A5 _ (.lst (xs.map V.str)) nA4 nA5
        have hnm : ∀ y ∈ xs, IsNm y := fun y hy => by
          rw [hyS] at hy
          obtain ⟨c, hc, rfl⟩ := List.mem_map.mp hy
          have hl := (tc.lt c hc).1
          rw [(mps_at hl).1]
          exact (ok.qn _ (List.getElem_mem hl)).1
        refine ⟨.list (xs.map PyData.str), .list (xs.map PyData.str), .lst (SqL.of (s23 _ _ eA3)) (dps_S _), .lst (SqL.of upd_same) (dps_S _), shaped_strs hnm, shaped_strs hnm, _, rfl, ?_⟩
        rw [eqv_lS]
        refine iteF ?_
        have s3 := s2.trans (s21.trans s23)
        have eA2' := s23 _ _ (s21 _ _ eA2)
        have ed3 := s23 _ _ (s21 _ _ ed2)
        revert s3 eA2' ed3
        generalize upd (upd H21 A4 _) A5 (.lst (xs.map V.str)) = H24
        intro s3 eA2' ed3
        clear s23 s21 two eA3 nA3 ed2 s2 eA2
        have eM24 := s3 _ _ eM17
        -- none has meters, no ring is left
        refine ⟨_, rfl, A2, rfl, ⟨_, SqL.of eA2'⟩, fun A6 nA6 => lc_to (xs := S.map vI) ((List.replicate S.length false).map V.bl) (by rw [List.length_map, List.length_map, List.length_replicate]) walk_list nA6 (by rw [List.length_map]; omega) (fun H' s' => SqL.of (s' _ _ eA2')) (fun _ => rfl) (fun j v y hv hy H25 s25 R kR => ?_) fun H25 s25 eA6 => ?_⟩
        · obtain ⟨b, hb, rfl⟩ := List.mem_map.mp (List.mem_of_getElem? hy)
          obtain rfl := List.eq_of_mem_replicate hb
          obtain ⟨c, hc, rfl⟩ := List.mem_map.mp (List.mem_of_getElem? hv)
          refine ⟨_, rfl, _, rfl, D2, _, rfl, .inl (SqL.of (s25 _ _ eM24)), rfl, flat_vI _, ?_⟩
          rw [inV_vI, decide_eq_false (tc.lt c hc).2]
          exact kR H25 (Same.refl _)
        refine ⟨A6, _, rfl, SqL.of eA6, ?_⟩
        rw [show (List.replicate S.length false).any id = false from List.any_eq_false.mpr fun b hb => by rw [List.eq_of_mem_replicate hb]; decide]
        refine ⟨_, rfl, iteF ?_⟩
        have s4 := s3.trans s25
        have eA25 := s25 _ _ eA2'
        clear s25 eA6 nA6
        refine ⟨_, rfl, _, rfl, irr ⟨l, A2, M, 7, q * 3, S, rfl, md17.ext s4, ok, by decide, by omega, .inl (SqL.of eA25), fun b H26 s26 hb => ⟨_, rfl, ?_⟩⟩⟩
        have hb0 : b = false := by
          cases b with
          | false => rfl
          | true => exact absurd tc.fo (hb.mp rfl)
        subst hb0
        refine iteF ?_
        have s5 := s4.trans s26
        have eA26 := s26 _ _ eA25
        clear s26 hb eA25 s4 s3 eA2' ed3
        -- each is wanted
        refine ⟨_, rfl, A2, rfl, ⟨_, SqL.of eA26⟩, fun A7 nA7 => lc_to (xs := S.map vI) ((List.replicate S.length true).map V.bl) (by rw [List.length_map, List.length_map, List.length_replicate]) walk_list nA7 (by rw [List.length_map]; omega) (fun H' s' => SqL.of (s' _ _ eA26)) (fun _ => rfl) (fun j v y hv hy H27 s27 R kR => ?_) fun H27 s27 eA7 => ?_⟩
        · obtain ⟨b, hb, rfl⟩ := List.mem_map.mp (List.mem_of_getElem? hy)
          obtain rfl := List.eq_of_mem_replicate hb
          obtain ⟨c, hc, rfl⟩ := List.mem_map.mp (List.mem_of_getElem? hv)
          have eA27 := s27 _ _ eA26
          refine ⟨_, rfl, _, rfl, A2, rfl, ⟨_, SqL.of eA27⟩, fun A8 nA8 => lc_idx S (fun k => decide (k ≠ c)) vI walk_list nA8 (by omega) (fun H' s' => SqL.of (s' _ _ eA27)) (fun _ => rfl) (fun k hk H28 s28 R' kR' => ?_) (fun k hk hp H28 s28 R' kR' => ⟨_, rfl, kR' H28 (Same.refl _)⟩) fun H28 s28 eA8 => ?_⟩
          · refine ⟨_, rfl, _, rfl, rfl, _, rfl, ?_⟩
            rw [show (!decide (vI k = vI c)) = decide (k ≠ c) by
              by_cases e : k = c
              · subst e; simp [vI]
              · have e2 : ¬ vI k = vI c := fun z => by
                  injection z with z
                  omega
                simp [e, e2]]
            exact kR' H28 (Same.refl _)
          · refine irr ⟨l, A8, M, 7, q * 3, _, rfl, md17.ext (s5.trans (s27.trans s28)), ok, by decide, by omega, .inl (SqL.of eA8), fun b H29 s29 hb => ?_⟩
            have hb1 : b = true := hb.mpr (tc.ne c hc _ fun k => by rw [List.mem_filter, decide_eq_true_eq])
            subst hb1
            exact kR H29 (s28.trans s29)
        refine ⟨A7, _, rfl, SqL.of eA7, ?_⟩
        rw [show (List.replicate S.length true).all id = true from List.all_eq_true.mpr fun b hb => List.eq_of_mem_replicate hb]
        refine ⟨_, rfl, iteF ?_⟩
        have s6 := s5.trans s27
        have eA27 := s27 _ _ eA26
        have eF27 := s6 _ _ eF17
        clear s27 eA7 nA7 eA26 s5
        -- their price is the least
        refine ⟨_, rfl, A2, rfl, ⟨_, SqL.of eA27⟩, fun A9 nA9 => lc_to (xs := S.map vI) ((S.map fun c => fees.getD c 0).map V.int) (by rw [List.length_map, List.length_map, List.length_map]) walk_list nA9 (by rw [List.length_map]; omega) (fun H' s' => SqL.of (s' _ _ eA27)) (fun _ => rfl) (fun j v y hv hy H30 s30 R kR => ?_) fun H30 s30 eA9 => ?_⟩
        · rw [List.getElem?_map] at hv
          rw [List.getElem?_map, List.getElem?_map] at hy
          cases e : S[j]? with
          | none => rw [e] at hy; cases hy
          | some c =>
            rw [e] at hy hv
            obtain rfl := Option.some.inj hy
            obtain rfl := Option.some.inj hv
            have hc := (ysub j c e).2
            have atf : atI (fees.map V.int) (c : Int) = some (.int (fees.getD c 0)) := atI_nat (by rw [List.getElem?_map, List.getElem?_eq_getElem (by omega), getD_lt (show c < fees.length by omega)]; rfl)
            exact ⟨_, rfl, _, rfl, fl, _, _, _, rfl, rfl, SqL.of (s30 _ _ eF27), atf, kR H30 (Same.refl _)⟩
        refine ⟨A9, _, rfl, SqL.of eA9, _, rfl, rfl, _, rfl, ?_⟩
        have elv : (S.map fun c => fees.getD c 0).sum = lv := by
          obtain ⟨o, o1, o2, o3⟩ := lex
          obtain ⟨o', p1, p2, p3⟩ := tc.ex
          have a1 := tc.le o o1 o2
          have a2 := lle o' p1 p2
          have : priceF fees S = lv := by omega
          exact this
        rw [elv, decide_eq_true rfl]
        exact iteF ⟨_, _, _, _, _, rfl, s6.trans s30⟩
      · rintro σ H18 ⟨o4, o9, o10, o11, o12, rfl, s18⟩
        dsimp only
        have nr18 := nr17.ext s18
        obtain ⟨dx, _, _, _, _, ex18, _⟩ := id nr18.ex
        refine ⟨_, rfl, x, dx, _, rfl, ex18, irr ⟨x, M.ps, M.ms, rfl, nr18, po.pn, mo.mn, by omega, by rw [mln, egs]; omega, fun H19 s19 => ⟨_, rfl, ?_⟩⟩⟩
        refine ⟨_, rfl, irr ⟨l, M, 7, q * 3, rfl, md17.ext (s18.trans s19), ok, by decide, by omega, fun H20 s20 => ⟨rfl, ?_⟩⟩⟩
        rw [decide_eq_true rfl]
        exact k H20 (gr5.trans fun b o _ e => s20 _ _ (s19 _ _ (s18 _ _ (s517 b o e))))
end
end RV
/-! k61: the law. -/
namespace RV
open PySem L2 TL
section
variable {P : Program} {w : World} {K : PySem.W.Frag} {mg : Str → Option Value} {base : Heap} {CN CP CM : Addr}
theorem ok_law61 {f : Addr} {fd : FuncData} (F : Fun K "law" "law" s_law f fd) (T : Blt mg) (NC : NClass K mg CN) (h_spring : Fn P w K mg base "_law_spring" 1 ["_law_script", "_law_k"] (Irr (sp_spring K)))
    (h_right : FnGd P w K mg base "_law_right" 9 ["_law_spring_here"] sp_right61) (h_cheapest : Fn P w K mg base "cheapest" 7 ["net", "prices"] (Irr (sp_cheap K CN CP CM))) (h_read : ClsM P w K mg base CN "read" 8 ["cls", "text"] (Irr (sp_nread K CN CP CM))) : FnG P w K mg base 10 f fd ["_law_script"] (spLaw K) := by
  refine gFun F sc_law (fun vs H Q E h => ?_) (fun cdv A outer s H vs Q E gs hr h => ?_)
  · obtain ⟨_, _, rfl, _⟩ := h
    rfl
  · obtain ⟨c, ns, rfl, hS, hl, k⟩ := h
    refine ⟨_, (pss_cons (ps_set (i := 1) sc_law.nd rfl (Or.inl rfl) pe_str)
      (pss_cons (ps_set (i := 2) sc_law.nd rfl (Or.inl rfl) (pe_cm h_read (hr.mono (by decide)) (pe_gC NC.k) (pa_cons (pv 1) pa_nil)))
      (pss_cons (ps_set (i := 3) sc_law.nd rfl (Or.inl rfl) (pe_lst (pa_cons (pe_fn h_cheapest (hr.mono (by decide)) (pa_cons (pv 2) (pa_cons (pe_tup (pa_cons pe_int (pa_cons pe_int (pa_cons pe_int (pa_cons pe_int (pa_cons pe_int pa_nil)))))) pa_nil))) (pa_cons (pe_fn h_cheapest (hr.mono (by decide)) (pa_cons (pe_cm h_read (hr.mono (by decide)) (pe_gC NC.k) (pa_cons (pe_op op_add_str (pv 1) pe_str) pa_nil)) (pa_cons (pe_tup (pa_cons pe_int (pa_cons pe_int (pa_cons pe_int (pa_cons pe_int (pa_cons pe_int pa_nil)))))) pa_nil))) pa_nil))))
      (pss_cons (ps_set (i := 3) sc_law.nd rfl (Or.inl rfl) (pe_op op_cat (pv 3) (pe_lst (pa_cons (pe_fn h_cheapest (hr.mono (by decide)) (pa_cons (pe_cm h_read (hr.mono (by decide)) (pe_gC NC.k) (pa_cons pe_str pa_nil)) (pa_cons (pe_tup (pa_cons pe_int pa_nil)) pa_nil))) (pa_cons (pe_fn h_cheapest (hr.mono (by decide)) (pa_cons (pe_cm h_read (hr.mono (by decide)) (pe_gC NC.k) (pa_cons pe_str pa_nil)) (pa_cons (pe_tup (pa_cons pe_int (pa_cons pe_int pa_nil))) pa_nil))) pa_nil)))))
      (pss_cons (ps_expr (pe_bm PySem.F.plainAttrs_list PySem.F.slot_list_append PySem.F.type_list_append mt_append (pv 3) (pa_cons (pe_fn h_cheapest (hr.mono (by decide)) (pa_cons (pe_cm h_read (hr.mono (by decide)) (pe_gC NC.k) (pa_cons pe_str pa_nil)) (pa_cons (pe_tup (pa_cons pe_int (pa_cons pe_int pa_nil))) pa_nil))) pa_nil)))
      (pss_cons (ps_if (pt_cmpR op_ne (pe_callB (call_reprD hr.units gs) (by rfl) T.b_repr (by decide +kernel) (pa_cons (pv 3) pa_nil)) (pe_callB (call_reprD hr.units gs) (by rfl) T.b_repr (by decide +kernel) (pa_cons (pe_lst (pa_cons (pe_tup (pa_cons pe_str (pa_cons pe_str pa_nil))) (pa_cons (pe_tup (pa_cons pe_str pa_nil)) (pa_cons (pe_tup pa_nil) (pa_cons (pe_tup (pa_cons pe_str pa_nil)) (pa_cons (pe_tup pa_nil) pa_nil)))))) pa_nil)) (nomark _)) (pss_one (ps_ret pe_bl)) pss_nil)
      (pss_one (ps_ret (pe_callB (cr_all rfl) (by rfl) T.b_all (by decide +kernel) (pa_cons (pe_lc (own := [("_law_k", 4)]) (g := gName 4) (tt := tYes) rfl sc_law.nd (pi_range1 rfl T.b_range (pa_cons (pe_callB (call_max2 rfl) (by rfl) T.b_max (by decide +kernel) (pa_cons pe_int (pa_cons (pe_callB (call_min2 rfl) (by rfl) T.b_min (by decide +kernel) (pa_cons (pe_callB call_len_seq (by rfl) T.b_len (by decide +kernel) (pa_cons (pv 0) pa_nil)) (pa_cons pe_int pa_nil))) pa_nil))) pa_nil)) (blkOk_by (N := sc_law_N) (sc := defScope s_law) (by decide +kernel)) (fun _ _ _ _ _ => pg_name (i := 4) sc_law.nd rfl (Or.inl rfl)) (fun _ _ _ _ _ => pts_nil) (fun _ _ _ _ _ => (pe_fnG h_right gs (hr.mono (by decide)) (pa_cons (pe_fn h_spring (hr.mono (by decide)) (pa_cons (pv 0) (pa_cons (pv 4) pa_nil))) pa_nil)))) pa_nil)))))))))), ?_⟩
    refine ⟨rfl, _, rfl, irr ⟨psA, [], congrArg (fun z => [V.ref CN, V.str z]) tx_A, po_A, mo_0 _, fun x H1 s1 nr => ?_⟩⟩
    have c1 := (Cel.start H).same s1
    dsimp only [gName]
    have z2 : 2 ≤ sizeLine := by decide
    refine ⟨_, rfl, by show 5 ≤ sizeLine; decide, fun t1 nt1 => cheap_step (fees := [5, 2, 2, 1, 3]) c1 nr nt1 rfl (by decide) (by decide) (by decide) (fun L ys => out_A) fun d1 H2 c2 => ?_⟩
    refine ⟨rfl, _, rfl, _, _, rfl, rfl, by decide +kernel, irr ⟨psA, msB, congrArg (fun z => [V.ref CN, V.str z]) tx_B, po_A, mo_B, fun x2 H3 s3 nr3 => ?_⟩⟩
    refine ⟨by show 5 ≤ sizeLine; decide, fun t2 nt2 => cheap_step (fees := [9, 1, 2, 3, 4]) (c2.same s3) nr3 nt2 rfl (by decide) (by decide) (by decide) (fun L ys => out_B) fun d2 H4 c4 => ⟨z2, fun LL nLL => ?_⟩⟩
    have c5 := c4.new (o := .lst [.ref d1, .ref d2]) nLL
    generalize upd H4 LL (.lst [.ref d1, .ref d2]) = H5 at c5 ⊢
    clear c1 c2 c4 nr nr3 s1 s3 nLL nt1 nt2
    dsimp only [gName]
    refine ⟨_, rfl, rfl, irr ⟨psC, [], congrArg (fun z => [V.ref CN, V.str z]) tx_C, po_C, mo_0 _, fun x6 H6 s6 nr6 => ?_⟩⟩
    refine ⟨by show 1 ≤ sizeLine; decide, fun t6 nt6 => cheap_step (fees := [0]) (c5.same s6) nr6 nt6 rfl (by decide) (by decide) (by decide) (fun L ys => out_C) fun d3 H7 c7 => ?_⟩
    refine ⟨rfl, irr ⟨psD, [], congrArg (fun z => [V.ref CN, V.str z]) tx_D, po_D, mo_0 _, fun x8 H8 s8 nr8 => ?_⟩⟩
    refine ⟨z2, fun t8 nt8 => cheap_step (fees := [0, 7]) (c7.same s8) nr8 nt8 rfl (by decide) (by decide) (by decide) (fun L ys => out_D) fun d4 H9 c9 => ⟨z2, fun L2 nL2 => ?_⟩⟩
    have c10 := c9.new (o := .lst [.ref d3, .ref d4]) nL2
    have eL2 : upd H9 L2 (.lst [.ref d3, .ref d4]) L2 = some (.lst [.ref d3, .ref d4]) := upd_same
    generalize upd H9 L2 (.lst [.ref d3, .ref d4]) = H10 at c10 eL2 ⊢
    refine ⟨LL, L2, _, _, rfl, rfl, c10.at (o := .lst [.ref d1, .ref d2]) (List.mem_cons_of_mem _ (List.mem_cons_of_mem _ (List.mem_cons_of_mem _ List.mem_cons_self))), eL2, by show 4 ≤ sizeLine; decide, fun TL nTL => ?_⟩
    have n0 := c10.none0 nTL
    have c11 := c10.new (o := .lst ([.ref d1, .ref d2] ++ [.ref d3, .ref d4])) nTL
    generalize upd H10 TL (.lst ([.ref d1, .ref d2] ++ [.ref d3, .ref d4])) = H11 at c11 ⊢
    clear c5 c7 c9 c10 nr6 nr8 s6 s8 nt6 nt8 nL2 eL2 nTL
    dsimp only [gName]
    refine ⟨_, rfl, .inl ⟨rfl, _, SqL.of (c11.at List.mem_cons_self)⟩, rfl, irr ⟨psD, msE, congrArg (fun z => [V.ref CN, V.str z]) tx_E, po_D, mo_E, fun x12 H12 s12 nr12 => ?_⟩⟩
    refine ⟨z2, fun t12 nt12 => cheap_step (fees := [4, 7]) (c11.same s12) nr12 nt12 rfl (by decide) (by decide) (by decide) (fun L ys => out_E) fun d5 H13 c13 => ?_⟩
    have mT : ∀ {p : Addr × HO} {a b : Addr × HO} {r : List (Addr × HO)}, p ∈ r → p ∈ a :: b :: r := fun h => List.mem_cons_of_mem _ (List.mem_cons_of_mem _ h)
    have f5 : H13 d5 = some (.tup (([] : List Str).map V.str)) := c13.at List.mem_cons_self
    have fT : H13 TL = some (.lst ([.ref d1, .ref d2] ++ [.ref d3, .ref d4])) := c13.at (List.mem_cons_of_mem _ List.mem_cons_self)
    have f4 : H13 d4 = some (.tup (([("p" : Str)] : List Str).map V.str)) := c13.at (mT (List.mem_cons_of_mem _ List.mem_cons_self))
    have f3 : H13 d3 = some (.tup (([] : List Str).map V.str)) := c13.at (mT (mT List.mem_cons_self))
    have f2 : H13 d2 = some (.tup (([("left" : Str)] : List Str).map V.str)) := c13.at (mT (mT (mT List.mem_cons_self)))
    have f1 : H13 d1 = some (.tup (([("lout" : Str), ("right" : Str)] : List Str).map V.str)) := c13.at (mT (mT (mT (List.mem_cons_of_mem _ List.mem_cons_self))))
    refine ⟨TL, _, _, rfl, rfl, fT, by show 4 < sizeLine; decide, ?_⟩
    have keep : ∀ {p : Addr} {xs : List V} {o : HO}, H13 p = some (.tup xs) → upd H13 TL o p = some (.tup xs) := fun {p xs o} e => by
      refine (upd_ne fun z => ?_).trans e
      rw [z, fT] at e
      cases e
    have s14 : ∀ o, Same H (upd H13 TL o) := fun o b u e => (upd_ne (ne_of_none e n0)).trans (c13.sm b u e)
    have g1 := keep (o := .lst ([.ref d1, .ref d2] ++ [.ref d3, .ref d4] ++ [.ref d5])) f1
    have g2 := keep (o := .lst ([.ref d1, .ref d2] ++ [.ref d3, .ref d4] ++ [.ref d5])) f2
    have g3 := keep (o := .lst ([.ref d1, .ref d2] ++ [.ref d3, .ref d4] ++ [.ref d5])) f3
    have g4 := keep (o := .lst ([.ref d1, .ref d2] ++ [.ref d3, .ref d4] ++ [.ref d5])) f4
    have g5 := keep (o := .lst ([.ref d1, .ref d2] ++ [.ref d3, .ref d4] ++ [.ref d5])) f5
    have gT : upd H13 TL (.lst ([.ref d1, .ref d2] ++ [.ref d3, .ref d4] ++ [.ref d5])) TL = some (.lst [.ref d1, .ref d2, .ref d3, .ref d4, .ref d5]) := upd_same
    have s14 := s14 (.lst ([.ref d1, .ref d2] ++ [.ref d3, .ref d4] ++ [.ref d5]))
    generalize upd H13 TL (.lst ([.ref d1, .ref d2] ++ [.ref d3, .ref d4] ++ [.ref d5])) = H14 at g1 g2 g3 g4 g5 gT s14 ⊢
    clear f1 f2 f3 f4 f5 fT keep mT c13 c11 s12 nr12 nt12 n0
    refine ⟨_, rfl, rRepr_of (d := tl5) (.lst (SqL.of gT) (.cons (.tup (SqT.of g1) (dps_S _)) (.cons (.tup (SqT.of g2) (dps_S _)) (.cons (.tup (SqT.of g3) (dps_S _)) (.cons (.tup (SqT.of g4) (dps_S _)) (.cons (.tup (SqT.of g5) (dps_S _)) .nil)))))) shw_tl5 (by decide) ?_⟩
    clear g1 g2 g3 g4 g5 gT
    refine ⟨z2, fun u1 n1 => ⟨by decide, fun u2 n2 => ⟨by decide, fun u3 n3 => ⟨by decide, fun u4 n4 => ⟨by decide, fun u5 n5 => ⟨by show 5 ≤ sizeLine; decide, fun u6 n6 => ?_⟩⟩⟩⟩⟩⟩
    have e1 := (Cel.start H14).new (o := .tup (([("lout" : Str), ("right" : Str)] : List Str).map V.str)) n1
    have e2 := e1.new (o := .tup (([("left" : Str)] : List Str).map V.str)) n2
    have e3 := e2.new (o := .tup (([] : List Str).map V.str)) n3
    have e4 := e3.new (o := .tup (([("p" : Str)] : List Str).map V.str)) n4
    have e5 := e4.new (o := .tup (([] : List Str).map V.str)) n5
    have e6 := e5.new (o := .lst [.ref u1, .ref u2, .ref u3, .ref u4, .ref u5]) n6
    have m1 : ∀ {p a : Addr × HO} {r : List (Addr × HO)}, p ∈ r → p ∈ a :: r := fun h => List.mem_cons_of_mem _ h
    refine rRepr_of (d := tl5) (.lst (SqL.of (e6.at List.mem_cons_self)) (.cons (.tup (SqT.of (e6.at (m1 (m1 (m1 (m1 (m1 List.mem_cons_self))))))) (dps_S _)) (.cons (.tup (SqT.of (e6.at (m1 (m1 (m1 (m1 List.mem_cons_self)))))) (dps_S _)) (.cons (.tup (SqT.of (e6.at (m1 (m1 (m1 List.mem_cons_self))))) (dps_S _)) (.cons (.tup (SqT.of (e6.at (m1 (m1 List.mem_cons_self)))) (dps_S _)) (.cons (.tup (SqT.of (e6.at (m1 List.mem_cons_self))) (dps_S _)) .nil)))))) shw_tl5 (by decide) ?_
    refine ⟨rfl, _, rfl, ?_⟩
    rw [decide_eq_true rfl]
    refine iteF ?_
    have s15 : Same H (upd (upd (upd (upd (upd (upd H14 u1 (.tup [.str "lout", .str "right"])) u2 (.tup [.str "left"])) u3 (.tup [])) u4 (.tup [.str "p"])) u5 (.tup [])) u6 (.lst [.ref u1, .ref u2, .ref u3, .ref u4, .ref u5])) := s14.trans e6.sm
    clear e6 e1 e2 e3 e4 e5 m1
    revert s15
    generalize upd _ u6 (.lst [.ref u1, .ref u2, .ref u3, .ref u4, .ref u5]) = H15
    intro s15
    clear s14
    have hS15 := hS.ext s15
    dsimp only
    refine ⟨_, rfl, c, _, rfl, .inl hS15, _, _, rfl, _, _, rfl, ?_⟩
    rw [List.length_map]
    generalize hj : (if (if (5 : Int) < (ns.length : Int) then (5 : Int) else (ns.length : Int)) > 2 then (if (5 : Int) < (ns.length : Int) then (5 : Int) else (ns.length : Int)) else 2) = j
    have hj2 : 2 ≤ j ∧ j ≤ 5 := by
      subst hj
      constructor <;> (repeat' split) <;> omega
    clear hj
    refine ⟨j, rfl, by omega, by omega, fun D nD => lc_range (lo := 0) (n := j.toNat) (fun i H' => Same H15 H' ∧ H' D = some (.lst ((List.replicate i true).map V.bl))) ⟨fun b o e => (upd_ne (ne_of_none e nD)).trans e, upd_same⟩ ?_ ?_⟩
    · rintro i H3 hi ⟨s3, e3⟩
      refine ⟨rfl, _, rfl, _, rfl, irr ⟨c, ns, i, by rw [Int.zero_add]; rfl, hS15.ext s3, hl, by omega, fun a H4 na s4 w4 => ⟨a, _, rfl, w4, by omega, fun H5 g5 => ?_⟩⟩⟩
      have aD : D ≠ a := fun e => by rw [← e, e3] at na; cases na
      have e5 := g5 _ _ aD (s4 _ _ e3)
      refine ⟨_, e5, ?_, fun b o e => ?_, ?_⟩
      · rw [List.length_map, List.length_replicate]
        exact Nat.lt_of_lt_of_le (show i < 9 by omega) (by decide)
      · rw [upd_ne (ne_of_none e nD)]
        exact g5 _ _ (fun z => by rw [z] at e; have := s3 _ _ e; rw [na] at this; cases this) (s4 _ _ (s3 _ _ e))
      · rw [upd_same, List.replicate_succ', List.map_append]
        rfl
    · rintro H3 ⟨s3, e3⟩
      refine ⟨D, _, rfl, SqL.of e3, ?_⟩
      rw [show (List.replicate j.toNat true).all id = true from List.all_eq_true.mpr fun b hb => List.eq_of_mem_replicate hb]
      exact k H3
end
end RV
namespace RV
open PySem L2
/-! cheapest(prices=t, net=x) -/
def gCN (vs zs : List Value) : List Value := match vs, zs with
  | [], [t, x] => [x, t]
  | _, _ => []
theorem gCN_rel {vs : List V} {us : List Value} {zs : List V} {ws : List Value} (r1 : Vals vs us) (r2 : Vals zs ws) : Vals (gPN vs zs) (gCN us ws) := by
  cases r1 with
  | cons a r => cases r2 <;> exact .nil
  | nil =>
    cases r2 with
    | nil => exact .nil
    | cons a r2 =>
      cases r2 with
      | nil => exact .nil
      | cons b r2 =>
        cases r2 with
        | nil => exact .cons b (.cons a .nil)
        | cons c r2 => exact .nil
theorem kbCh {f : Addr} {K : PySem.W.Frag} {fd : FuncData} (F : Fun K "cheapest" "cheapest" s_cheapest f fd) : KBn K fd ["net", "prices"] 0 ["prices", "net"] gCN gPN := by
  refine ⟨fun s us ws X h1 h2 => ?_, gCN_rel⟩
  obtain ⟨oc, od, kV, doc, pm, an, cdv, ct, osl, rfl, lk, hcd⟩ := F.ex
  match us, h1, ws, h2 with
  | [], _, [t, u], _ => exact BindsTo.of_eq rfl
end RV
namespace RV
open PySem L2
theorem all_mk {l : PySem.W.OpenLaw} {w : World} {K : PySem.W.Frag} {h : Heap} {mg : Str → Option Value} {fa : Addr} (X : K.In h) (G : h.Ns mainGlobals mg) (hfa : mg "law" = some (.ref fa))
    {tkA : Tok}
    {tkB : Tok}
    {tkC : Tok}
    {tkF : Tok}
    {tkG : Tok}
    {fIn : Addr}
    {odIn anIn : Option Addr} {slIn : Array (Option Value)} {ocIn kVIn dcIn pmIn cdIn ctIn : Value}
    {fCn : Addr}
    {odCn anCn : Option Addr} {slCn : Array (Option Value)} {ocCn kVCn dcCn pmCn cdCn ctCn : Value}
    {CP : Addr}
    {CM : Addr}
    {fPi : Addr}
    {odPi anPi : Option Addr} {slPi : Array (Option Value)} {ocPi kVPi dcPi pmPi cdPi ctPi : Value}
    {fMi : Addr}
    {odMi anMi : Option Addr} {slMi : Array (Option Value)} {ocMi dcMi pmMi cdMi ctMi : Value} {kDMi : Addr}
    {ppn : Addr}
    {fpn : Addr}
    {rpn : List Value}
    {odpn anpn : Option Addr} {slpn : Array (Option Value)} {ocpn kVpn dcpn pmpn cdpn ctpn : Value}
    {pps : Addr}
    {fps : Addr}
    {rps : List Value}
    {odps anps : Option Addr} {slps : Array (Option Value)} {ocps kVps dcps pmps cdps ctps : Value}
    {ppe : Addr}
    {fpe : Addr}
    {rpe : List Value}
    {odpe anpe : Option Addr} {slpe : Array (Option Value)} {ocpe kVpe dcpe pmpe cdpe ctpe : Value}
    {pmn : Addr}
    {fmn : Addr}
    {rmn : List Value}
    {odmn anmn : Option Addr} {slmn : Array (Option Value)} {ocmn kVmn dcmn pmmn cdmn ctmn : Value}
    {pma : Addr}
    {fma : Addr}
    {rma : List Value}
    {odma anma : Option Addr} {slma : Array (Option Value)} {ocma kVma dcma pmma cdma ctma : Value}
    {pmz : Addr}
    {fmz : Addr}
    {rmz : List Value}
    {odmz anmz : Option Addr} {slmz : Array (Option Value)} {ocmz kVmz dcmz pmmz cdmz ctmz : Value}
    {fPq : Addr}
    {odPq anPq : Option Addr} {slPq : Array (Option Value)} {ocPq kVPq dcPq pmPq cdPq ctPq : Value}
    {fMq : Addr}
    {odMq anMq : Option Addr} {slMq : Array (Option Value)} {ocMq kVMq dcMq pmMq cdMq ctMq : Value}
    {CN : Addr}
    {fIo : Addr}
    {odIo anIo : Option Addr} {slIo : Array (Option Value)} {ocIo kVIo dcIo pmIo cdIo ctIo : Value}
    {fCp : Addr}
    {odCp anCp : Option Addr} {slCp : Array (Option Value)} {ocCp kVCp dcCp pmCp cdCp ctCp : Value}
    {fCm : Addr}
    {odCm anCm : Option Addr} {slCm : Array (Option Value)} {ocCm kVCm dcCm pmCm cdCm ctCm : Value}
    {fPl : Addr}
    {odPl anPl : Option Addr} {slPl : Array (Option Value)} {ocPl kVPl dcPl pmPl cdPl ctPl : Value}
    {fMl : Addr}
    {odMl anMl : Option Addr} {slMl : Array (Option Value)} {ocMl kVMl dcMl pmMl cdMl ctMl : Value}
    {fLs : Addr}
    {odLs anLs : Option Addr} {slLs : Array (Option Value)} {ocLs kVLs dcLs pmLs cdLs ctLs : Value}
    {fNi : Addr}
    {tD : Addr}
    {t0 : Addr}
    {odNi anNi odT : Option Addr} {slNi slT : Array (Option Value)} {ocNi kVNi dcNi pmNi cdNi ctNi : Value} {nT : Nat}
    {pnp : Addr}
    {fnp : Addr}
    {rnp : List Value}
    {odnp annp : Option Addr} {slnp : Array (Option Value)} {ocnp kVnp dcnp pmnp cdnp ctnp : Value}
    {pnm : Addr}
    {fnm : Addr}
    {rnm : List Value}
    {odnm annm : Option Addr} {slnm : Array (Option Value)} {ocnm kVnm dcnm pmnm cdnm ctnm : Value}
    {fNl : Addr}
    {odNl anNl : Option Addr} {slNl : Array (Option Value)} {ocNl kVNl dcNl pmNl cdNl ctNl : Value}
    {fNs : Addr}
    {odNs anNs : Option Addr} {slNs : Array (Option Value)} {ocNs kVNs dcNs pmNs cdNs ctNs : Value}
    {fNq : Addr}
    {odNq anNq : Option Addr} {slNq : Array (Option Value)} {ocNq kVNq dcNq pmNq cdNq ctNq : Value}
    {fRw : Addr}
    {odRw anRw : Option Addr} {slRw : Array (Option Value)} {ocRw kVRw dcRw pmRw cdRw ctRw : Value}
    {fPn : Addr}
    {odPn anPn : Option Addr} {slPn : Array (Option Value)} {ocPn kVPn dcPn pmPn cdPn ctPn : Value}
    {fMn : Addr}
    {odMn anMn : Option Addr} {slMn : Array (Option Value)} {ocMn kVMn dcMn pmMn cdMn ctMn : Value}
    {pNr : Addr}
    {fNr : Addr}
    {rNr : List Value}
    {odNr anNr : Option Addr} {slNr : Array (Option Value)} {ocNr kVNr dcNr pmNr cdNr ctNr : Value}
    {fNu : Addr}
    {odNu anNu : Option Addr} {slNu : Array (Option Value)} {ocNu kVNu dcNu pmNu cdNu ctNu : Value}
    {fKn : Addr}
    {odKn anKn : Option Addr} {slKn : Array (Option Value)} {ocKn kVKn dcKn pmKn cdKn ctKn : Value}
    {fMa : Addr}
    {odMa anMa : Option Addr} {slMa : Array (Option Value)} {ocMa kVMa dcMa pmMa cdMa ctMa : Value}
    {ppl : Addr}
    {fpl : Addr}
    {rpl : List Value}
    {odpl anpl : Option Addr} {slpl : Array (Option Value)} {ocpl kVpl dcpl pmpl cdpl ctpl : Value}
    {fKr : Addr}
    {odKr anKr : Option Addr} {slKr : Array (Option Value)} {ocKr kVKr dcKr pmKr cdKr ctKr : Value}
    {fMg : Addr}
    {odMg anMg : Option Addr} {slMg : Array (Option Value)} {ocMg kVMg dcMg pmMg cdMg ctMg : Value}
    {fSp : Addr}
    {odSp anSp : Option Addr} {slSp : Array (Option Value)} {ocSp kVSp dcSp pmSp cdSp ctSp : Value}
    {fBy : Addr}
    {odBy anBy : Option Addr} {slBy : Array (Option Value)} {ocBy kVBy dcBy pmBy cdBy ctBy : Value}
    {fCh : Addr}
    {odCh anCh : Option Addr} {slCh : Array (Option Value)} {ocCh kVCh dcCh pmCh cdCh ctCh : Value}
    {fSg : Addr}
    {odSg anSg : Option Addr} {slSg : Array (Option Value)} {ocSg kVSg dcSg pmSg cdSg ctSg : Value}
    {fTa : Addr}
    {odTa anTa : Option Addr} {slTa : Array (Option Value)} {ocTa kVTa dcTa pmTa cdTa ctTa : Value}
    {fTi : Addr}
    {odTi anTi : Option Addr} {slTi : Array (Option Value)} {ocTi kVTi dcTi pmTi cdTi ctTi : Value}
    {fPa : Addr}
    {odPa anPa : Option Addr} {slPa : Array (Option Value)} {ocPa kVPa dcPa pmPa cdPa ctPa : Value}
    {fGr : Addr}
    {odGr anGr : Option Addr} {slGr : Array (Option Value)} {ocGr kVGr dcGr pmGr cdGr ctGr : Value}
    {fPh : Addr}
    {odPh anPh : Option Addr} {slPh : Array (Option Value)} {ocPh kVPh dcPh pmPh cdPh ctPh : Value}
    {fRg : Addr}
    {odRg anRg : Option Addr} {slRg : Array (Option Value)} {ocRg kVRg dcRg pmRg cdRg ctRg : Value}
    {fSe : Addr}
    {odSe anSe : Option Addr} {slSe : Array (Option Value)} {ocSe kVSe dcSe pmSe cdSe ctSe : Value}
    {fOp : Addr}
    {odOp anOp : Option Addr} {slOp : Array (Option Value)} {ocOp kVOp dcOp pmOp cdOp ctOp : Value}
    {fLe : Addr}
    {odLe anLe : Option Addr} {slLe : Array (Option Value)} {ocLe kVLe dcLe pmLe cdLe ctLe : Value}
    {fRi : Addr}
    {odRi anRi : Option Addr} {slRi : Array (Option Value)} {ocRi kVRi dcRi pmRi cdRi ctRi : Value}
    {fLa : Addr}
    {odLa anLa : Option Addr} {slLa : Array (Option Value)} {ocLa kVLa dcLa pmLa cdLa ctLa : Value}
    (b_len : PySem.W.nsIn K mainGlobals "len" = some none)
    (b_int : PySem.W.nsIn K mainGlobals "int" = some none)
    (b_abs : PySem.W.nsIn K mainGlobals "abs" = some none)
    (b_max : PySem.W.nsIn K mainGlobals "max" = some none)
    (b_min : PySem.W.nsIn K mainGlobals "min" = some none)
    (b_all : PySem.W.nsIn K mainGlobals "all" = some none)
    (b_any : PySem.W.nsIn K mainGlobals "any" = some none)
    (b_repr : PySem.W.nsIn K mainGlobals "repr" = some none)
    (b_range : PySem.W.nsIn K mainGlobals "range" = some none)
    (b_divmod : PySem.W.nsIn K mainGlobals "divmod" = some none)
    (b_isinstance : PySem.W.nsIn K mainGlobals "isinstance" = some none)
    (b_str : PySem.W.nsIn K mainGlobals "str" = some none)
    (b_sum : PySem.W.nsIn K mainGlobals "sum" = some none)
    (b_sorted : PySem.W.nsIn K mainGlobals "sorted" = some none)
    (b_set : PySem.W.nsIn K mainGlobals "set" = some none)
    (b_tuple : PySem.W.nsIn K mainGlobals "tuple" = some none)
    (b_enumerate : PySem.W.nsIn K mainGlobals "enumerate" = some none)
    (b_bool : PySem.W.nsIn K mainGlobals "bool" = some none)
    (g__LETTERS : PySem.W.nsIn K mainGlobals "_LETTERS" = some (some (.str "abcdefghijklmnopqrstuvwxyz" tkA)))
    (g__DIGITS : PySem.W.nsIn K mainGlobals "_DIGITS" = some (some (.str "0123456789" tkB)))
    (g__LONGEST_NAME : PySem.W.nsIn K mainGlobals "_LONGEST_NAME" = some (some (.int 8 tkC)))
    (g_MOST_PIPES : PySem.W.nsIn K mainGlobals "MOST_PIPES" = some (some (.int 12 tkF)))
    (g_MOST_METERS : PySem.W.nsIn K mainGlobals "MOST_METERS" = some (some (.int 12 tkG)))
    (aIn : PySem.W.nsIn K mainGlobals "is_name" = some (some (.ref fIn)))
    (lIn : K.lookup fIn = some ⟨ocIn, odIn, .func (PySem.W.fnOf "is_name" "is_name" (defArgs s_is_name) (defBody s_is_name) (defScope s_is_name) .none kVIn dcIn pmIn anIn cdIn ctIn), slIn⟩)
    (cIn : PySem.W.codeIn K cdIn "is_name" = true)
    (kIn : PySem.W.keepIn K (.ref fIn) = true)
    (aCn : PySem.W.nsIn K mainGlobals "_check_names" = some (some (.ref fCn)))
    (lCn : K.lookup fCn = some ⟨ocCn, odCn, .func (PySem.W.fnOf "_check_names" "_check_names" (defArgs s_check_names) (defBody s_check_names) (defScope s_check_names) .none kVCn dcCn pmCn anCn cdCn ctCn), slCn⟩)
    (cCn : PySem.W.codeIn K cdCn "_check_names" = true)
    (kCn : PySem.W.keepIn K (.ref fCn) = true)
    (nP : PySem.W.nsIn K mainGlobals "Pipe" = some (some (.ref CP)))
    (pgP : PySem.W.plainGet K CP Str.empty = true)
    (hdP : PySem.W.hasDictIn K CP = true)
    (poP : PySem.W.plainOver K CP = true)
    (saP : PySem.W.findIn K (.ref CP) "__setattr__" = some (some (.builtin "object.__setattr__")))
    (mkP : PySem.W.makesIn K CP = true)
    (kcP : PySem.W.keepIn K (.ref CP) = true)
    (haP : PySem.W.findIn K (.ref CP) "__class__" = some (some (.builtin "object.__class__")))
    (hmP : PySem.W.mroIn K CP (.type "object") = some true)
    (tyP : PySem.W.typeIn K (.ref CP) = some (.type "type"))
    (suP : PySem.W.subIn K (.ref CP) (.ref CP) = some true)
    (obP : PySem.W.subIn K (.ref CP) (.type "object") = some true)
    (noP0 : PySem.W.findIn K (.ref CP) "_name" = some none)
    (noP1 : PySem.W.findIn K (.ref CP) "_start" = some none)
    (noP2 : PySem.W.findIn K (.ref CP) "_end" = some none)
    (nM : PySem.W.nsIn K mainGlobals "Meter" = some (some (.ref CM)))
    (pgM : PySem.W.plainGet K CM Str.empty = true)
    (hdM : PySem.W.hasDictIn K CM = true)
    (poM : PySem.W.plainOver K CM = true)
    (saM : PySem.W.findIn K (.ref CM) "__setattr__" = some (some (.builtin "object.__setattr__")))
    (mkM : PySem.W.makesIn K CM = true)
    (kcM : PySem.W.keepIn K (.ref CM) = true)
    (haM : PySem.W.findIn K (.ref CM) "__class__" = some (some (.builtin "object.__class__")))
    (hmM : PySem.W.mroIn K CM (.type "object") = some true)
    (tyM : PySem.W.typeIn K (.ref CM) = some (.type "type"))
    (suM : PySem.W.subIn K (.ref CM) (.ref CM) = some true)
    (obM : PySem.W.subIn K (.ref CM) (.type "object") = some true)
    (noM0 : PySem.W.findIn K (.ref CM) "_name" = some none)
    (noM1 : PySem.W.findIn K (.ref CM) "_at" = some none)
    (noM2 : PySem.W.findIn K (.ref CM) "_sealed" = some none)
    (hn : PySem.W.specialIn K (.builtin "object.__class__") "__get__" = some (some (.builtin "getset_descriptor.__get__")))
    (htk : PySem.W.takesIn K (.builtin "object.__class__") = some true)
    (neP : PySem.W.findIn K (.ref CP) "__ne__" = some (some (.builtin "object.__ne__")))
    (neM : PySem.W.findIn K (.ref CM) "__ne__" = some (some (.builtin "object.__ne__")))
    (aPi : PySem.W.findIn K (.ref CP) "__init__" = some (some (.ref fPi)))
    (iPi : PySem.W.isFn K (.ref fPi) = true)
    (lPi : K.lookup fPi = some ⟨ocPi, odPi, .func (PySem.W.fnOf "__init__" "Pipe.__init__" (defArgs s_Pipe___init__) (defBody s_Pipe___init__) (defScope s_Pipe___init__) .none kVPi dcPi pmPi anPi cdPi ctPi), slPi⟩)
    (cPi : PySem.W.codeIn K cdPi "Pipe.__init__" = true)
    (kPi : PySem.W.keepIn K (.ref fPi) = true)
    (aMi : PySem.W.findIn K (.ref CM) "__init__" = some (some (.ref fMi)))
    (iMi : PySem.W.isFn K (.ref fMi) = true)
    (lMi : K.lookup fMi = some ⟨ocMi, odMi, .func (PySem.W.fnOf "__init__" "Meter.__init__" (defArgs s_Meter___init__) (defBody s_Meter___init__) (defScope s_Meter___init__) .none (.ref kDMi) dcMi pmMi anMi cdMi ctMi), slMi⟩)
    (cMi : PySem.W.codeIn K cdMi "Meter.__init__" = true)
    (kMi : PySem.W.keepIn K (.ref fMi) = true)
    (kd : PySem.W.nsIn K kDMi "sealed" = some (some (.bool false)))
    (apn : PySem.W.findIn K (.ref CP) "name" = some (some (.ref ppn)))
    (gpn : PySem.W.specialIn K (.ref ppn) "__get__" = some (some (.builtin "property.__get__")))
    (tpn : PySem.W.takesIn K (.ref ppn) = some true)
    (rpn_ : PySem.W.recIn K ppn "property" = some (.ref fpn :: rpn))
    (lpn : K.lookup fpn = some ⟨ocpn, odpn, .func (PySem.W.fnOf "name" "Pipe.name" (defArgs s_Pipe_name) (defBody s_Pipe_name) (defScope s_Pipe_name) .none kVpn dcpn pmpn anpn cdpn ctpn), slpn⟩)
    (cpn : PySem.W.codeIn K cdpn "Pipe.name" = true)
    (kpn : PySem.W.keepIn K (.ref fpn) = true)
    (aps : PySem.W.findIn K (.ref CP) "start" = some (some (.ref pps)))
    (gps : PySem.W.specialIn K (.ref pps) "__get__" = some (some (.builtin "property.__get__")))
    (tps : PySem.W.takesIn K (.ref pps) = some true)
    (rps_ : PySem.W.recIn K pps "property" = some (.ref fps :: rps))
    (lps : K.lookup fps = some ⟨ocps, odps, .func (PySem.W.fnOf "start" "Pipe.start" (defArgs s_Pipe_start) (defBody s_Pipe_start) (defScope s_Pipe_start) .none kVps dcps pmps anps cdps ctps), slps⟩)
    (cps : PySem.W.codeIn K cdps "Pipe.start" = true)
    (kps : PySem.W.keepIn K (.ref fps) = true)
    (ape : PySem.W.findIn K (.ref CP) "end" = some (some (.ref ppe)))
    (gpe : PySem.W.specialIn K (.ref ppe) "__get__" = some (some (.builtin "property.__get__")))
    (tpe : PySem.W.takesIn K (.ref ppe) = some true)
    (rpe_ : PySem.W.recIn K ppe "property" = some (.ref fpe :: rpe))
    (lpe : K.lookup fpe = some ⟨ocpe, odpe, .func (PySem.W.fnOf "end" "Pipe.end" (defArgs s_Pipe_end) (defBody s_Pipe_end) (defScope s_Pipe_end) .none kVpe dcpe pmpe anpe cdpe ctpe), slpe⟩)
    (cpe : PySem.W.codeIn K cdpe "Pipe.end" = true)
    (kpe : PySem.W.keepIn K (.ref fpe) = true)
    (amn : PySem.W.findIn K (.ref CM) "name" = some (some (.ref pmn)))
    (gmn : PySem.W.specialIn K (.ref pmn) "__get__" = some (some (.builtin "property.__get__")))
    (tmn : PySem.W.takesIn K (.ref pmn) = some true)
    (rmn_ : PySem.W.recIn K pmn "property" = some (.ref fmn :: rmn))
    (lmn : K.lookup fmn = some ⟨ocmn, odmn, .func (PySem.W.fnOf "name" "Meter.name" (defArgs s_Meter_name) (defBody s_Meter_name) (defScope s_Meter_name) .none kVmn dcmn pmmn anmn cdmn ctmn), slmn⟩)
    (cmn : PySem.W.codeIn K cdmn "Meter.name" = true)
    (kmn : PySem.W.keepIn K (.ref fmn) = true)
    (ama : PySem.W.findIn K (.ref CM) "at" = some (some (.ref pma)))
    (gma : PySem.W.specialIn K (.ref pma) "__get__" = some (some (.builtin "property.__get__")))
    (tma : PySem.W.takesIn K (.ref pma) = some true)
    (rma_ : PySem.W.recIn K pma "property" = some (.ref fma :: rma))
    (lma : K.lookup fma = some ⟨ocma, odma, .func (PySem.W.fnOf "at" "Meter.at" (defArgs s_Meter_at) (defBody s_Meter_at) (defScope s_Meter_at) .none kVma dcma pmma anma cdma ctma), slma⟩)
    (cma : PySem.W.codeIn K cdma "Meter.at" = true)
    (kma : PySem.W.keepIn K (.ref fma) = true)
    (amz : PySem.W.findIn K (.ref CM) "sealed" = some (some (.ref pmz)))
    (gmz : PySem.W.specialIn K (.ref pmz) "__get__" = some (some (.builtin "property.__get__")))
    (tmz : PySem.W.takesIn K (.ref pmz) = some true)
    (rmz_ : PySem.W.recIn K pmz "property" = some (.ref fmz :: rmz))
    (lmz : K.lookup fmz = some ⟨ocmz, odmz, .func (PySem.W.fnOf "sealed" "Meter.sealed" (defArgs s_Meter_sealed) (defBody s_Meter_sealed) (defScope s_Meter_sealed) .none kVmz dcmz pmmz anmz cdmz ctmz), slmz⟩)
    (cmz : PySem.W.codeIn K cdmz "Meter.sealed" = true)
    (kmz : PySem.W.keepIn K (.ref fmz) = true)
    (aPq : PySem.W.findIn K (.ref CP) "__eq__" = some (some (.ref fPq)))
    (iPq : PySem.W.isFn K (.ref fPq) = true)
    (lPq : K.lookup fPq = some ⟨ocPq, odPq, .func (PySem.W.fnOf "__eq__" "Pipe.__eq__" (defArgs s_Pipe___eq__) (defBody s_Pipe___eq__) (defScope s_Pipe___eq__) .none kVPq dcPq pmPq anPq cdPq ctPq), slPq⟩)
    (cPq : PySem.W.codeIn K cdPq "Pipe.__eq__" = true)
    (kPq : PySem.W.keepIn K (.ref fPq) = true)
    (fiPq : PySem.W.fnIn K fPq = true)
    (aMq : PySem.W.findIn K (.ref CM) "__eq__" = some (some (.ref fMq)))
    (iMq : PySem.W.isFn K (.ref fMq) = true)
    (lMq : K.lookup fMq = some ⟨ocMq, odMq, .func (PySem.W.fnOf "__eq__" "Meter.__eq__" (defArgs s_Meter___eq__) (defBody s_Meter___eq__) (defScope s_Meter___eq__) .none kVMq dcMq pmMq anMq cdMq ctMq), slMq⟩)
    (cMq : PySem.W.codeIn K cdMq "Meter.__eq__" = true)
    (kMq : PySem.W.keepIn K (.ref fMq) = true)
    (fiMq : PySem.W.fnIn K fMq = true)
    (nN : PySem.W.nsIn K mainGlobals "Net" = some (some (.ref CN)))
    (pgN : PySem.W.plainGet K CN Str.empty = true)
    (hdN : PySem.W.hasDictIn K CN = true)
    (poN : PySem.W.plainOver K CN = true)
    (saN : PySem.W.findIn K (.ref CN) "__setattr__" = some (some (.builtin "object.__setattr__")))
    (mkN : PySem.W.makesIn K CN = true)
    (kcN : PySem.W.keepIn K (.ref CN) = true)
    (haN : PySem.W.findIn K (.ref CN) "__class__" = some (some (.builtin "object.__class__")))
    (hmN : PySem.W.mroIn K CN (.type "object") = some true)
    (tyN : PySem.W.typeIn K (.ref CN) = some (.type "type"))
    (suN : PySem.W.subIn K (.ref CN) (.ref CN) = some true)
    (obN : PySem.W.subIn K (.ref CN) (.type "object") = some true)
    (noN0 : PySem.W.findIn K (.ref CN) "_pipes" = some none)
    (noN1 : PySem.W.findIn K (.ref CN) "_meters" = some none)
    (neN : PySem.W.findIn K (.ref CN) "__ne__" = some (some (.builtin "object.__ne__")))
    (aIo : PySem.W.nsIn K mainGlobals "_index_of" = some (some (.ref fIo)))
    (lIo : K.lookup fIo = some ⟨ocIo, odIo, .func (PySem.W.fnOf "_index_of" "_index_of" (defArgs s_index_of) (defBody s_index_of) (defScope s_index_of) .none kVIo dcIo pmIo anIo cdIo ctIo), slIo⟩)
    (cIo : PySem.W.codeIn K cdIo "_index_of" = true)
    (kIo : PySem.W.keepIn K (.ref fIo) = true)
    (aCp : PySem.W.nsIn K mainGlobals "_check_pipes" = some (some (.ref fCp)))
    (lCp : K.lookup fCp = some ⟨ocCp, odCp, .func (PySem.W.fnOf "_check_pipes" "_check_pipes" (defArgs s_check_pipes) (defBody s_check_pipes) (defScope s_check_pipes) .none kVCp dcCp pmCp anCp cdCp ctCp), slCp⟩)
    (cCp : PySem.W.codeIn K cdCp "_check_pipes" = true)
    (kCp : PySem.W.keepIn K (.ref fCp) = true)
    (aCm : PySem.W.nsIn K mainGlobals "_check_meters" = some (some (.ref fCm)))
    (lCm : K.lookup fCm = some ⟨ocCm, odCm, .func (PySem.W.fnOf "_check_meters" "_check_meters" (defArgs s_check_meters) (defBody s_check_meters) (defScope s_check_meters) .none kVCm dcCm pmCm anCm cdCm ctCm), slCm⟩)
    (cCm : PySem.W.codeIn K cdCm "_check_meters" = true)
    (kCm : PySem.W.keepIn K (.ref fCm) = true)
    (aPl : PySem.W.nsIn K mainGlobals "_pipe_line" = some (some (.ref fPl)))
    (lPl : K.lookup fPl = some ⟨ocPl, odPl, .func (PySem.W.fnOf "_pipe_line" "_pipe_line" (defArgs s_pipe_line) (defBody s_pipe_line) (defScope s_pipe_line) .none kVPl dcPl pmPl anPl cdPl ctPl), slPl⟩)
    (cPl : PySem.W.codeIn K cdPl "_pipe_line" = true)
    (kPl : PySem.W.keepIn K (.ref fPl) = true)
    (aMl : PySem.W.nsIn K mainGlobals "_meter_line" = some (some (.ref fMl)))
    (lMl : K.lookup fMl = some ⟨ocMl, odMl, .func (PySem.W.fnOf "_meter_line" "_meter_line" (defArgs s_meter_line) (defBody s_meter_line) (defScope s_meter_line) .none kVMl dcMl pmMl anMl cdMl ctMl), slMl⟩)
    (cMl : PySem.W.codeIn K cdMl "_meter_line" = true)
    (kMl : PySem.W.keepIn K (.ref fMl) = true)
    (aLs : PySem.W.nsIn K mainGlobals "_lines" = some (some (.ref fLs)))
    (lLs : K.lookup fLs = some ⟨ocLs, odLs, .func (PySem.W.fnOf "_lines" "_lines" (defArgs s_lines) (defBody s_lines) (defScope s_lines) .none kVLs dcLs pmLs anLs cdLs ctLs), slLs⟩)
    (cLs : PySem.W.codeIn K cdLs "_lines" = true)
    (kLs : PySem.W.keepIn K (.ref fLs) = true)
    (aNi : PySem.W.findIn K (.ref CN) "__init__" = some (some (.ref fNi)))
    (iNi : PySem.W.isFn K (.ref fNi) = true)
    (lNi : K.lookup fNi = some ⟨ocNi, odNi, .func (PySem.W.fnOf "__init__" "Net.__init__" (defArgs s_Net___init__) (defBody s_Net___init__) (defScope s_Net___init__) (.ref tD) kVNi dcNi pmNi anNi cdNi ctNi), slNi⟩)
    (cNi : PySem.W.codeIn K cdNi "Net.__init__" = true)
    (kNi : PySem.W.keepIn K (.ref fNi) = true)
    (lT : K.lookup tD = some ⟨.type "tuple", odT, .seq #[.ref t0] nT, slT⟩)
    (anp : PySem.W.findIn K (.ref CN) "pipes" = some (some (.ref pnp)))
    (gnp : PySem.W.specialIn K (.ref pnp) "__get__" = some (some (.builtin "property.__get__")))
    (tnp : PySem.W.takesIn K (.ref pnp) = some true)
    (rnp_ : PySem.W.recIn K pnp "property" = some (.ref fnp :: rnp))
    (lnp : K.lookup fnp = some ⟨ocnp, odnp, .func (PySem.W.fnOf "pipes" "Net.pipes" (defArgs s_Net_pipes) (defBody s_Net_pipes) (defScope s_Net_pipes) .none kVnp dcnp pmnp annp cdnp ctnp), slnp⟩)
    (cnp : PySem.W.codeIn K cdnp "Net.pipes" = true)
    (knp : PySem.W.keepIn K (.ref fnp) = true)
    (anm : PySem.W.findIn K (.ref CN) "meters" = some (some (.ref pnm)))
    (gnm : PySem.W.specialIn K (.ref pnm) "__get__" = some (some (.builtin "property.__get__")))
    (tnm : PySem.W.takesIn K (.ref pnm) = some true)
    (rnm_ : PySem.W.recIn K pnm "property" = some (.ref fnm :: rnm))
    (lnm : K.lookup fnm = some ⟨ocnm, odnm, .func (PySem.W.fnOf "meters" "Net.meters" (defArgs s_Net_meters) (defBody s_Net_meters) (defScope s_Net_meters) .none kVnm dcnm pmnm annm cdnm ctnm), slnm⟩)
    (cnm : PySem.W.codeIn K cdnm "Net.meters" = true)
    (knm : PySem.W.keepIn K (.ref fnm) = true)
    (aNl : PySem.W.findIn K (.ref CN) "__len__" = some (some (.ref fNl)))
    (iNl : PySem.W.isFn K (.ref fNl) = true)
    (lNl : K.lookup fNl = some ⟨ocNl, odNl, .func (PySem.W.fnOf "__len__" "Net.__len__" (defArgs s_Net___len__) (defBody s_Net___len__) (defScope s_Net___len__) .none kVNl dcNl pmNl anNl cdNl ctNl), slNl⟩)
    (cNl : PySem.W.codeIn K cdNl "Net.__len__" = true)
    (kNl : PySem.W.keepIn K (.ref fNl) = true)
    (fiNl : PySem.W.fnIn K fNl = true)
    (aNs : PySem.W.findIn K (.ref CN) "__str__" = some (some (.ref fNs)))
    (iNs : PySem.W.isFn K (.ref fNs) = true)
    (lNs : K.lookup fNs = some ⟨ocNs, odNs, .func (PySem.W.fnOf "__str__" "Net.__str__" (defArgs s_Net___str__) (defBody s_Net___str__) (defScope s_Net___str__) .none kVNs dcNs pmNs anNs cdNs ctNs), slNs⟩)
    (cNs : PySem.W.codeIn K cdNs "Net.__str__" = true)
    (kNs : PySem.W.keepIn K (.ref fNs) = true)
    (fiNs : PySem.W.fnIn K fNs = true)
    (aNq : PySem.W.findIn K (.ref CN) "__eq__" = some (some (.ref fNq)))
    (iNq : PySem.W.isFn K (.ref fNq) = true)
    (lNq : K.lookup fNq = some ⟨ocNq, odNq, .func (PySem.W.fnOf "__eq__" "Net.__eq__" (defArgs s_Net___eq__) (defBody s_Net___eq__) (defScope s_Net___eq__) .none kVNq dcNq pmNq anNq cdNq ctNq), slNq⟩)
    (cNq : PySem.W.codeIn K cdNq "Net.__eq__" = true)
    (kNq : PySem.W.keepIn K (.ref fNq) = true)
    (fiNq : PySem.W.fnIn K fNq = true)
    (aRw : PySem.W.nsIn K mainGlobals "_rows_in" = some (some (.ref fRw)))
    (lRw : K.lookup fRw = some ⟨ocRw, odRw, .func (PySem.W.fnOf "_rows_in" "_rows_in" (defArgs s_rows_in) (defBody s_rows_in) (defScope s_rows_in) .none kVRw dcRw pmRw anRw cdRw ctRw), slRw⟩)
    (cRw : PySem.W.codeIn K cdRw "_rows_in" = true)
    (kRw : PySem.W.keepIn K (.ref fRw) = true)
    (aPn : PySem.W.nsIn K mainGlobals "_pipes_in" = some (some (.ref fPn)))
    (lPn : K.lookup fPn = some ⟨ocPn, odPn, .func (PySem.W.fnOf "_pipes_in" "_pipes_in" (defArgs s_pipes_in) (defBody s_pipes_in) (defScope s_pipes_in) .none kVPn dcPn pmPn anPn cdPn ctPn), slPn⟩)
    (cPn : PySem.W.codeIn K cdPn "_pipes_in" = true)
    (kPn : PySem.W.keepIn K (.ref fPn) = true)
    (aMn : PySem.W.nsIn K mainGlobals "_meters_in" = some (some (.ref fMn)))
    (lMn : K.lookup fMn = some ⟨ocMn, odMn, .func (PySem.W.fnOf "_meters_in" "_meters_in" (defArgs s_meters_in) (defBody s_meters_in) (defScope s_meters_in) .none kVMn dcMn pmMn anMn cdMn ctMn), slMn⟩)
    (cMn : PySem.W.codeIn K cdMn "_meters_in" = true)
    (kMn : PySem.W.keepIn K (.ref fMn) = true)
    (rdN : PySem.W.readsIn K CN (.type "type") = true)
    (gaN : PySem.W.specialIn K (.ref CN) "__getattribute__" = some (some (.builtin "type.__getattribute__")))
    (aNr : PySem.W.findCls K (.ref CN) (.type "type") "read" = some (.get (.builtin "classmethod.__get__") (.ref pNr) .none (.ref CN)))
    (rNr_ : PySem.W.recIn K pNr "classmethod" = some (.ref fNr :: rNr))
    (fiNr : PySem.W.fnIn K fNr = true)
    (lNr : K.lookup fNr = some ⟨ocNr, odNr, .func (PySem.W.fnOf "read" "Net.read" (defArgs s_Net_read) (defBody s_Net_read) (defScope s_Net_read) .none kVNr dcNr pmNr anNr cdNr ctNr), slNr⟩)
    (cNr : PySem.W.codeIn K cdNr "Net.read" = true)
    (kNr : PySem.W.keepIn K (.ref fNr) = true)
    (b_list : PySem.W.nsIn K mainGlobals "list" = some none)
    (aNu : PySem.W.nsIn K mainGlobals "is_number" = some (some (.ref fNu)))
    (lNu : K.lookup fNu = some ⟨ocNu, odNu, .func (PySem.W.fnOf "is_number" "is_number" (defArgs s_is_number) (defBody s_is_number) (defScope s_is_number) .none kVNu dcNu pmNu anNu cdNu ctNu), slNu⟩)
    (cNu : PySem.W.codeIn K cdNu "is_number" = true)
    (kNu : PySem.W.keepIn K (.ref fNu) = true)
    (aKn : PySem.W.nsIn K mainGlobals "check_net" = some (some (.ref fKn)))
    (lKn : K.lookup fKn = some ⟨ocKn, odKn, .func (PySem.W.fnOf "check_net" "check_net" (defArgs s_check_net) (defBody s_check_net) (defScope s_check_net) .none kVKn dcKn pmKn anKn cdKn ctKn), slKn⟩)
    (cKn : PySem.W.codeIn K cdKn "check_net" = true)
    (kKn : PySem.W.keepIn K (.ref fKn) = true)
    (aMa : PySem.W.nsIn K mainGlobals "meters_at" = some (some (.ref fMa)))
    (lMa : K.lookup fMa = some ⟨ocMa, odMa, .func (PySem.W.fnOf "meters_at" "meters_at" (defArgs s_meters_at) (defBody s_meters_at) (defScope s_meters_at) .none kVMa dcMa pmMa anMa cdMa ctMa), slMa⟩)
    (cMa : PySem.W.codeIn K cdMa "meters_at" = true)
    (kMa : PySem.W.keepIn K (.ref fMa) = true)
    (apl : PySem.W.findIn K (.ref CN) "places" = some (some (.ref ppl)))
    (gpl : PySem.W.specialIn K (.ref ppl) "__get__" = some (some (.builtin "property.__get__")))
    (tpl : PySem.W.takesIn K (.ref ppl) = some true)
    (rpl_ : PySem.W.recIn K ppl "property" = some (.ref fpl :: rpl))
    (lpl : K.lookup fpl = some ⟨ocpl, odpl, .func (PySem.W.fnOf "places" "Net.places" (defArgs s_Net_places) (defBody s_Net_places) (defScope s_Net_places) .none kVpl dcpl pmpl anpl cdpl ctpl), slpl⟩)
    (cpl : PySem.W.codeIn K cdpl "Net.places" = true)
    (kpl : PySem.W.keepIn K (.ref fpl) = true)
    (aKr : PySem.W.nsIn K mainGlobals "check_prices" = some (some (.ref fKr)))
    (lKr : K.lookup fKr = some ⟨ocKr, odKr, .func (PySem.W.fnOf "check_prices" "check_prices" (defArgs s_check_prices) (defBody s_check_prices) (defScope s_check_prices) .none kVKr dcKr pmKr anKr cdKr ctKr), slKr⟩)
    (cKr : PySem.W.codeIn K cdKr "check_prices" = true)
    (kKr : PySem.W.keepIn K (.ref fKr) = true)
    (aMg : PySem.W.nsIn K mainGlobals "_merged" = some (some (.ref fMg)))
    (lMg : K.lookup fMg = some ⟨ocMg, odMg, .func (PySem.W.fnOf "_merged" "_merged" (defArgs s_merged) (defBody s_merged) (defScope s_merged) .none kVMg dcMg pmMg anMg cdMg ctMg), slMg⟩)
    (cMg : PySem.W.codeIn K cdMg "_merged" = true)
    (kMg : PySem.W.keepIn K (.ref fMg) = true)
    (aSp : PySem.W.nsIn K mainGlobals "split" = some (some (.ref fSp)))
    (lSp : K.lookup fSp = some ⟨ocSp, odSp, .func (PySem.W.fnOf "split" "split" (defArgs s_split) (defBody s_split) (defScope s_split) .none kVSp dcSp pmSp anSp cdSp ctSp), slSp⟩)
    (cSp : PySem.W.codeIn K cdSp "split" = true)
    (kSp : PySem.W.keepIn K (.ref fSp) = true)
    (aBy : PySem.W.nsIn K mainGlobals "split_by_price" = some (some (.ref fBy)))
    (lBy : K.lookup fBy = some ⟨ocBy, odBy, .func (PySem.W.fnOf "split_by_price" "split_by_price" (defArgs s_split_by_price) (defBody s_split_by_price) (defScope s_split_by_price) .none kVBy dcBy pmBy anBy cdBy ctBy), slBy⟩)
    (cBy : PySem.W.codeIn K cdBy "split_by_price" = true)
    (kBy : PySem.W.keepIn K (.ref fBy) = true)
    (aCh : PySem.W.nsIn K mainGlobals "cheapest" = some (some (.ref fCh)))
    (lCh : K.lookup fCh = some ⟨ocCh, odCh, .func (PySem.W.fnOf "cheapest" "cheapest" (defArgs s_cheapest) (defBody s_cheapest) (defScope s_cheapest) .none kVCh dcCh pmCh anCh cdCh ctCh), slCh⟩)
    (cCh : PySem.W.codeIn K cdCh "cheapest" = true)
    (kCh : PySem.W.keepIn K (.ref fCh) = true)
    (aSg : PySem.W.nsIn K mainGlobals "_law_spring" = some (some (.ref fSg)))
    (lSg : K.lookup fSg = some ⟨ocSg, odSg, .func (PySem.W.fnOf "_law_spring" "_law_spring" (defArgs s_spring) (defBody s_spring) (defScope s_spring) .none kVSg dcSg pmSg anSg cdSg ctSg), slSg⟩)
    (cSg : PySem.W.codeIn K cdSg "_law_spring" = true)
    (kSg : PySem.W.keepIn K (.ref fSg) = true)
    (aTa : PySem.W.nsIn K mainGlobals "_law_take" = some (some (.ref fTa)))
    (lTa : K.lookup fTa = some ⟨ocTa, odTa, .func (PySem.W.fnOf "_law_take" "_law_take" (defArgs s_take) (defBody s_take) (defScope s_take) .none kVTa dcTa pmTa anTa cdTa ctTa), slTa⟩)
    (cTa : PySem.W.codeIn K cdTa "_law_take" = true)
    (kTa : PySem.W.keepIn K (.ref fTa) = true)
    (aTi : PySem.W.nsIn K mainGlobals "_law_titles" = some (some (.ref fTi)))
    (lTi : K.lookup fTi = some ⟨ocTi, odTi, .func (PySem.W.fnOf "_law_titles" "_law_titles" (defArgs s_titles) (defBody s_titles) (defScope s_titles) .none kVTi dcTi pmTi anTi cdTi ctTi), slTi⟩)
    (cTi : PySem.W.codeIn K cdTi "_law_titles" = true)
    (kTi : PySem.W.keepIn K (.ref fTi) = true)
    (aPa : PySem.W.nsIn K mainGlobals "_law_plan" = some (some (.ref fPa)))
    (lPa : K.lookup fPa = some ⟨ocPa, odPa, .func (PySem.W.fnOf "_law_plan" "_law_plan" (defArgs s_plan) (defBody s_plan) (defScope s_plan) .none kVPa dcPa pmPa anPa cdPa ctPa), slPa⟩)
    (cPa : PySem.W.codeIn K cdPa "_law_plan" = true)
    (kPa : PySem.W.keepIn K (.ref fPa) = true)
    (aGr : PySem.W.nsIn K mainGlobals "_law_grid" = some (some (.ref fGr)))
    (lGr : K.lookup fGr = some ⟨ocGr, odGr, .func (PySem.W.fnOf "_law_grid" "_law_grid" (defArgs s_grid) (defBody s_grid) (defScope s_grid) .none kVGr dcGr pmGr anGr cdGr ctGr), slGr⟩)
    (cGr : PySem.W.codeIn K cdGr "_law_grid" = true)
    (kGr : PySem.W.keepIn K (.ref fGr) = true)
    (aPh : PySem.W.nsIn K mainGlobals "_law_path" = some (some (.ref fPh)))
    (lPh : K.lookup fPh = some ⟨ocPh, odPh, .func (PySem.W.fnOf "_law_path" "_law_path" (defArgs s_path) (defBody s_path) (defScope s_path) .none kVPh dcPh pmPh anPh cdPh ctPh), slPh⟩)
    (cPh : PySem.W.codeIn K cdPh "_law_path" = true)
    (kPh : PySem.W.keepIn K (.ref fPh) = true)
    (aRg : PySem.W.nsIn K mainGlobals "_law_rings" = some (some (.ref fRg)))
    (lRg : K.lookup fRg = some ⟨ocRg, odRg, .func (PySem.W.fnOf "_law_rings" "_law_rings" (defArgs s_rings) (defBody s_rings) (defScope s_rings) .none kVRg dcRg pmRg anRg cdRg ctRg), slRg⟩)
    (cRg : PySem.W.codeIn K cdRg "_law_rings" = true)
    (kRg : PySem.W.keepIn K (.ref fRg) = true)
    (aSe : PySem.W.nsIn K mainGlobals "_law_sets" = some (some (.ref fSe)))
    (lSe : K.lookup fSe = some ⟨ocSe, odSe, .func (PySem.W.fnOf "_law_sets" "_law_sets" (defArgs s_sets) (defBody s_sets) (defScope s_sets) .none kVSe dcSe pmSe anSe cdSe ctSe), slSe⟩)
    (cSe : PySem.W.codeIn K cdSe "_law_sets" = true)
    (kSe : PySem.W.keepIn K (.ref fSe) = true)
    (aOp : PySem.W.nsIn K mainGlobals "_law_open" = some (some (.ref fOp)))
    (lOp : K.lookup fOp = some ⟨ocOp, odOp, .func (PySem.W.fnOf "_law_open" "_law_open" (defArgs s_open) (defBody s_open) (defScope s_open) .none kVOp dcOp pmOp anOp cdOp ctOp), slOp⟩)
    (cOp : PySem.W.codeIn K cdOp "_law_open" = true)
    (kOp : PySem.W.keepIn K (.ref fOp) = true)
    (aLe : PySem.W.nsIn K mainGlobals "_law_least" = some (some (.ref fLe)))
    (lLe : K.lookup fLe = some ⟨ocLe, odLe, .func (PySem.W.fnOf "_law_least" "_law_least" (defArgs s_least) (defBody s_least) (defScope s_least) .none kVLe dcLe pmLe anLe cdLe ctLe), slLe⟩)
    (cLe : PySem.W.codeIn K cdLe "_law_least" = true)
    (kLe : PySem.W.keepIn K (.ref fLe) = true)
    (aRi : PySem.W.nsIn K mainGlobals "_law_right" = some (some (.ref fRi)))
    (lRi : K.lookup fRi = some ⟨ocRi, odRi, .func (PySem.W.fnOf "_law_right" "_law_right" (defArgs s_right) (defBody s_right) (defScope s_right) .none kVRi dcRi pmRi anRi cdRi ctRi), slRi⟩)
    (cRi : PySem.W.codeIn K cdRi "_law_right" = true)
    (kRi : PySem.W.keepIn K (.ref fRi) = true)
    (aLa : PySem.W.nsIn K mainGlobals "law" = some (some (.ref fLa)))
    (lLa : K.lookup fLa = some ⟨ocLa, odLa, .func (PySem.W.fnOf "law" "law" (defArgs s_law) (defBody s_law) (defScope s_law) .none kVLa dcLa pmLa anLa cdLa ctLa), slLa⟩)
    (cLa : PySem.W.codeIn K cdLa "law" = true)
    (kLa : PySem.W.keepIn K (.ref fLa) = true)
    : ∃ fd : FuncData, (∀ (s : Shared) (v : Value), BindsTo s fd ⟨[v], []⟩ [("_law_script", v)]) ∧ ∀ base : Heap, K.In base → base.Ns mainGlobals mg → FnG l.prog w K mg base 10 fa fd ["_law_script"] (spLaw K) := by
  have e := hfa.symm.trans (PySem.W.mg_of X G aLa)
  cases e
  have T : Blt mg := ⟨PySem.W.mg_none_of X G b_len, PySem.W.mg_none_of X G b_int, PySem.W.mg_none_of X G b_abs, PySem.W.mg_none_of X G b_max, PySem.W.mg_none_of X G b_min, PySem.W.mg_none_of X G b_all, PySem.W.mg_none_of X G b_any, PySem.W.mg_none_of X G b_repr, PySem.W.mg_none_of X G b_range, PySem.W.mg_none_of X G b_divmod, PySem.W.mg_none_of X G b_isinstance, PySem.W.mg_none_of X G b_str⟩
  have T2 : Blt2 mg := ⟨PySem.W.mg_none_of X G b_sum, PySem.W.mg_none_of X G b_sorted, PySem.W.mg_none_of X G b_set, PySem.W.mg_none_of X G b_tuple, PySem.W.mg_none_of X G b_enumerate, PySem.W.mg_none_of X G b_bool⟩
  have Cs : Cst mg := ⟨⟨_, PySem.W.mg_of X G g__LETTERS, _, rfl⟩, ⟨_, PySem.W.mg_of X G g__DIGITS, _, rfl⟩, ⟨_, PySem.W.mg_of X G g__LONGEST_NAME, _, rfl⟩⟩
  have Cs3 : Cst3 mg := ⟨⟨_, PySem.W.mg_of X G g_MOST_PIPES, _, rfl⟩, ⟨_, PySem.W.mg_of X G g_MOST_METERS, _, rfl⟩⟩
  have FIn := fun_mk (st := s_is_name) lIn cIn kIn
  have bIn : Binds K _ ["value"] [] := FIn.binds (ps := ["value"]) fun _ _ _ _ _ _ us hl => match us, hl with | [_], _ => rfl
  have FCn := fun_mk (st := s_check_names) lCn cCn kCn
  have bCn : Binds K _ ["values"] [] := FCn.binds (ps := ["values"]) fun _ _ _ _ _ _ us hl => match us, hl with | [_], _ => rfl
  have clP : Cls K CP := ⟨pgP, hdP, poP, saP⟩
  have clM : Cls K CM := ⟨pgM, hdM, poM, saM⟩
  have PC : PClass K mg CP := ⟨⟨clP, haP, hn, htk, hmP⟩, PySem.W.mg_of X G nP, noP0, noP1, noP2, kit_self K CP⟩
  have MC : MClass K mg CM := ⟨⟨clM, haM, hn, htk, hmM⟩, PySem.W.mg_of X G nM, noM0, noM1, noM2, kit_self K CM⟩
  have FPi := fun_mk (st := s_Pipe___init__) lPi cPi kPi
  have bPi : Binds K _ ["self", "name", "start", "end"] [] := FPi.binds (ps := ["self", "name", "start", "end"]) fun _ _ _ _ _ _ us hl => match us, hl with | [_, _, _, _], _ => rfl
  have MkP : Mk K CP fPi := ⟨mkP, aPi, iPi, kcP⟩
  have FMi : FunD K "__init__" "Meter.__init__" (defArgs s_Meter___init__) (defBody s_Meter___init__) (defScope s_Meter___init__) [] [("sealed", V.bl false)] fMi _ := ⟨⟨_, _, _, _, _, _, _, _, _, _, rfl, lMi, cMi, .inl ⟨rfl, rfl⟩, .inr ⟨kDMi, rfl, fun q hq => by
    rw [List.mem_singleton.mp hq]
    exact ⟨_, kd, rfl⟩⟩⟩, kMi⟩
  have MkM : Mk K CM fMi := ⟨mkM, aMi, iMi, kcM⟩
  have Fpn := fun_mk (st := s_Pipe_name) lpn cpn kpn
  have bpn : Binds K _ ["self"] [] := Fpn.binds (ps := ["self"]) fun _ _ _ _ _ _ us hl => match us, hl with | [_], _ => rfl
  have Fps := fun_mk (st := s_Pipe_start) lps cps kps
  have bps : Binds K _ ["self"] [] := Fps.binds (ps := ["self"]) fun _ _ _ _ _ _ us hl => match us, hl with | [_], _ => rfl
  have Fpe := fun_mk (st := s_Pipe_end) lpe cpe kpe
  have bpe : Binds K _ ["self"] [] := Fpe.binds (ps := ["self"]) fun _ _ _ _ _ _ us hl => match us, hl with | [_], _ => rfl
  have Fmn := fun_mk (st := s_Meter_name) lmn cmn kmn
  have bmn : Binds K _ ["self"] [] := Fmn.binds (ps := ["self"]) fun _ _ _ _ _ _ us hl => match us, hl with | [_], _ => rfl
  have Fma := fun_mk (st := s_Meter_at) lma cma kma
  have bma : Binds K _ ["self"] [] := Fma.binds (ps := ["self"]) fun _ _ _ _ _ _ us hl => match us, hl with | [_], _ => rfl
  have Fmz := fun_mk (st := s_Meter_sealed) lmz cmz kmz
  have bmz : Binds K _ ["self"] [] := Fmz.binds (ps := ["self"]) fun _ _ _ _ _ _ us hl => match us, hl with | [_], _ => rfl
  have FPq := fun_mk (st := s_Pipe___eq__) lPq cPq kPq
  have bPq : Binds K _ ["self", "other"] [] := FPq.binds (ps := ["self", "other"]) fun _ _ _ _ _ _ us hl => match us, hl with | [_, _], _ => rfl
  have FMq := fun_mk (st := s_Meter___eq__) lMq cMq kMq
  have bMq : Binds K _ ["self", "other"] [] := FMq.binds (ps := ["self", "other"]) fun _ _ _ _ _ _ us hl => match us, hl with | [_, _], _ => rfl
  have clN : Cls K CN := ⟨pgN, hdN, poN, saN⟩
  have NC : NClass K mg CN := ⟨⟨clN, haN, hn, htk, hmN⟩, PySem.W.mg_of X G nN, noN0, noN1, kit_self K CN⟩
  have FIo := fun_mk (st := s_index_of) lIo cIo kIo
  have bIo : Binds K _ ["parts", "name"] [] := FIo.binds (ps := ["parts", "name"]) fun _ _ _ _ _ _ us hl => match us, hl with | [_, _], _ => rfl
  have FCp := fun_mk (st := s_check_pipes) lCp cCp kCp
  have bCp : Binds K _ ["pipes"] [] := FCp.binds (ps := ["pipes"]) fun _ _ _ _ _ _ us hl => match us, hl with | [_], _ => rfl
  have FCm := fun_mk (st := s_check_meters) lCm cCm kCm
  have bCm : Binds K _ ["meters", "pipes"] [] := FCm.binds (ps := ["meters", "pipes"]) fun _ _ _ _ _ _ us hl => match us, hl with | [_, _], _ => rfl
  have FPl := fun_mk (st := s_pipe_line) lPl cPl kPl
  have bPl : Binds K _ ["part"] [] := FPl.binds (ps := ["part"]) fun _ _ _ _ _ _ us hl => match us, hl with | [_], _ => rfl
  have FMl := fun_mk (st := s_meter_line) lMl cMl kMl
  have bMl : Binds K _ ["part"] [] := FMl.binds (ps := ["part"]) fun _ _ _ _ _ _ us hl => match us, hl with | [_], _ => rfl
  have FLs := fun_mk (st := s_lines) lLs cLs kLs
  have bLs : Binds K _ ["pipes", "meters"] [] := FLs.binds (ps := ["pipes", "meters"]) fun _ _ _ _ _ _ us hl => match us, hl with | [_, _], _ => rfl
  have FNi : FunD K "__init__" "Net.__init__" (defArgs s_Net___init__) (defBody s_Net___init__) (defScope s_Net___init__) [.ref t0] [] fNi _ := ⟨⟨_, _, _, _, _, _, _, _, _, _, rfl, lNi, cNi, .inr ⟨by simp, tD, _, [.ref t0], nT, rfl, lT, rfl, .cons rfl .nil⟩, .inl rfl⟩, kNi⟩
  obtain ⟨dsN, vdN, bdN⟩ := chainN FNi
  have MkN : Mk K CN fNi := ⟨mkN, aNi, iNi, kcN⟩
  have Fnp := fun_mk (st := s_Net_pipes) lnp cnp knp
  have bnp : Binds K _ ["self"] [] := Fnp.binds (ps := ["self"]) fun _ _ _ _ _ _ us hl => match us, hl with | [_], _ => rfl
  have Fnm := fun_mk (st := s_Net_meters) lnm cnm knm
  have bnm : Binds K _ ["self"] [] := Fnm.binds (ps := ["self"]) fun _ _ _ _ _ _ us hl => match us, hl with | [_], _ => rfl
  have FNl := fun_mk (st := s_Net___len__) lNl cNl kNl
  have bNl : Binds K _ ["self"] [] := FNl.binds (ps := ["self"]) fun _ _ _ _ _ _ us hl => match us, hl with | [_], _ => rfl
  have FNs := fun_mk (st := s_Net___str__) lNs cNs kNs
  have bNs : Binds K _ ["self"] [] := FNs.binds (ps := ["self"]) fun _ _ _ _ _ _ us hl => match us, hl with | [_], _ => rfl
  have FNq := fun_mk (st := s_Net___eq__) lNq cNq kNq
  have bNq : Binds K _ ["self", "other"] [] := FNq.binds (ps := ["self", "other"]) fun _ _ _ _ _ _ us hl => match us, hl with | [_, _], _ => rfl
  have FRw := fun_mk (st := s_rows_in) lRw cRw kRw
  have bRw : Binds K _ ["text"] [] := FRw.binds (ps := ["text"]) fun _ _ _ _ _ _ us hl => match us, hl with | [_], _ => rfl
  have FPn := fun_mk (st := s_pipes_in) lPn cPn kPn
  have bPn : Binds K _ ["text"] [] := FPn.binds (ps := ["text"]) fun _ _ _ _ _ _ us hl => match us, hl with | [_], _ => rfl
  have FMn := fun_mk (st := s_meters_in) lMn cMn kMn
  have bMn : Binds K _ ["text"] [] := FMn.binds (ps := ["text"]) fun _ _ _ _ _ _ us hl => match us, hl with | [_], _ => rfl
  have RN : ClX.CRead K CN (.type "type") := ⟨rdN, gaN⟩
  have FNr := fun_mk (st := s_Net_read) lNr cNr kNr
  have bNr : Binds K _ ["cls", "text"] [] := FNr.binds (ps := ["cls", "text"]) fun _ _ _ _ _ _ us hl => match us, hl with | [_, _], _ => rfl
  have FNu := fun_mk (st := s_is_number) lNu cNu kNu
  have bNu : Binds K _ ["value"] [] := FNu.binds (ps := ["value"]) fun _ _ _ _ _ _ us hl => match us, hl with | [_], _ => rfl
  have FKn := fun_mk (st := s_check_net) lKn cKn kKn
  have bKn : Binds K _ ["net"] [] := FKn.binds (ps := ["net"]) fun _ _ _ _ _ _ us hl => match us, hl with | [_], _ => rfl
  have FMa := fun_mk (st := s_meters_at) lMa cMa kMa
  have bMa : Binds K _ ["net", "name"] [] := FMa.binds (ps := ["net", "name"]) fun _ _ _ _ _ _ us hl => match us, hl with | [_, _], _ => rfl
  have Fpl := fun_mk (st := s_Net_places) lpl cpl kpl
  have bpl : Binds K _ ["self"] [] := Fpl.binds (ps := ["self"]) fun _ _ _ _ _ _ us hl => match us, hl with | [_], _ => rfl
  have FKr := fun_mk (st := s_check_prices) lKr cKr kKr
  have bKr : Binds K _ ["net", "prices"] [] := FKr.binds (ps := ["net", "prices"]) fun _ _ _ _ _ _ us hl => match us, hl with | [_, _], _ => rfl
  have FMg := fun_mk (st := s_merged) lMg cMg kMg
  have bMg : Binds K _ ["marks", "part"] [] := FMg.binds (ps := ["marks", "part"]) fun _ _ _ _ _ _ us hl => match us, hl with | [_, _], _ => rfl
  have FSp := fun_mk (st := s_split) lSp cSp kSp
  have bSp : Binds K _ ["net", "parts"] [] := FSp.binds (ps := ["net", "parts"]) fun _ _ _ _ _ _ us hl => match us, hl with | [_, _], _ => rfl
  have FBy := fun_mk (st := s_split_by_price) lBy cBy kBy
  have bBy : Binds K _ ["net", "prices"] [] := FBy.binds (ps := ["net", "prices"]) fun _ _ _ _ _ _ us hl => match us, hl with | [_, _], _ => rfl
  have FCh := fun_mk (st := s_cheapest) lCh cCh kCh
  have bCh : Binds K _ ["net", "prices"] [] := FCh.binds (ps := ["net", "prices"]) fun _ _ _ _ _ _ us hl => match us, hl with | [_, _], _ => rfl
  have FSg := fun_mk (st := s_spring) lSg cSg kSg
  have bSg : Binds K _ ["_law_script", "_law_k"] [] := FSg.binds (ps := ["_law_script", "_law_k"]) fun _ _ _ _ _ _ us hl => match us, hl with | [_, _], _ => rfl
  have FTa := fun_mk (st := s_take) lTa cTa kTa
  have bTa : Binds K _ ["_law_spring_here", "_law_many"] [] := FTa.binds (ps := ["_law_spring_here", "_law_many"]) fun _ _ _ _ _ _ us hl => match us, hl with | [_, _], _ => rfl
  have FTi := fun_mk (st := s_titles) lTi cTi kTi
  have bTi : Binds K _ ["_law_spring_here", "_law_many"] [] := FTi.binds (ps := ["_law_spring_here", "_law_many"]) fun _ _ _ _ _ _ us hl => match us, hl with | [_, _], _ => rfl
  have FPa := fun_mk (st := s_plan) lPa cPa kPa
  have bPa : Binds K _ ["_law_spring_here", "_law_tubes", "_law_gauges"] [] := FPa.binds (ps := ["_law_spring_here", "_law_tubes", "_law_gauges"]) fun _ _ _ _ _ _ us hl => match us, hl with | [_, _, _], _ => rfl
  have FGr := fun_mk (st := s_grid) lGr cGr kGr
  have bGr : Binds K _ ["_law_plan_here"] [] := FGr.binds (ps := ["_law_plan_here"]) fun _ _ _ _ _ _ us hl => match us, hl with | [_], _ => rfl
  have FPh := fun_mk (st := s_path) lPh cPh kPh
  have bPh : Binds K _ ["_law_tubes", "_law_kept", "_law_first", "_law_last"] [] := FPh.binds (ps := ["_law_tubes", "_law_kept", "_law_first", "_law_last"]) fun _ _ _ _ _ _ us hl => match us, hl with | [_, _, _, _], _ => rfl
  have FRg := fun_mk (st := s_rings) lRg cRg kRg
  have bRg : Binds K _ ["_law_tubes"] [] := FRg.binds (ps := ["_law_tubes"]) fun _ _ _ _ _ _ us hl => match us, hl with | [_], _ => rfl
  have FSe := fun_mk (st := s_sets) lSe cSe kSe
  have bSe : Binds K _ ["_law_items_here", "_law_size"] [] := FSe.binds (ps := ["_law_items_here", "_law_size"]) fun _ _ _ _ _ _ us hl => match us, hl with | [_, _], _ => rfl
  have FOp := fun_mk (st := s_open) lOp cOp kOp
  have bOp : Binds K _ ["_law_plan_here", "_law_chosen"] [] := FOp.binds (ps := ["_law_plan_here", "_law_chosen"]) fun _ _ _ _ _ _ us hl => match us, hl with | [_, _], _ => rfl
  have FLe := fun_mk (st := s_least) lLe cLe kLe
  have bLe : Binds K _ ["_law_plan_here", "_law_fees"] [] := FLe.binds (ps := ["_law_plan_here", "_law_fees"]) fun _ _ _ _ _ _ us hl => match us, hl with | [_, _], _ => rfl
  have FRi := fun_mk (st := s_right) lRi cRi kRi
  have bRi : Binds K _ ["_law_spring_here"] [] := FRi.binds (ps := ["_law_spring_here"]) fun _ _ _ _ _ _ us hl => match us, hl with | [_], _ => rfl
  refine ⟨PySem.W.fnOf "law" "law" (defArgs s_law) (defBody s_law) (defScope s_law) .none kVLa dcLa pmLa anLa cdLa ctLa, fun s v => .of_eq rfl, fun base _ _ => ?_⟩
  have GIn : Fn l.prog w K mg base "is_name" 1 ["value"] (sp_is_name K) := ⟨_, _, PySem.W.mg_of X G aIn, kIn, bIn, ok_is_name FIn T Cs⟩
  have GCn : Fn l.prog w K mg base "_check_names" 2 ["values"] (sp_check K) := ⟨_, _, PySem.W.mg_of X G aCn, kCn, bCn, ok_check_names FCn GIn.irr⟩
  have OPi : FnOk l.prog w K mg base CX0 3 fPi _ ["self", "name", "start", "end"] (sp_Pipe CP) := ok_Pipe_i FPi PC GCn.irr
  have P0 : Mkr l.prog w K mg base "Pipe" CP 3 (sp_Pipe CP) [] := ⟨PC.k, _, _, _, [], MkP, bPi, .nil, OPi⟩
  have OMi : FnOk l.prog w K mg base CX0 3 fMi _ ["self", "name", "at", "sealed"] (sp_Meter CM) := ok_Meter_i FMi MC GCn.irr
  have M2 : MkrK l.prog w K mg base "Meter" CM 3 2 ["sealed"] (sp_Meter CM) gM2 := ⟨MC.k, _, _, _, _, MkM, kbM2 FMi, OMi⟩
  have Gpn : Prp l.prog w K mg base CP "name" 1 (sp_pn CP) := ⟨clP, _, _, _, _, ⟨apn, gpn, tpn, _, rpn_⟩, bpn, ok_Pipe_name Fpn PC⟩
  have Gps : Prp l.prog w K mg base CP "start" 1 (sp_ps CP) := ⟨clP, _, _, _, _, ⟨aps, gps, tps, _, rps_⟩, bps, ok_Pipe_start Fps PC⟩
  have Gpe : Prp l.prog w K mg base CP "end" 1 (sp_pe CP) := ⟨clP, _, _, _, _, ⟨ape, gpe, tpe, _, rpe_⟩, bpe, ok_Pipe_end Fpe PC⟩
  have Gmn : Prp l.prog w K mg base CM "name" 1 (sp_mn CM) := ⟨clM, _, _, _, _, ⟨amn, gmn, tmn, _, rmn_⟩, bmn, ok_Meter_name Fmn MC⟩
  have Gma : Prp l.prog w K mg base CM "at" 1 (sp_ma CM) := ⟨clM, _, _, _, _, ⟨ama, gma, tma, _, rma_⟩, bma, ok_Meter_at Fma MC⟩
  have Gmz : Prp l.prog w K mg base CM "sealed" 1 (sp_mz CM) := ⟨clM, _, _, _, _, ⟨amz, gmz, tmz, _, rmz_⟩, bmz, ok_Meter_sealed Fmz MC⟩
  have GPq : OwnM l.prog w K mg base CP "__eq__" 1 (sp_Peq CP) := ⟨_, _, _, aPq, iPq, fiPq, bPq, ok_Pipe_q FPq PC T⟩
  have GMq : OwnM l.prog w K mg base CM "__eq__" 1 (sp_Meq CM) := ⟨_, _, _, aMq, iMq, fiMq, bMq, ok_Meter_q FMq MC T⟩
  have qP : OwnEq l.prog w K mg base CP 1 (sp_Peq CP) := ⟨⟨_, _, _, aPq, iPq, bPq, ok_Pipe_q FPq PC T⟩, neP, obP⟩
  have qM : OwnEq l.prog w K mg base CM 1 (sp_Meq CM) := ⟨⟨_, _, _, aMq, iMq, bMq, ok_Meter_q FMq MC T⟩, neM, obM⟩
  have GIo : Fn l.prog w K mg base "_index_of" 3 ["parts", "name"] (sp_index K CP) := ⟨_, _, PySem.W.mg_of X G aIo, kIo, bIo, ok_index_of FIo T T2 Gpn.irr⟩
  have GCp : Fn l.prog w K mg base "_check_pipes" 3 ["pipes"] (sp_chkP K CP) := ⟨_, _, PySem.W.mg_of X G aCp, kCp, bCp, ok_check_pipes FCp T T2 Cs3 PC Gpn.irr⟩
  have GCm : Fn l.prog w K mg base "_check_meters" 4 ["meters", "pipes"] (sp_chkM K CP CM) := ⟨_, _, PySem.W.mg_of X G aCm, kCm, bCm, ok_check_meters FCm T T2 Cs3 MC Gmn.irr Gma.irr GIo.irr⟩
  have GPl : Fn l.prog w K mg base "_pipe_line" 3 ["part"] (sp_pline CP) := ⟨_, _, PySem.W.mg_of X G aPl, kPl, bPl, ok_pipe_line FPl Gpn.irr Gps.irr Gpe.irr⟩
  have GMl : Fn l.prog w K mg base "_meter_line" 3 ["part"] (sp_mline CM) := ⟨_, _, PySem.W.mg_of X G aMl, kMl, bMl, ok_meter_line FMl Gmn.irr Gma.irr Gmz.irr⟩
  have GLs : Fn l.prog w K mg base "_lines" 4 ["pipes", "meters"] (sp_lines K CP CM) := ⟨_, _, PySem.W.mg_of X G aLs, kLs, bLs, ok_lines FLs GPl.irr GMl.irr⟩
  have ONi : FnOk l.prog w K mg base CX0 5 fNi _ ["self", "pipes", "meters"] (sp_Net K CN CP CM) := ok_Net_i FNi NC GCp.irr GCm.irr
  have N1 : Mkr l.prog w K mg base "Net" CN 5 (sp_Net K CN CP CM) [] := ⟨NC.k, _, _, _, dsN, MkN, bdN, vdN, ONi⟩
  have Gnp : Prp l.prog w K mg base CN "pipes" 1 (sp_npi CN) := ⟨clN, _, _, _, _, ⟨anp, gnp, tnp, _, rnp_⟩, bnp, ok_Net_p Fnp NC⟩
  have Gnm : Prp l.prog w K mg base CN "meters" 1 (sp_nme CN) := ⟨clN, _, _, _, _, ⟨anm, gnm, tnm, _, rnm_⟩, bnm, ok_Net_m Fnm NC⟩
  have GNl : OwnM l.prog w K mg base CN "__len__" 1 (sp_nlen K CN) := ⟨_, _, _, aNl, iNl, fiNl, bNl, ok_Net_l FNl NC T⟩
  have GNs : OwnM l.prog w K mg base CN "__str__" 5 (sp_nstr K CN CP CM) := ⟨_, _, _, aNs, iNs, fiNs, bNs, ok_Net_s FNs NC GLs.irr⟩
  have GNq : OwnM l.prog w K mg base CN "__eq__" 4 (sp_Neq K CN CP CM) := ⟨_, _, _, aNq, iNq, fiNq, bNq, ok_Net_q FNq NC T qP qM⟩
  have qN : OwnEq l.prog w K mg base CN 4 (sp_Neq K CN CP CM) := ⟨⟨_, _, _, aNq, iNq, bNq, ok_Net_q FNq NC T qP qM⟩, neN, obN⟩
  have GRw : Fn l.prog w K mg base "_rows_in" 1 ["text"] (sp_rows) := ⟨_, _, PySem.W.mg_of X G aRw, kRw, bRw, ok_rows_in (K := K) FRw ⟩
  have GPn : Fn l.prog w K mg base "_pipes_in" 5 ["text"] (sp_pin K CP) := ⟨_, _, PySem.W.mg_of X G aPn, kPn, bPn, ok_pipes_in FPn T T2 GRw.irr P0.irr⟩
  have GMn : Fn l.prog w K mg base "_meters_in" 5 ["text"] (sp_min K CM) := ⟨_, _, PySem.W.mg_of X G aMn, kMn, bMn, ok_meters_in FMn T T2 GRw.irr M2.irr⟩
  have ONr := ok_Net_r (P := l.prog) (w := w) (mg := mg) (base := base) FNr T N1.irr GPn.irr GMn.irr GNs.irr
  have GNr : ClsM l.prog w K mg base CN "read" 8 ["cls", "text"] (sp_nread K CN CP CM) := ⟨.type "type", pNr, fNr, _, RN, ⟨aNr, ⟨_, rNr_⟩, fiNr⟩, bNr, ONr⟩
  have GNk : ClsMK l.prog w K mg base CN "read" 8 ["text"] (sp_nread K CN CP CM) gR := ⟨.type "type", pNr, fNr, _, _, _, RN, ⟨aNr, ⟨_, rNr_⟩, fiNr⟩, kbNR FNr, ONr⟩
  have GNu : Fn l.prog w K mg base "is_number" 1 ["value"] (sp_is_number K) := ⟨_, _, PySem.W.mg_of X G aNu, kNu, bNu, ok_is_number FNu T T2⟩
  have GKn : Fn l.prog w K mg base "check_net" 1 ["net"] (sp_chkn K CN CP CM) := ⟨_, _, PySem.W.mg_of X G aKn, kKn, bKn, ok_chkn FKn T NC⟩
  have GMa : Fn l.prog w K mg base "meters_at" 3 ["net", "name"] (sp_mat K CN CP CM) := ⟨_, _, PySem.W.mg_of X G aMa, kMa, bMa, ok_mat FMa Gnm.irr Gma.irr⟩
  have Gpl : Prp l.prog w K mg base CN "places" 3 (sp_plc K CN CP CM) := ⟨clN, _, _, _, _, ⟨apl, gpl, tpl, _, rpl_⟩, bpl, ok_Net_pl Fpl T T2 NC Gps.irr Gpe.irr⟩
  have GKr : Fn l.prog w K mg base "check_prices" 3 ["net", "prices"] (sp_chkpr K CN CP CM) := ⟨_, _, PySem.W.mg_of X G aKr, kKr, bKr, ok_chkpr FKr T T2 Gnp.irr GNu.irr⟩
  have GMg : Fn l.prog w K mg base "_merged" 3 ["marks", "part"] (sp_mrgd CP) := ⟨_, _, PySem.W.mg_of X G aMg, kMg, bMg, ok_merged FMg Gps.irr Gpe.irr⟩
  have GSp : Fn l.prog w K mg base "split" 5 ["net", "parts"] (sp_split K CN CP CM) := ⟨_, _, PySem.W.mg_of X G aSp, kSp, bSp, ok_split FSp Gpl.irr Gps.irr Gpe.irr GMg.irr⟩
  have GBy : Fn l.prog w K mg base "split_by_price" 6 ["net", "prices"] (sp_byp K CN CP CM) := ⟨_, _, PySem.W.mg_of X G aBy, kBy, bBy, ok_byp FBy T T2 Gnp.irr Gpn.irr GSp.irr GMa.irr⟩
  have GCh : Fn l.prog w K mg base "cheapest" 7 ["net", "prices"] (sp_cheap K CN CP CM) := ⟨_, _, PySem.W.mg_of X G aCh, kCh, bCh, ok_cheap FCh T2 GKn.irr GKr.irr GBy.irr Gpn.irr⟩
  have GCk : FnKd l.prog w K mg base "cheapest" 7 ["prices", "net"] (sp_cheap K CN CP CM) gPN := ⟨_, _, ["net", "prices"], _, PySem.W.mg_of X G aCh, kCh, kbCh FCh, ok_cheap FCh T2 GKn.irr GKr.irr GBy.irr Gpn.irr⟩
  have GSg : Fn l.prog w K mg base "_law_spring" 1 ["_law_script", "_law_k"] (sp_spring K) := ⟨_, _, PySem.W.mg_of X G aSg, kSg, bSg, ok_spring FSg T⟩
  have GTa : Fn l.prog w K mg base "_law_take" 1 ["_law_spring_here", "_law_many"] (sp_dip) := ⟨_, _, PySem.W.mg_of X G aTa, kTa, bTa, ok_take FTa T⟩
  have GTi : Fn l.prog w K mg base "_law_titles" 2 ["_law_spring_here", "_law_many"] (sp_names) := ⟨_, _, PySem.W.mg_of X G aTi, kTi, bTi, ok_titles FTi T GTa.irr⟩
  have GPa : Fn l.prog w K mg base "_law_plan" 3 ["_law_spring_here", "_law_tubes", "_law_gauges"] (sp_plan) := ⟨_, _, PySem.W.mg_of X G aPa, kPa, bPa, ok_plan FPa T GTa.irr GTi.irr⟩
  have GGr : Fn l.prog w K mg base "_law_grid" 1 ["_law_plan_here"] (sp_grid) := ⟨_, _, PySem.W.mg_of X G aGr, kGr, bGr, ok_grid FGr ⟩
  have GPh : Fn l.prog w K mg base "_law_path" 1 ["_law_tubes", "_law_kept", "_law_first", "_law_last"] (sp_path K) := ⟨_, _, PySem.W.mg_of X G aPh, kPh, bPh, ok_path FPh T⟩
  have GRg : Fn l.prog w K mg base "_law_rings" 2 ["_law_tubes"] (sp_rings K) := ⟨_, _, PySem.W.mg_of X G aRg, kRg, bRg, ok_rings FRg T GPh.irr⟩
  have GSe : Fn l.prog w K mg base "_law_sets" 1 ["_law_items_here", "_law_size"] (sp_sets K) := ⟨_, _, PySem.W.mg_of X G aSe, kSe, bSe, ok_sets FSe T T2⟩
  have GOp : Fn l.prog w K mg base "_law_open" 3 ["_law_plan_here", "_law_chosen"] (sp_open K) := ⟨_, _, PySem.W.mg_of X G aOp, kOp, bOp, ok_open FOp T GRg.irr⟩
  have GLe : Fn l.prog w K mg base "_law_least" 4 ["_law_plan_here", "_law_fees"] (sp_least K) := ⟨_, _, PySem.W.mg_of X G aLe, kLe, bLe, ok_least FLe T T2 GSe.irr GOp.irr⟩
  have GRi : FnGd l.prog w K mg base "_law_right" 9 ["_law_spring_here"] (sp_right61) := ⟨_, _, PySem.W.mg_of X G aRi, kRi, bRi, ok_right61 FRi T T2 (PySem.W.mg_none_of X G b_list) NC GTa.irr GPa.irr GGr.irr GLe.irr GOp.irr GCh.irr GCk.irr GNs.irr GNr.irr⟩
  exact ok_law61 (fun_mk (st := s_law) lLa cLa kLa) T NC GSg.irr GRi GCh.irr GNr.irr
end RV
open PySem PySem.W PyProof.Rows in
set_option maxRecDepth 100000 in
set_option maxHeartbeats 0 in
theorem PySem.Challenge.cw_ringvotes_k61_whole_cheapest_pipes_holds : PySem.Challenge.rw_ringvotes_k61_whole_cheapest_pipes.Holds := by
  w_on; o_law; k_head; (case hw => w_witness2)
  k_fill
  refine RV.walkGx "_law_script" 10 (l := PySem.Challenge.rw_ringvotes_k61_whole_cheapest_pipes) ⟨rfl, by decide, by decide⟩ rfl rfl (fun w h Y => PySem.W.kIn_of Y) ?F
  case F =>
    intro w mg fa h KX G hmg
    refine' RV.all_mk KX G hmg ?b_len ?b_int ?b_abs ?b_max ?b_min ?b_all ?b_any ?b_repr ?b_range ?b_divmod ?b_isinstance ?b_str ?b_sum ?b_sorted ?b_set ?b_tuple ?b_enumerate ?b_bool ?g__LETTERS ?g__DIGITS ?g__LONGEST_NAME ?g_MOST_PIPES ?g_MOST_METERS ?aIn ?lIn ?cIn ?kIn ?aCn ?lCn ?cCn ?kCn ?nP ?pgP ?hdP ?poP ?saP ?mkP ?kcP ?haP ?hmP ?tyP ?suP ?obP ?noP0 ?noP1 ?noP2 ?nM ?pgM ?hdM ?poM ?saM ?mkM ?kcM ?haM ?hmM ?tyM ?suM ?obM ?noM0 ?noM1 ?noM2 ?hn ?htk ?neP ?neM ?aPi ?iPi ?lPi ?cPi ?kPi ?aMi ?iMi ?lMi ?cMi ?kMi ?kd ?apn ?gpn ?tpn ?rpn_ ?lpn ?cpn ?kpn ?aps ?gps ?tps ?rps_ ?lps ?cps ?kps ?ape ?gpe ?tpe ?rpe_ ?lpe ?cpe ?kpe ?amn ?gmn ?tmn ?rmn_ ?lmn ?cmn ?kmn ?ama ?gma ?tma ?rma_ ?lma ?cma ?kma ?amz ?gmz ?tmz ?rmz_ ?lmz ?cmz ?kmz ?aPq ?iPq ?lPq ?cPq ?kPq ?fiPq ?aMq ?iMq ?lMq ?cMq ?kMq ?fiMq ?nN ?pgN ?hdN ?poN ?saN ?mkN ?kcN ?haN ?hmN ?tyN ?suN ?obN ?noN0 ?noN1 ?neN ?aIo ?lIo ?cIo ?kIo ?aCp ?lCp ?cCp ?kCp ?aCm ?lCm ?cCm ?kCm ?aPl ?lPl ?cPl ?kPl ?aMl ?lMl ?cMl ?kMl ?aLs ?lLs ?cLs ?kLs ?aNi ?iNi ?lNi ?cNi ?kNi ?lT ?anp ?gnp ?tnp ?rnp_ ?lnp ?cnp ?knp ?anm ?gnm ?tnm ?rnm_ ?lnm ?cnm ?knm ?aNl ?iNl ?lNl ?cNl ?kNl ?fiNl ?aNs ?iNs ?lNs ?cNs ?kNs ?fiNs ?aNq ?iNq ?lNq ?cNq ?kNq ?fiNq ?aRw ?lRw ?cRw ?kRw ?aPn ?lPn ?cPn ?kPn ?aMn ?lMn ?cMn ?kMn ?rdN ?gaN ?aNr ?rNr_ ?fiNr ?lNr ?cNr ?kNr ?b_list ?aNu ?lNu ?cNu ?kNu ?aKn ?lKn ?cKn ?kKn ?aMa ?lMa ?cMa ?kMa ?apl ?gpl ?tpl ?rpl_ ?lpl ?cpl ?kpl ?aKr ?lKr ?cKr ?kKr ?aMg ?lMg ?cMg ?kMg ?aSp ?lSp ?cSp ?kSp ?aBy ?lBy ?cBy ?kBy ?aCh ?lCh ?cCh ?kCh ?aSg ?lSg ?cSg ?kSg ?aTa ?lTa ?cTa ?kTa ?aTi ?lTi ?cTi ?kTi ?aPa ?lPa ?cPa ?kPa ?aGr ?lGr ?cGr ?kGr ?aPh ?lPh ?cPh ?kPh ?aRg ?lRg ?cRg ?kRg ?aSe ?lSe ?cSe ?kSe ?aOp ?lOp ?cOp ?kOp ?aLe ?lLe ?cLe ?kLe ?aRi ?lRi ?cRi ?kRi ?aLa ?lLa ?cLa ?kLa
    (case b_len => k_is)
    (case b_int => k_is)
    (case b_abs => k_is)
    (case b_max => k_is)
    (case b_min => k_is)
    (case b_all => k_is)
    (case b_any => k_is)
    (case b_repr => k_is)
    (case b_range => k_is)
    (case b_divmod => k_is)
    (case b_isinstance => k_is)
    (case b_str => k_is)
    (case b_sum => k_is)
    (case b_sorted => k_is)
    (case b_set => k_is)
    (case b_tuple => k_is)
    (case b_enumerate => k_is)
    (case b_bool => k_is)
    (case g__LETTERS => k_is)
    (case g__DIGITS => k_is)
    (case g__LONGEST_NAME => k_is)
    (case g_MOST_PIPES => k_is)
    (case g_MOST_METERS => k_is)
    (case aIn => k_is)
    (case lIn => k_is)
    (case cIn => k_is)
    (case kIn => k_is)
    (case aCn => k_is)
    (case lCn => k_is)
    (case cCn => k_is)
    (case kCn => k_is)
    (case nP => k_is)
    (case pgP => k_is)
    (case hdP => k_is)
    (case poP => k_is)
    (case saP => k_is)
    (case mkP => k_is)
    (case kcP => k_is)
    (case haP => k_is)
    (case hmP => k_is)
    (case tyP => k_is)
    (case suP => k_is)
    (case obP => k_is)
    (case noP0 => k_is)
    (case noP1 => k_is)
    (case noP2 => k_is)
    (case nM => k_is)
    (case pgM => k_is)
    (case hdM => k_is)
    (case poM => k_is)
    (case saM => k_is)
    (case mkM => k_is)
    (case kcM => k_is)
    (case haM => k_is)
    (case hmM => k_is)
    (case tyM => k_is)
    (case suM => k_is)
    (case obM => k_is)
    (case noM0 => k_is)
    (case noM1 => k_is)
    (case noM2 => k_is)
    (case hn => k_is)
    (case htk => k_is)
    (case neP => k_is)
    (case neM => k_is)
    (case aPi => k_is)
    (case iPi => k_is)
    (case lPi => k_is)
    (case cPi => k_is)
    (case kPi => k_is)
    (case aMi => k_is)
    (case iMi => k_is)
    (case lMi => k_is)
    (case cMi => k_is)
    (case kMi => k_is)
    (case kd => k_is)
    (case apn => k_is)
    (case gpn => k_is)
    (case tpn => k_is)
    (case rpn_ => k_is)
    (case lpn => k_is)
    (case cpn => k_is)
    (case kpn => k_is)
    (case aps => k_is)
    (case gps => k_is)
    (case tps => k_is)
    (case rps_ => k_is)
    (case lps => k_is)
    (case cps => k_is)
    (case kps => k_is)
    (case ape => k_is)
    (case gpe => k_is)
    (case tpe => k_is)
    (case rpe_ => k_is)
    (case lpe => k_is)
    (case cpe => k_is)
    (case kpe => k_is)
    (case amn => k_is)
    (case gmn => k_is)
    (case tmn => k_is)
    (case rmn_ => k_is)
    (case lmn => k_is)
    (case cmn => k_is)
    (case kmn => k_is)
    (case ama => k_is)
    (case gma => k_is)
    (case tma => k_is)
    (case rma_ => k_is)
    (case lma => k_is)
    (case cma => k_is)
    (case kma => k_is)
    (case amz => k_is)
    (case gmz => k_is)
    (case tmz => k_is)
    (case rmz_ => k_is)
    (case lmz => k_is)
    (case cmz => k_is)
    (case kmz => k_is)
    (case aPq => k_is)
    (case iPq => k_is)
    (case lPq => k_is)
    (case cPq => k_is)
    (case kPq => k_is)
    (case fiPq => k_is)
    (case aMq => k_is)
    (case iMq => k_is)
    (case lMq => k_is)
    (case cMq => k_is)
    (case kMq => k_is)
    (case fiMq => k_is)
    (case nN => k_is)
    (case pgN => k_is)
    (case hdN => k_is)
    (case poN => k_is)
    (case saN => k_is)
    (case mkN => k_is)
    (case kcN => k_is)
    (case haN => k_is)
    (case hmN => k_is)
    (case tyN => k_is)
    (case suN => k_is)
    (case obN => k_is)
    (case noN0 => k_is)
    (case noN1 => k_is)
    (case neN => k_is)
    (case aIo => k_is)
    (case lIo => k_is)
    (case cIo => k_is)
    (case kIo => k_is)
    (case aCp => k_is)
    (case lCp => k_is)
    (case cCp => k_is)
    (case kCp => k_is)
    (case aCm => k_is)
    (case lCm => k_is)
    (case cCm => k_is)
    (case kCm => k_is)
    (case aPl => k_is)
    (case lPl => k_is)
    (case cPl => k_is)
    (case kPl => k_is)
    (case aMl => k_is)
    (case lMl => k_is)
    (case cMl => k_is)
    (case kMl => k_is)
    (case aLs => k_is)
    (case lLs => k_is)
    (case cLs => k_is)
    (case kLs => k_is)
    (case aNi => k_is)
    (case iNi => k_is)
    (case lNi => k_is)
    (case cNi => k_is)
    (case kNi => k_is)
    (case lT => k_is)
    (case anp => k_is)
    (case gnp => k_is)
    (case tnp => k_is)
    (case rnp_ => k_is)
    (case lnp => k_is)
    (case cnp => k_is)
    (case knp => k_is)
    (case anm => k_is)
    (case gnm => k_is)
    (case tnm => k_is)
    (case rnm_ => k_is)
    (case lnm => k_is)
    (case cnm => k_is)
    (case knm => k_is)
    (case aNl => k_is)
    (case iNl => k_is)
    (case lNl => k_is)
    (case cNl => k_is)
    (case kNl => k_is)
    (case fiNl => k_is)
    (case aNs => k_is)
    (case iNs => k_is)
    (case lNs => k_is)
    (case cNs => k_is)
    (case kNs => k_is)
    (case fiNs => k_is)
    (case aNq => k_is)
    (case iNq => k_is)
    (case lNq => k_is)
    (case cNq => k_is)
    (case kNq => k_is)
    (case fiNq => k_is)
    (case aRw => k_is)
    (case lRw => k_is)
    (case cRw => k_is)
    (case kRw => k_is)
    (case aPn => k_is)
    (case lPn => k_is)
    (case cPn => k_is)
    (case kPn => k_is)
    (case aMn => k_is)
    (case lMn => k_is)
    (case cMn => k_is)
    (case kMn => k_is)
    (case rdN => k_is)
    (case gaN => k_is)
    (case aNr => k_is)
    (case rNr_ => k_is)
    (case fiNr => k_is)
    (case lNr => k_is)
    (case cNr => k_is)
    (case kNr => k_is)
    (case b_list => k_is)
    (case aNu => k_is)
    (case lNu => k_is)
    (case cNu => k_is)
    (case kNu => k_is)
    (case aKn => k_is)
    (case lKn => k_is)
    (case cKn => k_is)
    (case kKn => k_is)
    (case aMa => k_is)
    (case lMa => k_is)
    (case cMa => k_is)
    (case kMa => k_is)
    (case apl => k_is)
    (case gpl => k_is)
    (case tpl => k_is)
    (case rpl_ => k_is)
    (case lpl => k_is)
    (case cpl => k_is)
    (case kpl => k_is)
    (case aKr => k_is)
    (case lKr => k_is)
    (case cKr => k_is)
    (case kKr => k_is)
    (case aMg => k_is)
    (case lMg => k_is)
    (case cMg => k_is)
    (case kMg => k_is)
    (case aSp => k_is)
    (case lSp => k_is)
    (case cSp => k_is)
    (case kSp => k_is)
    (case aBy => k_is)
    (case lBy => k_is)
    (case cBy => k_is)
    (case kBy => k_is)
    (case aCh => k_is)
    (case lCh => k_is)
    (case cCh => k_is)
    (case kCh => k_is)
    (case aSg => k_is)
    (case lSg => k_is)
    (case cSg => k_is)
    (case kSg => k_is)
    (case aTa => k_is)
    (case lTa => k_is)
    (case cTa => k_is)
    (case kTa => k_is)
    (case aTi => k_is)
    (case lTi => k_is)
    (case cTi => k_is)
    (case kTi => k_is)
    (case aPa => k_is)
    (case lPa => k_is)
    (case cPa => k_is)
    (case kPa => k_is)
    (case aGr => k_is)
    (case lGr => k_is)
    (case cGr => k_is)
    (case kGr => k_is)
    (case aPh => k_is)
    (case lPh => k_is)
    (case cPh => k_is)
    (case kPh => k_is)
    (case aRg => k_is)
    (case lRg => k_is)
    (case cRg => k_is)
    (case kRg => k_is)
    (case aSe => k_is)
    (case lSe => k_is)
    (case cSe => k_is)
    (case kSe => k_is)
    (case aOp => k_is)
    (case lOp => k_is)
    (case cOp => k_is)
    (case kOp => k_is)
    (case aLe => k_is)
    (case lLe => k_is)
    (case cLe => k_is)
    (case kLe => k_is)
    (case aRi => k_is)
    (case lRi => k_is)
    (case cRi => k_is)
    (case kRi => k_is)
    (case aLa => k_is)
    (case lLa => k_is)
    (case cLa => k_is)
    (case kLa => k_is)
