import PyProof.Rows.All
import Wide.All
import OpenK.AllK
import Wide.FinOn
import HandS.ForMost
import HandS.WideBits
import HandS.Wide
import HandS.IsInst
import HandS.Property
import HandS.MakeKwOnly
import HandS.Defaults
import HandS.OwnEq
import HandS.Steps
import HandS.TupLe
import KE.GoesMore
import HandS.TupSets
import HandS.SetFor
import HandS.Strs
import PyProof.Rows.SortShellAny
import HandS.Words
import HandS.Style
import HandS.WordsDict
import HandS.More
import PyProof.Rows.RegStrFacts
import HandS.RaiseMore
import HandS.Text
import HandS.StrMore
import HandS.FStr
import KE.KCallOwn
import PyProof.EqKinds
import PyProof.Raises
import HandS.ClsMeth
import HandS.CallLocal
import HandS.Walk
import HandS.Iter
import KE.KOpsOwn
import PyProof.TwoTypes
import HandS.TupAny
import HandS.Star
import PySem.Challenge.RW_ringvotes_k07_whole_rows_of_sums
set_option Elab.async false
set_option maxRecDepth 100000
set_option maxHeartbeats 8000000
/-! What every law of this program shares: the well from which it draws, what is known of the heap, the end. -/
namespace RV
open PySem L2

/-! ### what is known of the heap -/
/-- a list of three ints from which numbers are drawn, at a; at most n draws so far -/
def WellAt (H : Hp) (a : Addr) (n : Nat) : Prop :=
  ∃ x y z : Int, H a = some (.lst [.int x, .int y, .int z]) ∧ (0 ≤ x ∧ x < 2147483629) ∧ 0 ≤ y ∧ (0 ≤ z ∧ z ≤ n)
/-- all but the well stands as it stood -/
def Grow (a : Addr) (H H' : Hp) : Prop := ∀ b o, b ≠ a → H b = some o → H' b = some o
theorem Grow.refl (a : Addr) (H : Hp) : Grow a H H := fun _ _ _ h => h
theorem Grow.trans {a : Addr} {H H1 H2 : Hp} (g : Grow a H H1) (k : Grow a H1 H2) : Grow a H H2 := fun b o n h => k b o n (g b o n h)
theorem Grow.new {a p : Addr} {H : Hp} {o : HO} (np : H p = none) : Grow a H (upd H p o) := fun b u _ h => by
  rw [upd_ne (ne_of_none h np)]
  exact h
/-- from the heap H0 on all but the well at a is kept; the well; things that stand elsewhere -/
structure Has (H0 : Hp) (a : Addr) (n : Nat) (L : List (Addr × HO)) (H : Hp) : Prop where
  gr : Grow a H0 H
  well : WellAt H a n
  here : ∀ p ∈ L, p.1 ≠ a ∧ H p.1 = some p.2
section
variable {a p : Addr} {n m : Nat} {L : List (Addr × HO)} {H0 H H' : Hp} {o : HO}
theorem Has.start (w : WellAt H a n) : Has H a n [] H := ⟨Grow.refl a H, w, fun _ hp => nomatch hp⟩
theorem Has.grow (h : Has H0 a n L H) (g : Grow a H H') (w : WellAt H' a m) : Has H0 a m L H' := ⟨h.gr.trans g, w, fun p hp => ⟨(h.here p hp).1, g _ _ (h.here p hp).1 (h.here p hp).2⟩⟩
theorem Has.new (h : Has H0 a n L H) (np : H p = none) : Has H0 a n ((p, o) :: L) (upd H p o) := by
  obtain ⟨g, ⟨x, y, z, e, r⟩, k⟩ := h
  refine ⟨g.trans (Grow.new np), ⟨x, y, z, by rw [upd_ne (ne_of_none e np)]; exact e, r⟩, fun q hq => ?_⟩
  rcases List.mem_cons.mp hq with rfl | hq
  · refine ⟨?_, upd_same⟩
    intro w
    have w' : p = a := w
    rw [w', e] at np
    cases np
  · exact ⟨(k q hq).1, by rw [upd_ne (ne_of_none (k q hq).2 np)]; exact (k q hq).2⟩
theorem Has.at (h : Has H0 a n L H) (hp : (p, o) ∈ L) : H p = some o := (h.here _ hp).2
theorem Has.sub {L' : List (Addr × HO)} (h : Has H0 a n L H) (s : ∀ p ∈ L', p ∈ L) : Has H0 a n L' H := ⟨h.gr, h.well, fun p hp => h.here p (s p hp)⟩
end

/-! ### the end -/
theorem mg_of' {K : PySem.W.Frag} {h : Heap} {mg : Str → Option Value} {x : Str} {v : Value} (X : K.In h) (G : h.Ns mainGlobals mg) (e : PySem.W.nsIn K mainGlobals x = some (some v)) : mg x = some v := PySem.W.mg_of X G e
def spLaw (K : PySem.W.Frag) : Sp := fun vs H Q _ => ∃ (a : Addr) (ns : List Int), vs = [.ref a] ∧ SqL K H a (ns.map V.int) ∧ ns.length ≤ 63 ∧ ∀ H', Q (.bl true) H'
theorem walk (k : Nat) {l : PySem.W.OpenLaw} {q : Program} {loose : List Str} {XP : (Str → Option Value) → Heap → Prop} {YP : World → Heap → Prop} {d : DefRec} {K : Params → PySem.W.Frag} (hr : Room k callerA) (hn : l.most = some 63) (hdf : d.params.defaults = [])
    (hY : ∀ (w : World) (h : Heap), YP w h → (K w.params).In h)
    (F : ∀ (w : World) (mg : Str → Option Value) (fa : Addr) (h : Heap), (K w.params).In h → h.Ns mainGlobals mg → mg d.name = some (.ref fa) →
      ∃ fd : FuncData, (∀ (s : Shared) (u : Value), BindsTo s fd ⟨[u], []⟩ [("_law_cells", u)]) ∧ ∀ base : Heap, (K w.params).In base → base.Ns mainGlobals mg → FnOk l.prog w (K w.params) mg base CX0 k fa fd ["_law_cells"] (spLaw (K w.params))) :
    PySem.W.WalkO q loose XP YP l.row.toRowW d [] (fun f vs => PySem.call f vs) :=
  L2.walk_of (n := 63) (k := k) (x := "_law_cells") (CX := fun _ => CX0) (sp := fun w => spLaw (K w.params)) hn (by decide) hdf hr hY F (fun _ _ a ns hl _ hS => ⟨a, ns, rfl, hS, hl, fun _ => rfl⟩) fun _ _ _ _ _ z => z
end RV
namespace RV
open PySem L2
section
variable {σ : L2.St} {H : Hp} {t : TT} {ta tb : TE} {Q : VK} {b : Bool}
/-- an int on either way: what follows is shown once -/
theorem tif_int (ht : Ans t σ H b) (ha : b = true → ∃ z : Int, Val ta σ H (.int z)) (hb : b = false → ∃ z : Int, Val tb σ H (.int z)) (k : ∀ z : Int, Q (.int z) H) : tIf t ta tb σ H Q := by
  refine ht _ ?_
  cases b with
  | true => exact iteT (let ⟨z, h⟩ := ha rfl; h _ (k z))
  | false => exact iteF (let ⟨z, h⟩ := hb rfl; h _ (k z))
end
/-- a function of the module, as its callers see it -/
def Fn (P : Program) (w : World) (K : PySem.W.Frag) (mg : Str → Option Value) (base : Heap) (x : Str) (k : Nat) (ps : List Str) (sp : Sp) : Prop :=
  ∃ f fd, mg x = some (.ref f) ∧ PySem.W.keepIn K (.ref f) = true ∧ Binds K fd ps [] ∧ FnOk P w K mg base CX0 k f fd ps sp
section
variable {X : Cx} {x : Str} {k : Nat} {ps : List Str} {sp : Sp} {e : Expr} {es : List Expr} {t : TA} {p pos : Pos}
theorem pe_fn (h : Fn X.prog X.w X.K X.mg X.base x k ps sp) (hr : Room k X.A) (ha : PA X (e :: es) t) (hg : Gl X x := by rfl) (hdb : (x == ("__debug__" : Str)) = false := by decide)
    (he : starEach (e :: es) X.env = (false, eval e X.env) :: starEach es X.env := by rfl) (hpl : (backTo pos (starEach es X.env)).any (·.1) = false := by rfl) :
    PE X (.Call (.Name x p) (e :: es) [] pos) (tCall sp [] E0 t) := by
  obtain ⟨f, fd, hm, hk, hb, F⟩ := h
  exact pe_call F hr hg hm hk hb .nil pass0 ha hdb he hpl
/-- a text, an int of the module's top -/
theorem pe_gS {z : Str} (h : ∃ u, X.mg x = some u ∧ RelV (.str z) u) (hg : Gl X x := by rfl) (hd : (x == ("__debug__" : Str)) = false := by decide) : PE X (.Name x pos) (tC (.str z)) := by
  obtain ⟨u, hm, r⟩ := h
  exact pe_glob hg hm r hd
theorem pe_gI {z : Int} (h : ∃ u, X.mg x = some u ∧ RelV (.int z) u) (hg : Gl X x := by rfl) (hd : (x == ("__debug__" : Str)) = false := by decide) : PE X (.Name x pos) (tC (.int z)) := by
  obtain ⟨u, hm, r⟩ := h
  exact pe_glob hg hm r hd
theorem pe_gC {C : Addr} (hm : X.mg x = some (.ref C)) (hg : Gl X x := by rfl) (hd : (x == ("__debug__" : Str)) = false := by decide) : PE X (.Name x pos) (tC (.ref C)) := pe_glob hg hm rfl hd
end
end RV
namespace RV
open PySem L2
/-! the same rules where the written part is a letter (within a comprehension's block) -/
section
variable {X : Cx} {K : PySem.W.Frag}
theorem op_inK (h : X.K = K := by rfl) : OpR X (compareOp .In) (rIn K false) := h ▸ op_in_seq
theorem op_notInK (h : X.K = K := by rfl) : OpR X (compareOp .NotIn) (rIn K true) := h ▸ op_notIn_seq
theorem ix_listK (h : X.K = K := by rfl) : IxR X (rIxL K) := h ▸ ix_list
theorem ix_tupK (h : X.K = K := by rfl) : IxR X (rIxT K) := h ▸ ix_tup
theorem op_eqDK (hu : X.A.units + 64 < cLine) (h : X.K = K := by rfl) : OpR X (compareOp .Eq) (rEqD K) := h ▸ op_eqD hu
theorem op_neDK (hu : X.A.units + 64 < cLine) (h : X.K = K := by rfl) : OpR X (compareOp .NotEq) (rNeD K) := h ▸ op_neD hu
theorem call_isiK (h : X.K = K := by rfl) : CallR X (.builtin "isinstance") (rIsi K) := h ▸ call_isi
def rLenQ (K : PySem.W.Frag) : List V → Hp → VK → Prop := fun xs H Q => ∃ p ys, xs = [.ref p] ∧ (SqL K H p ys ∨ SqT K H p ys) ∧ Q (.int ys.length) H
theorem call_lenK (h : X.K = K := by rfl) : CallR X (.builtin "len") (rLenQ K) := h ▸ call_len_seq
end
end RV
/-! Names: what they are, by their signs. -/
namespace RV
open PySem L2
def lowC (c : Nat) : Bool := decide (97 ≤ c) && decide (c ≤ 122)
def digC (c : Nat) : Bool := decide (48 ≤ c) && decide (c ≤ 57)
def tailC (c : Nat) : Bool := lowC c || digC c
/-- one to eight signs, letters and digits, a letter first -/
def isNm : List Nat → Bool
  | [] => false
  | c :: r => lowC c && r.all tailC && decide (r.length ≤ 7)
def IsNm (x : Str) : Prop := isNm x.cps.toList = true
abbrev cd (x : Str) : List Nat := x.cps.toList
theorem cd_inj {x y : Str} (h : cd x = cd y) : x = y := PyProof.Rows.ext_toList h
theorem cd_app (x y : Str) : cd (x ++ y) = cd x ++ cd y := by
  show (x ++ y).cps.toList = _
  exact Array.toList_append
theorem cd_len (x : Str) : x.length = (cd x).length := by
  show x.cps.size = x.cps.toList.length
  rw [Array.length_toList]
theorem cd_one (c : Nat) : cd ⟨#[c]⟩ = [c] := rfl
theorem isNm_iff {l : List Nat} : isNm l = true ↔ ∃ c r, l = c :: r ∧ lowC c = true ∧ r.all tailC = true ∧ r.length ≤ 7 := by
  cases l with
  | nil => simp [isNm]
  | cons c r =>
    constructor
    · intro h
      simp only [isNm, Bool.and_eq_true, decide_eq_true_eq] at h
      exact ⟨c, r, rfl, h.1.1, h.1.2, h.2⟩
    · rintro ⟨c', r', e, h1, h2, h3⟩
      cases e
      simp [isNm, h1, h2, h3]
theorem isNm_len {l : List Nat} (h : isNm l = true) : 1 ≤ l.length ∧ l.length ≤ 8 := by
  obtain ⟨c, r, rfl, _, _, h3⟩ := isNm_iff.mp h
  simp
  omega
theorem isNm_snoc {l : List Nat} {c : Nat} (h : isNm l = true) (hl : l.length ≤ 7) (hc : tailC c = true) : isNm (l ++ [c]) = true := by
  obtain ⟨d, r, rfl, h1, h2, _⟩ := isNm_iff.mp h
  refine isNm_iff.mpr ⟨d, r ++ [c], rfl, h1, ?_, ?_⟩
  · rw [List.all_append, h2]
    simp [hc]
  · simp at hl ⊢
    omega
theorem tail_of_low {c : Nat} (h : lowC c = true) : tailC c = true := by simp [tailC, h]
theorem isNm_all {l : List Nat} (h : isNm l = true) : l.all tailC = true := by
  obtain ⟨d, r, rfl, h1, h2, _⟩ := isNm_iff.mp h
  simp only [List.all_cons, tail_of_low h1, h2, Bool.and_self]
theorem all_take {l : List Nat} {k : Nat} (h : l.all tailC = true) : (l.take k).all tailC = true := by
  rw [List.all_eq_true] at h ⊢
  exact fun x hx => h x (List.mem_of_mem_take hx)
/-- the first signs of a name with more signs behind it -/
theorem isNm_cut {l m : List Nat} {k : Nat} (h : isNm l = true) (hm : m.all tailC = true) (h1 : 1 ≤ k) (h8 : k ≤ 8) : isNm ((l ++ m).take k) = true := by
  obtain ⟨d, r, rfl, a1, a2, _⟩ := isNm_iff.mp h
  obtain ⟨j, rfl⟩ : ∃ j, k = j + 1 := ⟨k - 1, by omega⟩
  refine isNm_iff.mpr ⟨d, (r ++ m).take j, by simp, a1, all_take ?_, ?_⟩
  · rw [List.all_append, a2, hm]
    rfl
  · rw [List.length_take]
    omega
theorem isNm_take {l : List Nat} {k : Nat} (h : isNm l = true) (h1 : 1 ≤ k) (h8 : k ≤ 8) : isNm (l.take k) = true := by
  have := isNm_cut (m := []) h rfl h1 h8
  rwa [List.append_nil] at this
def signs : Str := "abcdefghijklmnopqrstuvwxyz0123456789"
theorem cd_signs : cd signs = [97, 98, 99, 100, 101, 102, 103, 104, 105, 106, 107, 108, 109, 110, 111, 112, 113, 114, 115, 116, 117, 118, 119, 120, 121, 122, 48, 49, 50, 51, 52, 53, 54, 55, 56, 57] := by decide +kernel
theorem sign_low : ∀ i : Fin 26, ∃ c, (cd signs)[i.val]? = some c ∧ lowC c = true := by
  rw [cd_signs]
  intro i
  have h : ∀ i : Fin 26, (match ([97, 98, 99, 100, 101, 102, 103, 104, 105, 106, 107, 108, 109, 110, 111, 112, 113, 114, 115, 116, 117, 118, 119, 120, 121, 122, 48, 49, 50, 51, 52, 53, 54, 55, 56, 57] : List Nat)[i.val]? with | some c => lowC c | none => false) = true := by decide
  have hi := h i
  split at hi
  · rename_i c e
    exact ⟨c, e, hi⟩
  · cases hi
theorem sign_tail : ∀ i : Fin 36, ∃ c, (cd signs)[i.val]? = some c ∧ tailC c = true := by
  rw [cd_signs]
  intro i
  have h : ∀ i : Fin 36, (match ([97, 98, 99, 100, 101, 102, 103, 104, 105, 106, 107, 108, 109, 110, 111, 112, 113, 114, 115, 116, 117, 118, 119, 120, 121, 122, 48, 49, 50, 51, 52, 53, 54, 55, 56, 57] : List Nat)[i.val]? with | some c => tailC c | none => false) = true := by decide
  have hi := h i
  split at hi
  · rename_i c e
    exact ⟨c, e, hi⟩
  · cases hi
theorem at_low {r : Int} (h0 : 0 ≤ r) (h : r < 26) : ∃ c, atI (cd signs) r = some c ∧ lowC c = true := by
  obtain ⟨n, rfl⟩ := Int.eq_ofNat_of_zero_le h0
  obtain ⟨c, e, hc⟩ := sign_low ⟨n, by omega⟩
  exact ⟨c, atI_nat e, hc⟩
theorem at_tail {r : Int} (h0 : 0 ≤ r) (h : r < 36) : ∃ c, atI (cd signs) r = some c ∧ tailC c = true := by
  obtain ⟨n, rfl⟩ := Int.eq_ofNat_of_zero_le h0
  obtain ⟨c, e, hc⟩ := sign_tail ⟨n, by omega⟩
  exact ⟨c, atI_nat e, hc⟩
theorem at_of_list {α : Type} {l : List α} {P : α → Prop} (h : ∀ x ∈ l, P x) {r : Int} (h0 : 0 ≤ r) (h1 : r < l.length) : ∃ c, atI l r = some c ∧ P c ∧ c ∈ l := by
  obtain ⟨n, rfl⟩ := Int.eq_ofNat_of_zero_le h0
  have hn : n < l.length := by omega
  exact ⟨l[n], atI_nat (List.getElem?_eq_getElem hn), h _ (List.getElem_mem hn), List.getElem_mem hn⟩
/-! slices of texts -/
theorem cd_cutS (z : Str) (lo hi : Option Int) : cd (cutS z lo hi) = ((cd z).drop (HT.sIx z.length 0 lo)).take (HT.sIx z.length z.length hi - HT.sIx z.length 0 lo) := by
  show (((z.cps.toList.drop _).take _).toArray).toList = _
  rfl
theorem sIx_some (n d : Nat) (k : Nat) : HT.sIx n d (some (k : Int)) = min k n := by
  unfold HT.sIx
  simp
  omega
theorem sIx_none (n d : Nat) : HT.sIx n d none = d := rfl
theorem cd_pre (z : Str) (k : Nat) : cd (cutS z none (some (k : Int))) = (cd z).take k := by
  rw [cd_cutS, sIx_none, sIx_some, List.drop_zero, Nat.sub_zero, cd_len]
  rw [← List.take_take, List.take_length]
theorem inV_str (x : Str) (xs : List Str) : inV (.str x) (xs.map V.str) = decide (x ∈ xs) := by
  induction xs with
  | nil => rfl
  | cons y ys ih =>
    show (eqV (.str y) (.str x) || inV (.str x) (ys.map V.str)) = _
    rw [ih]
    show ((y == x) || decide (x ∈ ys)) = _
    by_cases e : y = x
    · subst e
      simp
    · have e' : ¬ x = y := fun h => e h.symm
      simp [e, e']
theorem flat_str (xs : List Str) : (xs.map V.str).all flatV = true := by
  rw [List.all_eq_true]
  intro v hv
  obtain ⟨x, _, rfl⟩ := List.mem_map.mp hv
  rfl
/-- of more different things than a list has one is not in it -/
theorem one_free {α : Type} [DecidableEq α] : ∀ {ys xs : List α}, ys.Nodup → xs.length < ys.length → ∃ y ∈ ys, y ∉ xs
  | [], xs, _, h => by simp at h
  | y :: ys, xs, hn, h => by
    by_cases hy : y ∈ xs
    · obtain ⟨hy', hn'⟩ := List.nodup_cons.mp hn
      have hl : (xs.erase y).length < ys.length := by
        rw [List.length_erase_of_mem hy]
        have : 0 < xs.length := List.length_pos_of_mem hy
        simp at h
        omega
      obtain ⟨z, hz, hzx⟩ := one_free hn' hl
      refine ⟨z, List.mem_cons_of_mem _ hz, fun q => hzx ?_⟩
      have hne : z ≠ y := fun e => hy' (e ▸ hz)
      exact (List.mem_erase_of_ne hne).mpr q
    · exact ⟨y, List.mem_cons_self, hy⟩
/-! walks over any thing that is walked in order -/
theorem lc_it {J : It} {n : Nat} {g : TG} {tt : TT} {te : TE} {vs : List Nat} {σ : L2.St} {H1 : Hp} {D : Addr} {Qd : Hp → Prop} (Pv : Nat → Hp → Prop)
    (hgo : ∀ i H, i < n → Pv i H → J.go i H) (hst : ∀ H, Pv n H → J.stop n H) (h0 : Pv 0 (upd H1 D (.lst [])))
    (hs : ∀ i x H H', i < n → Pv i H → J.yld i H x H' → g x (wipe σ vs) H' fun σ2 H2 => wipe σ2 vs = wipe σ vs ∧ tt σ2 H2 fun b H3 =>
      if b = true then te σ2 H3 fun y H4 => ∃ acc, H4 D = some (.lst acc) ∧ acc.length < sizeLine ∧ Pv (i + 1) (upd H4 D (.lst (acc ++ [y]))) else Pv (i + 1) H3) (hd : ∀ H, Pv n H → Qd H) :
    ∃ W : Nat → Nat → Hp → Prop, (∃ m, W 0 m (upd H1 D (.lst []))) ∧ ∀ i m H, W i m H →
      (J.stop i H ∧ Qd H) ∨ (J.go i H ∧ ∃ Nx : Hp → Prop, (∀ H', Nx H' → ∃ m', m' < m ∧ W (i + 1) m' H') ∧ ∀ x H', J.yld i H x H' → g x (wipe σ vs) H' fun σ2 H2 => wipe σ2 vs = wipe σ vs ∧ tt σ2 H2 fun b H3 =>
        if b = true then te σ2 H3 fun y H4 => ∃ acc, H4 D = some (.lst acc) ∧ acc.length < sizeLine ∧ Nx (upd H4 D (.lst (acc ++ [y]))) else Nx H3) := by
  refine ⟨fun i m H => m = n - i ∧ i ≤ n ∧ Pv i H, ⟨n, by simp, Nat.zero_le _, h0⟩, ?_⟩
  rintro i m H ⟨rfl, hi, p⟩
  by_cases hlt : i < n
  · refine .inr ⟨hgo i H hlt p, Pv (i + 1), fun H' p' => ⟨n - (i + 1), by omega, rfl, hlt, p'⟩, fun x H' y => ?_⟩
    exact hs i x H H' hlt p y
  · have e : i = n := by omega
    subst e
    exact .inl ⟨hst H p, hd H p⟩
theorem lc_str {z : Str} {g : TG} {tt : TT} {te : TE} {vs : List Nat} {σ : L2.St} {H1 : Hp} {D : Addr} {Qd : Hp → Prop} (Pv : Nat → Hp → Prop) (h0 : Pv 0 (upd H1 D (.lst [])))
    (hs : ∀ i c H, (cd z)[i]? = some c → Pv i H → g (.str ⟨#[c]⟩) (wipe σ vs) H fun σ2 H2 => wipe σ2 vs = wipe σ vs ∧ tt σ2 H2 fun b H3 =>
      if b = true then te σ2 H3 fun y H4 => ∃ acc, H4 D = some (.lst acc) ∧ acc.length < sizeLine ∧ Pv (i + 1) (upd H4 D (.lst (acc ++ [y]))) else Pv (i + 1) H3) (hd : ∀ H, Pv (cd z).length H → Qd H) :
    ∃ W : Nat → Nat → Hp → Prop, (∃ m, W 0 m (upd H1 D (.lst []))) ∧ ∀ i m H, W i m H →
      ((Its z).stop i H ∧ Qd H) ∨ ((Its z).go i H ∧ ∃ Nx : Hp → Prop, (∀ H', Nx H' → ∃ m', m' < m ∧ W (i + 1) m' H') ∧ ∀ x H', (Its z).yld i H x H' → g x (wipe σ vs) H' fun σ2 H2 => wipe σ2 vs = wipe σ vs ∧ tt σ2 H2 fun b H3 =>
        if b = true then te σ2 H3 fun y H4 => ∃ acc, H4 D = some (.lst acc) ∧ acc.length < sizeLine ∧ Nx (upd H4 D (.lst (acc ++ [y]))) else Nx H3) :=
  lc_it (J := Its z) (n := (cd z).length) Pv (fun i _ h _ => by
    show i < z.cps.size
    rwa [← Array.length_toList]) (fun _ _ => by
    show z.cps.size ≤ (cd z).length
    rw [← Array.length_toList]
    exact Nat.le_refl _) h0 (fun i x H H' hi p y => by
    obtain ⟨e, c, hc, ex⟩ := y
    subst e ex
    exact hs i c H' (by rw [← hc]; exact Array.getElem?_toList ..) p) hd
end RV
namespace RV
open PySem L2
/-- what follows a statement is shown once, from what the statement leaves -/
theorem seq_of {t R : TS} {D : Ends} {σ : L2.St} {H : Hp} (mid : L2.St → Hp → Prop) (h2 : ∀ σ' H', mid σ' H' → R D σ' H') (h1 : ∀ N : L2.St → Hp → Prop, (∀ σ' H', mid σ' H' → N σ' H') → t { D with nx := N } σ H) : tSeq t R D σ H := h1 (R D) h2
theorem val_of {te : TE} {σ : L2.St} {H : Hp} {Q : VK} (mid : V → Hp → Prop) (k : ∀ v H', mid v H' → Q v H') (h : ∀ Q' : VK, (∀ v H', mid v H' → Q' v H') → te σ H Q') : te σ H Q := h Q k
theorem tst_of {tt : TT} {σ : L2.St} {H : Hp} {Q : Bool → Hp → Prop} (mid : Bool → Hp → Prop) (k : ∀ v H', mid v H' → Q v H') (h : ∀ Q' : Bool → Hp → Prop, (∀ v H', mid v H' → Q' v H') → tt σ H Q') : tt σ H Q := h Q k
theorem szn {n : Nat} (h : n ≤ 1000) : n ≤ sizeLine := Nat.le_trans h (by decide)
/-- texts as data -/
theorem dps {K : PySem.W.Frag} {H : Hp} : ∀ xs : List Str, DpAll K H (xs.map V.str) (xs.map PyData.str)
  | [] => .nil
  | x :: xs => .cons (.str x) (dps xs)
theorem strOk_nm {x : Str} (h : IsNm x) : PyData.strOk x = true := by
  have h1 := List.all_eq_true.mp (isNm_all h)
  unfold PyData.strOk
  rw [← Array.all_toList, List.all_eq_true]
  intro c hc
  have q := h1 c hc
  simp only [tailC, lowC, digC, Bool.or_eq_true, Bool.and_eq_true, decide_eq_true_eq] at q
  exact decide_eq_true (by omega)
theorem shaped_strs {xs : List Str} (h : ∀ x ∈ xs, IsNm x) : SeqAt.shaped (.list (xs.map PyData.str)) = true := by
  have h1 : ∀ xs : List Str, (∀ x ∈ xs, IsNm x) → PyData.canLayAll0 (xs.map PyData.str) = true := by
    intro xs
    induction xs with
    | nil => intro _; simp [PyData.canLayAll0]
    | cons x xs ih =>
      intro h
      have a := strOk_nm (h x List.mem_cons_self)
      have b := ih fun y hy => h y (List.mem_cons_of_mem _ hy)
      simp [PyData.canLayAll0, PyData.canLay0, a, b]
  have h2 : ∀ xs : List Str, PyData.depthAll (xs.map PyData.str) = 0 := by
    intro xs
    induction xs with
    | nil => simp [PyData.depthAll]
    | cons x xs ih => simp [PyData.depthAll, PyData.depth, ih]
  simp [SeqAt.shaped, PyData.canLay0, PyData.depth, h1 xs h, h2]
theorem shaped_nil : SeqAt.shaped (.list []) = true := by simp [SeqAt.shaped, PyData.canLay0, PyData.canLayAll0, PyData.depth, PyData.depthAll]
theorem eqv_nil (xs : List Str) : PyData.eqv (.list (xs.map PyData.str)) (.list []) = xs.isEmpty := by
  cases xs <;> simp [PyData.eqv, PyData.eqvAll]
end RV
/-! Rules for own classes: ==, !=, truth; repr of data. -/
namespace PySem.W
open PySem PySem.Calls PyProof.Rows Builtin
section
variable {prog : Program} {w : World} {A : Around} {E : Value → Shared → Prop} {s : Shared} {K : Frag} {x C L f : Addr} {h₀ : Heap} {m : Str → Option Value} {ox : Obj} {od : Option Obj} {b tb : Value}
/-- the default !=, by the class's own == that gives a bool -/
theorem rv_ne_K {Q : Value → Shared → Prop} (hu : A.units + 1 < cLine) (F : Fr h₀ L s.heap m) (X₀ : K.In h₀) (I : InstAt s.heap x ox C od) (hb : Looks (model prog w) s.heap (typeOf b) tb) (hn : notFirst K C tb = true)
    (hs : findIn K (.ref C) "__eq__" = some (some (.ref f))) (hf : isFn K (.ref f) = true) (hne : findIn K (.ref C) "__ne__" = some (some (.builtin "object.__ne__"))) (hob : subIn K (.ref C) (.type "object") = some true)
    (h : wpAny (model prog w) A.in1 (call (.ref f) [.ref x, b]) (fun v s' => ∃ c, v = .bool c ∧ Q (.bool (!c)) s') E s) : wpAny (model prog w) A (richCompare .NotEq (.ref x) b) Q E s := by
  have X := X₀.keeps F.keep
  have entry : wpAny (model prog w) A.in1 (Builtin.«object.__ne__» ⟨[.ref x, b], []⟩) (fun fin s' => ∃ v, fin = .done (.ret v) ∧ ∃ c, v = .bool (!c) ∧ Q (.bool (!c)) s') E s := by
    unfold Builtin.«object.__ne__»
    refine wpAny_bind (m := slotArgs "__ne__" 1 _) (wpAny_pure ?_)
    refine wpAny_bind (wpAny_cRoomFor (show A.units + 1 < cLine from hu) ?_)
    refine wpAny_bind (m := callSpecialIfBound? (.ref x) (Str.ofString "__eq__") [b]) (ifBound_K X I hs hf (wpAny_mono h (fun v s' hv => ?_) fun _ _ e => e))
    obtain ⟨c, rfl, hq⟩ := hv
    refine wpAny_bind (m := truthy (.bool c)) (wpAny_truthy_bool ?_)
    exact wpAny_pure ⟨_, rfl, c, rfl, hq⟩
  have chk : wpAny (model prog w) A.in1 (checkBuiltinCall "object.__ne__" ⟨[.ref x, b], []⟩) (fun _ s1 => s1 = s) E s := by
    simp only [checkBuiltinCall, PySem.F.cmpKind_ne, PySem.F.cmpSplit_ne]
    refine wpAny_bind ?_
    unfold isInstance
    refine wpAny_bind (I.type.here ?_)
    refine (looks_subIn X hob).here ?_
    have ha : argsOk "object.__ne__" ⟨[.ref x, b], []⟩ := PySem.F.cmpArgs_ne _ _
    cases hsig : Manifest.signature? "object.__ne__" with
    | none => exact wpAny_pure rfl
    | some sig =>
      simp only [argsOk, hsig] at ha
      have h2 : Bind.checkArgs "object.__ne__" sig ⟨[.ref x, b], []⟩ = pure () := ha
      show wpAny _ A.in1 (Bind.checkArgs "object.__ne__" sig ⟨[.ref x, b], []⟩) _ E _
      rw [h2]
      exact wpAny_pure rfl
  have callne : wpAny (model prog w) A (call (.builtin "object.__ne__") [.ref x, b]) (fun v s' => ∃ c, v = .bool (!c) ∧ Q (.bool (!c)) s') E s := by
    refine wpAny_call (codeAny_call_builtin PySem.F.slot_object_ne.plain PySem.F.cmpEntry_ne (wpAny_mono chk (fun _ s1 e => ?_) fun _ _ e => e))
    subst e
    refine wpAny_mono entry (fun fin s' hq => ?_) fun _ _ e => e
    obtain ⟨v, rfl, c, rfl, q⟩ := hq
    exact ⟨c, rfl, q⟩
  have one : wpAny (model prog w) A (tryCompare (.ref x) "__ne__" b) (fun r s' => ∃ v, r = some v ∧ Q v s') E s := by
    unfold tryCompare
    refine wpAny_bind (m := callSpecialIfBound? (.ref x) (Str.ofString "__ne__") [b]) ?_
    simp only [callSpecialIfBound?, bindSpecialIfBound?]
    refine wpAny_holding (wpAny_bind (wpAny_bind (wpAny_bind (I.type.here ((looks_findIn X hne).here ?_)))))
    simp only [PySem.F.slot_object_ne.bind]
    refine wpAny_bind (wpAny_askSetting (wpAny_ite ?_))
    have fin : ∀ R : Option Value → Shared → Prop, (∀ (c : Bool) s', Q (.bool (!c)) s' → R (some (.bool (!c))) s') → wpAny (model prog w) A (call (.builtin "object.__ne__") ([.ref x] ++ [b]) >>= fun v => pure (some v)) R E s := by
      intro R hR
      refine wpAny_bind (wpAny_mono callne (fun v s' hq => ?_) fun _ _ e => e)
      obtain ⟨c, rfl, q⟩ := hq
      exact wpAny_pure (hR c s' q)
    split
    · exact wpAny_bind (wpAny_pure (wpAny_pure (fin _ fun c s' q => wpAny_pure ⟨_, rfl, q⟩)))
    · exact wpAny_tryCatch (wpAny_bind (wpAny_pure (wpAny_pure (fin _ fun c s' q => wpAny_pure ⟨_, rfl, q⟩))))
  unfold richCompare
  simp only [oneThing_ref]
  refine wpAny_holding (wpAny_bind (wpAny_cRoomFor (Nat.lt_of_succ_lt hu) ?_))
  rw [cmpInfo_NotEq]
  dsimp only
  refine wpAny_bind (I.type.here (wpAny_bind (hb.here ?_)))
  split
  · rename_i q
    have e : subIn K tb (.ref C) = some false := by
      rcases Bool.or_eq_true_iff.mp hn with e | e
      · rw [beq_iff_eq.mp e] at q; simp at q
      · exact beq_iff_eq.mp e
    refine wpAny_bind ((looks_subIn X e).here ?_)
    simp only [Bool.false_eq_true, if_false]
    refine wpAny_bind (wpAny_mono one (fun r s' z => ?_) fun _ _ e => e)
    obtain ⟨v, rfl, hq⟩ := z
    exact wpAny_pure hq
  · refine wpAny_bind (wpAny_pure ?_)
    simp only [Bool.false_eq_true, if_false]
    refine wpAny_bind (wpAny_mono one (fun r s' z => ?_) fun _ _ e => e)
    obtain ⟨v, rfl, hq⟩ := z
    exact wpAny_pure hq
end
end PySem.W

namespace RV
open PySem L2
/-- the kind of a value, for a comparison -/
inductive TyL (H : Hp) : V → Value → Prop where
  | non : TyL H .non (.type "NoneType")
  | bl (b : Bool) : TyL H (.bl b) (.type "bool")
  | int (i : Int) : TyL H (.int i) (.type "int")
  | str (x : Str) : TyL H (.str x) (.type "str")
  | lst {a : Addr} {xs : List V} (e : H a = some (.lst xs)) : TyL H (.ref a) (.type "list")
  | tup {a : Addr} {xs : List V} (e : H a = some (.tup xs)) : TyL H (.ref a) (.type "tuple")
  | dK {a : Addr} {kvs : List (Key × V)} (e : H a = some (.dK kvs)) : TyL H (.ref a) (.type "dict")
  | ins {a C dx : Addr} {fs : List (Str × V)} (e : H a = some (.ins C dx fs)) : TyL H (.ref a) (.ref C)
section
variable {X : Cx} {pins : List (Addr × Obj)} {σ : L2.St} {H : Hp} {s : Shared}
theorem looks_obj {M : Model} {h : Heap} {a : Addr} {o : Obj} {t : Value} (e : h.get? a = some o) (c : o.cls = t) : PySem.W.Looks M h (typeOf (.ref a)) t := by
  intro A Q E s k q
  exact wpAny_typeOf_ref (k _ _ e) (c ▸ q)
theorem TyL.looks (I : Inv X pins σ H s) {v : V} {u t : Value} (r : RelV v u) (ty : TyL H v t) : PySem.W.Looks (model X.prog X.w) s.heap (typeOf u) t := by
  cases ty with
  | non => cases r; exact PySem.W.Looks.of_pure rfl
  | bl b => cases r; exact PySem.W.Looks.of_pure rfl
  | int i => obtain ⟨_, rfl⟩ := r; exact PySem.W.Looks.of_pure rfl
  | str x => obtain ⟨_, rfl⟩ := r; exact PySem.W.Looks.of_pure rfl
  | lst e => cases r; obtain ⟨_, _, _, _, g⟩ := I.hok _ _ e; exact looks_obj g rfl
  | tup e => cases r; obtain ⟨_, _, _, o, g, c, _⟩ := I.hok _ _ e; exact looks_obj g c
  | dK e => cases r; obtain ⟨_, _, _, _, o, es, ep, g, c, _⟩ := I.hok _ _ e; exact looks_obj g c.1
  | ins e => cases r; obtain ⟨mA, J, _⟩ := ins_get I.hok e; obtain ⟨od, J, _⟩ := J.look; exact J.type

/-- the class C has an own == that promises sp, and no own != -/
structure OwnEq (P : Program) (w : World) (K : PySem.W.Frag) (mg : Str → Option Value) (base : Heap) (C : Addr) (k : Nat) (sp : Sp) : Prop where
  fn : ∃ f fd ps, PySem.W.findIn K (.ref C) "__eq__" = some (some (.ref f)) ∧ PySem.W.isFn K (.ref f) = true ∧ Binds K fd ps [] ∧ FnOk P w K mg base CX0 k f fd ps sp
  ne : PySem.W.findIn K (.ref C) "__ne__" = some (some (.builtin "object.__ne__"))
  ob : PySem.W.subIn K (.ref C) (.type "object") = some true
@[irreducible] def rEqO (neg : Bool) (K : PySem.W.Frag) (C : Addr) (sp : Sp) : R2 := fun x y H Q => ∃ a dx fs t, x = .ref a ∧ H a = some (.ins C dx fs) ∧ TyL H y t ∧ PySem.W.notFirst K C t = true ∧
  sp [x, y] H (fun v H' => ∃ b, v = .bl b ∧ Q (.bl (if neg then !b else b)) H') E0
variable {P : Program} {w : World} {K : PySem.W.Frag} {mg : Str → Option Value} {base : Heap} {C : Addr} {k : Nat} {sp : Sp}
theorem call_own {A : Around} {f : Addr} {fd : FuncData} {ps : List Str} {Q : VK} {x y : V} {u v : Value} (F : FnOk X.prog X.w X.K X.mg X.base CX0 k f fd ps sp) (hb : Binds X.K fd ps []) (hr : Room k A) (hf : A.frames = X.A.frames)
    (I : Inv X pins σ H s) (rx : RelV x u) (ry : RelV y v) (hsp : sp [x, y] H Q E0) : wpAny (model X.prog X.w) A (call (.ref f) [u, v]) (EP X pins σ Q) X.xe s := by
  have e0 : Env0 X.prog X.w X.K X.mg X.base A X.stack s H := by
    have e := I.env0
    exact ⟨by rw [hf]; exact e.frames, e.mod, e.bs, e.bsz, e.funs, e.frf, e.hok, e.bare⟩
  have hl := F.len _ _ _ _ hsp
  have r2 : Vals [x, y] [u, v] := .cons rx (.cons ry .nil)
  refine wpAny_call (codeAny_mono (F.run A X.stack s H ⟨[u, v], []⟩ [u, v] [x, y] _ E0 hr e0 (by
    have := hb s [u, v] I.kIn (by simpa using hl)
    simpa using this) r2 hsp) fun r s' hq => ?_)
  cases r with
  | error e => exact (hq : False).elim
  | ok fl =>
    cases fl with
    | ret w => exact I.after hq
    | next => exact False.elim hq
    | brk => exact False.elim hq
    | cont => exact False.elim hq
theorem op_eqO (h : OwnEq X.prog X.w X.K X.mg X.base C k sp) (hr : Room k X.A) : OpR X (compareOp .Eq) (rEqO false X.K C sp) := by
  intro pins s σ H x y v u Q I rx ry hq
  unfold rEqO at hq
  obtain ⟨a, dx, fs, t, rfl, ha, ty, hn, hsp⟩ := hq
  obtain ⟨f, fd, ps, hs, hf, hb, F⟩ := h.fn
  have rx' := rx
  cases rx
  have lb := ty.looks I ry
  obtain ⟨mA, J, _⟩ := ins_get I.hok ha
  obtain ⟨od, J, _⟩ := J.look
  obtain ⟨m, hF⟩ := I.fr
  show wpAny (model X.prog X.w) X.A (richCompare .Eq (.ref a) u) (EP X pins σ Q) X.xe s
  refine PySem.W.cmp_K (op := .Eq) (tb := t) hr.units0 hF I.ok.mod.kin J lb hn hs hf ?_
  refine wpAny_mono (call_own F hb hr rfl I rx' ry hsp) (fun r s' z => ?_) fun _ _ x => x
  obtain ⟨v, H', I', rv, b, ev, q⟩ := z
  subst ev
  cases rv
  exact ⟨.bl b, H', I', rfl, q⟩
theorem op_neO (h : OwnEq X.prog X.w X.K X.mg X.base C k sp) (hr : Room (k + 1) X.A) : OpR X (compareOp .NotEq) (rEqO true X.K C sp) := by
  intro pins s σ H x y v u Q I rx ry hq
  unfold rEqO at hq
  obtain ⟨a, dx, fs, t, rfl, ha, ty, hn, hsp⟩ := hq
  obtain ⟨f, fd, ps, hs, hf, hb, F⟩ := h.fn
  have rx' := rx
  cases rx
  have lb := ty.looks I ry
  obtain ⟨mA, J, _⟩ := ins_get I.hok ha
  obtain ⟨od, J, _⟩ := J.look
  obtain ⟨m, hF⟩ := I.fr
  show wpAny (model X.prog X.w) X.A (richCompare .NotEq (.ref a) u) (EP X pins σ Q) X.xe s
  refine PySem.W.rv_ne_K (tb := t) (by have := hr.units; omega) hF I.ok.mod.kin J lb hn hs hf h.ne h.ob ?_
  refine wpAny_mono (call_own F hb hr.in1 rfl I rx' ry hsp) (fun r s' z => ?_) fun _ _ x => x
  obtain ⟨v, H', I', rv, b, ev, q⟩ := z
  subst ev
  cases rv
  exact ⟨b, rfl, .bl (!b), H', I', rfl, q⟩
theorem op_eqOK (h : OwnEq P w K mg base C k sp) (hr : Room k X.A) (e : X.prog = P ∧ X.w = w ∧ X.K = K ∧ X.mg = mg ∧ X.base = base := by exact ⟨rfl, rfl, rfl, rfl, rfl⟩) : OpR X (compareOp .Eq) (rEqO false K C sp) := by
  obtain ⟨rfl, rfl, rfl, rfl, rfl⟩ := e
  exact op_eqO h hr
theorem op_neOK (h : OwnEq P w K mg base C k sp) (hr : Room (k + 1) X.A) (e : X.prog = P ∧ X.w = w ∧ X.K = K ∧ X.mg = mg ∧ X.base = base := by exact ⟨rfl, rfl, rfl, rfl, rfl⟩) : OpR X (compareOp .NotEq) (rEqO true K C sp) := by
  obtain ⟨rfl, rfl, rfl, rfl, rfl⟩ := e
  exact op_neO h hr
/-- an instance of a class without a truth or a length of its own is true -/
def rTrO (C : Addr) : V → Hp → (Bool → Hp → Prop) → Prop := fun x H Q => ∃ a dx fs, x = .ref a ∧ H a = some (.ins C dx fs) ∧ Q true H
theorem tru_obj (hb : PySem.W.findIn X.K (.ref C) "__bool__" = some none) (hl : PySem.W.findIn X.K (.ref C) "__len__" = some none) : TruR X (rTrO C) := by
  intro pins s σ H x v Q I rx h
  obtain ⟨a, dx, fs, rfl, ha, q⟩ := h
  cases rx
  obtain ⟨mA, J, _⟩ := ins_get I.hok ha
  obtain ⟨od, J, _⟩ := J.look
  obtain ⟨m, hF⟩ := I.fr
  exact PySem.W.truthy_K0 hF I.ok.mod.kin J hb hl ⟨H, I, q⟩
/-! ### repr -/
mutual
theorem Dp.noDict {K : PySem.W.Frag} {H : Hp} : ∀ {v : V} {d : PyData}, Dp K H v d → d.hasDict = false
  | _, _, .non => by simp [PyData.hasDict]
  | _, _, .bl _ => by simp [PyData.hasDict]
  | _, _, .int _ => by simp [PyData.hasDict]
  | _, _, .str _ => by simp [PyData.hasDict]
  | _, _, .lst _ h => by simp [PyData.hasDict, DpAll.noDict h]
  | _, _, .tup _ h => by simp [PyData.hasDict, DpAll.noDict h]
theorem DpAll.noDict {K : PySem.W.Frag} {H : Hp} : ∀ {vs : List V} {ds : List PyData}, DpAll K H vs ds → PyData.hasDictAll ds = false
  | _, _, .nil => by simp [PyData.hasDictAll]
  | _, _, .cons h t => by simp [PyData.hasDictAll, Dp.noDict h, DpAll.noDict t]
end
@[irreducible] def rRepr (K : PySem.W.Frag) : List V → Hp → VK → Prop := fun xs H Q => ∃ a d, xs = [.ref a] ∧ Dp K H (.ref a) d ∧ d.showable = true ∧ d.depth ≤ 60 ∧ d.shown.length ≤ sizeLine ∧ Q (.str d.shown) H
theorem call_reprD (hu : X.A.units + 64 < cLine) (hg : X.A.guards = some []) : CallR X (.builtin "repr") (rRepr X.K) := by
  intro pins s σ H xs us Q I r h
  unfold rRepr at h
  obtain ⟨a, d, rfl, hd, hs, hdp, hsz, q⟩ := h
  obtain ⟨as, rd⟩ := Dp.reads I d _ _ hd (rfl : RelV (.ref a) (.ref a))
  have eu : us = [.ref a] := by
    cases r with
    | cons r1 r2 => cases r2; cases r1; rfl
  subst eu
  have nod : d.hasDict = true → sysModules ∉ as := fun hh => by
    rw [Dp.noDict hd] at hh
    cases hh
  refine repr_of_reads' rd hs nod hg (by omega) (fun _ _ e => e) (fun h' u tk hk => ⟨.str d.shown, H, I.kept hk, ⟨u, rfl⟩, q⟩) hsz
end
end RV
/-! Defs that must not run within a repr: as FnOk, but only where no repr is under way. -/
namespace RV
open PySem L2 PyProof.Rows
section
variable {P : Program} {w : World} {K : PySem.W.Frag} {mg : Str → Option Value} {base : Heap}
structure FnG (P : Program) (w : World) (K : PySem.W.Frag) (mg : Str → Option Value) (base : Heap) (k : Nat) (f : Addr) (fd : FuncData) (ps : List Str) (sp : Sp) : Prop where
  len : ∀ vs H Q E, sp vs H Q E → vs.length = ps.length
  run : ∀ (A : Around) (outer : List Env) (s : Shared) (H : Hp) (args : Args) (us : List Value) (vs : List V) (Q : VK) (E : XK), A.guards = some [] → Room k A → Env0 P w K mg base A outer s H → BindsTo s fd args (ps.zip us) → Vals vs us → sp vs H Q E →
    codeAny (model P w) A (.call (.ref f) args) (CR CX0 outer P w H s Q E) s
theorem gFun {x qual : Str} {st : Stmt} {f : Addr} {fd : FuncData} {N ps : List Str} {k : Nat} {sp : Sp} (F : Fun K x qual st f fd) (S : FnScope N ps (defScope st)) (len : ∀ vs H Q E, sp vs H Q E → vs.length = ps.length)
    (hbody : ∀ (cdv : Value) (A : Around) (outer : List Env) (s : Shared) (H : Hp) (vs : List V) (Q : VK) (E : XK), (A.deeper (envOfC qual (defScope st) s.heap.objs.size f cdv)).guards = some [] → Room k (A.deeper (envOfC qual (defScope st) s.heap.objs.size f cdv)) → sp vs H Q E →
      ∃ t, PSs (cxOf CX0 P w K mg base N qual (defScope st) f cdv A outer s H E).nox (defBody st) t ∧ t { nx := fun _ H' => Q .non H', rt := Q } (start N vs) H) : FnG P w K mg base (k + 1) f fd ps sp := by
  refine ⟨len, fun A outer s H args us vs Q E gs hr e0 hb r hsp => ?_⟩


  obtain ⟨oc, od, kV, doc, pm, an, cdv, ct, osl, rfl, lk, hcd⟩ := F.ex
  have hl := len _ _ _ _ hsp
  have KX : K.In s.heap := e0.mod.kin.keeps fun b o e => (e0.bs b o e).1
  have lim := e0.mod.nolimit.keeps fun b o e => (e0.bs b o e).1
  refine codeAny_call_function hr.depth (KX _ _ lk) rfl S.co S.gen rfl (PySem.W.codeRec_of KX hcd) (hb _ _ _ _ ?_)
  refine wpAny_newFunctionEnv_cells S.kind (fun y hy => ?_) fun env he s1 x => ?_
  · have hin : y.1 ∈ ps := by
      obtain ⟨n, v⟩ := y
      exact (List.of_mem_zip hy).1
    exact (S.par _ hin).imp id fun q => ⟨q, PySem.W.cellsFrom_some _ _ _ (.inl q)⟩
  subst he
  refine ⟨lim.keeps x.toInCall.keep, codeAny_func ?_⟩
  obtain ⟨t, ht, hq⟩ := hbody cdv A outer s H vs Q E gs (hr.deeper _) hsp
  have I := inv_start (CX := CX0) (cd := cdv) (E := E) S hr.hd e0 hl r x
  refine wpAny_mono (ht.nox.run [] s1 (start N vs) H _ I hq) (fun fl s' hs => ?_) fun _ _ hs => hs
  match fl, hs with
  | .ret u, ⟨v, _, H', J, rv, q⟩ => exact ⟨v, H', J.os, J.bare, J.base, J.hok, rv, q⟩
  | .next, ⟨_, H', J, q⟩ => exact ⟨V.non, H', J.os, J.bare, J.base, J.hok, rfl, q⟩
  | .brk, ⟨_, _, _, q⟩ => exact q.elim
  | .cont, ⟨_, _, _, q⟩ => exact q.elim
/-- such a function of the module, as its callers see it -/
def FnGd (P : Program) (w : World) (K : PySem.W.Frag) (mg : Str → Option Value) (base : Heap) (x : Str) (k : Nat) (ps : List Str) (sp : Sp) : Prop :=
  ∃ f fd, mg x = some (.ref f) ∧ PySem.W.keepIn K (.ref f) = true ∧ Binds K fd ps [] ∧ FnG P w K mg base k f fd ps sp
end
section
variable {X : Cx} {x : Str} {k : Nat} {ps : List Str} {sp : Sp} {e : Expr} {es : List Expr} {t : TA} {p pos : Pos}
theorem pe_fnG (h : FnGd X.prog X.w X.K X.mg X.base x k ps sp) (gs : X.A.guards = some []) (hr : Room k X.A) (ha : PA X (e :: es) t) (hg : Gl X x := by rfl) (hdb : (x == ("__debug__" : Str)) = false := by decide)
    (he : starEach (e :: es) X.env = (false, eval e X.env) :: starEach es X.env := by rfl) (hpl : (backTo pos (starEach es X.env)).any (·.1) = false := by rfl) :
    PE X (.Call (.Name x p) (e :: es) [] pos) (tCall sp [] E0 t) := by
  obtain ⟨f, fd, hm, hk, hb, F⟩ := h
  refine ⟨fun pins s σ H Q I h => wpAny_Call_Name_kw (ld_glob I hg hm ?_ hdb)⟩
  refine PySem.W.callWith_K (h₀ := X.base) I.ok.mod.kin hk (thn (ha.run pos pins s σ H _ I h) fun us s1 ⟨vs, H1, I1, r, q⟩ => ⟨I1.kIn, ?_⟩) he hpl
  have q' : sp vs H1 Q E0 := by rw [← List.append_nil vs]; exact q
  have hl : us.length = ps.length := r.length ▸ F.len _ _ _ _ q'
  have hbb : BindsTo s1 fd ⟨us, []⟩ (ps.zip us) := by
    have z := hb s1 us I1.kIn (by rw [List.append_nil]; exact hl)
    rwa [List.append_nil] at z
  refine wpAny_call (codeAny_mono (F.run X.A X.stack s1 H1 ⟨us, []⟩ us vs Q E0 gs hr I1.env0 hbb r q') fun res s' hq => ?_)
  match res, hq with
  | .ok (.ret u), hq => exact I1.after hq
  | .ok .next, hq => exact False.elim hq
  | .ok .brk, hq => exact False.elim hq
  | .ok .cont, hq => exact False.elim hq
  | .error e, hq => exact False.elim hq
end
/-- the law's own call: nothing is tracked but the script -/
theorem callG {P : Program} {w : World} {K : PySem.W.Frag} {mg mb : Str → Option Value} {k : Nat} {fa a : Addr} {fd : FuncData} {x : Str} {sp : Sp} {s₁ : Shared} {vs : List Value} {ns : List Int}
    (KX : K.In s₁.heap) (hns : s₁.heap.Ns mainGlobals mg) (hb : s₁.heap.Ns builtinsNs mb) (hbb : ∀ x : Str, x ≠ "__name__" → mb x = bootBuiltins x) (hlim : s₁.heap.NoLimit) (hg : s₁.gens = #[])
    (ha : s₁.heap.get? a = some { cls := .type "list", data := .seq vs.toArray }) (hi : IntsAre vs ns) (hl : ns.length ≤ sizeLine) (hr : Room k callerA)
    (F : ∀ base : Heap, K.In base → base.Ns mainGlobals mg → FnG P w K mg base k fa fd [x] sp) (hbind : ∀ (s : Shared) (u : Value), BindsTo s fd ⟨[u], []⟩ [(x, u)])
    (hsp : ∀ H : Hp, SqL K H a (ns.map V.int) → sp [.ref a] H (fun v _ => v = .bl true) E0) :
    codeAny (model P w) callerA (.call (.ref fa) ⟨[.ref a], []⟩) (fun r s' => r = .ok (.ret (.bool true)) ∧ OldK s₁.heap s'.heap ∧ s'.os = s₁.os ∧ AllBare s'.gens) s₁ := by
  have rv := vals_ints hi
  let scr : Obj := { cls := .type "list", data := .seq vs.toArray }
  -- H tracks at most the script, locked
  have core : ∀ H : Hp, (∀ b u, H b = some u → b = a ∧ u = .frz scr (.lst (ns.map V.int)) ∧ K.lookup a = none) → SqL K H a (ns.map V.int) →
      codeAny (model P w) callerA (.call (.ref fa) ⟨[.ref a], []⟩) (fun r s' => r = .ok (.ret (.bool true)) ∧ OldK s₁.heap s'.heap ∧ s'.os = s₁.os ∧ AllBare s'.gens) s₁ := by
    intro H hO hS
    have hok : HOk P w H s₁.heap := fun b u e => by
      obtain ⟨rfl, rfl, _⟩ := hO b u e
      exact ⟨ha, by rw [List.length_map]; exact hl, vs, _, rv, ha⟩
    have other : ∀ {b : Addr} {o : Obj}, s₁.heap.get? b = some o → o ≠ scr → H b = none := fun {b o} e d => by
      cases q : H b with
      | none => rfl
      | some u =>
        obtain ⟨rfl, _, _⟩ := hO b u q
        rw [ha] at e
        exact absurd (Option.some.inj e).symm d
    have spaces : ∀ {b : Addr} {m : Str → Option Value}, s₁.heap.Ns b m → (hidT s₁.heap H).Ns b m := fun {b m} z => by
      obtain ⟨o, es, ep, e, d, r⟩ := z
      refine ⟨o, es, ep, hidT_get e (other e fun q => ?_), d, r⟩
      subst q
      obtain ⟨_, d'⟩ := d
    have kin : K.In (hidT s₁.heap H) := fun b o e => hidT_get (KX b o e) (by
      cases q : H b with
      | none => rfl
      | some u =>
        obtain ⟨rfl, _, z⟩ := hO b u q
        rw [z] at e
        cases e)
    obtain ⟨mc, l1, l2⟩ := hlim
    have e0 : Env0 P w K mg (hidT s₁.heap H) callerA [] s₁ H :=
      { frames := rfl, mod := ⟨kin, spaces hns, ⟨mb, spaces hb, hbb⟩, ⟨mc, spaces l1, l2⟩⟩, bs := fun _ _ e => of_hidT e, bsz := Nat.le_of_eq (hidT_size _ _), funs := trivial, frf := fun _ hb => (nomatch hb), hok := hok, bare := .of_eq hg }
    refine codeAny_mono ((F _ kin (spaces hns)).run callerA [] s₁ H ⟨[.ref a], []⟩ [.ref a] [.ref a] _ _ rfl hr e0 (hbind s₁ (.ref a)) (.cons rfl .nil) (hsp H hS)) fun res s' z => ?_
    match res, z with
    | .ok (.ret u), ⟨v, H', os, bare, un, hok', rel, ev⟩ =>
      have ev' : v = .bl true := ev
      subst ev'
      have eu : u = Value.bool true := rel
      subst eu
      refine ⟨rfl, OldK.of_keep fun b o e => ?_, os, bare⟩
      cases q : H b with
      | none => exact un.keep b o e q (fun z => nomatch z) (fun z => nomatch z)
      | some u =>
        obtain ⟨rfl, rfl, _⟩ := hO b u q
        have z1 := (hok' b _ (un.frzs b _ _ q)).1
        rw [ha] at e
        rw [← e]
        exact z1
    | .ok .next, z => exact False.elim z
    | .ok .brk, z => exact False.elim z
    | .ok .cont, z => exact False.elim z
    | .error e, z => exact False.elim z
  cases hk : K.lookup a with
  | some o =>
    have e := KX a o hk
    rw [ha] at e
    cases e
    exact core (fun _ => none) (fun _ _ z => nomatch z) (.inr ⟨_, vs.toArray, _, hk, rfl, rfl, rfl, by rw [List.size_toArray, hi.length]; exact hl, by simpa using rv⟩)
  | none =>
    refine core (fun b => if b = a then some (.frz scr (.lst (ns.map V.int))) else none) (fun b u z => ?_) (.inl (.inr ⟨scr, if_pos rfl⟩))
    by_cases hb : b = a
    · rw [if_pos hb] at z
      exact ⟨hb, (Option.some.inj z).symm, hk⟩
    · rw [if_neg hb] at z
      cases z
theorem walkG (k : Nat) {l : PySem.W.OpenLaw} {q : Program} {loose : List Str} {XP : (Str → Option Value) → Heap → Prop} {YP : World → Heap → Prop} {d : DefRec} {K : Params → PySem.W.Frag} (hr : Room k callerA) (hn : l.most = some 63) (hdf : d.params.defaults = [])
    (hY : ∀ (w : World) (h : Heap), YP w h → (K w.params).In h)
    (F : ∀ (w : World) (mg : Str → Option Value) (fa : Addr) (h : Heap), (K w.params).In h → h.Ns mainGlobals mg → mg d.name = some (.ref fa) →
      ∃ fd : FuncData, (∀ (s : Shared) (u : Value), BindsTo s fd ⟨[u], []⟩ [("_law_cells", u)]) ∧ ∀ base : Heap, (K w.params).In base → base.Ns mainGlobals mg → FnG l.prog w (K w.params) mg base k fa fd ["_law_cells"] (spLaw (K w.params))) :
    PySem.W.WalkO q loose XP YP l.row.toRowW d [] (fun f vs => PySem.call f vs) := by
  refine Att.attach_call hn hdf fun w s₀ s₁ mg mb fa o pm cd doc a vs ns G Y ho hd hcd hmg hobj hints hlen hg => ?_
  obtain ⟨fd, hb, hF⟩ := F w mg fa _ (hY w _ Y) G.T.g hmg
  exact callG (hY w _ Y) G.T.g G.T.b G.T.builtins G.T.nolimit hg hobj hints (Nat.le_trans hlen (by decide)) hr hF hb fun H hS => ⟨a, ns, rfl, hS, hlen, fun _ => rfl⟩
end RV
/-! Classes of the text, as their callers see them. -/
namespace RV
open PySem L2 PyProof.Rows
/-- the class x of the module stands at C; C(..) of positional values, the defaults dvs behind them -/
def Mkr (P : Program) (w : World) (K : PySem.W.Frag) (mg : Str → Option Value) (base : Heap) (x : Str) (C : Addr) (k : Nat) (sp : Sp) (dvs : List V) : Prop :=
  mg x = some (.ref C) ∧ ∃ f fd ps ds, Mk K C f ∧ Binds K fd ps ds ∧ Vals dvs ds ∧ FnOk P w K mg base CX0 k f fd ps sp
def MkrK (P : Program) (w : World) (K : PySem.W.Frag) (mg : Str → Option Value) (base : Heap) (x : Str) (C : Addr) (k n : Nat) (ks : List Str) (sp : Sp) (gV : List V → List V → List V) : Prop :=
  mg x = some (.ref C) ∧ ∃ f fd ps g, Mk K C f ∧ KBn K fd ps (n + 1) ks g gV ∧ FnOk P w K mg base CX0 k f fd ps sp
/-- what isinstance asks of a class of the text -/
structure ClsX (K : PySem.W.Frag) (C : Addr) : Prop where
  cl : Cls K C
  ha : PySem.W.findIn K (.ref C) "__class__" = some (some (.builtin "object.__class__"))
  hn : PySem.W.specialIn K (.builtin "object.__class__") "__get__" = some (some (.builtin "getset_descriptor.__get__"))
  htk : PySem.W.takesIn K (.builtin "object.__class__") = some true
  hm : PySem.W.mroIn K C (.type "object") = some true
theorem ClsX.ty {K : PySem.W.Frag} {C a dx : Addr} {H : Hp} {fs : List (Str × V)} (c : ClsX K C) (e : H a = some (.ins C dx fs)) : TyX K H (.ref a) (.ref C) := .base (.ins e c.cl c.ha c.hn c.htk c.hm)
/-- a property -/
def Prp (P : Program) (w : World) (K : PySem.W.Frag) (mg : Str → Option Value) (base : Heap) (C : Addr) (f : Str) (k : Nat) (sp : Sp) : Prop :=
  Cls K C ∧ ∃ p g fd ps, PropOf K C f p g ∧ Binds K fd ps [] ∧ FnOk P w K mg base CX0 k g fd ps sp
section
variable {X : Cx} {x f : Str} {C : Addr} {k n : Nat} {ks : List Str} {sp : Sp} {dvs : List V} {gV : List V → List V → List V} {e : Expr} {es : List Expr} {kws : List Keyword} {t tk : TA} {ta : TE} {p pos : Pos}
theorem pe_mk (h : Mkr X.prog X.w X.K X.mg X.base x C k sp dvs) (hr : Room (k + 1) X.A) (ha : PA X (e :: es) t) (hg : Gl X x := by rfl) (hdb : (x == ("__debug__" : Str)) = false := by decide)
    (he : starEach (e :: es) X.env = (false, eval e X.env) :: starEach es X.env := by rfl) (hpl : (backTo pos (starEach es X.env)).any (·.1) = false := by rfl) : PE X (.Call (.Name x p) (e :: es) [] pos) (tMake C sp dvs E0 t) := by
  obtain ⟨hm, f, fd, ps, ds, M, hb, hd, F⟩ := h
  exact pe_make M F hr hg hm hb hd pass0 ha hdb he hpl
theorem pe_mkK (h : MkrK X.prog X.w X.K X.mg X.base x C k n ks sp gV) (hr : Room (k + 1) X.A) (ha : PA X (e :: es) t) (hkw : PK X kws tk) (hg : Gl X x := by rfl)
    (hall : (backToKw pos (keywordEach kws X.env)).all (·.1.isSome) = true := by rfl) (hks : (backToKw pos (keywordEach kws X.env)).filterMap (·.1) = ks := by rfl) (hdb : (x == ("__debug__" : Str)) = false := by decide)
    (he : starEach (e :: es) X.env = (false, eval e X.env) :: starEach es X.env := by rfl) (hpl : ((backTo pos (starEach (e :: es) X.env)).any (·.1) || (backToKw pos (keywordEach kws X.env)).any (·.1.isNone)) = false := by rfl) :
    PE X (.Call (.Name x p) (e :: es) kws pos) (tMakeK C n ks.length sp gV E0 t tk) := by
  obtain ⟨hm, f, fd, ps, g, M, hb, F⟩ := h
  exact pe_makeK M F hr hg hm hb pass0 ha hkw hall hks hdb he hpl
theorem pe_mkK0 (h : MkrK X.prog X.w X.K X.mg X.base x C k 0 ks sp gV) (hr : Room (k + 1) X.A) (hkw : PK X kws tk) (hg : Gl X x := by rfl)
    (hall : (backToKw pos (keywordEach kws X.env)).all (·.1.isSome) = true := by rfl) (hks : (backToKw pos (keywordEach kws X.env)).filterMap (·.1) = ks := by rfl) (hdb : (x == ("__debug__" : Str)) = false := by decide)
    (hpl : ((backTo pos (starEach [] X.env)).any (·.1) || (backToKw pos (keywordEach kws X.env)).any (·.1.isNone)) = false := by rfl) :
    PE X (.Call (.Name x p) [] kws pos) (tMakeK C 0 ks.length sp gV E0 tNil tk) := by
  obtain ⟨hm, f, fd, ps, g, M, hb, F⟩ := h
  exact pe_makeK0 M F hr hg hm hb pass0 hkw hall hks hdb hpl
theorem pe_propN (h : Prp X.prog X.w X.K X.mg X.base C f k sp) (hr : Room (k + 1) X.A) (he : PE X e ta) (hab : attributeBase e f X.env (eval e X.env) = eval e X.env := by rfl) : PE X (.Attribute e f pos) (tProp C sp [] E0 ta) := by
  obtain ⟨c, q, g, fd, ps, hp, hb, F⟩ := h
  exact pe_prop he c hp F hr hb .nil pass0 hab
/-- a test that is an instance's truth -/
theorem pt_obj (hb : PySem.W.findIn X.K (.ref C) "__bool__" = some none) (hl : PySem.W.findIn X.K (.ref C) "__len__" = some none) (ha : PE X e ta) (he : ∀ whole, isTrue e X.env whole = (do let v ← whole; standAt e.pos; holding [v] (truthy v)) := by intro _; rfl) :
    PT X e (fun σ H Q => ta σ H fun x H' => rTrO C x H' Q) := by
  refine ⟨fun pins s σ H Q I h => ?_⟩
  exact isTrue_plain (thn (ha.run pins s σ H _ I h) fun v s1 ⟨x, H1, I1, r1, q1⟩ => tru_obj hb hl pins s1 σ H1 x v Q I1 r1 q1) (he _)
end
end RV
/-! What is known of the heap, step by step; repr of lists of short things. -/
namespace RV
open PySem L2 PyProof.Rows
/-- the built-in names that the text uses are still the built-ins -/
structure Blt (mg : Str → Option Value) : Prop where
  b_len : mg "len" = none
  b_int : mg "int" = none
  b_abs : mg "abs" = none
  b_max : mg "max" = none
  b_min : mg "min" = none
  b_all : mg "all" = none
  b_any : mg "any" = none
  b_repr : mg "repr" = none
  b_range : mg "range" = none
  b_divmod : mg "divmod" = none
  b_isinstance : mg "isinstance" = none
  b_str : mg "str" = none

/-! ### the well -/
def sp_well (K : PySem.W.Frag) : Sp := fun vs H Q _ => ∃ (c : Addr) (ns : List Int) (k : Nat), vs = [.ref c, .int k] ∧ SqL K H c (ns.map V.int) ∧ ns.length ≤ 63 ∧ k ≤ 100 ∧
  ∀ a H', H a = none → Same H H' → WellAt H' a 0 → Q (.ref a) H'
def sp_dip : Sp := fun vs H Q _ => ∃ (a : Addr) (m : Int) (n : Nat), vs = [.ref a, .int m] ∧ WellAt H a n ∧ n < 1000000 ∧ 0 < m ∧ m ≤ 10 ^ 60 ∧
  ∀ (r : Int) H', 0 ≤ r → r < m → Grow a H H' → WellAt H' a (n + 1) → Q (.int r) H'
theorem WellAt.mono {H : Hp} {a : Addr} {n m : Nat} (w : WellAt H a n) (h : n ≤ m) : WellAt H a m := by
  obtain ⟨x, y, z, e, hx, hy, hz⟩ := w
  exact ⟨x, y, z, e, hx, hy, by omega, by omega⟩
theorem WellAt.new {H : Hp} {a p : Addr} {n : Nat} {o : HO} (w : WellAt H a n) (np : H p = none) : WellAt (upd H p o) a n := by
  obtain ⟨x, y, z, e, hx, hy, hz⟩ := w
  exact ⟨x, y, z, by rw [upd_ne (ne_of_none e np)]; exact e, hx, hy, hz⟩
theorem WellAt.ne {H : Hp} {a p : Addr} {n : Nat} (w : WellAt H a n) (np : H p = none) : a ≠ p := by
  obtain ⟨x, y, z, e, _⟩ := w
  exact ne_of_none e np
def sp_name : Sp := fun vs H Q _ => ∃ (a : Addr) (n : Nat), vs = [.ref a] ∧ WellAt H a n ∧ n < 900000 ∧
  ∀ (x : Str) H', IsNm x → Grow a H H' → WellAt H' a (n + 10) → Q (.str x) H'
def sp_fresh : Sp := fun vs H Q _ => ∃ (a t : Addr) (n : Nat) (xs : List Str), vs = [.ref a, .ref t] ∧ WellAt H a n ∧ n < 800000 ∧ H t = some (.lst (xs.map V.str)) ∧ t ≠ a ∧ (∀ x ∈ xs, IsNm x) ∧ xs.length ≤ 35 ∧
  ∀ (x : Str) H', IsNm x → x ∉ xs → Grow a H H' → WellAt H' a (n + 13) → Q (.str x) H'
/-- the names that differ from x in their last sign alone -/
def cands (x : Str) : List Str := (cd signs).map fun c => cutS x none (some 7) ++ ⟨#[c]⟩
theorem cand_cd (x : Str) (c : Nat) : cd (cutS x none (some 7) ++ ⟨#[c]⟩) = (cd x).take 7 ++ [c] := by
  rw [cd_app, cd_one]
  exact congrArg (· ++ [c]) (cd_pre x 7)
theorem cands_nm {x : Str} (h : IsNm x) : ∀ y ∈ cands x, IsNm y := by
  intro y hy
  obtain ⟨c, hc, rfl⟩ := List.mem_map.mp hy
  have ht : tailC c = true := by
    have : ((cd signs).all tailC) = true := by rw [cd_signs]; decide
    exact List.all_eq_true.mp this c hc
  show isNm (cd _) = true
  rw [cand_cd]
  exact isNm_snoc (isNm_take h (by decide) (by decide)) (by rw [List.length_take]; omega) ht
theorem nodup_map {α β : Type} {f : α → β} (hf : ∀ a b, f a = f b → a = b) : ∀ {l : List α}, l.Nodup → (l.map f).Nodup
  | [], _ => List.nodup_nil
  | a :: l, h => by
    obtain ⟨h1, h2⟩ := List.nodup_cons.mp h
    rw [List.map_cons, List.nodup_cons]
    refine ⟨fun hm => ?_, nodup_map hf h2⟩
    obtain ⟨b, hb, e⟩ := List.mem_map.mp hm
    exact h1 (hf _ _ e ▸ hb)
theorem cands_nodup (x : Str) : (cands x).Nodup := by
  refine nodup_map (fun a b e => ?_) (by rw [cd_signs]; decide)
  have e2 := congrArg cd e
  rw [cand_cd, cand_cd] at e2
  have e3 := List.append_cancel_left e2
  exact (List.cons.inj e3).1
theorem cands_len (x : Str) : (cands x).length = 36 := by
  unfold cands
  rw [List.length_map, cd_signs]
  rfl
/-- what is_name says of any value whose kind is known -/
def sp_is_name (K : PySem.W.Frag) : Sp := fun vs H Q _ => ∃ v, vs = [v] ∧ ((∃ x : Str, v = .str x ∧ x.length ≤ sizeLine ∧ ∀ H', Same H H' → Q (.bl (isNm (cd x))) H') ∨
  (∃ t, TyX K H v t ∧ PySem.W.kitOne K t (.type "str") = some false ∧ Q (.bl false) H))
structure Cst (mg : Str → Option Value) : Prop where
  c__LETTERS : ∃ u, mg "_LETTERS" = some u ∧ RelV (.str "abcdefghijklmnopqrstuvwxyz") u
  c__DIGITS : ∃ u, mg "_DIGITS" = some u ∧ RelV (.str "0123456789") u
  c__LONGEST_NAME : ∃ u, mg "_LONGEST_NAME" = some u ∧ RelV (.int 8) u
theorem cd_letters : cd "abcdefghijklmnopqrstuvwxyz" = [97, 98, 99, 100, 101, 102, 103, 104, 105, 106, 107, 108, 109, 110, 111, 112, 113, 114, 115, 116, 117, 118, 119, 120, 121, 122] := by decide +kernel
theorem cd_digits : cd "0123456789" = [48, 49, 50, 51, 52, 53, 54, 55, 56, 57] := by decide +kernel
theorem low_in (c : Nat) : decide (c ∈ cd "abcdefghijklmnopqrstuvwxyz") = lowC c := by
  rw [cd_letters]
  simp only [lowC]
  by_cases h : 97 ≤ c ∧ c ≤ 122
  · have : c = 97 ∨ c = 98 ∨ c = 99 ∨ c = 100 ∨ c = 101 ∨ c = 102 ∨ c = 103 ∨ c = 104 ∨ c = 105 ∨ c = 106 ∨ c = 107 ∨ c = 108 ∨ c = 109 ∨ c = 110 ∨ c = 111 ∨ c = 112 ∨ c = 113 ∨ c = 114 ∨ c = 115 ∨ c = 116 ∨ c = 117 ∨ c = 118 ∨ c = 119 ∨ c = 120 ∨ c = 121 ∨ c = 122 := by omega
    rcases this with e | e | e | e | e | e | e | e | e | e | e | e | e | e | e | e | e | e | e | e | e | e | e | e | e | e <;> subst e <;> decide
  · have h1 : (decide (97 ≤ c) && decide (c ≤ 122)) = false := by
      simp only [Bool.and_eq_false_iff, decide_eq_false_iff_not]
      omega
    rw [h1]
    simp only [decide_eq_false_iff_not, List.mem_cons, List.not_mem_nil, or_false]
    omega
theorem tail_in (c : Nat) : decide (c ∈ cd (("abcdefghijklmnopqrstuvwxyz" : Str) ++ ("0123456789" : Str))) = tailC c := by
  rw [cd_app]
  have h2 : decide (c ∈ cd "0123456789") = digC c := by
    rw [cd_digits]
    simp only [digC]
    by_cases h : 48 ≤ c ∧ c ≤ 57
    · have : c = 48 ∨ c = 49 ∨ c = 50 ∨ c = 51 ∨ c = 52 ∨ c = 53 ∨ c = 54 ∨ c = 55 ∨ c = 56 ∨ c = 57 := by omega
      rcases this with e | e | e | e | e | e | e | e | e | e <;> subst e <;> decide
    · have h1 : (decide (48 ≤ c) && decide (c ≤ 57)) = false := by
        simp only [Bool.and_eq_false_iff, decide_eq_false_iff_not]
        omega
      rw [h1]
      simp only [decide_eq_false_iff_not, List.mem_cons, List.not_mem_nil, or_false]
      omega
  rw [tailC, ← low_in, ← h2]
  by_cases a : c ∈ cd "abcdefghijklmnopqrstuvwxyz" <;> by_cases b : c ∈ cd "0123456789" <;> simp [a, b]
/-- a promise that the unifier does not open -/
@[irreducible] def Irr (sp : Sp) : Sp := sp
theorem irr {sp : Sp} {vs : List V} {H : Hp} {Q : VK} {E : XK} (h : sp vs H Q E) : Irr sp vs H Q E := by unfold Irr; exact h
theorem irr_of {sp : Sp} {vs : List V} {H : Hp} {Q : VK} {E : XK} (h : Irr sp vs H Q E) : sp vs H Q E := by unfold Irr at h; exact h
theorem Fn.irr {P : Program} {w : World} {K : PySem.W.Frag} {mg : Str → Option Value} {base : Heap} {x : Str} {k : Nat} {ps : List Str} {sp : Sp} (h : Fn P w K mg base x k ps sp) : Fn P w K mg base x k ps (Irr sp) := by
  obtain ⟨f, fd, a, b, c, F⟩ := h
  exact ⟨f, fd, a, b, c, F.imp fun _ _ _ _ z => irr_of z⟩
theorem Mkr.irr {P : Program} {w : World} {K : PySem.W.Frag} {mg : Str → Option Value} {base : Heap} {x : Str} {C : Addr} {k : Nat} {sp : Sp} {dvs : List V} (h : Mkr P w K mg base x C k sp dvs) : Mkr P w K mg base x C k (Irr sp) dvs := by
  obtain ⟨m, f, fd, ps, ds, a, b, c, F⟩ := h
  exact ⟨m, f, fd, ps, ds, a, b, c, F.imp fun _ _ _ _ z => irr_of z⟩
theorem MkrK.irr {P : Program} {w : World} {K : PySem.W.Frag} {mg : Str → Option Value} {base : Heap} {x : Str} {C : Addr} {k n : Nat} {ks : List Str} {sp : Sp} {gV : List V → List V → List V} (h : MkrK P w K mg base x C k n ks sp gV) : MkrK P w K mg base x C k n ks (Irr sp) gV := by
  obtain ⟨m, f, fd, ps, g, a, b, F⟩ := h
  exact ⟨m, f, fd, ps, g, a, b, F.imp fun _ _ _ _ z => irr_of z⟩
section
variable {a p x : Addr} {n m : Nat} {L : List (Addr × HO)} {H0 H : Hp} {o : HO} {Q : VK} {E : XK}
theorem Has.ne (h : Has H0 a n L H) (np : H p = none) : p ≠ a := (h.well.ne np).symm
theorem Has.free (h : Has H0 a n L H) (np : H p = none) : ∀ q ∈ L, q.1 ≠ p := fun q hq => ne_of_none (h.here q hq).2 np
theorem Has.none0 (h : Has H0 a n L H) (np : H p = none) : H0 p = none := by
  cases e : H0 p with
  | none => rfl
  | some o =>
    rw [h.gr p o (h.ne np) e] at np
    cases np
/-- a thing that is not among them changes -/
theorem Has.put (h : Has H0 a n L H) (h0 : H0 p = none) (hp : ∀ q ∈ L, q.1 ≠ p) (pa : p ≠ a) : Has H0 a n L (upd H p o) := by
  obtain ⟨g, ⟨x, y, z, e, r⟩, k⟩ := h
  refine ⟨fun b u hb eb => ?_, ⟨x, y, z, by rw [upd_ne pa.symm]; exact e, r⟩, fun q hq => ⟨(k q hq).1, by rw [upd_ne (hp q hq)]; exact (k q hq).2⟩⟩
  rw [upd_ne (ne_of_none eb h0)]
  exact g b u hb eb
theorem Has.same (h : Has H0 a n L H) {H' : Hp} (g : Same H H') : Has H0 a n L H' := by
  obtain ⟨g0, ⟨x, y, z, e, r⟩, k⟩ := h
  exact ⟨fun b u hb eb => g _ _ (g0 b u hb eb), ⟨x, y, z, g _ _ e, r⟩, fun q hq => ⟨(k q hq).1, g _ _ (k q hq).2⟩⟩
theorem name_step (h : Has H0 a n L H) (hn : n < 900000) (k : ∀ x H', IsNm x → Has H0 a (n + 10) L H' → Q (.str x) H') : Irr sp_name [.ref a] H Q E :=
  irr ⟨a, n, rfl, h.well, hn, fun x H' hx g w => k x H' hx (h.grow g w)⟩
theorem dip_step {q : Int} (h : Has H0 a n L H) (hn : n < 1000000) (h0 : 0 < q) (h1 : q ≤ 10 ^ 60) (k : ∀ (r : Int) H', 0 ≤ r → r < q → Has H0 a (n + 1) L H' → Q (.int r) H') : Irr sp_dip [.ref a, .int q] H Q E :=
  irr ⟨a, q, n, rfl, h.well, hn, h0, h1, fun r H' r0 r1 g w => k r H' r0 r1 (h.grow g w)⟩
theorem fresh_step {t : Addr} {xs : List Str} (h : Has H0 a n L H) (hn : n < 800000) (ht : (t, HO.lst (xs.map V.str)) ∈ L) (hx : ∀ x ∈ xs, IsNm x) (hl : xs.length ≤ 35) (k : ∀ x H', IsNm x → x ∉ xs → Has H0 a (n + 13) L H' → Q (.str x) H') :
    Irr sp_fresh [.ref a, .ref t] H Q E :=
  irr ⟨a, t, n, xs, rfl, h.well, hn, h.at ht, (h.here _ ht).1, hx, hl, fun x H' hx hn g w => k x H' hx hn (h.grow g w)⟩
end
/-! ### short data -/
structure Short (d : PyData) : Prop where
  sh : d.showable = true
  dp : d.depth = 0
  ln : d.shown.length ≤ 100
theorem short_nm {x : Str} (h : IsNm x) : Short (.str x) := by
  refine ⟨by simp [PyData.showable], by simp [PyData.depth], ?_⟩
  have h1 := StrLaws.reprText_len x (fun c hc => by
    have q := List.all_eq_true.mp (isNm_all h) c hc
    simp only [tailC, lowC, digC, Bool.or_eq_true, Bool.and_eq_true, decide_eq_true_eq] at q
    omega)
  have h2 := isNm_len h
  rw [← cd_len] at h2
  have : (PyData.str x).shown = reprText x := by simp only [PyData.shown]
  rw [this]
  omega
theorem short_bl (b : Bool) : Short (.bool b) := by
  refine ⟨by simp [PyData.showable], by simp [PyData.depth], ?_⟩
  cases b <;> simp only [PyData.shown] <;> decide +kernel
theorem short_list {ds : List PyData} (h : ∀ d ∈ ds, Short d) (hl : ds.length ≤ 100) : (PyData.list ds).showable = true ∧ (PyData.list ds).depth ≤ 60 ∧ (PyData.list ds).shown.length ≤ sizeLine := by
  have h1 : ∀ ds : List PyData, (∀ d ∈ ds, Short d) → PyData.showableAll ds = true ∧ PyData.depthAll ds = 0 ∧ ((PyData.shownAll ds).map (·.length)).sum ≤ 100 * ds.length ∧ (PyData.shownAll ds).length = ds.length := by
    intro ds
    induction ds with
    | nil => intro _; simp [PyData.showableAll, PyData.depthAll, PyData.shownAll]
    | cons d ds ih =>
      intro h
      obtain ⟨a1, a2, a3⟩ := h d List.mem_cons_self
      obtain ⟨b1, b2, b3, b4⟩ := ih fun e he => h e (List.mem_cons_of_mem _ he)
      refine ⟨by simp [PyData.showableAll, a1, b1], by simp [PyData.depthAll, a2, b2], ?_, by simp [PyData.shownAll, b4]⟩
      simp only [PyData.shownAll, List.map_cons, List.sum_cons, List.length_cons]
      omega
  obtain ⟨a1, a2, a3, a4⟩ := h1 ds h
  refine ⟨by simp [PyData.showable, a1], by simp [PyData.depth, a2], ?_⟩
  have e : (PyData.list ds).shown = listText (PyData.shownAll ds) := by simp only [PyData.shown]
  rw [e]
  have := listText_len_le (PyData.shownAll ds)
  exact Nat.le_trans (show _ ≤ 20000 by omega) (by decide)
/-- repr of a list of short things that stands in the heap -/
theorem repr_step {K : PySem.W.Frag} {a : Addr} {vs : List V} {ds : List PyData} {H : Hp} {Q : VK} (h : H a = some (.lst vs)) (hd : DpAll K H vs ds) (hs : ∀ d ∈ ds, Short d) (hl : ds.length ≤ 100) (k : Q (.str (PyData.list ds).shown) H) : rRepr K [.ref a] H Q := by
  obtain ⟨h1, h2, h3⟩ := short_list hs hl
  unfold rRepr
  exact ⟨a, .list ds, rfl, .lst (SqL.of h) hd, h1, h2, h3, k⟩
end RV
/-! for i, x in enumerate(t), t a tuple. -/
namespace PySem
open AutoSeq1 (wpAny_loadPart')
set_option maxHeartbeats 4000000 in
theorem rv_meets_enum_tuple (l : Addr) (items : Array Value) (n : Nat) (dct : Option Addr) (sl : Array (Option Value)) :
    Meets (Builtin.«enumerate.__new__» ⟨[.type "enumerate", .ref l], []⟩) (fun _ R s => s.heap.get? l = some { cls := .type "tuple", dict := dct, data := .seq items n, slots := sl } ∧
      R (.ok (.ret (.ref (s.heap.push { cls := .type "tuple_iterator", data := .fields #[.ref l, .int 0 0] }).objs.size)))
        { s with heap := (s.heap.push { cls := .type "tuple_iterator", data := .fields #[.ref l, .int 0 0] }).push { cls := .type "enumerate", data := .fields #[.none, .bool false, .ref s.heap.objs.size, rawInt 0, .none, .none] } }) :=
  .of_wp fun prog w A R s h => by
    obtain ⟨hp, g, d, tk, os⟩ := s
    obtain ⟨hl, h⟩ := h
    have q := sub_enumerate
    have hT : Heap.IsTuple (Shared.heap ⟨hp, g, d, tk, os⟩) l items := ⟨_, hl, rfl, n, rfl⟩
    wp_walk using wpAny_loadPart' hl
    refine wpAny_stack_any fun st => wpAny_pure ?_
    split
    · rename_i c _ _ _ _ _
      cases (c == Value.type "enumerate") <;> (wp_walk using wpAny_loadPart' hl, wpAny_pyIter_tuple hT; exact ⟨_, rfl, h⟩)
    · wp_walk using wpAny_loadPart' hl, wpAny_pyIter_tuple hT
      exact ⟨_, rfl, h⟩
section
variable {prog : Program} {w : World} {A : Around} {E : Value → Shared → Prop} {s : Shared}
theorem rv_call_enum_tuple {l : Addr} {items : Array Value} {Q : Value → Shared → Prop} (hT : s.heap.IsTuple l items)
    (h : ∀ h', IsEnum h' (s.heap.objs.size + 1) s.heap.objs.size 0 .none → h'.IsTupleIter s.heap.objs.size l 0 → h'.objs.size = s.heap.objs.size + 2 → (∀ b o, s.heap.get? b = some o → h'.get? b = some o) → Q (.ref (s.heap.objs.size + 1)) { s with heap := h' }) :
    wpAny (model prog w) A (call (.type "enumerate") [.ref l]) Q E s := by
  obtain ⟨⟨c, dct, dt, sl⟩, hl, hc, n, hd⟩ := hT
  obtain rfl : c = .type "tuple" := hc
  obtain rfl : dt = .seq items n := hd
  refine callType_new F.called_enumerate (by decide) (F.typeCall_enumerate_1 _) (F.newCall_enumerate_1 _) (fun obj => F.args_object_init_2 obj _) F.entry_enumerate_new (rv_meets_enum_tuple l items n dct sl) ⟨hl, ?_⟩
  let h1 := s.heap.push { cls := .type "tuple_iterator", data := .fields #[.ref l, .int 0 0] }
  have z1 : h1.objs.size = s.heap.objs.size + 1 := Heap.size_push ..
  show _ ∧ _
  rw [show (s.heap.push { cls := .type "tuple_iterator", data := .fields #[.ref l, .int 0 0] }).objs.size = s.heap.objs.size + 1 from z1]
  have he : IsEnum (h1.push { cls := .type "enumerate", data := .fields #[.none, .bool false, .ref s.heap.objs.size, rawInt 0, .none, .none] }) (s.heap.objs.size + 1) s.heap.objs.size 0 .none := by
    have t := Heap.get?_push_size h1 (o := { cls := .type "enumerate", data := .fields #[.none, .bool false, .ref s.heap.objs.size, rawInt 0, .none, .none] }) rfl
    rw [z1] at t
    exact t
  exact ⟨⟨_, he, rfl⟩, h _ he ⟨_, Heap.get?_push_of_some _ (Heap.get?_push_size _ rfl), rfl, rfl⟩ (by rw [Heap.size_push, z1]) fun b o x => Heap.get?_push_of_some _ (Heap.get?_push_of_some _ x)⟩
end
end PySem
namespace RV
open PySem L2 PyProof.Rows
/-- the tuple at a, each item in a new pair with its number -/
def Iet (K : PySem.W.Frag) (a : Addr) : It :=
  ⟨fun i H => ∃ (xs : List V) (x : V), SqT K H a xs ∧ xs[i]? = some x, fun i H v H' => ∃ T x, v = .ref T ∧ H T = none ∧ H' = upd H T (.tup [.int (i : Nat), x]) ∧ ∀ xs, SqT K H a xs → xs[i]? = some x, fun i H => ∃ xs : List V, SqT K H a xs ∧ xs.length = i⟩
theorem turn_enumT {P : Program} {w : World} {K : PySem.W.Frag} {elts : List Expr} {kk : Nat} {tpos : Pos} (a e it : Addr) :
    Turn P w K (.Tuple elts kk tpos) (Iet K a) [e, it] e (fun i h => (∃ old, IsEnum h e it ((i : Nat) : Int) old) ∧ h.IsTupleIter it a i ∧ e ≠ it) where
  mem := List.Mem.head _
  obj := fun i h st b hb => by
    obtain ⟨⟨old, he⟩, ⟨o, ho, hc, hd⟩, _⟩ := st
    rcases (by simpa using hb : b = e ∨ b = it) with rfl | rfl
    · exact ⟨_, he, fun v q => nomatch q⟩
    · exact ⟨o, ho, fun v q => by rw [hd] at q; cases q⟩
  keep := fun i h h' st k => by
    obtain ⟨⟨old, he⟩, hi, hne⟩ := st
    exact ⟨⟨old, k e (List.Mem.head _) _ he⟩, hi.at fun o q => k it (.tail _ (.head _)) o q, hne⟩
  item := by
    intro X hP hw hK hc i pins s σ H E I hf st hg
    subst hP hw hK
    obtain ⟨⟨old, he⟩, hit, hne⟩ := st
    obtain ⟨xs, x, hq, hx⟩ := hg
    obtain ⟨its, rv, p, hz⟩ := I.tuple hq
    obtain ⟨u, hu, ru⟩ := rv.get hx
    have hel : e < s.heap.objs.size := Heap.lt_size he
    have hil : it < s.heap.objs.size := by obtain ⟨_, q, _⟩ := hit; exact Heap.lt_size q
    have pt : s.heap.IsTuple a its.toArray := p
    have ait : a ≠ it := fun z => by
      obtain ⟨o, ho, hc, _⟩ := hit
      obtain ⟨o', ho', hc', _⟩ := pt
      rw [z, ho] at ho'
      cases ho'
      rw [hc] at hc'
      injection hc' with q
      exact absurd q (by decide)
    have ae : a ≠ e := fun z => by
      obtain ⟨o', ho', hc', _⟩ := pt
      rw [z, he] at ho'
      cases ho'
      injection hc' with q
      exact absurd q (by decide)
    have lt : i < its.toArray.size := by
      have := (List.getElem?_eq_some_iff.mp hu).1
      simpa using this
    refine wpAny_pyNext_enum_itemD (Draws.tuple (A := X.A.in1) (I.ok.hd hc) it a ait its.toArray) he ⟨hit, pt⟩ lt hne (by simp [hne, ae.symm]) fun y h' tk hy ho hst hT hsz hk => ?_
    have ey : y = u := by
      have e1 : its.toArray[i]? = some u := by simpa using hu
      rw [e1] at hy
      exact (Option.some.inj hy).symm
    subst ey
    refine ⟨_, rfl, wpAny_letOwnedTupleGo_enum (s := { s with heap := h', toks := tk + 1 }) ho fun h'' he' sb => ?_⟩
    have hT2 : h''.get? s.heap.objs.size = some { cls := .type "tuple", data := .seq #[.int i tk, y] } := (sb.2 _ (Nat.ne_of_gt hel)).trans hT
    have new : ObjOk X.prog X.w (upd H s.heap.objs.size (.tup [.int (i : Nat), x])) h'' s.heap.objs.size (.tup [.int (i : Nat), x]) :=
      ⟨by show 2 ≤ sizeLine; decide, [.int i tk, y], .cons ⟨_, rfl⟩ (.cons ru .nil), ⟨_, hT2, rfl, _, rfl⟩⟩
    have I1 : Inv X pins σ (upd H s.heap.objs.size (.tup [.int (i : Nat), x])) { s with heap := h'', toks := tk + 1 } :=
      I.turnedNew (ch := [e, it]) (fun b ob hb q => (sb.2 b (fun z => hb (by simp [z]))).trans (hk b ob (fun z => hb (by simp [z])) (fun z => hb (by simp [z])) q)) hf (Nat.le_refl _) new
    refine ⟨.ref s.heap.objs.size, _, I1, rfl, ⟨_, x, rfl, I.hok.fresh (Nat.le_refl _), rfl, fun ys hy => by rw [I.tuple_inj hy hq]; exact hx⟩, ⟨⟨y, ?_⟩, hst.1.at fun o q => (sb.2 it (Ne.symm hne)).trans q, hne⟩, fun b hb => ?_⟩
    · rw [show ((i + 1 : Nat) : Int) = (i : Int) + 1 by omega]
      exact he'
    · have hb' : b < s.heap.objs.size := by
        rcases (by simpa using hb : b = e ∨ b = it) with rfl | rfl
        · exact hel
        · exact hil
      rw [upd_ne (Nat.ne_of_lt hb')]
      exact (hf b hb).1
  done := by
    intro X hP hw hK hc i pins s σ H E I hf st hg
    subst hP hw hK
    obtain ⟨⟨old, he⟩, hit, hne⟩ := st
    obtain ⟨xs, hq, hx⟩ := hg
    obtain ⟨its, rv, p, hz⟩ := I.tuple hq
    obtain ⟨f0, f1, f2, f3, f4, f5⟩ := hf it (by simp)
    have pt : s.heap.IsTuple a its.toArray := p
    have ait : a ≠ it := fun z => by
      obtain ⟨o, ho, hc, _⟩ := hit
      obtain ⟨o', ho', hc', _⟩ := pt
      rw [z, ho] at ho'
      cases ho'
      rw [hc] at hc'
      injection hc' with q
      exact absurd q (by decide)
    have en : i = its.toArray.size := by
      rw [List.size_toArray, ← rv.length]
      exact hx.symm
    subst en
    exact wpAny_pyNext_enum_endD (Draws.tuple (A := X.A.in1) (I.ok.hd hc) it a ait its.toArray) he ⟨hit, pt⟩ fun h' eb => ⟨rfl, I.turned (t' := s.toks) (fun b o hb q => eb b o hb q) f0 f1 f3 f4 f5⟩
  self := fun A i s Q E st h => let ⟨⟨_, he⟩, _⟩ := st; wpAny_pyIter_enum he h
def iEnumT (K : PySem.W.Frag) (ta : TA) : TI := fun σ H R => ta σ H fun vs H1 => ∃ a xs, vs = [.ref a] ∧ SqT K H1 a xs ∧ R (Iet K a) H1
theorem pi_enumT {X : Cx} {e : Expr} {ta : TA} {p pos tpos : Pos} {elts : List Expr} {kk : Nat} (hg : Gl X "enumerate") (hm : X.mg "enumerate" = none) (ha : PA X [e] ta) (hs : starEach [e] X.env = [(false, eval e X.env)] := by rfl) :
    PI X (.Tuple elts kk tpos) (.Call (.Name "enumerate" p) [e] [] pos) (iEnumT X.K ta) := by
  refine ⟨fun pins s σ H R I h => ?_⟩
  refine Call_ (ld_blt I hg hm boot_enumerate (PyProof.Rows.callWith_type1 (thn (ha.run pos pins s σ H _ I h) fun us s1 ⟨vs, H1, I1, r1, q1⟩ => ?_) hs rfl))
  obtain ⟨a, xs, ex, hq, q⟩ := q1
  subst ex
  have eu : us = [.ref a] := by
    cases r1 with
    | cons r2 r3 => cases r3; cases r2; rfl
  subst eu
  obtain ⟨its, rv, p', hz⟩ := I1.tuple hq
  refine rv_call_enum_tuple (show s1.heap.IsTuple a its.toArray from p') fun h' he hit hsz hk => wpAny_pyIter_enum he ?_
  have I2 : Inv X pins σ H1 { s1 with heap := h' } := I1.kept (t' := s1.toks) hk
  refine ⟨s1.heap.objs.size + 1, [s1.heap.objs.size + 1, s1.heap.objs.size], _, _, H1, rfl, I2, turn_enumT a (s1.heap.objs.size + 1) s1.heap.objs.size, ⟨⟨.none, he⟩, hit, Nat.succ_ne_self _⟩, fun b hb => ?_, q⟩
  have hle : s1.heap.objs.size ≤ b := by
    rcases (by simpa using hb : b = s1.heap.objs.size + 1 ∨ b = s1.heap.objs.size) with rfl | rfl
    · exact Nat.le_succ _
    · exact Nat.le_refl _
  exact I1.fpOk hle (I1.hok.fresh hle)
/-- a loop over the numbered items of a tuple that stands still -/
theorem for_enumT {K : PySem.W.Frag} {a : Addr} {xs : List V} {g : TG} {tb : TS} {D : Ends} {σ : L2.St} {H : Hp} (Pv : Nat → L2.St → Hp → Prop) (h0 : Pv 0 σ H) (hl : ∀ i σ H, i ≤ xs.length → Pv i σ H → SqT K H a xs)
    (hs : ∀ i x σ H T, xs[i]? = some x → Pv i σ H → H T = none → g (.ref T) σ (upd H T (.tup [.int (i : Nat), x])) fun σ2 H2 => tb { D with nx := Pv (i + 1), ct := Pv (i + 1), bk := D.nx } σ2 H2) (hd : ∀ σ H, Pv xs.length σ H → D.nx σ H) :
    ∃ W : Nat → Nat → L2.St → Hp → Prop, (∃ m, W 0 m σ H) ∧ ∀ i m σ H, W i m σ H →
      ((Iet K a).stop i H ∧ D.nx σ H) ∨ ((Iet K a).go i H ∧ ∃ N : L2.St → Hp → Prop, (∀ σ' H', N σ' H' → ∃ m', m' < m ∧ W (i + 1) m' σ' H') ∧ ∀ x H', (Iet K a).yld i H x H' → g x σ H' fun σ2 H2 => tb { D with nx := N, ct := N, bk := D.nx } σ2 H2) := by
  refine ⟨fun i m σ H => m = xs.length - i ∧ i ≤ xs.length ∧ Pv i σ H, ⟨xs.length, by simp, Nat.zero_le _, h0⟩, ?_⟩
  rintro i m σ H ⟨rfl, hi, p⟩
  have q := hl i σ H hi p
  by_cases hlt : i < xs.length
  · refine .inr ⟨⟨xs, xs[i], q, List.getElem?_eq_getElem hlt⟩, Pv (i + 1), fun σ' H' p' => ⟨xs.length - (i + 1), by omega, rfl, hlt, p'⟩, fun x H' y => ?_⟩
    obtain ⟨T, y, rfl, hT, rfl, hy⟩ := y
    exact hs i y σ H T (hy xs q) p hT
  · have e : i = xs.length := by omega
    subst e
    exact .inl ⟨⟨xs, q, rfl⟩, hd σ H p⟩
end RV
set_option linter.all false
/-! Sets of keys of one kind that can be walked and sorted: set(list of texts), sorted(set of texts). -/
namespace RV
open PySem L2 PySem.Spec PyProof.Rows
section
variable {P : Program} {w : World} {κ : Type} [DecidableEq κ] {knd : KeyKind P w κ}
/-- no two of them are the same key -/
def Apart (knd : KeyKind P w κ) (l : List (Int × Value)) : Prop := l.Pairwise fun e f => ∀ k, ¬ (knd.is k e.2 = true ∧ knd.is k f.2 = true)
/-- a set at a with the members S, n of them, whose table rises -/
def SetX (knd : KeyKind P w κ) (h : Heap) (a : Addr) (S : κ → Bool) (n : Nat) : Prop :=
  ∃ o es ep t, (h.get? a = some o ∧ o.ExactSet ∧ o.data = .set es ep t) ∧ (ElemsOf knd es.toList ∧ Apart knd es.toList ∧ ∀ k, S k = true ↔ ∃ e ∈ es.toList, knd.is k e.2 = true) ∧
    es.size < scanBound ∧ t.fits es.size = true ∧ es.size = n ∧ Ris t.place.toList ∧ (w.params.followText "set-order" = true ∨ t.led = true)
theorem Apart.perm {l l' : List (Int × Value)} (h : Apart knd l) (p : l'.Perm l) : Apart knd l' :=
  (p.pairwise_iff (fun {_ _} z k q => z k ⟨q.2, q.1⟩)).mpr h
theorem SetX.at {h h' : Heap} {a : Addr} {S : κ → Bool} {n : Nat} (R : SetX knd h a S n) (k : ∀ o, h.get? a = some o → h'.get? a = some o) : SetX knd h' a S n := by
  obtain ⟨o, es, ep, t, ⟨ho, r1⟩, r⟩ := R
  exact ⟨o, es, ep, t, ⟨k o ho, r1⟩, r⟩
theorem SetX.congr {h : Heap} {a : Addr} {S S' : κ → Bool} {n : Nat} (R : SetX knd h a S n) (e : ∀ k, S' k = S k) : SetX knd h a S' n := by
  rw [show S' = S from funext e]
  exact R
theorem SetX.fresh {h : Heap} {a : Addr} (ho : h.get? a = some { cls := .type "set", dict := none, data := .set #[] 0 (.fresh 0 0 (!w.params.followText "set-order")) }) : SetX knd h a (fun _ => false) 0 := by
  refine ⟨_, #[], 0, _, ⟨ho, ⟨rfl, rfl, rfl⟩, rfl⟩, ⟨fun e he => (by simp at he), List.Pairwise.nil, fun k => (by simp)⟩, by decide, rfl, rfl, List.Pairwise.nil, ?_⟩
  show _ ∨ (!w.params.followText "set-order") = true
  cases w.params.followText "set-order" <;> simp
variable {A : Around} {E : Value → Shared → Prop} {s : Shared} {a : Addr}
/-- what is stored once the new entry has its place -/
theorem setX_store {g : Bool → Sem Unit} (hg : ∀ (b : Bool) (s₁ : Shared) (Q' : Unit → Shared → Prop), Q' () s₁ → wpAny (model P w) A (g b) Q' E s₁)
    {o : Obj} {es es1 : Array (Int × Value)} {ep : Nat} {t t1 : SetTable} {S' : κ → Bool} (ho : s.heap.get? a = some o ∧ o.ExactSet ∧ o.data = .set es ep t)
    (hm : ElemsOf knd es1.toList ∧ Apart knd es1.toList ∧ ∀ k, S' k = true ↔ ∃ e ∈ es1.toList, knd.is k e.2 = true) (hb : es1.size < scanBound) (hf : t1.fits es1.size = true)
    (hr : Ris t1.place.toList) (hl : w.params.followText "set-order" = true ∨ t1.led = true) {wasDummy : Bool} {R : Option Bool → Shared → Prop}
    (hR : ∀ h', Heap.SameBut a s.heap h' → SetX knd h' a S' es1.size → R (some true) { s with heap := h' }) :
    wpAny (model P w) A (do
        storeSet a es1 t1
        if (!wasDummy && t1.tooFull) = true then do
            g (relayAll t1 es1 (SetTable.grown es1.size)).2.2
            storeSet a (relayAll t1 es1 (SetTable.grown es1.size)).1 (relayAll t1 es1 (SetTable.grown es1.size)).2.1
            pure (some true)
          else pure (some true)) R E s := by
  obtain ⟨ho, hex, hd⟩ := ho
  obtain ⟨hel, hap, hmem⟩ := hm
  have same := Heap.SameBut.update s.heap a (Obj.putSet es1 t1)
  have o1 := store_at (es' := es1) (t' := t1) ho hd
  refine wpAny_bind (wpAny_storeSet_of ho hd ?_ (fits_of_scanBound hb))
  split
  · obtain ⟨p, f, r, l⟩ := (⟨relayAll_perm t1 es1 (SetTable.grown es1.size), relayAll_fits t1 es1 (SetTable.grown es1.size), relayAll_ris t1 es1 (SetTable.grown es1.size), relayAll_led t1 es1 (SetTable.grown es1.size)⟩ : _ ∧ _ ∧ _ ∧ _)
    generalize relayAll t1 es1 (SetTable.grown es1.size) = Z at p f r l ⊢
    obtain ⟨es2, t2, gv⟩ := Z
    dsimp only at p f r l ⊢
    have sz : es2.size = es1.size := by rw [← Array.length_toList, p.length_eq, Array.length_toList]
    have hb2 : es2.size < scanBound := by omega
    refine wpAny_bind (hg _ _ _ (wpAny_bind (wpAny_storeSet_of o1 rfl ?_ (fits_of_scanBound hb2))))
    refine wpAny_pure (hR _ (same.trans (Heap.SameBut.update _ a _)) ⟨_, es2, _, t2, ⟨store_at o1 rfl, hex, rfl⟩, ⟨hel.perm p, hap.perm p, fun k => (hmem k).trans ?_⟩, hb2, f, sz, r, hl.imp id fun z => by rw [l]; exact z⟩)
    exact ⟨fun ⟨e, he, q⟩ => ⟨e, p.mem_iff.mpr he, q⟩, fun ⟨e, he, q⟩ => ⟨e, p.mem_iff.mp he, q⟩⟩
  · exact wpAny_pure (hR _ same ⟨_, es1, _, t1, ⟨o1, hex, rfl⟩, ⟨hel, hap, hmem⟩, hb, hf, rfl, hr, hl⟩)
theorem setX_add {S : κ → Bool} {n : Nat} {k : κ} {x : Value} {Q : Bool → Shared → Prop} (hk : knd.is k x = true) (hs : x.scannable = true) (R : SetX knd s.heap a S n) (room : n + 1 < scanBound)
    (hQ : ∀ h', Heap.SameBut a s.heap h' → SetX knd h' a (fun j => S j || decide (j = k)) (if S k = true then n else n + 1) → Q (!S k) { s with heap := h' }) :
    wpAny (model P w) A (setAddHashed a x (knd.hash k)) Q E s := by
  obtain ⟨o, es, ep, t, ⟨ho, hex, hd⟩, ⟨hel, hap, hmem⟩, hb, hf, hn, hr, hl⟩ := R
  unfold setAddHashed setAddHashedIn
  refine wpAny_holding (wpAny_bind (wpAny_setState_of ho hd hf ?_))
  dsimp only
  rw [byScan_of hs hb hel]
  simp only [↓reduceIte]
  unfold setAddByScan
  refine wpAny_bind (wpAny_bind (wpAny_rule (wpAny_bind (wpAny_setScan_of hk ho hd hf hel ?_))))
  cases hfi : List.findIdx? (fun e => knd.is k e.2) es.toList with
  | some j =>
    dsimp only
    obtain ⟨hj, pj, _⟩ := List.findIdx?_eq_some_iff_getElem.mp hfi
    have hSk : S k = true := (hmem k).2 ⟨_, List.getElem_mem hj, pj⟩
    have q := hQ s.heap (Heap.SameBut.refl a s.heap)
    rw [if_pos hSk, hSk] at q
    refine wpAny_pure (wpAny_pure (q ⟨o, es, ep, t, ⟨ho, hex, hd⟩, ⟨hel, hap, fun i => ?_⟩, hb, hf, hn, hr, hl⟩))
    rw [← hmem i, Bool.or_eq_true, decide_eq_true_eq]
    exact ⟨fun z => z.elim id fun e => e ▸ hSk, .inl⟩
  | none =>
    dsimp only
    have out : ∀ e ∈ es.toList, knd.is k e.2 = false := fun e he => by
      have := List.findIdx?_eq_none_iff.mp hfi e he
      simpa using this
    have hSk : S k = false := by
      cases q : S k with
      | false => rfl
      | true =>
        obtain ⟨e, he, z⟩ := (hmem k).1 q
        rw [out e he] at z
        cases z
    have gw : ∀ (b : Bool) {s₁ : Shared} {Q' : Unit → Shared → Prop}, Q' () s₁ → wpAny (model P w) A (match b with | true => rule "set.scan.the-table-gave-way" | false => pure ()) Q' E s₁ := fun b _ _ q => by
      cases b <;> first | exact wpAny_pure q | exact wpAny_rule q
    obtain ⟨p, f, r, l⟩ := (⟨layNew_perm t es (knd.hash k) x, layNew_fits t es (knd.hash k) x, layNew_ris t es (knd.hash k) x hr, layNew_led t es (knd.hash k) x⟩ : _ ∧ _ ∧ _ ∧ _)
    generalize layNew t es (knd.hash k) x = Z at p f r l ⊢
    obtain ⟨es1, t1, wasDummy, gv⟩ := Z
    dsimp only at p f r l ⊢
    rw [Array.toList_push] at p
    have pc : es1.toList.Perm ((knd.hash k, x) :: es.toList) := p.trans (List.perm_append_singleton _ _)
    have hm1 : ElemsOf knd es1.toList ∧ Apart knd es1.toList ∧ ∀ i, (S i || decide (i = k)) = true ↔ ∃ e ∈ es1.toList, knd.is i e.2 = true := by
      refine ⟨(hel.push hk hs).perm p, Apart.perm (List.pairwise_cons.mpr ⟨fun e he i z => ?_, hap⟩) pc, mem_push_iff hk hmem p⟩
      have ei : i = k := knd.inj x i k z.1 hk
      have q := z.2
      rw [ei, out e he] at q
      cases q
    have sz : es1.size = n + 1 := by rw [← Array.length_toList, pc.length_eq, List.length_cons, Array.length_toList, hn]
    have fin : ∀ h', Heap.SameBut a s.heap h' → SetX knd h' a (fun j => S j || decide (j = k)) es1.size → Q true { s with heap := h' } := fun h' sb r => by
      have q := hQ h' sb
      rw [hSk, if_neg (by decide)] at q
      exact q (sz ▸ r)
    have hl1 : w.params.followText "set-order" = true ∨ t1.led = true := hl.imp id fun z => by rw [l]; exact z
    refine wpAny_bind (gw _ ?_)
    split
    · refine wpAny_bind ?_
      rw [hashByValue_scannable 8 hs]
      refine wpAny_pure (setX_store (fun b s₁ Q' q => ?_) ⟨ho, hex, hd⟩ hm1 (by omega) ?_ ?_ ?_ fun h' sb r => ?_)
      · cases b <;> first | exact wpAny_pure q | exact wpAny_rule q
      · first | (split <;> first | exact f | exact SetTable.fits_plain_off f) | exact f
      · first | (split <;> exact r) | exact r
      · first | (split <;> exact hl1) | exact hl1
      · dsimp only
        exact wpAny_pure (fin h' sb r)
    · refine wpAny_bind (wpAny_pure ?_)
      simp only [↓reduceIte]
      refine setX_store (fun b s₁ Q' q => ?_) ⟨ho, hex, hd⟩ hm1 (by omega) f r hl1 fun h' sb r => ?_
      · cases b <;> first | exact wpAny_pure q | exact wpAny_rule q
      · dsimp only
        exact wpAny_pure (fin h' sb r)
end
end RV
set_option linter.all false
/-! set(list of texts), sorted(set of texts). -/
namespace RV
open PySem L2 PySem.Spec PyProof.Rows
section
variable {P : Program} {w : World} {A : Around} {E : Value → Shared → Prop} {s : Shared}
abbrev SetS (P : Program) (w : World) (h : Heap) (a : Addr) (S : Str → Bool) (n : Nat) : Prop := SetX (PySem.strKind P w) h a S n
theorem fill_loop {I : Addr} {fp wr : List Addr} {G : Array GenState → Array GenState → Prop} {n : Nat} {Pv : Nat → Value → Prop} {St : Nat → Shared → Prop} {R : Result → Shared → Prop}
    (W : WalksS P w A.in1 I fp wr G n Pv St) (S : Addr) (off : S ∉ fp) (xs : List Str) (hn : n = xs.length) (room : xs.length + 1 < scanBound) (hval : ∀ i v, Pv i v → ∃ x t, xs[i]? = some x ∧ v = .str x t) :
    ∀ (k i : Nat) (s : Shared), n - i = k → i ≤ n → St i s → (∃ c, c ≤ i ∧ SetS P w s.heap S (fun x => decide (x ∈ xs.take i)) c) →
      (∀ s' c, Moved (S :: wr) G s s' → c ≤ n → SetS P w s'.heap S (fun x => decide (x ∈ xs)) c → R (.ok (.ret .none)) s') →
      codeAny (model P w) A (.builtin "set.update.loop" ⟨[.ref S, .ref I], []⟩) R s := by
  have offw : S ∉ wr := fun z => off (W.sub _ z)
  have more : ∀ b ∈ wr, b ∈ S :: wr := fun b hb => List.mem_cons_of_mem _ hb
  intro k
  induction k with
  | zero =>
    rintro i s hk hi st ⟨c, hc, x⟩ hR
    obtain rfl : i = n := by omega
    refine codeAny_builtin F.entry_set_update_loop ?_
    rw [Around.under_plainId F.plain_set_update_loop _]
    show wpAny _ A.in1 (pyNext (.ref I) >>= _) _ _ s
    refine wpAny_bind (W.done s _ _ st fun s' m => ?_)
    show wpAny _ A.in1 (ret Value.none) _ _ s'
    rw [List.take_of_length_le (by omega)] at x
    exact wpAny_pure (hR s' c (m.mono more) hc (x.at fun o e => m.heap S o offw e))
  | succ k ih =>
    rintro i s hk hi st ⟨c, hc, x⟩ hR
    have hlt : i < n := by omega
    refine codeAny_builtin F.entry_set_update_loop ?_
    rw [Around.under_plainId F.plain_set_update_loop _]
    show wpAny _ A.in1 (pyNext (.ref I) >>= _) _ _ s
    refine wpAny_bind (W.item i s _ _ hlt st fun v s' pv st' m => ?_)
    obtain ⟨y, t, hy, rfl⟩ := hval i v pv
    have x' := x.at (h' := s'.heap) fun o e => m.heap S o offw e
    show wpAny _ A.in1 (holding [Value.str y t] (setAdd S (.str y t)) >>= _) _ _ s'
    refine wpAny_bind (wpAny_holding ?_)
    unfold setAdd
    refine wpAny_holding (wpAny_bind ((PySem.strKind P w).pyHash (k := y) (strKind_is _ _ _ _) ?_))
    refine setX_add (knd := PySem.strKind P w) (s := { s' with toks := s'.toks + 1 }) (strKind_is _ _ _ _) rfl x' (by omega) fun h' sb x2 => ?_
    refine wpAny_pure ⟨plainId_quiet F.plain_set_update_loop _, ih (i + 1) _ (by omega) hlt (W.frame _ s' _ _ st' (Nat.le_succ _) fun b hb o e => ?_) ⟨_, ?_, x2.congr fun j => ?_⟩ fun s2 c2 m2 hc2 x3 => ?_⟩
    · rw [sb.2 b (fun z => off (z ▸ hb))]
      exact e
    · split <;> omega
    · rw [List.take_add_one, hy]
      simp [List.mem_append]
    · refine hR s2 c2 (Moved.trans W.gtrans ((m.mono more).then_heap (Nat.le_succ _) fun b o hb e => ?_) m2) hc2 x3
      rw [sb.2 b (fun z => hb (by rw [z]; exact List.mem_cons_self))]
      exact e
abbrev emptySet (w : World) : Obj := { cls := .type "set", dict := none, data := .set #[] 0 (.fresh 0 0 (!w.params.followText "set-order")) }
set_option maxHeartbeats 8000000 in
/-- set(xs), xs a list of texts -/
theorem set_of_strs {l : Addr} {items : Array Value} (xs : List Str) {Q : Value → Shared → Prop} (hh : A.handled = none) (hl : s.heap.IsList l items) (hit : StrsAre items.toList xs) (room : xs.length + 1 < scanBound)
    (h : ∀ (h' : Heap) (tk c : Nat), SetS P w h' s.heap.objs.size (fun x => decide (x ∈ xs)) c → c ≤ xs.length → (∀ b o, s.heap.get? b = some o → h'.get? b = some o) → Q (.ref s.heap.objs.size) { s with heap := h', toks := tk }) :
    wpAny (model P w) A (call (.type "set") [.ref l]) Q E s := by
  have hlen : items.size = xs.length := by rw [← Array.length_toList]; exact hit.len_eq
  obtain ⟨c, tl, hmro⟩ := F.called_set.mro
  have hmade := F.called_set.made
  have hsub := F.called_set.sub
  refine wpAny_call (codeAny_of_tree ?_)
  show wpAny _ _ (callAny (.type "set") _) _ _ _
  refine wpAny_pure ⟨Code.quiet_builtin _ (by decide +kernel), codeAny_builtin F.entry_type_call ?_⟩
  rw [Around.under_plain (weight_type_call_type "set" [.ref l] []) rfl]
  have n1 := F.called_set.notType
  have n2 := F.called_set.canCreate
  have n3 := F.typeCall_set_1 (.ref l)
  repeat (any_goals (first | assumption | wp_step))
  refine codeAny_mono (code_set_led1 (.ref l) (E := E) (Q₁ := fun obj s₁ => obj = .ref s.heap.objs.size ∧ s₁ = { s with heap := s.heap.push (emptySet w) }) ⟨rfl, rfl⟩) fun r s₁ hr => ?_
  cases r with
  | error e => exact hr
  | ok fl =>
    cases fl with
    | ret obj =>
      obtain ⟨rfl, rfl⟩ := hr
      have hS : (s.heap.push (emptySet w)).get? s.heap.objs.size = some (emptySet w) := Heap.get?_push_size _ rfl
      have hT : Shared.TypeIs { s with heap := s.heap.push (emptySet w) } (.ref s.heap.objs.size) "set" := ⟨_, hS, rfl⟩
      have hli := F.called_set.init.lookup
      have hbi := F.called_set.init.bind (.ref s.heap.objs.size)
      repeat (any_goals (first | assumption | wp_step))
      refine codeAny_mono (codeAny_call_builtin (R := wants (fun r s₂ => r = .none ∧ ∃ h' tk c, s₂ = { s with heap := h', toks := tk } ∧ SetS P w h' s.heap.objs.size (fun x => decide (x ∈ xs)) c ∧ c ≤ xs.length ∧
          (∀ b o, s.heap.get? b = some o → h'.get? b = some o)) E) F.called_set.init.plain F.entry_set_init (check_set_init_1 hT ?_)) fun r₂ s₂ hr₂ => ?_
      · obtain ⟨ol, hol, hcl, nl, hdl⟩ := hl
        obtain ⟨ocls, odict, odata, oslots⟩ := ol
        simp only at hcl hdl
        subst hcl; subst hdl
        have hol' : (s.heap.push (emptySet w)).get? l = some { cls := .type "list", dict := odict, data := .seq items nl, slots := oslots } := Heap.get?_push_of_some _ hol
        have u1 := F.sub_list_set
        have u2 := F.sub_list_frozenset
        have u3 : (Value.type "list" == Value.type "dict") = false := by decide
        have hl1 : (s.heap.push (emptySet w)).IsList l items := ⟨_, hol', rfl, nl, rfl⟩
        unfold Builtin.«set.__init__» noKeywords Builtin.Frozenset.updateFrom
        generalize hPI : pyIter = PI
        wp_walk
        subst hPI
        refine wpAny_pyIter_list hl1 (wpAny_bind (wpAny_runValue ?_))
        have hlS : l < s.heap.objs.size := Heap.lt_size hol
        have off : s.heap.objs.size ∉ [(s.heap.push (emptySet w)).objs.size, l] := by
          rw [Heap.size_push]
          simp only [List.mem_cons, List.mem_singleton, List.not_mem_nil, or_false, not_or]
          exact ⟨Nat.ne_of_lt (Nat.lt_succ_self _), Nat.ne_of_gt hlS⟩
        have nI : l ≠ (s.heap.push (emptySet w)).objs.size := by
          rw [Heap.size_push]
          exact Nat.ne_of_lt (Nat.lt_succ_of_lt hlS)
        have h3 : A.in1.in1.in1.handled = none := by simp [hh]
        refine fill_loop ((Walks.list h3 _ l nI items).toS) s.heap.objs.size off xs hlen room (fun i v hv => ?_) (items.size - 0) 0 _ (by omega) (Nat.zero_le _)
          ⟨⟨_, Heap.get?_push_size _ rfl, rfl, rfl⟩, (hl1.push _)⟩ ⟨0, Nat.le_refl _, ?_⟩ fun s' c m hc x => ?_
        · have q : items.toList[i]? = some v := by rw [Array.getElem?_toList]; exact hv
          obtain ⟨t, e⟩ := SS.strs_at hit i v q
          have hi : i < xs.length := by
            have := (List.getElem?_eq_some_iff.mp q).1
            rw [hit.len_eq] at this
            exact this
          refine ⟨_, t, List.getElem?_eq_getElem hi, ?_⟩
          rw [e, List.getD_eq_getElem?_getD, List.getElem?_eq_getElem hi]
          rfl
        · refine (SetX.fresh (knd := PySem.strKind P w) ?_).congr fun k => by simp
          exact Heap.get?_push_of_some _ hS
        · obtain ⟨h', g2, d', tk', os'⟩ := s'
          obtain rfl : g2 = s.gens := m.gens
          obtain rfl : d' = s.drawn := m.drawn
          obtain rfl : os' = s.os := m.os
          show wpAny _ _ _ _ _ _
          refine wpAny_pure ?_
          show wpAny _ _ (ret Value.none) _ _ _
          refine wpAny_pure ⟨rfl, h', tk', c, rfl, x, by omega, fun b o e => ?_⟩
          have hb : b < s.heap.objs.size := Heap.lt_size e
          refine m.heap b o ?_ (Heap.get?_push_of_some _ (Heap.get?_push_of_some _ e))
          rw [Heap.size_push]
          simp only [List.mem_cons, List.mem_singleton, List.not_mem_nil, or_false, not_or]
          exact ⟨Nat.ne_of_lt hb, Nat.ne_of_lt (Nat.lt_succ_of_lt hb)⟩
      · cases r₂ with
        | error e => exact hr₂
        | ok fl₂ =>
          cases fl₂ with
          | ret r =>
            obtain ⟨rfl, h', tk, c, rfl, x, hc, hk⟩ := hr₂
            repeat (any_goals (first | assumption | wp_step))
            exact h _ _ _ x hc hk
          | _ => exact hr₂.elim
    | _ => exact hr.elim
end
end RV
set_option linter.all false
/-! the rules: set(list of texts), sorted(set of texts) -/
namespace RV
open PySem L2 PySem.Spec PyProof.Rows
section
variable {P : Program} {w : World} {A : Around} {E : Value → Shared → Prop} {s : Shared}
theorem str_of_is {k : Str} {v : Value} (h : (PySem.strKind P w).is k v = true) : ∃ t, v = .str k t := by
  cases v <;> simp [PySem.strKind, Value.isStrOf] at h
  subst h
  exact ⟨_, rfl⟩
theorem strsAre_of : ∀ {vs : List Value}, (∀ v ∈ vs, ∃ k t, v = Value.str k t) → ∃ xs, StrsAre vs xs
  | [], _ => ⟨[], .nil⟩
  | v :: vs, h => by
    obtain ⟨k, t, rfl⟩ := h v List.mem_cons_self
    obtain ⟨xs, r⟩ := strsAre_of fun u hu => h u (List.mem_cons_of_mem _ hu)
    exact ⟨k :: xs, .cons k t r⟩
theorem strsAre_mem : ∀ {vs : List Value} {xs : List Str}, StrsAre vs xs → ∀ x, x ∈ xs ↔ ∃ t, Value.str x t ∈ vs
  | _, _, .nil, x => by simp
  | _, _, .cons k t r, x => by
    rw [List.mem_cons, strsAre_mem r x]
    constructor
    · rintro (rfl | ⟨t', h⟩)
      · exact ⟨t, List.mem_cons_self⟩
      · exact ⟨t', List.mem_cons_of_mem _ h⟩
    · rintro ⟨t', h⟩
      rcases List.mem_cons.mp h with e | h
      · injection e with e1 e2
        exact .inl e1
      · exact .inr ⟨t', h⟩
theorem strsAre_nodup : ∀ {vs : List Value} {xs : List Str}, StrsAre vs xs → vs.Pairwise (fun u v => ∀ k t t', ¬ (u = Value.str k t ∧ v = Value.str k t')) → xs.Nodup
  | _, _, .nil, _ => List.nodup_nil
  | _, _, .cons k t r, h => by
    obtain ⟨h1, h2⟩ := List.pairwise_cons.mp h
    refine List.nodup_cons.mpr ⟨fun hm => ?_, strsAre_nodup r h2⟩
    obtain ⟨t', ht⟩ := (strsAre_mem r k).mp hm
    exact h1 _ ht k t t' ⟨rfl, rfl⟩
theorem sorted_of_set {a : Addr} {S : Str → Bool} {n : Nat} {Q : Value → Shared → Prop} (R : SetS P w s.heap a S n) (hh : A.handled = none)
    (hQ : ∀ s' p (out : Array Value) (c : Nat) (xs : List Str), (∀ b o, s.heap.get? b = some o → s'.heap.get? b = some o) → s'.gens = s.gens → s'.os = s.os → s.heap.objs.size ≤ p →
      s'.heap.get? p = some (seqObj "list" out c) → StrsAre out.toList xs → sortedS xs = true → xs.Nodup → (∀ k, k ∈ xs ↔ S k = true) → xs.length = n → Q (.ref p) s') :
    wpAny (model P w) A (call (.builtin "sorted") [.ref a]) Q E s := by
  obtain ⟨o, es, ep, t, ⟨ho, hex, hd⟩, ⟨hel, hap, hmem⟩, hb, hf, hn, hr, hl⟩ := R
  refine Calls.call_function_entry kind_sorted plain_sorted entry_sorted (args_sorted1 _) ?_
  unfold Builtin.«sorted»
  refine wpAny_bind (m := checkCount "sorted" 1 1 _) (wpAny_pure ?_)
  refine wpAny_bind (collect_set (A := A.in1) hh ⟨o, ho, hex.1, hd⟩ hf hb hr hl fun s1 vs k1 hz g1 o1 pm => ?_)
  have hvl : vs.length = n := by rw [pm.length_eq, List.length_map, Array.length_toList]; exact hn
  have hsz : vs.length ≤ sizeLine := by rw [hvl, ← hn]; exact fits_of_scanBound hb
  obtain ⟨xs, hS⟩ := strsAre_of (vs := vs) fun v hv => by
    obtain ⟨e, he, q⟩ := List.mem_map.mp (pm.mem_iff.mp hv)
    obtain ⟨⟨k, hk, _⟩, _⟩ := hel e he
    obtain ⟨tk, ek⟩ := str_of_is hk
    exact ⟨k, tk, by rw [← q]; exact ek⟩
  have hnd : xs.Nodup := by
    refine strsAre_nodup hS ((pm.pairwise_iff (fun {_ _} z k t t' q => z k t' t ⟨q.2, q.1⟩)).mpr ?_)
    rw [List.pairwise_map]
    refine hap.imp fun z k t t' q => z k ?_
    rw [q.1, q.2]
    exact ⟨strKind_is _ _ _ _, strKind_is _ _ _ _⟩
  have hin : ∀ k, k ∈ xs ↔ S k = true := fun k => by
    rw [strsAre_mem hS k, hmem k]
    constructor
    · rintro ⟨t', h⟩
      obtain ⟨e, he, q⟩ := List.mem_map.mp (pm.mem_iff.mp h)
      exact ⟨e, he, by rw [q]; exact strKind_is _ _ _ _⟩
    · rintro ⟨e, he, q⟩
      obtain ⟨t', et⟩ := str_of_is q
      exact ⟨t', pm.mem_iff.mpr (List.mem_map.mpr ⟨e, he, et⟩)⟩
  refine wpAny_bind (wpAny_newList ?_ hsz)
  have hoL : (s1.heap.push (seqObj "list" vs.toArray 0)).get? s1.heap.objs.size = some (seqObj "list" vs.toArray 0) := Heap.get?_push_size _ rfl
  refine wpAny_bind (wpAny_holding (wpAny_call_entry slot_list_sort ⟨_, hoL, rfl⟩ entry_list_sort (list_sort_treeKAny PyProof.Rows.strKind_oneLt hoL hS.keysOf (fun v₁ v₂ rest e => keyKind_strs (by rw [← e]; exact hS)) hsz fun st' hp hs => ⟨_, rfl, ?_⟩) (args_list_sort _)))
  obtain ⟨ys, q1, q2, q3⟩ := sorted_out_str hS hp hs
  obtain ⟨c, hc⟩ := sortedHeap_at (vs := vs) (out := (arrOf st').map (·.2)) hoL
  refine wpAny_pure ⟨_, rfl, hQ _ s1.heap.objs.size _ c ys (fun b u e => ?_) g1 o1 hz hc q1 q3 (q2.nodup_iff.mpr hnd) (fun k => q2.mem_iff.trans (hin k)) ?_⟩
  · have q := k1 b u e
    have hlt := Heap.lt_size q
    show (sortedHeap (s1.heap.push (seqObj "list" vs.toArray 0)) s1.heap.objs.size vs _).get? b = some u
    rw [sortedHeap_old (Nat.ne_of_lt hlt) (by rw [size_push']; exact Nat.lt_succ_of_lt hlt)]
    exact Heap.get?_push_of_some _ q
  · rw [q2.length_eq, ← hS.len_eq]
    exact hvl
end
/-- a set of texts in the ledger -/
def SetT (P : Program) (w : World) (a : Addr) (S : Str → Bool) (n : Nat) : HO := .ext fun h => SetS P w h a S n
section
variable {X : Cx}
theorem setT_new {w : World} {P : Program} {H : Hp} {h : Heap} {a : Addr} {S : Str → Bool} {n : Nat} (R : SetS P w h a S n) : ObjOk P w H h a (SetT P w a S n) := by
  obtain ⟨o, es, ep, t, ⟨ho, _⟩, _⟩ := id R
  exact ⟨R, ⟨o, ho⟩, fun h1 h2 p k => p.at k⟩
theorem vals_strsAre : ∀ {xs : List Str} {us : List Value}, StrsAre us xs → Vals (xs.map V.str) us
  | _, _, .nil => .nil
  | _, _, .cons k t r => .cons ⟨t, rfl⟩ (vals_strsAre r)
theorem strsAre_vals : ∀ {xs : List Str} {us : List Value}, Vals (xs.map V.str) us → StrsAre us xs
  | [], _, .nil => .nil
  | x :: xs, _, .cons r q => by
    obtain ⟨t, rfl⟩ := r
    exact .cons x t (strsAre_vals q)
def rSetS (K : PySem.W.Frag) (P : Program) (w : World) : List V → Hp → VK → Prop := fun vs H Q => ∃ (l : Addr) (xs : List Str), vs = [V.ref l] ∧ SqL K H l (xs.map V.str) ∧ xs.length < 4000 ∧
  ∀ a n, H a = none → n ≤ xs.length → Q (.ref a) (upd H a (SetT P w a (fun x => decide (x ∈ xs)) n))
theorem cr_setS (hc : X.calm = true) : CallR X (.type "set") (rSetS X.K X.prog X.w) := by
  intro pins s σ H vs us Q I r h
  obtain ⟨l, xs, rfl, hl, hf, q⟩ := h
  rw [Vals.ref1 r]
  obtain ⟨its, rv, pl, hz⟩ := I.list hl
  have hn : H s.heap.objs.size = none := I.hok.fresh (Nat.le_refl _)
  refine set_of_strs (P := X.prog) (w := X.w) xs (I.ok.hd hc) pl.isList (by simpa using strsAre_vals rv) (by unfold scanBound; omega) fun h' tk c R hcl k => ?_
  exact ⟨.ref s.heap.objs.size, upd H s.heap.objs.size (SetT X.prog X.w s.heap.objs.size _ c), I.laid (t' := tk) k (Nat.le_refl _) (setT_new R), rfl, q _ c hn hcl⟩
def rSortS (P : Program) (w : World) : List V → Hp → VK → Prop := fun vs H Q => ∃ (a : Addr) (S : Str → Bool) (n : Nat), vs = [V.ref a] ∧ H a = some (SetT P w a S n) ∧
  ∀ (xs : List Str) (p : Addr), sortedS xs = true → xs.Nodup → (∀ k, k ∈ xs ↔ S k = true) → xs.length = n → H p = none → Q (.ref p) (upd H p (.lst (xs.map V.str)))
theorem cr_sortS (hc : X.calm = true) : CallR X (.builtin "sorted") (rSortS X.prog X.w) := by
  intro pins s σ H vs us Q I r h
  obtain ⟨a, S, n, rfl, ha, q⟩ := h
  have R : SetS X.prog X.w s.heap a S n := (I.hok a _ ha).1
  rw [Vals.ref1 r]
  have hb : n ≤ sizeLine := by
    obtain ⟨o, es, ep, t, _, _, hb, _, hn, _⟩ := id R
    rw [← hn]
    exact fits_of_scanBound hb
  refine sorted_of_set R (I.ok.hd hc) fun s' p out c xs k g o hp hg hS h1 h2 h3 h4 => ?_
  have hn : H p = none := I.hok.fresh hp
  have J : Inv X pins σ (upd H p (.lst (xs.map V.str))) { s with heap := s'.heap, gens := s'.gens, drawn := s'.drawn, toks := s'.toks } :=
    I.call (ch := []) (Un.laid k hp hn) (I.hok.laid k hp ⟨by rw [List.length_map, h4]; exact hb, out.toList, c, vals_strsAre hS, hg⟩) (by rw [g]; exact I.bare) (fun _ z => nomatch z)
  have e : s' = { s with heap := s'.heap, gens := s'.gens, drawn := s'.drawn, toks := s'.toks } := by
    cases s'
    cases s
    cases o
    rfl
  rw [e]
  exact ⟨.ref p, _, J, rfl, q xs p h1 h2 h3 h4 hn⟩
end
end RV
/-! promises of the laws about sums; pairs of a name and an integer -/
namespace RV
open PySem L2
structure Blt2 (mg : Str → Option Value) : Prop where
  b_sum : mg "sum" = none
  b_sorted : mg "sorted" = none
  b_set : mg "set" = none
  b_tuple : mg "tuple" = none
  b_enumerate : mg "enumerate" = none
  b_bool : mg "bool" = none
def big : Int := 10 ^ 30
def sp_number : Sp := fun vs H Q _ => ∃ (a : Addr) (n : Nat), vs = [.ref a] ∧ WellAt H a n ∧ n < 900000 ∧
  ∀ (z : Int) H', -big < z → z < big → Grow a H H' → WellAt H' a (n + 5) → Q (.int z) H'
theorem number_step {H0 H : Hp} {a : Addr} {n : Nat} {L : List (Addr × HO)} {Q : VK} {E : XK} (h : Has H0 a n L H) (hn : n < 900000) (k : ∀ z H', -big < z → z < big → Has H0 a (n + 5) L H' → Q (.int z) H') : Irr sp_number [.ref a] H Q E :=
  irr ⟨a, n, rfl, h.well, hn, fun z H' h0 h1 g w => k z H' h0 h1 (h.grow g w)⟩
theorem pg_tupK {X : Cx} {K : PySem.W.Frag} {es : List Expr} {k : Nat} {t : TGs} {n : Nat} {pos : Pos} (hc : X.calm = true) (h : PGs X es t)
    (hn : (assignEach es X.env).length = n := by rfl) (hst : (assignEach es X.env).findIdx? (·.1) = none := by rfl) (hK : X.K = K := by rfl) : PG X (.Tuple es k pos) (gTup K n t) := hK ▸ pg_tup hc h hn hst
/-! ### lists of pairs of a text and an integer, each at its address -/
abbrev TP := Addr × Str × Int
def vP (us : List TP) : List V := us.map fun u => .ref u.1
def prs (us : List TP) : List (Str × Int) := us.map (·.2)
def oP (q : Str × Int) : HO := .tup [.str q.1, .int q.2]
def lP (us : List TP) : List (Addr × HO) := us.map fun u => (u.1, oP u.2)
def TPs (K : PySem.W.Frag) (H : Hp) (us : List TP) : Prop := ∀ u ∈ us, SqT K H u.1 [.str u.2.1, .int u.2.2]
theorem TPs.ext {K : PySem.W.Frag} {H H' : Hp} {us : List TP} (h : TPs K H us) (e : Same H H') : TPs K H' us := fun u hu => (h u hu).ext e
theorem TPs.of {K : PySem.W.Frag} {H0 H : Hp} {a : Addr} {n : Nat} {L : List (Addr × HO)} {us : List TP} (h : Has H0 a n L H) (hL : ∀ p ∈ lP us, p ∈ L) : TPs K H us := fun u hu =>
  SqT.of (h.at (hL _ (List.mem_map.mpr ⟨u, hu, rfl⟩)))
theorem vP_app (us vs : List TP) : vP (us ++ vs) = vP us ++ vP vs := List.map_append
theorem prs_app (us vs : List TP) : prs (us ++ vs) = prs us ++ prs vs := List.map_append
theorem lP_app (us vs : List TP) : lP (us ++ vs) = lP us ++ lP vs := List.map_append
theorem vP_len (us : List TP) : (vP us).length = us.length := List.length_map _
theorem prs_len (us : List TP) : (prs us).length = us.length := List.length_map _
abbrev gPr (K : PySem.W.Frag) (i j : Nat) : TG := gTup K 2 (gCons (gName i) (gCons (gName j) gNil))
theorem gPr_at {K : PySem.W.Frag} {i j : Nat} {u : TP} {σ : L2.St} {H : Hp} {R : L2.St → Hp → Prop} (ht : SqT K H u.1 [.str u.2.1, .int u.2.2]) (h : R ((σ.set i (some (.str u.2.1))).set j (some (.int u.2.2))) H) : gPr K i j (.ref u.1) σ H R :=
  ⟨u.1, _, rfl, ht, rfl, _, _, rfl, _, _, rfl, ⟨rfl, h⟩⟩
/-- [f(x, z) for x, z in xs if p(x, z)]: neither p nor f makes a thing -/
theorem lc_pairs {K : PySem.W.Frag} {a : Addr} {us : List TP} {i j : Nat} {tt : TT} {te : TE} {vs : List Nat} {σ : L2.St} {H1 : Hp} {D : Addr} {Qd : Hp → Prop} (p : Str × Int → Bool) (f : Str × Int → V)
    (hl : SqL K H1 a (vP us)) (ht : TPs K H1 us) (nD : H1 D = none) (len : us.length ≤ 1000) (hw : ∀ x y, wipe (((wipe σ vs).set i x).set j y) vs = wipe σ vs)
    (h : ∀ q ∈ prs us, ∀ H2, Same H1 H2 → (∀ R : Bool → Hp → Prop, R (p q) H2 → tt (((wipe σ vs).set i (some (.str q.1))).set j (some (.int q.2))) H2 R) ∧
      (p q = true → ∀ R : VK, R (f q) H2 → te (((wipe σ vs).set i (some (.str q.1))).set j (some (.int q.2))) H2 R))
    (k : ∀ H', Same H1 H' → H' D = some (.lst (((prs us).filter p).map f)) → Qd H') :
    ∃ W : Nat → Nat → Hp → Prop, (∃ m, W 0 m (upd H1 D (.lst []))) ∧ ∀ i' m H, W i' m H →
      ((Itl K a).stop i' H ∧ Qd H) ∨ ((Itl K a).go i' H ∧ ∃ Nx : Hp → Prop, (∀ H', Nx H' → ∃ m', m' < m ∧ W (i' + 1) m' H') ∧ ∀ x H', (Itl K a).yld i' H x H' → gPr K i j x (wipe σ vs) H' fun σ2 H2 => wipe σ2 vs = wipe σ vs ∧ tt σ2 H2 fun b H3 =>
        if b = true then te σ2 H3 fun y H4 => ∃ acc, H4 D = some (.lst acc) ∧ acc.length < sizeLine ∧ Nx (upd H4 D (.lst (acc ++ [y]))) else Nx H3) := by
  refine lc_list (xs := vP us) (fun i' H => Same H1 H ∧ H D = some (.lst ((((prs us).take i').filter p).map f))) ⟨fun b o e => by rw [upd_ne (ne_of_none e nD)]; exact e, upd_same⟩ (fun _ H _ z => hl.ext z.1) ?_ ?_
  · rintro i' x H hx ⟨sm, hD⟩
    rw [vP, List.getElem?_map] at hx
    cases hu : us[i']? with
    | none => rw [hu] at hx; cases hx
    | some u =>
      rw [hu] at hx
      obtain rfl : V.ref u.1 = x := Option.some.inj hx
      have hm : u ∈ us := List.mem_of_getElem? hu
      obtain ⟨h1, h2⟩ := h u.2 (List.mem_map.mpr ⟨u, hm, rfl⟩) H sm
      have et : (prs us).take (i' + 1) = (prs us).take i' ++ [u.2] := by
        rw [List.take_add_one, prs, List.getElem?_map, hu]
        rfl
      refine gPr_at ((ht u hm).ext sm) ⟨hw _ _, h1 _ ?_⟩
      rw [et, List.filter_append]
      cases hp : p u.2 with
      | false =>
        refine iteF ⟨sm, ?_⟩
        rw [hD, List.filter_cons_of_neg (by rw [hp]; decide), List.filter_nil, List.append_nil]
      | true =>
        refine iteT (h2 hp _ ⟨_, hD, ?_, fun b o e => by rw [upd_ne (ne_of_none e nD)]; exact sm b o e, ?_⟩)
        · have l1 := List.length_filter_le p ((prs us).take i')
          have l2 := List.length_take_le i' (prs us)
          have l3 := List.length_take_le' i' (prs us)
          rw [prs_len] at l3
          rw [List.length_map]
          exact Nat.lt_of_le_of_lt (Nat.le_trans l1 l3) (Nat.lt_of_le_of_lt len (by decide))
        · rw [upd_same, List.filter_cons_of_pos hp, List.filter_nil, List.map_append]
          rfl
  · rintro H ⟨sm, hD⟩
    rw [vP_len, ← prs_len, List.take_length] at hD
    exact k H sm hD
/-! ### how great they are -/
def tot (qs : List (Str × Int)) : Nat := (qs.map fun q => q.2.natAbs).sum
theorem tot_app (a b : List (Str × Int)) : tot (a ++ b) = tot a + tot b := by simp [tot]
theorem tot_mem {q : Str × Int} : ∀ {qs : List (Str × Int)}, q ∈ qs → q.2.natAbs ≤ tot qs
  | r :: qs, h => by
    have e : tot (r :: qs) = r.2.natAbs + tot qs := rfl
    rcases List.mem_cons.mp h with rfl | h
    · omega
    · have := tot_mem h
      omega
theorem sum_le (p : Str × Int → Bool) : ∀ qs : List (Str × Int), (((qs.filter p).map (fun q : Str × Int => q.2)).sum).natAbs ≤ tot qs
  | [] => Nat.le_refl 0
  | q :: qs => by
    have ih := sum_le p qs
    have e : tot (q :: qs) = q.2.natAbs + tot qs := rfl
    by_cases h : p q = true
    · rw [List.filter_cons_of_pos h, List.map_cons, List.sum_cons]
      omega
    · rw [List.filter_cons_of_neg h]
      omega
end RV
/-! drawn pairs -/
namespace RV
open PySem L2
structure Pairs (us : List TP) (m : Nat) : Prop where
  nm : ∀ q ∈ prs us, IsNm q.1
  gr : (tot (prs us) : Int) ≤ big * 2 ^ m
  ln : us.length ≤ m
/-- drawn pairs; at most ten -/
def sp_pairs : Sp := fun vs H Q _ => ∃ (a : Addr) (n m : Nat), vs = [.ref a, .int m] ∧ WellAt H a n ∧ n < 700000 ∧ m ≤ 20 ∧
  ∀ (us : List TP) (l : Addr) H', Pairs us m → (∀ p ∈ (l, HO.lst (vP us)) :: lP us, p.1 ≠ a ∧ H' p.1 = some p.2) → H l = none → Grow a H H' → WellAt H' a (n + 1000) → Q (.ref l) H'
theorem pairs_step {H0 H : Hp} {a : Addr} {n m : Nat} {L : List (Addr × HO)} {Q : VK} {E : XK} (h : Has H0 a n L H) (hn : n < 700000) (hm : m ≤ 20)
    (k : ∀ (us : List TP) (l : Addr) H', Pairs us m → H l = none → Has H0 a (n + 1000) ((l, HO.lst (vP us)) :: lP us ++ L) H' → Q (.ref l) H') : Irr sp_pairs [.ref a, .int m] H Q E :=
  irr ⟨a, n, m, rfl, h.well, hn, hm, fun us l H' p c nl g w => k us l H' p nl ⟨h.gr.trans g, w, fun q hq => (List.mem_append.mp hq).elim (c q) (fun z => ((h.grow g w).here q z))⟩⟩
end RV
namespace RV
open PySem L2
/-- a thing of the ledger changes -/
theorem Has.reset {H0 H : Hp} {a p : Addr} {n : Nat} {o o' : HO} {L : List (Addr × HO)} (h : Has H0 a n ((p, o) :: L) H) (h0 : H0 p = none) (hp : ∀ q ∈ L, q.1 ≠ p) : Has H0 a n ((p, o') :: L) (upd H p o') := by
  have pa : p ≠ a := (h.here (p, o) List.mem_cons_self).1
  have h1 := (h.sub (L' := L) fun q hq => List.mem_cons_of_mem _ hq).put (o := o') h0 hp pa
  refine ⟨h1.gr, h1.well, fun q hq => ?_⟩
  rcases List.mem_cons.mp hq with rfl | hq
  · exact ⟨pa, upd_same⟩
  · exact h1.here q hq
theorem Has.apart {H0 H : Hp} {a : Addr} {n : Nat} {L : List (Addr × HO)} (h : Has H0 a n L H) {p q : Addr} {o o' : HO} (hp : (p, o) ∈ L) (hq : (q, o') ∈ L) (d : o ≠ o') : p ≠ q := fun e => by
  have h1 := h.at hp
  have h2 := h.at hq
  rw [e, h2] at h1
  exact d (Option.some.inj h1).symm
theorem p2_pos : ∀ j : Nat, (1 : Int) ≤ 2 ^ j
  | 0 => by decide
  | j + 1 => by
    rw [Int.pow_succ]
    have := p2_pos j
    omega
theorem p2_le {a b : Nat} (h : a ≤ b) : (2 : Int) ^ a ≤ 2 ^ b := by
  induction h with
  | refl => exact Int.le_refl _
  | step h ih =>
    rename_i m
    rw [Int.pow_succ]
    have := p2_pos m
    omega
end RV
/-! the order of texts; sums as ascending pairs; things made by a function that keeps all that stood -/
namespace RV
open PySem L2
open PySem.Spec (ltCps)
open PyProof.Rows (sortedS risingS)
theorem lt_irr : ∀ a : List Nat, ltCps a a = false
  | [] => rfl
  | c :: r => by simp [ltCps, lt_irr r]
theorem lt_tr : ∀ {a b c : List Nat}, ltCps a b = true → ltCps b c = true → ltCps a c = true
  | [], [], _, h, _ => by simp [ltCps] at h
  | [], _ :: _, [], _, h => by simp [ltCps] at h
  | [], _ :: _, _ :: _, _, _ => rfl
  | _ :: _, [], _, h, _ => by simp [ltCps] at h
  | _ :: _, _ :: _, [], _, h => by simp [ltCps] at h
  | x :: a, y :: b, z :: c, h, k => by
    simp only [ltCps, Bool.or_eq_true, decide_eq_true_eq, Bool.and_eq_true, beq_iff_eq] at h k ⊢
    rcases h with h | ⟨h, h'⟩ <;> rcases k with k | ⟨k, k'⟩
    · exact .inl (by omega)
    · exact .inl (by omega)
    · exact .inl (by omega)
    · exact .inr ⟨by omega, lt_tr h' k'⟩
theorem lt_tri : ∀ {a b : List Nat}, ltCps a b = false → ltCps b a = false → a = b
  | [], [], _, _ => rfl
  | [], _ :: _, h, _ => by simp [ltCps] at h
  | _ :: _, [], _, h => by simp [ltCps] at h
  | x :: a, y :: b, h, k => by
    simp only [ltCps, Bool.or_eq_false_iff, decide_eq_false_iff_not, Bool.and_eq_false_iff, beq_eq_false_iff_ne] at h k
    have e : x = y := by omega
    subst e
    rw [lt_tri (h.2.resolve_left fun z => z rfl) (k.2.resolve_left fun z => z rfl)]
def Lt (a b : Str) : Prop := ltCps (cd a) (cd b) = true
theorem Lt.irr (a : Str) : ¬ Lt a a := fun h => by rw [Lt, lt_irr] at h; cases h
theorem Lt.tr {a b c : Str} (h : Lt a b) (k : Lt b c) : Lt a c := lt_tr h k
theorem asc_of : ∀ {xs : List Str}, sortedS xs = true → xs.Nodup → xs.Pairwise Lt
  | [], _, _ => .nil
  | [x], _, _ => List.pairwise_cons.mpr ⟨fun _ h => (nomatch h), .nil⟩
  | x :: y :: r, h, d => by
    have h' : (!ltCps (cd y) (cd x) && risingS y r) = true := h
    rw [Bool.and_eq_true] at h'
    obtain ⟨d1, d2⟩ := List.nodup_cons.mp d
    have ih := asc_of (xs := y :: r) h'.2 d2
    have lt : Lt x y := by
      cases e : ltCps (cd x) (cd y) with
      | true => exact e
      | false =>
        have e2 : ltCps (cd y) (cd x) = false := by simpa using h'.1
        exact absurd (cd_inj (lt_tri e e2) ▸ List.mem_cons_self) d1
    refine List.pairwise_cons.mpr ⟨fun z hz => ?_, ih⟩
    rcases List.mem_cons.mp hz with rfl | hz
    · exact lt
    · exact lt.tr ((List.pairwise_cons.mp ih).1 z hz)
theorem asc_uniq {α : Type} {R : α → α → Prop} (irr : ∀ a, ¬ R a a) (tr : ∀ {a b c}, R a b → R b c → R a c) : ∀ {l m : List α}, l.Pairwise R → m.Pairwise R → (∀ x, x ∈ l ↔ x ∈ m) → l = m
  | [], [], _, _, _ => rfl
  | [], y :: m, _, _, h => nomatch (h y).2 List.mem_cons_self
  | x :: l, [], _, _, h => nomatch (h x).1 List.mem_cons_self
  | x :: l, y :: m, hl, hm, h => by
    obtain ⟨a1, a2⟩ := List.pairwise_cons.mp hl
    obtain ⟨b1, b2⟩ := List.pairwise_cons.mp hm
    have e : x = y := by
      rcases List.mem_cons.mp ((h x).1 List.mem_cons_self) with e | hx
      · exact e
      rcases List.mem_cons.mp ((h y).2 List.mem_cons_self) with e | hy
      · exact e.symm
      exact absurd (tr (a1 y hy) (b1 x hx)) (irr x)
    subst e
    have : l = m := asc_uniq irr tr a2 b2 fun z => by
      constructor
      · intro hz
        rcases List.mem_cons.mp ((h z).1 (List.mem_cons_of_mem _ hz)) with e | h'
        · exact absurd (e ▸ a1 z hz) (irr x)
        · exact h'
      · intro hz
        rcases List.mem_cons.mp ((h z).2 (List.mem_cons_of_mem _ hz)) with e | h'
        · exact absurd (e ▸ b1 z hz) (irr x)
        · exact h'
    rw [this]
/-! ### the coefficient of a name -/
def co (qs : List (Str × Int)) (x : Str) : Int := ((qs.filter fun q => decide (q.1 = x)).map fun q => q.2).sum
theorem co_nil (x : Str) : co [] x = 0 := rfl
theorem co_cons (q : Str × Int) (qs : List (Str × Int)) (x : Str) : co (q :: qs) x = (if q.1 = x then q.2 else 0) + co qs x := by
  unfold co
  by_cases h : q.1 = x <;> simp [List.filter_cons, h]
theorem co_app (a b : List (Str × Int)) (x : Str) : co (a ++ b) x = co a x + co b x := by
  unfold co
  rw [List.filter_append, List.map_append, List.sum_append]
theorem co_none {qs : List (Str × Int)} {x : Str} (h : ∀ q ∈ qs, q.1 ≠ x) : co qs x = 0 := by
  unfold co
  rw [List.filter_eq_nil_iff.mpr fun q hq => by simpa using h q hq]
  rfl
theorem co_le (qs : List (Str × Int)) (x : Str) : (co qs x).natAbs ≤ tot qs := sum_le (fun q => decide (q.1 = x)) qs
/-- ascending pairs, none with 0 -/
structure Nrm (rs : List (Str × Int)) : Prop where
  asc : (rs.map (·.1)).Pairwise Lt
  no0 : ∀ q ∈ rs, q.2 ≠ 0
theorem Nrm.nil : Nrm [] := ⟨.nil, fun _ h => nomatch h⟩
theorem co_asc {q : Str × Int} : ∀ {rs : List (Str × Int)}, (rs.map (·.1)).Pairwise Lt → q ∈ rs → co rs q.1 = q.2
  | [], _, hq => nomatch hq
  | r :: rs, ha, hq => by
    rw [List.map_cons, List.pairwise_cons] at ha
    rw [co_cons]
    rcases List.mem_cons.mp hq with e | hq
    · subst e
      rw [if_pos rfl, co_none (fun r hr e => ?_), Int.add_zero]
      have := ha.1 r.1 (List.mem_map.mpr ⟨r, hr, rfl⟩)
      rw [e] at this
      exact Lt.irr _ this
    · rw [if_neg (fun e => ?_), co_asc ha.2 hq, Int.zero_add]
      have := ha.1 q.1 (List.mem_map.mpr ⟨q, hq, rfl⟩)
      rw [e] at this
      exact Lt.irr _ this
theorem Nrm.co {rs : List (Str × Int)} (h : Nrm rs) {q : Str × Int} (hq : q ∈ rs) : co rs q.1 = q.2 := co_asc h.asc hq
theorem Nrm.mem {rs : List (Str × Int)} (h : Nrm rs) (x : Str) : x ∈ rs.map (·.1) ↔ RV.co rs x ≠ 0 := by
  constructor
  · intro hx
    obtain ⟨q, hq, rfl⟩ := List.mem_map.mp hx
    rw [h.co hq]
    exact h.no0 q hq
  · intro hx
    refine Classical.byContradiction fun hn => hx (co_none fun q hq e => hn (List.mem_map.mpr ⟨q, hq, e⟩))
theorem Nrm.uniq {rs ss : List (Str × Int)} (h : Nrm rs) (k : Nrm ss) (e : ∀ x, RV.co rs x = RV.co ss x) : rs = ss := by
  have e1 : rs.map (·.1) = ss.map (·.1) := asc_uniq Lt.irr Lt.tr h.asc k.asc fun x => by rw [h.mem, k.mem, e]
  have back : ∀ {ts : List (Str × Int)}, Nrm ts → ts = (ts.map (·.1)).map fun x => (x, RV.co ts x) := fun {ts} n => by
    rw [List.map_map]
    refine (List.map_id ts).symm.trans (List.map_congr_left fun q hq => ?_)
    show q = (q.1, RV.co ts q.1)
    rw [n.co hq]
  rw [back h, back k, e1]
  exact List.map_congr_left fun x _ => by rw [e]
theorem nrm_of {xs : List Str} {c : Str → Int} (ha : xs.Pairwise Lt) : Nrm ((xs.map fun x => (x, c x)).filter fun q => !decide (q.2 = 0)) := by
  refine ⟨?_, fun q hq => by simpa using (List.mem_filter.mp hq).2⟩
  refine List.Pairwise.sublist ((List.filter_sublist).map _) ?_
  rw [List.map_map]
  have : xs.map ((fun q : Str × Int => q.1) ∘ fun x => (x, c x)) = xs := (List.map_congr_left fun _ _ => rfl).trans (List.map_id xs)
  rw [this]
  exact ha
theorem nrm_co {xs : List Str} {c : Str → Int} (ha : xs.Pairwise Lt) (hc : ∀ x, x ∉ xs → c x = 0) (x : Str) : RV.co ((xs.map fun x => (x, c x)).filter fun q => !decide (q.2 = 0)) x = c x := by
  have n := nrm_of (c := c) ha
  by_cases h : x ∈ xs ∧ c x ≠ 0
  · exact n.co (q := (x, c x)) (List.mem_filter.mpr ⟨List.mem_map.mpr ⟨x, h.1, rfl⟩, by simpa using h.2⟩)
  · have c0 : c x = 0 := by
      by_cases hx : x ∈ xs
      · exact Classical.byContradiction fun k => h ⟨hx, k⟩
      · exact hc x hx
    rw [c0]
    refine co_none fun q hq e => ?_
    obtain ⟨h1, h2⟩ := List.mem_filter.mp hq
    obtain ⟨y, _, rfl⟩ := List.mem_map.mp h1
    have e' : y = x := e
    subst e'
    simp [c0] at h2
/-! ### what a function that keeps all that stood leaves -/
structure Kp (H0 : Hp) (L : List (Addr × HO)) (H : Hp) : Prop where
  sm : Same H0 H
  nw : ∀ p ∈ L, H0 p.1 = none ∧ H p.1 = some p.2
section
variable {H0 H H' : Hp} {L L' : List (Addr × HO)} {p q a : Addr} {o o' : HO} {n : Nat}
theorem Kp.start (H : Hp) : Kp H [] H := ⟨fun _ _ e => e, fun _ h => nomatch h⟩
theorem Kp.next (h : Kp H0 L H) (g : Same H H') : Kp H0 L H' := ⟨fun b o e => g b o (h.sm b o e), fun p hp => ⟨(h.nw p hp).1, g _ _ (h.nw p hp).2⟩⟩
theorem Kp.none0 (h : Kp H0 L H) (np : H p = none) : H0 p = none := by
  cases e : H0 p with
  | none => rfl
  | some o => rw [h.sm p o e] at np; cases np
theorem Kp.new (h : Kp H0 L H) (np : H p = none) : Kp H0 ((p, o) :: L) (upd H p o) := by
  have g : Same H (upd H p o) := fun b u e => by rw [upd_ne (ne_of_none e np)]; exact e
  refine ⟨fun b u e => g b u (h.sm b u e), fun r hr => ?_⟩
  rcases List.mem_cons.mp hr with rfl | hr
  · exact ⟨h.none0 np, upd_same⟩
  · exact ⟨(h.nw r hr).1, g _ _ (h.nw r hr).2⟩
theorem Kp.sub (h : Kp H0 L H) (s : ∀ p ∈ L', p ∈ L) : Kp H0 L' H := ⟨h.sm, fun p hp => h.nw p (s p hp)⟩
theorem Kp.at (h : Kp H0 L H) (hp : (p, o) ∈ L) : H p = some o := (h.nw _ hp).2
theorem Kp.apart (h : Kp H0 L H) (hp : (p, o) ∈ L) (hq : (q, o') ∈ L) (d : o ≠ o') : p ≠ q := fun e => by
  have h1 := h.at hp
  rw [e, h.at hq] at h1
  exact d (Option.some.inj h1).symm
theorem Kp.reset (h : Kp H0 ((p, o) :: L) H) (hp : ∀ q ∈ L, q.1 ≠ p) : Kp H0 ((p, o') :: L) (upd H p o') := by
  have p0 := (h.nw (p, o) List.mem_cons_self).1
  refine ⟨fun b u e => by rw [upd_ne (ne_of_none e p0)]; exact h.sm b u e, fun r hr => ?_⟩
  rcases List.mem_cons.mp hr with rfl | hr
  · exact ⟨p0, upd_same⟩
  · exact ⟨(h.nw r (List.mem_cons_of_mem _ hr)).1, by rw [upd_ne (hp r hr)]; exact (h.nw r (List.mem_cons_of_mem _ hr)).2⟩
theorem Kp.trans {H1 : Hp} (h : Kp H0 L H1) (k : Kp H1 L' H) : Kp H0 (L' ++ L) H := ⟨fun b o e => k.sm b o (h.sm b o e), fun p hp => (List.mem_append.mp hp).elim (fun z => ⟨h.none0 (k.nw p z).1, (k.nw p z).2⟩) fun z => (h.next k.sm).nw p z⟩
theorem Has.kp (h : Has H0 a n L H) (k : Kp H L' H') : Has H0 a n (L' ++ L) H' := by
  have h1 := h.same k.sm
  exact ⟨h1.gr, h1.well, fun q hq => (List.mem_append.mp hq).elim (fun z => ⟨h.ne (k.nw q z).1, (k.nw q z).2⟩) fun z => h1.here q z⟩
end
/-! ### merged -/
def sp_merged (K : PySem.W.Frag) : Sp := fun vs H Q _ => ∃ (l : Addr) (us : List TP), vs = [.ref l] ∧ SqL K H l (vP us) ∧ TPs K H us ∧ us.length ≤ 120 ∧
  ∀ (ds : List TP) (m : Addr) H', Nrm (prs ds) → (∀ x, co (prs ds) x = co (prs us) x) → (∀ q ∈ prs ds, q.1 ∈ (prs us).map (·.1)) → ds.length ≤ us.length → Kp H ((m, .lst (vP ds)) :: lP ds) H' → Q (.ref m) H'
end RV
/-! numbers, terms, what a sum makes of its terms -/
namespace RV
open PySem L2
theorem tyx_tup {K : PySem.W.Frag} {H : Hp} {a : Addr} {xs : List V} (h : SqT K H a xs) : TyX K H (.ref a) (.type "tuple") := by
  rcases h with (h | ⟨o, h⟩) | ⟨o, its, n, h, hc, _⟩
  · exact .base (.tup h)
  · exact .fTuple h
  · exact .kTuple h hc
def sp_is_number (K : PySem.W.Frag) : Sp := fun vs H Q _ => ∃ v, vs = [v] ∧ ((∃ z : Int, v = .int z ∧ Q (.bl true) H) ∨ (∃ b : Bool, v = .bl b ∧ Q (.bl false) H) ∨
  (∃ t, TyX K H v t ∧ PySem.W.kitOne K t (.type "int") = some false ∧ Q (.bl false) H))
/-- a pair of a name and an integer -/
def sp_is_term (K : PySem.W.Frag) : Sp := fun vs H Q _ => ∃ (t : Addr) (x : Str) (z : Int), vs = [.ref t] ∧ SqT K H t [.str x, .int z] ∧ IsNm x ∧ ∀ H', Same H H' → Q (.bl true) H'
/-- a tuple of such pairs -/
def sp_check_terms (K : PySem.W.Frag) : Sp := fun vs H Q _ => ∃ (t : Addr) (us : List TP), vs = [.ref t] ∧ SqT K H t (vP us) ∧ TPs K H us ∧ (∀ q ∈ prs us, IsNm q.1) ∧ us.length ≤ 120 ∧ ∀ H', Same H H' → Q .non H'
/-- at most 120, with at most 60 different names -/
def Few (qs : List (Str × Int)) : Prop := qs.length ≤ 120 ∧ ∃ pool : List Str, pool.length ≤ 60 ∧ ∀ q ∈ qs, q.1 ∈ pool
theorem Few.of {qs : List (Str × Int)} (h : qs.length ≤ 60) : Few qs := ⟨Nat.le_trans h (by decide), qs.map (·.1), by rw [List.length_map]; exact h, fun q hq => List.mem_map.mpr ⟨q, hq, rfl⟩⟩
theorem nodup_len : ∀ {xs ys : List Str}, xs.Nodup → (∀ x ∈ xs, x ∈ ys) → xs.length ≤ ys.length
  | [], _, _, _ => Nat.zero_le _
  | x :: xs, ys, h, s => by
    rw [List.nodup_cons] at h
    have hx := s x List.mem_cons_self
    have := nodup_len (ys := ys.erase x) h.2 fun y hy => (List.mem_erase_of_ne (fun e => h.1 (by rw [← e]; exact hy))).mpr (s y (List.mem_cons_of_mem _ hy))
    rw [List.length_erase_of_mem hx] at this
    have := List.length_pos_of_mem hx
    rw [List.length_cons]
    omega
def sp_collected (K : PySem.W.Frag) : Sp := fun vs H Q _ => ∃ (t : Addr) (us : List TP), vs = [.ref t] ∧ SqT K H t (vP us) ∧ TPs K H us ∧ Few (prs us) ∧
  ∀ (ds : List TP) (m : Addr) H', Nrm (prs ds) → (∀ x, co (prs ds) x = co (prs us) x) → (∀ q ∈ prs ds, q.1 ∈ (prs us).map (·.1)) → ds.length ≤ us.length → Kp H ((m, .tup (vP ds)) :: lP ds) H' → Q (.ref m) H'
end RV
/-! a dict that counts -/
namespace RV
open PySem L2
structure Dct (kvs : List (Key × V)) (qs : List (Str × Int)) (ks : List Str) : Prop where
  keys : kvs.map (·.1) = ks.map Sum.inr
  nd : ks.Nodup
  mem : ∀ x, x ∈ ks ↔ x ∈ qs.map (·.1)
  val : ∀ x, valV kvs (.inr x) = if x ∈ ks then some (.int (co qs x)) else none
  ln : ks.length ≤ qs.length
theorem Dct.nil : Dct [] [] [] := ⟨rfl, .nil, fun _ => Iff.rfl, fun _ => rfl, Nat.le_refl _⟩
theorem putK_keys {κ : Type} [DecidableEq κ] {kvs : List (κ × V)} {k : κ} {v : V} (h : (valV kvs k).isSome = true) : (putK kvs k v).map (·.1) = kvs.map (·.1) := by
  unfold putK
  rw [valV_any, if_pos h, List.map_map]
  refine List.map_congr_left fun kv _ => ?_
  show (if kv.1 = k then (kv.1, v) else kv).1 = kv.1
  split <;> rfl
theorem Dct.get {kvs : List (Key × V)} {qs : List (Str × Int)} {ks : List Str} (h : Dct kvs qs ks) (x : Str) : (valV kvs (.inr x)).getD (.int 0) = .int (co qs x) := by
  rw [h.val]
  split
  · rfl
  · rename_i hn
    rw [co_none fun q hq e => hn ((h.mem x).2 (List.mem_map.mpr ⟨q, hq, e⟩))]
    rfl
theorem Dct.put {kvs : List (Key × V)} {qs : List (Str × Int)} {ks : List Str} (h : Dct kvs qs ks) (x : Str) (z : Int) : ∃ ks', Dct (putK kvs (.inr x) (.int (co qs x + z))) (qs ++ [(x, z)]) ks' := by
  have cx : ∀ y, co (qs ++ [(x, z)]) y = co qs y + if x = y then z else 0 := fun y => by
    rw [co_app, co_cons, co_nil, Int.add_zero]
  by_cases hx : x ∈ ks
  · have hs : valV kvs (.inr x) = some (.int (co qs x)) := by rw [h.val, if_pos hx]
    refine ⟨ks, ⟨by rw [putK_keys (by rw [hs]; rfl)]; exact h.keys, h.nd, fun y => ?_, fun y => ?_, by rw [List.length_append]; exact Nat.le_succ_of_le h.ln⟩⟩
    · rw [h.mem, List.map_append, List.mem_append]
      refine ⟨.inl, fun z => z.elim id fun e => ?_⟩
      rw [List.mem_singleton.mp e]
      exact (h.mem x).1 hx
    · rw [valV_put, h.val, cx]
      by_cases e : y = x
      · subst e
        simp [hx]
      · have e' : ¬ x = y := fun z => e z.symm
        simp [e, e']
  · have hs : valV kvs (.inr x) = none := by rw [h.val, if_neg hx]
    refine ⟨ks ++ [x], ⟨?_, ?_, fun y => ?_, fun y => ?_, by rw [List.length_append, List.length_append]; exact Nat.succ_le_succ h.ln⟩⟩
    · rw [putK_new _ hs, List.map_append, List.map_append, h.keys]
      rfl
    · rw [List.nodup_append]
      refine ⟨h.nd, by simp, fun a ha b hb e => ?_⟩
      rw [List.mem_singleton.mp hb] at e
      exact hx (e ▸ ha)
    · rw [List.mem_append, h.mem, List.map_append, List.mem_append]
      rfl
    · rw [valV_put, h.val, cx]
      by_cases e : y = x
      · subst e
        simp
      · have e' : ¬ x = y := fun z => e z.symm
        simp [e, e']
end RV
/-! what an own class says of len, x in o, o[x], truth -/
namespace RV
open PySem L2 PyProof.Rows
/-- the class C has an own method m that promises sp -/
def OwnM (P : Program) (w : World) (K : PySem.W.Frag) (mg : Str → Option Value) (base : Heap) (C : Addr) (m : String) (k : Nat) (sp : Sp) : Prop :=
  ∃ f fd ps, PySem.W.findIn K (.ref C) m = some (some (.ref f)) ∧ PySem.W.isFn K (.ref f) = true ∧ PySem.W.fnIn K f = true ∧ Binds K fd ps [] ∧ FnOk P w K mg base CX0 k f fd ps sp
section
variable {X : Cx} {pins : List (Addr × Obj)} {σ : L2.St} {H : Hp} {s : Shared} {C : Addr} {k : Nat} {sp : Sp}
theorem call_owns {A : Around} {f : Addr} {fd : FuncData} {ps : List Str} {Q : VK} {xs : List V} {us : List Value} (F : FnOk X.prog X.w X.K X.mg X.base CX0 k f fd ps sp) (hb : Binds X.K fd ps []) (hr : Room k A) (hf : A.frames = X.A.frames)
    (I : Inv X pins σ H s) (rx : Vals xs us) (hsp : sp xs H Q E0) : wpAny (model X.prog X.w) A (call (.ref f) us) (EP X pins σ Q) X.xe s := by
  have e0 : Env0 X.prog X.w X.K X.mg X.base A X.stack s H := by
    have e := I.env0
    exact ⟨by rw [hf]; exact e.frames, e.mod, e.bs, e.bsz, e.funs, e.frf, e.hok, e.bare⟩
  have hl := F.len _ _ _ _ hsp
  refine wpAny_call (codeAny_mono (F.run A X.stack s H ⟨us, []⟩ us xs _ E0 hr e0 (by
    have := hb s us I.kIn (by rw [List.append_nil, ← rx.length]; exact hl)
    simpa using this) rx hsp) fun r s' hq => ?_)
  cases r with
  | error e => exact (hq : False).elim
  | ok fl =>
    cases fl with
    | ret w => exact I.after hq
    | next => exact False.elim hq
    | brk => exact False.elim hq
    | cont => exact False.elim hq
def rLenO (C : Addr) (sp : Sp) : List V → Hp → VK → Prop := fun xs H Q => ∃ a dx fs, xs = [.ref a] ∧ H a = some (.ins C dx fs) ∧ sp [.ref a] H (fun v H' => ∃ n : Nat, v = .int n ∧ n < 100000 ∧ Q (.int n) H') E0
theorem call_lenO (h : OwnM X.prog X.w X.K X.mg X.base C "__len__" k sp) (hr : Room (k + 1) X.A) : CallR X (.builtin "len") (rLenO C sp) := by
  intro pins s σ H xs us Q I rx hq
  obtain ⟨a, dx, fs, rfl, ha, hsp⟩ := hq
  obtain ⟨f, fd, ps, hs, hf, _, hb, F⟩ := h
  obtain rfl : us = [.ref a] := Vals.ref1 rx
  obtain ⟨mA, J, _⟩ := ins_get I.hok ha
  obtain ⟨od, J, _⟩ := J.look
  obtain ⟨m, hF⟩ := I.fr
  refine PySem.W.len_K hF I.ok.mod.kin J hs hf (wpAny_mono (call_owns (A := X.A.in1) F hb hr.in1 rfl I rx hsp) (fun r s' z => ?_) fun _ _ x => x)
  obtain ⟨v, H', I', rv, n, rfl, hn, q⟩ := z
  obtain ⟨t, rfl⟩ := rv
  exact ⟨⟨by omega, by omega⟩, .int n, H', I'.tok _, ⟨_, rfl⟩, q⟩
def rInO (neg : Bool) (C : Addr) (sp : Sp) : R2 := fun x y H Q => ∃ a dx fs, y = .ref a ∧ H a = some (.ins C dx fs) ∧ sp [.ref a, x] H (fun v H' => ∃ b, v = .bl b ∧ Q (.bl (if neg then !b else b)) H') E0
theorem op_inO (h : OwnM X.prog X.w X.K X.mg X.base C "__contains__" k sp) (hr : Room k X.A) : OpR X (compareOp .In) (rInO false C sp) := by
  intro pins s σ H x y v u Q I rx ry hq
  obtain ⟨a, dx, fs, rfl, ha, hsp⟩ := hq
  obtain ⟨f, fd, ps, hs, hf, _, hb, F⟩ := h
  have ry' := ry
  cases ry
  obtain ⟨mA, J, _⟩ := ins_get I.hok ha
  obtain ⟨od, J, _⟩ := J.look
  obtain ⟨m, hF⟩ := I.fr
  refine PySem.W.in_K hF I.ok.mod.kin J hs hf (wpAny_mono (call_owns F hb hr rfl I (.cons ry' (.cons rx .nil)) hsp) (fun r s' z => ?_) fun _ _ x => x)
  obtain ⟨v, H', I', rv, b, rfl, q⟩ := z
  cases rv
  exact wpAny_truthy_bool ⟨.bl b, H', I', rfl, q⟩
theorem op_notInO (h : OwnM X.prog X.w X.K X.mg X.base C "__contains__" k sp) (hr : Room k X.A) : OpR X (compareOp .NotIn) (rInO true C sp) := by
  intro pins s σ H x y v u Q I rx ry hq
  obtain ⟨a, dx, fs, rfl, ha, hsp⟩ := hq
  obtain ⟨f, fd, ps, hs, hf, _, hb, F⟩ := h
  have ry' := ry
  cases ry
  obtain ⟨mA, J, _⟩ := ins_get I.hok ha
  obtain ⟨od, J, _⟩ := J.look
  obtain ⟨m, hF⟩ := I.fr
  refine PySem.W.notIn_K hF I.ok.mod.kin J hs hf (wpAny_mono (call_owns F hb hr rfl I (.cons ry' (.cons rx .nil)) hsp) (fun r s' z => ?_) fun _ _ x => x)
  obtain ⟨v, H', I', rv, b, rfl, q⟩ := z
  cases rv
  exact wpAny_truthy_bool ⟨.bl (!b), H', I', rfl, q⟩
/-- truth by the class's own __bool__ -/
def rTrM (C : Addr) (sp : Sp) : V → Hp → (Bool → Hp → Prop) → Prop := fun x H Q => ∃ a dx fs, x = .ref a ∧ H a = some (.ins C dx fs) ∧ sp [.ref a] H (fun v H' => ∃ b, v = .bl b ∧ Q b H') E0
theorem tru_own (h : OwnM X.prog X.w X.K X.mg X.base C "__bool__" k sp) (hr : Room k X.A) : TruR X (rTrM C sp) := by
  intro pins s σ H x v Q I rx hq
  obtain ⟨a, dx, fs, rfl, ha, hsp⟩ := hq
  obtain ⟨f, fd, ps, hs, hf, _, hb, F⟩ := h
  have rx' := rx
  cases rx
  obtain ⟨mA, J, _⟩ := ins_get I.hok ha
  obtain ⟨od, J, _⟩ := J.look
  obtain ⟨m, hF⟩ := I.fr
  refine PySem.W.truthy_K hF I.ok.mod.kin J hs hf (wpAny_mono (call_owns F hb hr rfl I (.cons rx' .nil) hsp) (fun r s' z => ?_) fun _ _ x => x)
  obtain ⟨v, H', I', rv, b, rfl, q⟩ := z
  cases rv
  exact ⟨H', I', q⟩
def rIxO (C : Addr) (sp : Sp) : R2 := fun x y H Q => ∃ a dx fs, x = .ref a ∧ H a = some (.ins C dx fs) ∧ sp [.ref a, y] H Q E0
/-- o[i], o of an own class with its own __getitem__ -/
theorem pe_ixO {a b : Expr} {ta tb : TE} {pos : Pos} (h : OwnM X.prog X.w X.K X.mg X.base C "__getitem__" k sp) (hr : Room (k + 1) X.A) (ha : PE X a ta) (hb : PE X b tb)
    (hsl : ∀ v u, subscripted b true v u = runValue (.builtin "lifetime.subscript" ⟨[v, u], []⟩) := by intro _ _; with_unfolding_all rfl) : PE X (.Subscript a b pos) (tOp (rIxO C sp) ta tb) := by
  refine ⟨fun pins s σ H Q I h' => ?_⟩
  refine Subscript_ (binT ha hb I h' fun v u s2 x y H2 I2 rx ry q => ?_)
  obtain ⟨o, dx, fs, rfl, ho, hsp⟩ := q
  obtain ⟨f, fd, ps, hs, hf, hfn, hb', F⟩ := h
  have rx' := rx
  cases rx
  obtain ⟨mA, J, _⟩ := ins_get I2.hok ho
  obtain ⟨od, J, _⟩ := J.look
  obtain ⟨m, hF⟩ := I2.fr
  exact PySem.W.sub_K hF I2.ok.mod.kin J hs hfn hf (call_owns (A := X.A.in1) F hb' hr.in1 rfl I2 (.cons rx' (.cons ry .nil)) hsp) (hsl _ _)
end
end RV
/-! sums as they stand in the heap, and what their methods promise -/
namespace RV
open PySem L2
/-- the things of a sum at a whose terms are the tuple at t -/
def lS (C a dx t : Addr) (us : List TP) : List (Addr × HO) := (a, .ins C dx [("_terms", .ref t)]) :: (t, .tup (vP us)) :: lP us
def SumR (C : Addr) (H : Hp) (a : Addr) (qs : List (Str × Int)) : Prop := ∃ dx t us, prs us = qs ∧ ∀ p ∈ lS C a dx t us, H p.1 = some p.2
theorem SumR.ext {C a : Addr} {H H' : Hp} {qs : List (Str × Int)} (h : SumR C H a qs) (g : Same H H') : SumR C H' a qs := by
  obtain ⟨dx, t, us, e, k⟩ := h
  exact ⟨dx, t, us, e, fun p hp => g _ _ (k p hp)⟩
structure SClass (K : PySem.W.Frag) (mg : Str → Option Value) (C : Addr) : Prop where
  x : ClsX K C
  k : mg "Sum" = some (.ref C)
  n1 : NoAttr K C "_terms"
  me : PySem.W.kitOne K (.ref C) (.ref C) = some true
/-- terms that may be given -/
structure Trm (K : PySem.W.Frag) (H : Hp) (t : Addr) (us : List TP) : Prop where
  tp : SqT K H t (vP us)
  ps : TPs K H us
  nm : ∀ q ∈ prs us, IsNm q.1
  ln : us.length ≤ 60
structure TrmF (K : PySem.W.Frag) (H : Hp) (t : Addr) (us : List TP) : Prop where
  tp : SqT K H t (vP us)
  ps : TPs K H us
  nm : ∀ q ∈ prs us, IsNm q.1
  ln : Few (prs us)
theorem Trm.few {K : PySem.W.Frag} {H : Hp} {t : Addr} {us : List TP} (h : Trm K H t us) : TrmF K H t us := ⟨h.tp, h.ps, h.nm, Few.of (by rw [prs_len]; exact h.ln)⟩
/-- what a sum of these terms is -/
structure Mad (qs rs : List (Str × Int)) : Prop where
  nr : Nrm rs
  co : ∀ x, co rs x = co qs x
  nm : ∀ q ∈ rs, q.1 ∈ qs.map (·.1)
  ln : rs.length ≤ qs.length
def sp_Sum (K : PySem.W.Frag) (C : Addr) : Sp := fun vs H Q _ => ∃ (x dx t : Addr) (us : List TP), vs = [.ref x, .ref t] ∧ H x = some (.ins C dx []) ∧ TrmF K H t us ∧
  ∀ (ds : List TP) (m dx' : Addr) H', Mad (prs us) (prs ds) → (∀ b o, b ≠ x → H b = some o → H' b = some o) → (∀ p ∈ (m, HO.tup (vP ds)) :: lP ds, H p.1 = none) → (∀ p ∈ lS C x dx' m ds, H' p.1 = some p.2) → Q .non H'
def sp_len (C : Addr) : Sp := fun vs H Q _ => ∃ (a : Addr) (qs : List (Str × Int)), vs = [.ref a] ∧ SumR C H a qs ∧ Q (.int (qs.length : Nat)) H
def sp_yes : Sp := fun vs H Q _ => ∃ (a : Addr), vs = [.ref a] ∧ Q (.bl true) H
def sp_terms (C : Addr) : Sp := fun vs H Q _ => ∃ (a dx t : Addr) (us : List TP), vs = [.ref a] ∧ (∀ p ∈ lS C a dx t us, H p.1 = some p.2) ∧ Q (.ref t) H
def sp_get (C : Addr) : Sp := fun vs H Q _ => ∃ (a : Addr) (x : Str) (qs : List (Str × Int)), vs = [.ref a, .str x] ∧ IsNm x ∧ SumR C H a qs ∧ Nrm qs ∧ ∀ H', Same H H' → Q (.int (co qs x)) H'
def sp_has (C : Addr) : Sp := fun vs H Q _ => ∃ (a : Addr) (x : Str) (qs : List (Str × Int)), vs = [.ref a, .str x] ∧ IsNm x ∧ SumR C H a qs ∧ Nrm qs ∧ ∀ H', Same H H' → Q (.bl (!decide (co qs x = 0))) H'
end RV
/-! pairs as data -/
namespace RV
open PySem L2
def dq (q : Str × Int) : PyData := .tuple [.str q.1, .int q.2]
def dQ (qs : List (Str × Int)) : PyData := .tuple (qs.map dq)
theorem shaped_pairs {qs : List (Str × Int)} (h : ∀ q ∈ qs, IsNm q.1) : SeqAt.shaped (dQ qs) = true := by
  have h1 : ∀ qs : List (Str × Int), (∀ q ∈ qs, IsNm q.1) → PyData.canLayAll0 (qs.map dq) = true ∧ PyData.depthAll (qs.map dq) ≤ 1 := by
    intro qs
    induction qs with
    | nil => intro _; simp [PyData.canLayAll0, PyData.depthAll]
    | cons q qs ih =>
      intro h
      obtain ⟨a, b⟩ := ih fun r hr => h r (List.mem_cons_of_mem _ hr)
      have c := strOk_nm (h q List.mem_cons_self)
      refine ⟨by simp [PyData.canLayAll0, PyData.canLay0, dq, a, c], ?_⟩
      simp only [List.map_cons, PyData.depthAll, dq, PyData.depth]
      omega
  obtain ⟨a, b⟩ := h1 qs h
  simp only [SeqAt.shaped, dQ, PyData.canLay0, PyData.depth, a, Bool.true_and, decide_eq_true_eq]
  omega
theorem eqv_dq (q r : Str × Int) : PyData.eqv (dq q) (dq r) = decide (q = r) := by
  obtain ⟨x, i⟩ := q
  obtain ⟨y, j⟩ := r
  simp only [dq, PyData.eqv, PyData.eqvAll, Bool.and_true]
  by_cases h1 : x = y <;> by_cases h2 : i = j <;> simp [h1, h2]
theorem eqv_pairs (qs rs : List (Str × Int)) : PyData.eqv (dQ qs) (dQ rs) = decide (qs = rs) := by
  have h : ∀ qs rs : List (Str × Int), PyData.eqvAll (qs.map dq) (rs.map dq) = decide (qs = rs) := by
    intro qs
    induction qs with
    | nil => intro rs; cases rs <;> simp [PyData.eqvAll]
    | cons q qs ih =>
      intro rs
      cases rs with
      | nil => simp [PyData.eqvAll]
      | cons r rs =>
        simp only [List.map_cons, PyData.eqvAll, eqv_dq, ih]
        by_cases h1 : q = r <;> by_cases h2 : qs = rs <;> simp [h1, h2]
  simp only [dQ, PyData.eqv]
  exact h qs rs
theorem dpAll_pairs {K : PySem.W.Frag} {H : Hp} : ∀ {us : List TP}, TPs K H us → DpAll K H (vP us) ((prs us).map dq)
  | [], _ => .nil
  | u :: us, h => .cons (.tup (h u List.mem_cons_self) (.cons (.str _) (.cons (.int _) .nil))) (dpAll_pairs fun r hr => h r (List.mem_cons_of_mem _ hr))
theorem dp_pairs {K : PySem.W.Frag} {H : Hp} {t : Addr} {us : List TP} (ht : SqT K H t (vP us)) (h : TPs K H us) : Dp K H (.ref t) (dQ (prs us)) := .tup ht (dpAll_pairs h)
def sp_eqS (K : PySem.W.Frag) (C : Addr) : Sp := fun vs H Q _ => ∃ (a : Addr) (y : V) (qs : List (Str × Int)), vs = [.ref a, y] ∧ SumR C H a qs ∧ (∀ q ∈ qs, IsNm q.1) ∧
  ((∃ b rs, y = .ref b ∧ SumR C H b rs ∧ (∀ q ∈ rs, IsNm q.1) ∧ Q (.bl (decide (qs = rs))) H) ∨ (∃ t, TyX K H y t ∧ PySem.W.kitOne K t (.ref C) = some false ∧ Q (.bl false) H))
end RV
/-! the same pairs in another order, some in two parts -/
namespace RV
open PySem L2
theorem cutV_pre (us : List TP) (k : Nat) : cutV (vP us) none (some (k : Int)) = vP (us.take k) := by
  unfold cutV
  rw [sIx_none, sIx_some, List.drop_zero, Nat.sub_zero, vP_len, vP, vP, List.map_take]
  rw [List.take_eq_take_iff]
  simp only [List.length_map]
  omega
theorem cutV_suf (us : List TP) (k : Nat) : cutV (vP us) (some (k : Int)) none = vP (us.drop k) := by
  unfold cutV
  rw [sIx_none, sIx_some, vP_len, List.take_of_length_le (by rw [List.length_drop, vP_len]; omega), vP, vP, List.map_drop]
  by_cases h : k ≤ us.length
  · rw [Nat.min_eq_left h]
  · rw [List.drop_eq_nil_of_le (by rw [List.length_map]; omega), List.drop_eq_nil_of_le (by rw [List.length_map]; omega)]
structure Oth (us vs : List TP) : Prop where
  co : ∀ x, co (prs vs) x = co (prs us) x
  nm : ∀ q ∈ prs vs, q.1 ∈ (prs us).map (·.1)
  ln : vs.length ≤ 2 * us.length
def sp_parted : Sp := fun vs H Q _ => ∃ (a l : Addr) (n : Nat) (us : List TP), vs = [.ref a, .ref l] ∧ WellAt H a n ∧ n < 600000 ∧ us.length ≤ 20 ∧ (∀ p ∈ (l, HO.lst (vP us)) :: lP us, p.1 ≠ a ∧ H p.1 = some p.2) ∧
  ∀ (vs : List TP) (m : Addr) H', Oth us vs → H m = none → Has H a (n + 1000) ((m, .lst (vP vs)) :: lP vs) H' → Q (.ref m) H'
end RV
/-! texts of pairs -/
namespace RV
open PySem L2 PyProof.Rows
theorem log_small {z : Int} (h : z.natAbs ≤ 10 ^ 45) : z.natAbs.log2 < 1920 := by
  have q := PySem.Flt.log2_lt_of (n := z.natAbs) (k := 200) (by decide) (by omega)
  omega
/-- truth of an own object with an own __bool__, as a test -/
theorem pt_own {X : Cx} {C : Addr} {k : Nat} {sp : Sp} {e : Expr} {ta : TE} (h : OwnM X.prog X.w X.K X.mg X.base C "__bool__" k sp) (hr : Room k X.A) (ha : PE X e ta) (he : ∀ whole, isTrue e X.env whole = (do let v ← whole; standAt e.pos; holding [v] (truthy v)) := by intro _; rfl) :
    PT X e (fun σ H Q => ta σ H fun x H' => rTrM C sp x H' Q) := by
  refine ⟨fun pins s σ H Q I h' => ?_⟩
  exact isTrue_plain (thn (ha.run pins s σ H _ I h') fun v s1 ⟨x, H1, I1, r1, q1⟩ => tru_own h hr pins s1 σ H1 x v Q I1 r1 q1) (he _)
theorem short_str {x : Str} (h : IsNm x) : (PyData.str x).shown.length ≤ 100 := (short_nm h).ln
theorem shown_pair {q : Str × Int} (h : IsNm q.1) (hz : q.2.natAbs ≤ 10 ^ 45) : (dq q).showable = true ∧ (dq q).depth ≤ 1 ∧ (dq q).shown.length ≤ 2100 := by
  have hl := log_small hz
  refine ⟨by simp [dq, PyData.showable, PyData.showableAll, hl], by simp [dq, PyData.depth, PyData.depthAll], ?_⟩
  have e : (dq q).shown = tupleText [(PyData.str q.1).shown, (PyData.int q.2).shown] := by simp only [dq, PyData.shown, PyData.shownAll]
  rw [e]
  have h1 := tupleText_len_le [(PyData.str q.1).shown, (PyData.int q.2).shown]
  have h2 := short_str h
  have h3 : (PyData.int q.2).shown.length ≤ 1921 := by
    have := int_text_len_1921 hl
    simp only [PyData.shown]
    exact this
  simp only [List.map_cons, List.map_nil, List.sum_cons, List.sum_nil, List.length_cons, List.length_nil] at h1
  omega
theorem show_pairs {qs : List (Str × Int)} (hn : ∀ q ∈ qs, IsNm q.1) (ht : tot qs ≤ 10 ^ 45) (hl : qs.length ≤ 100) : (dQ qs).showable = true ∧ (dQ qs).depth ≤ 60 ∧ (dQ qs).shown.length ≤ sizeLine := by
  have h1 : ∀ qs : List (Str × Int), (∀ q ∈ qs, IsNm q.1 ∧ q.2.natAbs ≤ 10 ^ 45) → PyData.showableAll (qs.map dq) = true ∧ PyData.depthAll (qs.map dq) ≤ 1 ∧ ((PyData.shownAll (qs.map dq)).map (·.length)).sum ≤ 2100 * qs.length ∧ (PyData.shownAll (qs.map dq)).length = qs.length := by
    intro qs
    induction qs with
    | nil => intro _; simp [PyData.showableAll, PyData.depthAll, PyData.shownAll]
    | cons q qs ih =>
      intro h
      obtain ⟨a1, a2, a3⟩ := shown_pair (h q List.mem_cons_self).1 (h q List.mem_cons_self).2
      obtain ⟨b1, b2, b3, b4⟩ := ih fun r hr => h r (List.mem_cons_of_mem _ hr)
      refine ⟨by simp [PyData.showableAll, a1, b1], ?_, ?_, by simp [PyData.shownAll, b4]⟩
      · simp only [List.map_cons, PyData.depthAll]
        omega
      · simp only [List.map_cons, PyData.shownAll, List.sum_cons, List.length_cons]
        omega
  obtain ⟨a1, a2, a3, a4⟩ := h1 qs fun q hq => ⟨hn q hq, Nat.le_trans (tot_mem hq) ht⟩
  refine ⟨by simp only [dQ, PyData.showable, a1], by simp only [dQ, PyData.depth]; omega, ?_⟩
  have e : (dQ qs).shown = tupleText (PyData.shownAll (qs.map dq)) := by simp only [dQ, PyData.shown]
  rw [e]
  have := tupleText_len_le (PyData.shownAll (qs.map dq))
  exact Nat.le_trans (show _ ≤ 300000 by omega) (by decide)
theorem repr_pairs {K : PySem.W.Frag} {t : Addr} {us : List TP} {H : Hp} {Q : VK} (ht : SqT K H t (vP us)) (hp : TPs K H us) (hn : ∀ q ∈ prs us, IsNm q.1) (hz : tot (prs us) ≤ 10 ^ 45) (hl : us.length ≤ 100) (k : Q (.str (dQ (prs us)).shown) H) : rRepr K [.ref t] H Q := by
  obtain ⟨h1, h2, h3⟩ := show_pairs hn hz (by rw [prs_len]; exact hl)
  unfold rRepr
  exact ⟨t, dQ (prs us), rfl, dp_pairs ht hp, h1, h2, h3, k⟩
/-- a sum shows these pairs, a list of them -/
def sp_shows (K : PySem.W.Frag) (C : Addr) : Sp := fun vs H Q _ => ∃ (a l : Addr) (ds : List TP), vs = [.ref a, .ref l] ∧ SumR C H a (prs ds) ∧ SqL K H l (vP ds) ∧ TPs K H ds ∧ Nrm (prs ds) ∧ (∀ q ∈ prs ds, IsNm q.1) ∧ tot (prs ds) ≤ 10 ^ 45 ∧ ds.length ≤ 60 ∧
  ∀ H', Same H H' → Q (.bl true) H'
/-- [y for y in xs if p(y)], xs a list of texts -/
theorem lc_sub {K : PySem.W.Frag} {a : Addr} {xs : List Str} {i : Nat} {tt : TT} {te : TE} {vs : List Nat} {σ : L2.St} {H1 : Hp} {D : Addr} {Qd : Hp → Prop} (p : Str → Bool)
    (hl : SqL K H1 a (xs.map V.str)) (nD : H1 D = none) (len : xs.length ≤ 1000) (hw : ∀ x, wipe ((wipe σ vs).set i x) vs = wipe σ vs)
    (h : ∀ y ∈ xs, ∀ H2, Same H1 H2 → (∀ R : Bool → Hp → Prop, R (p y) H2 → tt ((wipe σ vs).set i (some (.str y))) H2 R) ∧ (p y = true → ∀ R : VK, R (.str y) H2 → te ((wipe σ vs).set i (some (.str y))) H2 R))
    (k : ∀ H', Same H1 H' → H' D = some (.lst ((xs.filter p).map V.str)) → Qd H') :
    ∃ W : Nat → Nat → Hp → Prop, (∃ m, W 0 m (upd H1 D (.lst []))) ∧ ∀ i' m H, W i' m H →
      ((Itl K a).stop i' H ∧ Qd H) ∨ ((Itl K a).go i' H ∧ ∃ Nx : Hp → Prop, (∀ H', Nx H' → ∃ m', m' < m ∧ W (i' + 1) m' H') ∧ ∀ x H', (Itl K a).yld i' H x H' → gName i x (wipe σ vs) H' fun σ2 H2 => wipe σ2 vs = wipe σ vs ∧ tt σ2 H2 fun b H3 =>
        if b = true then te σ2 H3 fun y H4 => ∃ acc, H4 D = some (.lst acc) ∧ acc.length < sizeLine ∧ Nx (upd H4 D (.lst (acc ++ [y]))) else Nx H3) := by
  refine lc_list (xs := xs.map V.str) (fun i' H => Same H1 H ∧ H D = some (.lst (((xs.take i').filter p).map V.str))) ⟨fun b o e => by rw [upd_ne (ne_of_none e nD)]; exact e, upd_same⟩ (fun _ H _ z => hl.ext z.1) ?_ ?_
  · rintro i' x H hx ⟨sm, hD⟩
    rw [List.getElem?_map] at hx
    cases hu : xs[i']? with
    | none => rw [hu] at hx; cases hx
    | some u =>
      rw [hu] at hx
      obtain rfl : V.str u = x := Option.some.inj hx
      obtain ⟨h1, h2⟩ := h u (List.mem_of_getElem? hu) H sm
      have et : xs.take (i' + 1) = xs.take i' ++ [u] := by rw [List.take_add_one, hu]; rfl
      refine ⟨hw _, h1 _ ?_⟩
      rw [et, List.filter_append]
      cases hp : p u with
      | false =>
        refine iteF ⟨sm, ?_⟩
        rw [hD, List.filter_cons_of_neg (by rw [hp]; decide), List.filter_nil, List.append_nil]
      | true =>
        refine iteT (h2 hp _ ⟨_, hD, ?_, fun b o e => by rw [upd_ne (ne_of_none e nD)]; exact sm b o e, ?_⟩)
        · have l1 := List.length_filter_le p (xs.take i')
          have l3 := List.length_take_le' i' xs
          rw [List.length_map]
          exact Nat.lt_of_le_of_lt (Nat.le_trans l1 l3) (Nat.lt_of_le_of_lt len (by decide))
        · rw [upd_same, List.filter_cons_of_pos hp, List.filter_nil, List.map_append]
          rfl
  · rintro H ⟨sm, hD⟩
    rw [List.length_map, List.take_length] at hD
    exact k H sm hD
/-- names that are much like a name -/
def nearL (x : Str) : List Str := [cutS x none (some (-1)), cutS (x ++ "a") none (some 8), cutS (x ++ "0") none (some 8), ("z" : Str) ++ cutS x (some 1) none]
theorem cd_butlast (x : Str) : cd (cutS x none (some (-1))) = (cd x).take ((cd x).length - 1) := by
  rw [cd_cutS, sIx_none, List.drop_zero, Nat.sub_zero]
  have : HT.sIx x.length x.length (some (-1)) = (cd x).length - 1 := by
    unfold HT.sIx
    rw [cd_len]
    show (if (-1 : Int) < 0 then _ else _) = _
    rw [if_pos (by decide)]
    omega
  rw [this]
theorem cd_rest (x : Str) : cd (cutS x (some 1) none) = (cd x).drop 1 := by
  rw [cd_cutS, sIx_none, show (some (1 : Int)) = some ((1 : Nat) : Int) from rfl, sIx_some, cd_len]
  by_cases h : 1 ≤ (cd x).length
  · rw [Nat.min_eq_left h]
    exact List.take_of_length_le (by rw [List.length_drop]; omega)
  · have e : cd x = [] := List.eq_nil_of_length_eq_zero (by omega)
    rw [e]
    rfl
theorem near_nm {x : Str} (h : IsNm x) : ∀ y ∈ nearL x, y ≠ "" → IsNm y := by
  have lx : 1 ≤ (cd x).length ∧ (cd x).length ≤ 8 := isNm_len h
  intro y hy ne
  simp only [nearL, List.mem_cons, List.not_mem_nil, or_false] at hy
  rcases hy with rfl | rfl | rfl | rfl
  · show isNm (cd _) = true
    rw [cd_butlast]
    refine isNm_take h ?_ (by have := lx.2; omega)
    refine Nat.one_le_iff_ne_zero.mpr fun e => ne (cd_inj ?_)
    rw [cd_butlast, e]
    rfl
  · show isNm (cd _) = true
    rw [show cutS (x ++ ("a" : Str)) none (some 8) = cutS (x ++ ("a" : Str)) none (some ((8 : Nat) : Int)) from rfl, cd_pre, cd_app]
    exact isNm_cut h (by decide +kernel) (by decide) (by decide)
  · show isNm (cd _) = true
    rw [show cutS (x ++ ("0" : Str)) none (some 8) = cutS (x ++ ("0" : Str)) none (some ((8 : Nat) : Int)) from rfl, cd_pre, cd_app]
    exact isNm_cut h (by decide +kernel) (by decide) (by decide)
  · show isNm (cd _) = true
    rw [cd_app, cd_rest]
    refine isNm_iff.mpr ⟨122, (cd x).drop 1, rfl, by decide, ?_, by rw [List.length_drop]; have := lx.2; omega⟩
    exact List.all_eq_true.mpr fun c hc => List.all_eq_true.mp (isNm_all h) c (List.mem_of_mem_drop hc)
theorem and_if (c d : Bool) : (c && d) = if c = true then d else false := by cases c <;> rfl
end RV
/-! written numbers and terms -/
namespace RV
open PySem L2
structure Cst2 (mg : Str → Option Value) : Prop where
  worth : ∃ u, mg "_PIECE_WORTH" = some u ∧ RelV (.int (10 ^ 64)) u
  piece : ∃ u, mg "_PIECE" = some u ∧ RelV (.int 64) u
def num (z : Int) : Str := Str.ofString (toString z)
/-- a written number of at most 64 digits -/
def sp_written : Sp := fun vs H Q _ => ∃ z : Int, vs = [.int z] ∧ 0 ≤ z ∧ z < 10 ^ 64 ∧ ∀ H', Same H H' → Q (.str (num z)) H'
theorem join_one (a x : Str) : Txt.join a [x] = x := by
  first | rfl | simp [Txt.join] | (unfold Txt.join; rfl)
def ab (z : Int) : Int := if z < 0 then -z else z
/-- a term without its sign -/
def wo (x : Str) (z : Int) : Str := if ab z = 1 then x else ((Str.empty ++ num (ab z)) ++ ("*" : Str)) ++ x
/-- a term that is not the first -/
def fu (q : Str × Int) : Str := (((Str.empty ++ (" " : Str)) ++ (if q.2 < 0 then ("-" : Str) else "+")) ++ (" " : Str)) ++ wo q.1 q.2
def fi (q : Str × Int) : Str := (if q.2 < 0 then ("-" : Str) else "") ++ wo q.1 q.2
def pieces : List (Str × Int) → List Str
  | [] => ["0"]
  | q :: qs => fi q :: qs.map fu
/-- the text of a sum -/
def txt (qs : List (Str × Int)) : Str := Txt.join "" (pieces qs)
theorem sl_app (a b : Str) : (a ++ b).length = a.length + b.length := by rw [cd_len, cd_app, List.length_append, ← cd_len, ← cd_len]
theorem ab_lt {z : Int} (h : z.natAbs < 10 ^ 64) : 0 ≤ ab z ∧ ab z < 10 ^ 64 := by
  unfold ab
  split <;> omega
theorem num_len {z : Int} (h : 0 ≤ z ∧ z < 10 ^ 64) : (num z).length ≤ 1921 := by
  refine PyProof.Rows.int_text_len_1921 ?_
  have q := PySem.Flt.log2_lt_of (n := z.natAbs) (k := 300) (by decide) (by omega)
  omega
theorem wo_len {x : Str} {z : Int} (hx : IsNm x) (hz : z.natAbs < 10 ^ 64) : (wo x z).length ≤ 2000 := by
  have lx : 1 ≤ (cd x).length ∧ (cd x).length ≤ 8 := isNm_len hx
  rw [← cd_len] at lx
  unfold wo
  split
  · omega
  · have h1 := num_len (ab_lt hz)
    have h2 : Str.length "*" = 1 := by decide +kernel
    have h3 : Str.length Str.empty = 0 := by decide +kernel
    rw [sl_app, sl_app, sl_app, h2, h3]
    omega
theorem sg_len (z : Int) : (if z < 0 then ("-" : Str) else "+").length ≤ 1 ∧ (if z < 0 then ("-" : Str) else "").length ≤ 1 := by
  have h1 : Str.length "-" = 1 := by decide +kernel
  have h2 : Str.length "+" = 1 := by decide +kernel
  have h3 : Str.length "" = 0 := by decide +kernel
  constructor <;> split <;> omega
theorem fu_len {q : Str × Int} (hx : IsNm q.1) (hz : q.2.natAbs < 10 ^ 64) : (fu q).length ≤ 2010 := by
  have h1 := wo_len hx hz
  have h2 : Str.length " " = 1 := by decide +kernel
  have h3 : Str.length Str.empty = 0 := by decide +kernel
  have h4 := (sg_len q.2).1
  unfold fu
  rw [sl_app, sl_app, sl_app, sl_app, h2, h3]
  omega
def sp_without : Sp := fun vs H Q _ => ∃ (x : Str) (z : Int), vs = [.str x, .int z] ∧ IsNm x ∧ z.natAbs < 10 ^ 64 ∧ ∀ H', Same H H' → Q (.str (wo x z)) H'
def sp_further : Sp := fun vs H Q _ => ∃ (q : Str × Int), vs = [.str q.1, .int q.2] ∧ IsNm q.1 ∧ q.2.natAbs < 10 ^ 64 ∧ ∀ H', Same H H' → Q (.str (fu q)) H'
def sp_wterms (K : PySem.W.Frag) : Sp := fun vs H Q _ => ∃ (t : Addr) (us : List TP), vs = [.ref t] ∧ SqT K H t (vP us) ∧ TPs K H us ∧ (∀ q ∈ prs us, IsNm q.1 ∧ q.2.natAbs < 10 ^ 64) ∧ us.length ≤ 100 ∧
  ∀ m H', Kp H [(m, .lst ((pieces (prs us)).map V.str))] H' → Q (.ref m) H'
def sp_text (C : Addr) : Sp := fun vs H Q _ => ∃ (a : Addr) (qs : List (Str × Int)), vs = [.ref a] ∧ SumR C H a qs ∧ (∀ q ∈ qs, IsNm q.1 ∧ q.2.natAbs < 10 ^ 64) ∧ qs.length ≤ 100 ∧ ∀ H', Same H H' → Q (.str (txt qs)) H'
/-- [f(x, z) for x, z in t], t a tuple of pairs; f may make things -/
theorem lc_pairsT {K : PySem.W.Frag} {a : Addr} {us : List TP} {i j : Nat} {te : TE} {vs : List Nat} {σ : L2.St} {H1 : Hp} {D : Addr} {Qd : Hp → Prop} (f : Str × Int → V)
    (hl : SqT K H1 a (vP us)) (ht : TPs K H1 us) (nD : H1 D = none) (len : us.length ≤ 1000) (hw : ∀ x y, wipe (((wipe σ vs).set i x).set j y) vs = wipe σ vs)
    (h : ∀ q ∈ prs us, ∀ H2, Same H1 H2 → ∀ R : VK, (∀ H3, Same H2 H3 → R (f q) H3) → te (((wipe σ vs).set i (some (.str q.1))).set j (some (.int q.2))) H2 R)
    (k : ∀ H', Same H1 H' → H' D = some (.lst ((prs us).map f)) → Qd H') :
    ∃ W : Nat → Nat → Hp → Prop, (∃ m, W 0 m (upd H1 D (.lst []))) ∧ ∀ i' m H, W i' m H →
      ((Itt K a).stop i' H ∧ Qd H) ∨ ((Itt K a).go i' H ∧ ∃ Nx : Hp → Prop, (∀ H', Nx H' → ∃ m', m' < m ∧ W (i' + 1) m' H') ∧ ∀ x H', (Itt K a).yld i' H x H' → gPr K i j x (wipe σ vs) H' fun σ2 H2 => wipe σ2 vs = wipe σ vs ∧ tYes σ2 H2 fun b H3 =>
        if b = true then te σ2 H3 fun y H4 => ∃ acc, H4 D = some (.lst acc) ∧ acc.length < sizeLine ∧ Nx (upd H4 D (.lst (acc ++ [y]))) else Nx H3) := by
  refine lc_tup (xs := vP us) (fun i' H => Same H1 H ∧ H D = some (.lst (((prs us).take i').map f))) ⟨fun b o e => by rw [upd_ne (ne_of_none e nD)]; exact e, upd_same⟩ (fun _ H _ z => hl.ext z.1) ?_ ?_
  · rintro i' x H hx ⟨sm, hD⟩
    rw [vP, List.getElem?_map] at hx
    cases hu : us[i']? with
    | none => rw [hu] at hx; cases hx
    | some u =>
      rw [hu] at hx
      obtain rfl : V.ref u.1 = x := Option.some.inj hx
      have hm : u ∈ us := List.mem_of_getElem? hu
      have et : (prs us).take (i' + 1) = (prs us).take i' ++ [u.2] := by
        rw [List.take_add_one, prs, List.getElem?_map, hu]
        rfl
      refine gPr_at ((ht u hm).ext sm) ⟨hw _ _, ?_⟩
      have e0 : ∀ (σ : L2.St) (H : Hp) (R : Bool → Hp → Prop), R true H → tYes σ H R := fun _ _ _ r => r
      refine e0 _ _ _ ?_
      simp only [↓reduceIte]
      refine h u.2 (List.mem_map.mpr ⟨u, hm, rfl⟩) H sm _ fun H3 s3 => ⟨_, s3 _ _ hD, ?_, fun b o e => ?_, ?_⟩
      · have l3 := List.length_take_le' i' (prs us)
        rw [prs_len] at l3
        rw [List.length_map]
        exact Nat.lt_of_le_of_lt l3 (Nat.lt_of_le_of_lt len (by decide))
      · rw [upd_ne (ne_of_none e nD)]
        exact s3 b o (sm b o e)
      · rw [upd_same, et, List.map_append]
        rfl
  · rintro H ⟨sm, hD⟩
    rw [vP_len, ← prs_len, List.take_length] at hD
    exact k H sm hD
end RV
/-! str(o) of an own class -/
namespace RV
open PySem L2 PyProof.Rows
section
variable {X : Cx} {C : Addr} {k : Nat} {sp : Sp}
def rStrO (C : Addr) (sp : Sp) : List V → Hp → VK → Prop := fun xs H Q => ∃ a dx fs, xs = [.ref a] ∧ H a = some (.ins C dx fs) ∧ sp [.ref a] H (fun v H' => ∃ y : Str, v = .str y ∧ Q (.str y) H') E0
theorem call_strO (h : OwnM X.prog X.w X.K X.mg X.base C "__str__" k sp) (hr : Room (k + 2) X.A) : CallR X (.type "str") (rStrO C sp) := by
  intro pins s σ H xs us Q I rx hq
  obtain ⟨a, dx, fs, rfl, ha, hsp⟩ := hq
  obtain ⟨f, fd, ps, hs, hf, _, hb, F⟩ := h
  obtain rfl : us = [.ref a] := Vals.ref1 rx
  obtain ⟨mA, J, _⟩ := ins_get I.hok ha
  obtain ⟨od, J, _⟩ := J.look
  refine PySem.W.kso_call (hr.in1.in1.units0) I.kIn J hs hf (wpAny_mono (call_owns (A := X.A.in1.in1) F hb hr.in1.in1 rfl I rx hsp) (fun r s' z => ?_) fun _ _ x => x)
  obtain ⟨v, H', I', rv, y, rfl, q⟩ := z
  obtain ⟨t, rfl⟩ := rv
  exact ⟨.str y, H', I', ⟨_, rfl⟩, q⟩
end
theorem pieces_sum {qs : List (Str × Int)} (h : ∀ q ∈ qs, IsNm q.1 ∧ q.2.natAbs < 10 ^ 64) : ((pieces qs).map (·.length)).sum ≤ 2010 * (qs.length + 1) := by
  have h1 : ∀ qs : List (Str × Int), (∀ q ∈ qs, IsNm q.1 ∧ q.2.natAbs < 10 ^ 64) → ((qs.map fu).map (·.length)).sum ≤ 2010 * qs.length := by
    intro qs
    induction qs with
    | nil => intro _; exact Nat.le_refl _
    | cons q qs ih =>
      intro h
      have a := fu_len (h q List.mem_cons_self).1 (h q List.mem_cons_self).2
      have b := ih fun r hr => h r (List.mem_cons_of_mem _ hr)
      simp only [List.map_cons, List.sum_cons, List.length_cons]
      omega
  cases qs with
  | nil => decide +kernel
  | cons q qs =>
    have a := wo_len (h q List.mem_cons_self).1 (h q List.mem_cons_self).2
    have b := h1 qs fun r hr => h r (List.mem_cons_of_mem _ hr)
    have c := (sg_len q.2).2
    simp only [pieces, List.map_cons, List.sum_cons, List.length_cons, fi, sl_app]
    omega
theorem pieces_length (qs : List (Str × Int)) : (pieces qs).length ≤ qs.length + 1 := by
  cases qs <;> simp [pieces]
end RV
/-! sums made -/
namespace RV
open PySem L2
theorem sum_make {K : PySem.W.Frag} {C x dx t : Addr} {us : List TP} {H1 : Hp} {Q : VK} {E : XK} (ht : TrmF K H1 t us) (nx : H1 x = none) (nd : H1 dx = none) (_ne : dx ≠ x)
    (k : ∀ (ds : List TP) (m dx' : Addr) H2, Mad (prs us) (prs ds) → Kp H1 (lS C x dx' m ds) H2 → Q (.ref x) H2) :
    Irr (sp_Sum K C) [.ref x, .ref t] (upd (upd H1 dx (.own x)) x (.ins C dx [])) (fun v H2 => v = .non ∧ Q (.ref x) H2) E := by
  have sm : Same H1 (upd (upd H1 dx (.own x)) x (.ins C dx [])) := fun b o e => by
    rw [upd_ne (ne_of_none e nx), upd_ne (ne_of_none e nd)]
    exact e
  refine irr ⟨x, dx, t, us, rfl, upd_same, ⟨ht.tp.ext sm, ht.ps.ext sm, ht.nm, ht.ln⟩, fun ds m dx' H2 md keep new here => ⟨rfl, k ds m dx' H2 md ⟨fun b o e => keep b o (ne_of_none e nx) (sm b o e), fun p hp => ⟨?_, here p hp⟩⟩⟩⟩
  rcases List.mem_cons.mp hp with rfl | hp
  · exact nx
  · have q := new p hp
    have h1 : p.1 ≠ x := fun e => by rw [e, upd_same] at q; cases q
    rw [upd_ne h1] at q
    have h2 : p.1 ≠ dx := fun e => by rw [e, upd_same] at q; cases q
    rwa [upd_ne h2] at q
theorem SumR.of {C x dx t : Addr} {us : List TP} {H : Hp} (h : ∀ p ∈ lS C x dx t us, H p.1 = some p.2) : SumR C H x (prs us) := ⟨dx, t, us, rfl, h⟩
/-- of two sums of terms with the same coefficients the pairs are the same -/
theorem Mad.same {qs qs' rs rs' : List (Str × Int)} (h : Mad qs rs) (h' : Mad qs' rs') (e : ∀ x, RV.co qs x = RV.co qs' x) : rs = rs' := h.nr.uniq h'.nr fun x => by rw [h.co, h'.co, e]
theorem Mad.tot {qs rs : List (Str × Int)} (h : Mad qs rs) {b : Nat} (hb : RV.tot qs ≤ b) : RV.tot rs ≤ 60 * b ∨ 60 < rs.length := by
  by_cases hl : rs.length ≤ 60
  · left
    have h1 : ∀ ts : List (Str × Int), (∀ q ∈ ts, q.2.natAbs ≤ b) → RV.tot ts ≤ ts.length * b := by
      intro ts
      induction ts with
      | nil => intro _; exact Nat.zero_le _
      | cons t ts ih =>
        intro h
        have a := h t List.mem_cons_self
        have c := ih fun r hr => h r (List.mem_cons_of_mem _ hr)
        have e : RV.tot (t :: ts) = t.2.natAbs + RV.tot ts := rfl
        rw [e, List.length_cons, Nat.succ_mul]
        omega
    refine Nat.le_trans (h1 rs fun q hq => ?_) (Nat.mul_le_mul_right b hl)
    have := h.nr.co hq
    rw [← this, h.co]
    exact Nat.le_trans (co_le qs q.1) hb
  · right
    omega
end RV
/-! an int == an own object: the class's own == answers -/
namespace PySem
open AutoSeq1 (wpAny_loadPart')
set_option maxHeartbeats 4000000 in
theorem rv_int_eq_inst (b : Int) (u : Tok) (l C dx : Addr) :
    Meets (Builtin.«int.__eq__» ⟨[.int b u, .ref l], []⟩) (fun _ R s => s.heap.get? l = some (PySem.W.instObj C dx) ∧ R (.ok (.ret .notImplemented)) s) :=
  .of_wp fun prog w A R s h => by
    obtain ⟨hp, g, d, tk, os⟩ := s
    obtain ⟨hl, h⟩ := h
    unfold PySem.W.instObj at hl
    wp_walk using wpAny_loadPart' hl, wpAny_load hl
    exact ⟨_, rfl, h⟩
end PySem
namespace RV
open PySem L2 PyProof.Rows
section
variable {prog : Program} {w : World} {A : Around} {E : Value → Shared → Prop} {s : Shared} {K : PySem.W.Frag} {x C dx L f : Addr} {h₀ : Heap} {m : Str → Option Value} {od : Option Obj} {i : Int} {t : Tok}
open PySem.W in
theorem rv_eqI_K {Q : Value → Shared → Prop} (hu : A.units < cLine) (F : Fr h₀ L s.heap m) (X₀ : K.In h₀) (I : InstAt s.heap x (PySem.W.instObj C dx) C od) (hC : subIn K (.ref C) (.type "int") = some false)
    (hs : findIn K (.ref C) "__eq__" = some (some (.ref f))) (hf : isFn K (.ref f) = true) (h : wpAny (model prog w) A (call (.ref f) [.ref x, .int i t]) (PySem.W.CmpBack Q) E s) : wpAny (model prog w) A (richCompare .Eq (.int i t) (.ref x)) Q E s := by
  have X := X₀.keeps F.keep
  have one : wpAny (model prog w) A (tryCompare (.ref x) (cmpInfo .Eq).2.2 (.int i t)) (fun r s' => ∃ v, r = some v ∧ Q v s') E s := by
    unfold tryCompare
    refine wpAny_bind (ifBound_K X I hs hf (wpAny_mono h (fun v s' hv => ?_) fun _ _ e => e))
    cases v <;> first | exact hv.elim | exact wpAny_pure ⟨_, rfl, hv⟩
  have decl : wpAny (model prog w) A (tryCompare (.int i t) (cmpInfo .Eq).2.1 (.ref x)) (fun r s' => r = none ∧ s' = s) E s :=
    wpAny_tryCompare_declines (Q := fun r s' => r = none ∧ s' = s) (typeIs_int _ _ _) PySem.F.slot_int_eq (call_meets PySem.F.slot_int_eq (typeIs_int _ _ _) PySem.F.entry_int_eq (PySem.F.args_int_eq_2 _ _) (PySem.rv_int_eq_inst i t x C dx) ⟨I.at_, rfl, rfl, rfl⟩)
  unfold richCompare
  refine wpAny_holding (wpAny_bind (wpAny_cRoomFor hu ?_))
  have o1 : oneThing? .Eq (.int i t) (.ref x) = none := rfl
  simp only [o1]
  refine wpAny_bind (wpAny_typeOf (typeIs_int _ _ _) (wpAny_bind (I.type.here ?_)))
  rw [if_pos (show (Value.type "int" != Value.ref C) = true from rfl)]
  refine wpAny_bind ((looks_subIn X hC).here ?_)
  simp only [Bool.false_eq_true, if_false]
  refine wpAny_bind (wpAny_mono decl (fun r s' z => ?_) fun _ _ e => e)
  obtain ⟨rfl, rfl⟩ := z
  simp only [Bool.not_false, if_true]
  refine wpAny_bind (wpAny_mono one (fun r s' z => ?_) fun _ _ e => e)
  obtain ⟨v, rfl, hq⟩ := z
  exact wpAny_pure hq
end
section
variable {X : Cx} {C : Addr} {k : Nat} {sp : Sp}
/-- i == o -/
def rEqI (C : Addr) (sp : Sp) : R2 := fun x y H Q => ∃ (i : Int) (a dx : Addr) (fs : List (Str × V)), x = .int i ∧ y = .ref a ∧ H a = some (.ins C dx fs) ∧ sp [.ref a, .int i] H (fun v H' => ∃ b, v = .bl b ∧ Q (.bl b) H') E0
theorem op_eqI (h : OwnM X.prog X.w X.K X.mg X.base C "__eq__" k sp) (hC : PySem.W.subIn X.K (.ref C) (.type "int") = some false) (hr : Room k X.A) : OpR X (compareOp .Eq) (rEqI C sp) := by
  intro pins s σ H x y v u Q I rx ry hq
  obtain ⟨i, a, dx, fs, rfl, rfl, ha, hsp⟩ := hq
  obtain ⟨f, fd, ps, hs, hf, _, hb, F⟩ := h
  have rx' := rx
  have ry' := ry
  cases ry
  obtain ⟨t, rfl⟩ := rx
  obtain ⟨mA, J, _⟩ := ins_get I.hok ha
  obtain ⟨od, J, _⟩ := J.look
  obtain ⟨m, hF⟩ := I.fr
  show wpAny (model X.prog X.w) X.A (richCompare .Eq (.int i t) (.ref a)) (EP X pins σ Q) X.xe s
  refine rv_eqI_K hr.units0 hF I.ok.mod.kin J hC hs hf (wpAny_mono (call_owns F hb hr rfl I (.cons ry' (.cons rx' .nil)) hsp) (fun r s' z => ?_) fun _ _ x => x)
  obtain ⟨v, H', I', rv, b, rfl, q⟩ := z
  cases rv
  exact ⟨.bl b, H', I', rfl, q⟩
end
end RV
namespace RV
open PySem L2
def sp_rightS : Sp := fun vs H Q _ => ∃ (a : Addr) (n : Nat), vs = [.ref a] ∧ WellAt H a n ∧ n < 500000 ∧ ∀ H', Grow a H H' → WellAt H' a (n + 3000) → Q (.bl true) H'
def gS (vs zs : List V) : List V := match vs, zs with
  | [x], [t] => [x, t]
  | _, _ => []
/-- what sums and other values are to each other -/
structure SKinds (K : PySem.W.Frag) (C : Addr) : Prop where
  sI : PySem.W.subIn K (.ref C) (.type "int") = some false
  nS : PySem.W.notFirst K C (.ref C) = true
  nT : PySem.W.notFirst K C (.type "tuple") = true
  nX : PySem.W.notFirst K C (.type "str") = true
  nN : PySem.W.notFirst K C (.type "NoneType") = true
  kT : PySem.W.kitOne K (.type "tuple") (.ref C) = some false
  kX : PySem.W.kitOne K (.type "str") (.ref C) = some false
  kN : PySem.W.kitOne K (.type "NoneType") (.ref C) = some false
  kI : PySem.W.kitOne K (.type "int") (.ref C) = some false
section
variable {K : PySem.W.Frag} {C a : Addr} {H : Hp} {Q : VK} {neg : Bool} {qs rs : List (Str × Int)} {y : V} {t : Value}
theorem SumR.ins (h : SumR C H a qs) : ∃ dx fs, H a = some (.ins C dx fs) := by
  obtain ⟨dx, t, us, _, k⟩ := h
  exact ⟨dx, _, k _ List.mem_cons_self⟩
/-- == and != of two sums -/
theorem eqS_sum {b : Addr} (ha : SumR C H a qs) (hb : SumR C H b rs) (na : ∀ q ∈ qs, IsNm q.1) (nb : ∀ q ∈ rs, IsNm q.1) (SK : SKinds K C) (r : Bool) (hr : decide (qs = rs) = r) (q : Q (.bl (if neg then !r else r)) H) : rEqO neg K C (sp_eqS K C) (.ref a) (.ref b) H Q := by
  obtain ⟨dx, fs, ea⟩ := ha.ins
  obtain ⟨dy, gs, eb⟩ := hb.ins
  unfold rEqO
  exact ⟨a, dx, fs, .ref C, rfl, ea, .ins eb, SK.nS, a, .ref b, qs, rfl, ha, na, .inl ⟨b, rs, rfl, hb, nb, _, rfl, by rw [hr]; exact q⟩⟩
/-- of a sum and a value of another kind -/
theorem eqS_other (ha : SumR C H a qs) (na : ∀ q ∈ qs, IsNm q.1) (ty : TyL H y t) (tx : TyX K H y t) (nf : PySem.W.notFirst K C t = true) (kt : PySem.W.kitOne K t (.ref C) = some false) (q : Q (.bl neg) H) : rEqO neg K C (sp_eqS K C) (.ref a) y H Q := by
  obtain ⟨dx, fs, ea⟩ := ha.ins
  unfold rEqO
  refine ⟨a, dx, fs, t, rfl, ea, ty, nf, a, y, qs, rfl, ha, na, .inr ⟨t, tx, kt, false, rfl, ?_⟩⟩
  cases neg <;> exact q
end
end RV
/-! a ledger in parts; steps of the sums' own methods over it -/
namespace RV
open PySem L2
abbrev lT (l : Addr) (us : List TP) : List (Addr × HO) := (l, .lst (vP us)) :: lP us
/-- pairs that a sum shows -/
structure Due (qs : List (Str × Int)) : Prop where
  nr : Nrm qs
  nm : ∀ q ∈ qs, IsNm q.1
  tt : tot qs ≤ 10 ^ 45
  ln : qs.length ≤ 60
section
variable {K : PySem.W.Frag} {C a l x dx m t : Addr} {n n' : Nat} {L L' L2 : List (Addr × HO)} {H0 H H' : Hp} {us ds : List TP} {Q : VK} {E : XK}
theorem Has.lft (h : Has H0 a n (L ++ L') H) : Has H0 a n L H := h.sub fun _ hp => List.mem_append_left _ hp
theorem Has.rgt (h : Has H0 a n (L ++ L') H) : Has H0 a n L' H := h.sub fun _ hp => List.mem_append_right _ hp
theorem Has.sL (h : Has H0 a n (lT l us) H) : SqL K H l (vP us) := SqL.of (h.at List.mem_cons_self)
theorem Has.sP (h : Has H0 a n (lT l us) H) : TPs K H us := TPs.of h fun _ hp => List.mem_cons_of_mem _ hp
theorem Has.sS (h : Has H0 a n (lS C x dx t ds) H) : SumR C H x (prs ds) := SumR.of fun _ hp => h.at hp
theorem Has.thn (h : Has H0 a n L H) (h' : Has H a n' L2 H') : Has H0 a n' (L2 ++ L) H' :=
  ⟨h.gr.trans h'.gr, h'.well, fun p hp => (List.mem_append.mp hp).elim (h'.here p) fun z => (h.grow h'.gr h'.well).here p z⟩
theorem Has.tup (h : Has H0 a n L H) {xs : List V} (np : H m = none) : Has H0 a n L (upd H m (.tup xs)) := (h.new np).sub fun _ hp => List.mem_cons_of_mem _ hp
theorem Sum_step {R : Hp → Prop} (h : Has H0 a n L H) (ht : Trm K H t us) (nx : H x = none) (nd : H dx = none) (ne : dx ≠ x)
    (k : ∀ (ds : List TP) (m dx' : Addr) H2, Mad (prs us) (prs ds) → Has H0 a n (lS C x dx' m ds ++ L) H2 → R H2) :
    Irr (sp_Sum K C) [.ref x, .ref t] (upd (upd H dx (.own x)) x (.ins C dx [])) (fun v H2 => v = .non ∧ R H2) E :=
  sum_make (Q := fun _ => R) ht.few nx nd ne fun ds m dx' H2 md kp => k ds m dx' H2 md (h.kp kp)
theorem Sum_kp {R : Hp → Prop} (ht : Trm K H t us) (nx : H x = none) (nd : H dx = none) (ne : dx ≠ x)
    (k : ∀ (ds : List TP) (m dx' : Addr) H2, Mad (prs us) (prs ds) → Kp H (lS C x dx' m ds) H2 → R H2) :
    Irr (sp_Sum K C) [.ref x, .ref t] (upd (upd H dx (.own x)) x (.ins C dx [])) (fun v H2 => v = .non ∧ R H2) E := sum_make (Q := fun _ => R) ht.few nx nd ne k
theorem Sum_kpF {R : Hp → Prop} (ht : TrmF K H t us) (nx : H x = none) (nd : H dx = none) (ne : dx ≠ x)
    (k : ∀ (ds : List TP) (m dx' : Addr) H2, Mad (prs us) (prs ds) → Kp H (lS C x dx' m ds) H2 → R H2) :
    Irr (sp_Sum K C) [.ref x, .ref t] (upd (upd H dx (.own x)) x (.ins C dx [])) (fun v H2 => v = .non ∧ R H2) E := sum_make (Q := fun _ => R) ht nx nd ne k
theorem merged_step (h : Has H0 a n L H) (hl : SqL K H l (vP us)) (ht : TPs K H us) (hn : us.length ≤ 120)
    (k : ∀ (ds : List TP) (m : Addr) H', Mad (prs us) (prs ds) → Has H0 a n (lT m ds ++ L) H' → Q (.ref m) H') : Irr (sp_merged K) [.ref l] H Q E :=
  irr ⟨l, us, rfl, hl, ht, hn, fun ds m H' n1 n2 n3 n4 kp => k ds m H' ⟨n1, n2, n3, by rw [prs_len, prs_len]; exact n4⟩ (h.kp kp)⟩
theorem parted_step (h : Has H0 a n L H) (hn : n < 600000) (hl : ∀ p ∈ lT l us, p ∈ L) (hlen : us.length ≤ 20)
    (k : ∀ (vs : List TP) (m : Addr) H', Oth us vs → Has H0 a (n + 1000) (lT m vs ++ L) H' → Q (.ref m) H') : Irr sp_parted [.ref a, .ref l] H Q E :=
  irr ⟨a, l, n, us, rfl, h.well, hn, hlen, fun p hp => h.here p (hl p hp), fun vs m H' o _ h' => k vs m H' o (h.thn h')⟩
theorem shows_step (h : Has H0 a n L H) (hs : SumR C H x (prs ds)) (hl : SqL K H l (vP ds)) (ht : TPs K H ds) (d : Due (prs ds)) (k : ∀ H', Has H0 a n L H' → Q (.bl true) H') : Irr (sp_shows K C) [.ref x, .ref l] H Q E :=
  irr ⟨x, l, ds, rfl, hs, hl, ht, d.nr, d.nm, d.tt, by rw [← prs_len]; exact d.ln, fun H' s => k H' (h.same s)⟩
theorem text_step {qs : List (Str × Int)} (h : Has H0 a n L H) (hs : SumR C H x qs) (d : Due qs) (k : ∀ H', Has H0 a n L H' → Q (.str (txt qs)) H') : Irr (sp_text C) [.ref x] H Q E :=
  irr ⟨x, qs, rfl, hs, fun q hq => ⟨d.nm q hq, Nat.lt_of_le_of_lt (tot_mem hq) (Nat.lt_of_le_of_lt d.tt (by decide))⟩, Nat.le_trans d.ln (by decide), fun H' s => k H' (h.same s)⟩
theorem Mad.due {qs rs : List (Str × Int)} (h : Mad qs rs) (hn : ∀ q ∈ qs, IsNm q.1) (hl : qs.length ≤ 60) (ht : RV.tot qs ≤ 10 ^ 42) : Due rs := by
  refine ⟨h.nr, fun q hq => ?_, ?_, Nat.le_trans h.ln hl⟩
  · obtain ⟨r, hr, e⟩ := List.mem_map.mp (h.nm q hq)
    exact e ▸ hn r hr
  · rcases h.tot ht with z | z
    · exact Nat.le_trans z (by decide)
    · exact absurd (Nat.le_trans h.ln hl) (by omega)
end
theorem big_tot {qs : List (Str × Int)} {m : Nat} (h : (tot qs : Int) ≤ big * 2 ^ m) (hm : m ≤ 20) : tot qs ≤ 10 ^ 41 := by
  have h1 : big * 2 ^ m ≤ big * 2 ^ 20 := Int.mul_le_mul_of_nonneg_left (p2_le hm) (by decide)
  have h2 : big * 2 ^ 20 ≤ 10 ^ 41 := by decide
  omega
theorem shaped_pairsL {qs : List (Str × Int)} (h : ∀ q ∈ qs, IsNm q.1) : SeqAt.shaped (.list (qs.map dq)) = true := by
  have := shaped_pairs h
  simpa [SeqAt.shaped, dQ, PyData.canLay0, PyData.depth] using this
theorem eqv_nilL (qs : List (Str × Int)) : PyData.eqv (.list (qs.map dq)) (.list []) = decide (qs = []) := by
  cases qs <;> simp [PyData.eqv, PyData.eqvAll]
/-- the i-th of the pairs -/
theorem at_pair {us : List TP} {r : Int} (r0 : 0 ≤ r) (r1 : r < us.length) : ∃ u ∈ us, atI (vP us) r = some (V.ref u.1) := by
  obtain ⟨i, rfl⟩ := Int.eq_ofNat_of_zero_le r0
  have hi : i < us.length := by omega
  exact ⟨us[i], List.getElem_mem hi, atI_nat (by rw [vP, List.getElem?_map, List.getElem?_eq_getElem hi]; rfl)⟩
/-- C() without arguments -/
theorem pe_mkZ {X : Cx} {x : Str} {C : Addr} {k : Nat} {sp : Sp} {dvs : List V} {p pos : Pos} (h : Mkr X.prog X.w X.K X.mg X.base x C k sp dvs) (hr : Room (k + 1) X.A) (hg : Gl X x := by rfl) (hdb : (x == ("__debug__" : Str)) = false := by decide) : PE X (.Call (.Name x p) [] [] pos) (tMake C sp dvs E0 tNil) := by
  obtain ⟨hm, f, fd, ps, ds, M, hb, hd, F⟩ := h
  exact pe_make0 M F hr hg hm hb hd pass0 hdb
end RV
/-! rpartition; xs[i::2]; a class in a slot, called; class methods -/
namespace RV
open PySem L2 PyProof.Rows Builtin TL
section
variable {X : Cx} {pins : List (Addr × Obj)} {σ : L2.St} {H : Hp} {s : Shared}
theorem mt_rpartition : MtR X "str.rpartition" (fun x xs H Q => ∃ a b, x = .str a ∧ xs = [.str b] ∧ (b.length == 0) = false ∧ a.length ≤ sizeLine ∧
    ∀ p, H p = none → Q (.ref p) (upd H p (.tup [.str (Txt.rpartition a b).1, .str (Txt.rpartition a b).2.1, .str (Txt.rpartition a b).2.2]))) := by
  intro pins s σ H x xs v us Q I rx rs h
  obtain ⟨a, b, rfl, rfl, hb, hz, h⟩ := h
  obtain ⟨t, rfl⟩ := rx
  cases rs with
  | cons r1 rs =>
    cases rs
    obtain ⟨u, rfl⟩ := r1
    refine call_meets PySem.F.slot_str_rpartition (typeIs_str _ _ _) PySem.F.entry_str_rpartition (PySem.F.args_str_rpartition_2 _ _) (meets_str_rpartition a b t u hb hz) ?_
    unfold Txt.rpartition at h
    revert h
    cases Builtin.Str.lastOccurrence a b 0 a.length with
    | none => intro h; exact laid_parts I h
    | some i => intro h; exact laid_parts I h
theorem pe_rpartition {o e : Expr} {to te : TE} {apos pos : Pos} (ho : PE X o to) (he : PE X e te) (hs : starEach [e] X.env = [(false, eval e X.env)] := by rfl) (hbase : attributeBase o "rpartition" X.env (eval o X.env) = eval o X.env := by rfl) (hline : (apos.endLine == pos.line) = true := by rfl) :
    PE X (.Call (.Attribute o "rpartition" apos) [e] [] pos) (tM1 (fun x xs H Q => ∃ a b, x = .str a ∧ xs = [.str b] ∧ (b.length == 0) = false ∧ a.length ≤ sizeLine ∧
      ∀ p, H p = none → Q (.ref p) (upd H p (.tup [.str (Txt.rpartition a b).1, .str (Txt.rpartition a b).2.1, .str (Txt.rpartition a b).2.2]))) to te) :=
  pe_m1 PySem.F.slot_str_rpartition PySem.F.type_str_rpartition mt_rpartition ho he hs hbase hline
theorem cd_tl (x : Str) : cd x = tl x := rfl
/-- a text cut at its last separator -/
theorem rpart_app {y : Str} {s : Nat} (ey : tl y = [s]) {a b : Str} (h : s ∉ tl b) : Txt.rpartition (a ++ y ++ b) y = (a, y, b) := by
  have hy : tl y ≠ [] := by rw [ey]; simp
  have el : y.length = 1 := by rw [len_tl, ey]; rfl
  have ex : tl (a ++ y ++ b) = tl a ++ (s :: tl b) := by rw [tl_append, tl_append, ey, List.append_assoc]; rfl
  have xl : (a ++ y ++ b).length = (tl a).length + (1 + (tl b).length) := by rw [len_tl, ex, List.length_append, List.length_cons]; omega
  have atA : StrLaws.At (a ++ y ++ b) y (a ++ y ++ b).length (tl a).length := (at_iff hy _).mpr (by
    rw [ex, List.drop_left, ey]
    simp [pre])
  have notB : ∀ k, (tl a).length < k → ¬ StrLaws.At (a ++ y ++ b) y (a ++ y ++ b).length k := fun k hk z => by
    have q := (at_iff hy k).mp z
    obtain ⟨j, rfl⟩ : ∃ j, k = (tl a).length + (j + 1) := ⟨k - (tl a).length - 1, by omega⟩
    rw [ex, List.drop_append, List.drop_eq_nil_of_le (by omega), List.nil_append, show (tl a).length + (j + 1) - (tl a).length = j + 1 by omega, List.drop_succ_cons, ey] at q
    cases e : (tl b).drop j with
    | nil => rw [e] at q; simp [pre] at q
    | cons c r =>
      rw [e] at q
      simp only [pre] at q
      have hc : c = s := by simpa using q
      subst hc
      exact h (List.mem_of_mem_drop (i := j) (by rw [e]; exact List.mem_cons_self))
  rcases StrLaws.last_spec (a ++ y ++ b) y with ⟨_, n⟩ | ⟨i, e, h1, h2⟩
  · exact absurd atA (n _)
  · have hi : i = (tl a).length := by
      rcases Nat.lt_trichotomy i (tl a).length with q | q | q
      · exact absurd atA (h2 _ q)
      · exact q
      · exact absurd h1 (notB _ q)
    subst hi
    unfold Txt.rpartition
    rw [e]
    dsimp only
    refine Prod.ext (cd_inj ?_) (Prod.ext rfl (cd_inj ?_))
    · show tl (Builtin.Str.strSub _ _ _) = tl a
      rw [tl_strSub, ex, List.drop_zero, Nat.sub_zero, List.take_left]
    · show tl (Builtin.Str.strSub _ _ _) = tl b
      rw [tl_strSub_end, ex, el, List.drop_append, List.drop_eq_nil_of_le (by omega), List.nil_append, show (tl a).length + 1 - (tl a).length = 1 by omega, List.drop_succ_cons, List.drop_zero]
theorem rpart_none {y : Str} {s : Nat} (ey : tl y = [s]) {a : Str} (h : s ∉ tl a) : Txt.rpartition a y = (Str.empty, Str.empty, a) := by
  have hy : tl y ≠ [] := by rw [ey]; simp
  rcases StrLaws.last_spec a y with ⟨e, _⟩ | ⟨i, e, h1, _⟩
  · unfold Txt.rpartition
    rw [e]
  · have q := (at_iff hy i).mp h1
    rw [ey] at q
    cases e2 : (tl a).drop i with
    | nil => rw [e2] at q; simp [pre] at q
    | cons c r =>
      rw [e2] at q
      simp only [pre] at q
      have hc : c = s := by simpa using q
      subst hc
      exact absurd (List.mem_of_mem_drop (i := i) (by rw [e2]; exact List.mem_cons_self)) h
end
/-! ### every other item of a list -/
def step2 {α : Type} (i : Nat) (xs : List α) : List α := (sliceRange (min i xs.length : Nat) xs.length 2).filterMap (xs[·]?)
theorem vals_at : ∀ {xs : List V} {us : List Value}, Vals xs us → ∀ j : Nat, (xs[j]? = none ∧ us[j]? = none) ∨ ∃ x u, xs[j]? = some x ∧ us[j]? = some u ∧ RelV x u
  | _, _, .nil, j => .inl ⟨rfl, rfl⟩
  | _, _, .cons a r, 0 => .inr ⟨_, _, rfl, rfl, a⟩
  | _, _, .cons a r, j + 1 => by simpa using vals_at r j
theorem vals_pick {xs : List V} {us : List Value} (r : Vals xs us) : ∀ js : List Nat, Vals (js.filterMap (xs[·]?)) (js.filterMap (us[·]?))
  | [] => .nil
  | j :: js => by
    rcases vals_at r j with ⟨e1, e2⟩ | ⟨x, u, e1, e2, a⟩
    · rw [List.filterMap_cons_none e1, List.filterMap_cons_none e2]
      exact vals_pick r js
    · rw [List.filterMap_cons_some e1, List.filterMap_cons_some e2]
      exact .cons a (vals_pick r js)
def tSl2 (K : PySem.W.Frag) (i : Nat) (te : TE) : TE := fun σ H Q => te σ H fun x H1 => ∃ a xs, x = .ref a ∧ SqL K H1 a xs ∧ ∀ p, H1 p = none → Q (.ref p) (upd H1 p (.lst (step2 i xs)))
theorem pe_sl2 {X : Cx} {e : Expr} {te : TE} {i k1 k2 : Nat} {p1 p2 p3 pos : Pos} (he : PE X e te) : PE X (.Subscript e (.Slice (some (.Constant (.int (i : Nat)) k1 p1)) none (some (.Constant (.int 2) k2 p2)) p3) pos) (tSl2 X.K i te) := by
  refine ⟨fun pins s σ H Q I h => ?_⟩
  refine Subscript_ (thn (he.run pins s σ H _ I h) fun v s1 ⟨x, H1, I1, r1, q1⟩ => ?_)
  obtain ⟨a, xs, ex, hx, q⟩ := q1
  subst ex
  cases r1
  have hlo : PO X (some (.Constant (.int (i : Nat)) k1 p1)) (tPart (tC (.int (i : Nat)))) := po_some pe_int
  have hst : PO X (some (.Constant (.int 2) k2 p2)) (tPart (tC (.int 2))) := po_some pe_int
  refine wpAny_Slice (thn (hlo.run pins s1 σ H1 (fun o H2 => o = some (i : Int) ∧ H2 = H1) I1 ⟨_, rfl, rfl, rfl⟩) fun vl s2 ⟨l, H2, I2, pl, el, e2⟩ => ?_)
  subst el e2
  refine thn (po_none.run pins s2 σ H2 (fun o H3 => o = none ∧ H3 = H2) I2 ⟨rfl, rfl⟩) fun vu s3 ⟨u, H3, I3, pu, eu, e3⟩ => ?_
  subst eu e3
  refine thn (hst.run pins s3 σ H3 (fun o H4 => o = some 2 ∧ H4 = H3) I3 ⟨_, rfl, rfl, rfl⟩) fun vs s4 ⟨o, H4, I4, ps, eo, e4⟩ => ?_
  subst eo e4
  have I5 : Inv X pins σ H4 { s4 with heap := s4.heap.push { cls := .type "slice", data := .fields #[vl, vu, vs] } } := I4.kept (t' := s4.toks) fun b ob q => Heap.get?_push_of_some _ q
  obtain ⟨its, r, ht, hz⟩ := I5.list hx
  have hlen := r.length
  show wpAny (model X.prog X.w) X.A (subscriptTail e (.Slice (some (.Constant (.int (i : Nat)) k1 p1)) none (some (.Constant (.int 2) k2 p2)) p3) (.ref a) (.ref s4.heap.objs.size)) (EP X pins σ Q) X.xe { s4 with heap := s4.heap.push { cls := .type "slice", data := .fields #[vl, vu, vs] } }
  refine tail_any (ops := [.ref a, .ref s4.heap.objs.size]) ht.isList.typeIs (PySem.slot_list_getitem.lookup) ?_ (by with_unfolding_all rfl)
  refine wpAny_getItem_list_slice ht.isList (Heap.IsSliceOf.new _ vl vu vs) pl pu ps (by decide) ?_ (by rw [List.size_toArray]; omega)
  have e : slicePick its.toArray (some (i : Int)) none (some 2) = (step2 i its).toArray := by
    unfold slicePick step2
    have b : sliceBounds (some (i : Int)) none (some 2) its.toArray.size = (((min i its.length : Nat) : Int), (its.length : Int), 2) := by
      simp only [sliceBounds, Option.getD_some, List.size_toArray]
      have h0 : ¬ (i : Int) < 0 := by omega
      simp only [h0, if_false, show (2 : Int) > 0 by decide, if_true]
      congr 1
      omega
    rw [b]
    simp
  rw [e]
  have hl2 : (step2 i xs).length ≤ sizeLine := by
    refine Nat.le_trans (List.length_filterMap_le _ _) ?_
    unfold sliceRange
    rw [List.length_map, List.length_range]
    simp only [show (2 : Int) > 0 by decide, if_true]
    split <;> omega
  refine ⟨.ref _, _, I5.laid (t' := s4.toks) (o := .lst (step2 i xs)) (fun b ob q => Heap.get?_push_of_some _ q) (Nat.le_refl _) ?_, rfl, q _ (I5.hok.fresh (Nat.le_refl _))⟩
  refine ⟨hl2, _, 0, ?_, Heap.get?_push_size _ rfl⟩
  unfold step2
  rw [hlen]
  exact vals_pick r _
/-! ### a class in a slot -/
theorem pe_mkL {X : Cx} {C : Addr} {k i : Nat} {sp : Sp} {dvs : List V} {x y : Str} {p pos : Pos} {e : Expr} {es : List Expr} {t : TA} (h : Mkr X.prog X.w X.K X.mg X.base y C k sp dvs) (hr : Room (k + 1) X.A) (hN : X.N[i]? = some x) (hv : Vis X.env.scope x) (ha : PA X (e :: es) t)
    (hdb : (x == ("__debug__" : Str)) = false := by decide) (hcd : (x == ("__classdict__" : Str)) = false := by decide)
    (he : starEach (e :: es) X.env = (false, eval e X.env) :: starEach es X.env := by rfl) (hpl : (backTo pos (starEach es X.env)).any (·.1) = false := by rfl) : PE X (.Call (.Name x p) (e :: es) [] pos) (fun σ H Q => σ[i]? = some (some (.ref C)) ∧ tMake C sp dvs E0 t σ H Q) := by
  obtain ⟨_, f, fd, ps, ds, M, hb, hd, F⟩ := h
  refine ⟨fun pins s σ H Q I h => ?_⟩
  obtain ⟨hs, ht⟩ := h
  refine wpAny_Call_Name_kw (thn ((pe_var (pos := p) hN hv hdb hcd).run pins s σ H (fun v H1 => v = .ref C ∧ H1 = H) I ⟨.ref C, hs, rfl, rfl⟩) fun u s1 ⟨v, H1, I1, r1, q1⟩ => ?_)
  obtain ⟨rfl, rfl⟩ := q1
  cases r1
  refine PySem.W.callWith_K (h₀ := X.base) I.ok.mod.kin M.kp (thn (ha.run pos pins s1 σ _ _ I1 ht) fun us s2 ⟨vs, H2, I2, r, q⟩ => ⟨I2.kIn, ?_⟩) he hpl
  exact run_make M F hr hb hd pass0 I2 r q
end RV
/-! class methods; repr of a text; texts of sums, cut again -/
namespace RV
open PySem L2 PyProof.Rows ClX
/-- the class C has a class method m that promises sp -/
def ClsM (P : Program) (w : World) (K : PySem.W.Frag) (mg : Str → Option Value) (base : Heap) (C : Addr) (m : Str) (k : Nat) (ps : List Str) (sp : Sp) : Prop :=
  ∃ mc p g fd, CRead K C mc ∧ CMet K C mc m p g ∧ Binds K fd ps [] ∧ FnOk P w K mg base CX0 k g fd ps sp
/-- .. called by keywords -/
def ClsMK (P : Program) (w : World) (K : PySem.W.Frag) (mg : Str → Option Value) (base : Heap) (C : Addr) (m : Str) (k : Nat) (ks : List Str) (sp : Sp) (gV : List V → List V → List V) : Prop :=
  ∃ mc p g fd ps gg, CRead K C mc ∧ CMet K C mc m p g ∧ KBn K fd ps 1 ks gg gV ∧ FnOk P w K mg base CX0 k g fd ps sp
theorem ClsM.irr {P : Program} {w : World} {K : PySem.W.Frag} {mg : Str → Option Value} {base : Heap} {C : Addr} {m : Str} {k : Nat} {ps : List Str} {sp : Sp} (h : ClsM P w K mg base C m k ps sp) : ClsM P w K mg base C m k ps (Irr sp) := by
  obtain ⟨mc, p, g, fd, a, b, c, F⟩ := h
  exact ⟨mc, p, g, fd, a, b, c, F.imp fun _ _ _ _ z => irr_of z⟩
theorem ClsMK.irr {P : Program} {w : World} {K : PySem.W.Frag} {mg : Str → Option Value} {base : Heap} {C : Addr} {m : Str} {k : Nat} {ks : List Str} {sp : Sp} {gV : List V → List V → List V} (h : ClsMK P w K mg base C m k ks sp gV) : ClsMK P w K mg base C m k ks (Irr sp) gV := by
  obtain ⟨mc, p, g, fd, ps, gg, a, b, c, F⟩ := h
  exact ⟨mc, p, g, fd, ps, gg, a, b, c, F.imp fun _ _ _ _ z => irr_of z⟩
section
variable {X : Cx} {C : Addr} {k : Nat} {m : Str} {ps ks : List Str} {sp : Sp} {gV : List V → List V → List V} {o e : Expr} {es : List Expr} {kws : List Keyword} {t tk : TA} {ta : TE} {pos apos : Pos} {pl : Sem Bool}
theorem pe_cm (h : ClsM X.prog X.w X.K X.mg X.base C m k ps sp) (hr : Room k X.A) (he : PE X o ta) (ha : PA X (e :: es) t)
    (hst : starEach (e :: es) X.env = (false, eval e X.env) :: starEach es X.env := by rfl) (hpl : (backTo pos (starEach es X.env)).any (·.1) = false := by rfl)
    (ht : eval (.Call (.Attribute o m apos) (e :: es) [] pos) X.env = (do
      let ov ← eval o X.env
      standAt apos.atName
      let (f, first) ← holding [ov] (getMethod ov m pl)
      callWith pos f first (backTo pos (starEach (e :: es) X.env)) (backToKw pos (keywordEach [] X.env))) := by rfl) :
    PE X (.Call (.Attribute o m apos) (e :: es) [] pos) (tCMeth C sp E0 ta t) := by
  obtain ⟨mc, p, g, fd, r, c, hb, F⟩ := h
  exact pe_cmeth he r c ((FnOk.raw F hb .nil).imp fun vs H Q E z => by rw [List.append_nil]; exact z) hr pass0 ha hst hpl ht
def tCMethK (C : Addr) (n : Nat) (sp : Sp) (gV : List V → List V → List V) (ta : TE) (tk : TA) : TE := fun σ H Q => ta σ H fun x H1 => x = .ref C ∧ tk σ H1 fun zs H2 => zs.length = n ∧ sp (gV [.ref C] zs) H2 Q E0
theorem pe_cmK (h : ClsMK X.prog X.w X.K X.mg X.base C m k ks sp gV) (hr : Room k X.A) (he : PE X o ta) (hkw : PK X kws tk)
    (hall : (backToKw pos (keywordEach kws X.env)).all (·.1.isSome) = true := by rfl) (hks : (backToKw pos (keywordEach kws X.env)).filterMap (·.1) = ks := by rfl)
    (hpl : ((backTo pos (starEach [] X.env)).any (·.1) || (backToKw pos (keywordEach kws X.env)).any (·.1.isNone)) = false := by rfl)
    (ht : eval (.Call (.Attribute o m apos) [] kws pos) X.env = (do
      let ov ← eval o X.env
      standAt apos.atName
      let (f, first) ← holding [ov] (getMethod ov m pl)
      callWith pos f first (backTo pos (starEach [] X.env)) (backToKw pos (keywordEach kws X.env))) := by rfl) :
    PE X (.Call (.Attribute o m apos) [] kws pos) (tCMethK C ks.length sp gV ta tk) := by
  obtain ⟨mc, p, g, fd, ps, gg, r, c, hb, F⟩ := h
  refine ⟨fun pins s σ H Q I h => ?_⟩
  refine PySem.W.methodCall_KW (pl := pl) (thn (he.run pins s σ H _ I h) fun u s1 ⟨x, H1, I1, rx, ex, q⟩ => ?_) ht
  subst ex
  obtain rfl : u = Value.ref C := rx
  refine getmethcm_ok I1 r c fun s2 I2 => ?_
  refine PySem.W.callWith_of (P := PySem.W.MethP X.K s1.heap.objs.size g (.ref C)) hpl (PySem.W.keeps_M c.fi) (evalArgs_kw2_nil hall (thn (hkw.run pos _ s2 σ H1 _ I2 q) fun ws s3 ⟨zs, H2, I3, rz, l2, q2⟩ => ⟨⟨pin_at I3, I3.kIn⟩, ?_⟩))
  rw [hks]
  have r2 : Vals (gV [.ref C] zs) (gg [.ref C] ws) := hb.rel (.cons rfl .nil) rz
  have z : wpAny (model X.prog X.w) X.A (call (.ref s1.heap.objs.size) [] (ks.zip ws)) (EP X ((s1.heap.objs.size, PySem.W.methodObj (.ref g) (.ref C)) :: pins) σ Q) X.xe s3 :=
    wpAny_call (PySem.W.method_call (pin_at I3) (codeAny_mono (F.run X.A X.stack s3 H2 ⟨[.ref C], ks.zip ws⟩ (gg [.ref C] ws) (gV [.ref C] zs) Q E0 hr I3.env0 (hb.to s3 [.ref C] ws I3.kIn rfl (rz.length.symm.trans l2)) r2 q2) fun r s' hq => ?_))
  · exact thn z fun _ _ y => unpinE y
  · cases r with
    | error e => exact pass0 _ σ H2 s3 e s' I3 hq
    | ok fl =>
      cases fl with
      | ret u => exact I3.after hq
      | next => exact False.elim hq
      | brk => exact False.elim hq
      | cont => exact False.elim hq
@[irreducible] def rReprS : List V → Hp → VK → Prop := fun xs H Q => ∃ x : Str, xs = [.str x] ∧ (reprText x).length ≤ sizeLine ∧ Q (.str (reprText x)) H
theorem call_repr_str : CallR X (.builtin "repr") rReprS := by
  intro pins s σ H xs us Q I rx h
  unfold rReprS at h
  obtain ⟨x, rfl, hl, q⟩ := h
  cases rx with
  | cons r1 r2 =>
    cases r2
    obtain ⟨t, rfl⟩ := r1
    exact PySem.P.repr_of_str ⟨.str (reprText x), H, I.tok _, ⟨_, rfl⟩, q⟩ hl
end
end RV
/-! the text of a sum, cut into its words -/
namespace RV
open PySem L2 PyProof.Rows TL
def sgn (q : Str × Int) : Str := if q.2 < 0 then "-" else "+"
def parts (qs : List (Str × Int)) : List Str := qs.flatMap fun q => [sgn q, wo q.1 q.2]
def partsZ (qs : List (Str × Int)) : List Str := if qs = [] then ["+", "0"] else parts qs
def apart (z : Str) : Str := if Txt.startswith z "-" then ("- " : Str) ++ cutS z (some 1) none else ("+ " : Str) ++ z
theorem cd_em : cd Str.empty = [] := by decide +kernel
theorem cd_sp : cd " " = [32] := by decide +kernel
theorem cd_mi : cd "-" = [45] := by decide +kernel
theorem cd_pl : cd "+" = [43] := by decide +kernel
theorem cd_st : cd "*" = [42] := by decide +kernel
theorem cd_no : cd "" = [] := by decide +kernel
theorem cd_ze : cd "0" = [48] := by decide +kernel
theorem joinL_nil : ∀ l : List (List Nat), joinL [] l = l.flatten
  | [] => rfl
  | [p] => by simp [joinL]
  | p :: q :: r => by
    show p ++ ([] ++ joinL [] (q :: r)) = _
    rw [joinL_nil (q :: r), List.nil_append]
    rfl
theorem cd_fu (q : Str × Int) : cd (fu q) = 32 :: (cd (sgn q) ++ (32 :: cd (wo q.1 q.2))) := by
  unfold fu sgn
  rw [cd_app, cd_app, cd_app, cd_app, cd_em, cd_sp]
  simp
theorem cd_txt (q : Str × Int) (qs : List (Str × Int)) : cd (txt (q :: qs)) = cd (fi q) ++ (qs.map fun r => cd (fu r)).flatten := by
  unfold txt
  rw [join_eq]
  show tl _ = _
  rw [tl_join, show tl "" = [] from cd_no, joinL_nil]
  show ((fi q :: qs.map fu).map tl).flatten = _
  rw [List.map_cons, List.flatten_cons, List.map_map]
  rfl
theorem join_parts : ∀ (q : Str × Int) (qs : List (Str × Int)), joinL [32] ((parts (q :: qs)).map tl) = cd (sgn q) ++ (32 :: (cd (wo q.1 q.2) ++ (qs.map fun r => cd (fu r)).flatten))
  | q, [] => by simp [parts, joinL]
  | q, r :: qs => by
    have ih := join_parts r qs
    show tl (sgn q) ++ ([32] ++ (tl (wo q.1 q.2) ++ ([32] ++ joinL [32] ((parts (r :: qs)).map tl)))) = _
    rw [ih, List.map_cons, List.flatten_cons, cd_fu]
    simp
/-! the signs of words -/
def okC (c : Nat) : Bool := tailC c || c == 42
theorem okC_of {c : Nat} (h : tailC c = true) : okC c = true := by unfold okC; rw [h]; rfl
theorem num_cd {z : Int} (h : 0 ≤ z) : cd (num z) = numL z.toNat := by
  have := tl_num z.toNat
  rwa [Int.toNat_of_nonneg h] at this
theorem num_dig {z : Int} (h : 0 ≤ z) : ∀ c ∈ cd (num z), digC c = true := by
  rw [num_cd h]
  intro c hc
  have := numL_digits z.toNat c hc
  simp only [digC, Bool.and_eq_true, decide_eq_true_eq]
  omega
theorem ab_nn (z : Int) : 0 ≤ ab z := by unfold ab; split <;> omega
theorem wo_ok {x : Str} {z : Int} (hx : IsNm x) : ∀ c ∈ cd (wo x z), okC c = true := by
  have h1 : ∀ c ∈ cd x, okC c = true := fun c hc => okC_of (List.all_eq_true.mp (isNm_all hx) c hc)
  unfold wo
  split
  · exact h1
  · intro c hc
    rw [cd_app, cd_app, cd_app, cd_em, cd_st, List.nil_append] at hc
    rcases List.mem_append.mp hc with hc | hc
    · rcases List.mem_append.mp hc with hc | hc
      · exact okC_of (by rw [tailC, num_dig (ab_nn z) c hc, Bool.or_true])
      · rw [List.mem_singleton.mp hc]
        rfl
    · exact h1 c hc
theorem okC_32 {c : Nat} (h : okC c = true) : c ≠ 32 ∧ c ≠ 45 ∧ c < 127 ∧ 42 ≤ c := by
  simp only [okC, tailC, lowC, digC, Bool.or_eq_true, Bool.and_eq_true, decide_eq_true_eq, beq_iff_eq] at h
  omega
theorem wo_ne {x : Str} {z : Int} (hx : IsNm x) : ∃ c r, cd (wo x z) = c :: r := by
  cases e : cd (wo x z) with
  | cons c r => exact ⟨c, r, rfl⟩
  | nil =>
    exfalso
    unfold wo at e
    split at e
    · have := (isNm_len hx).1
      rw [show x.cps.toList = [] from e] at this
      exact absurd this (by decide)
    · rw [cd_app, cd_app, cd_st] at e
      simp at e
theorem pre_one (s c : Nat) (r : List Nat) : pre [s] (c :: r) = (c == s) := by simp [pre]
theorem sw_cons {z : Str} {c : Nat} {r : List Nat} (h : cd z = c :: r) : Txt.startswith z "-" = (c == 45) := by
  have hy : tl "-" ≠ [] := by rw [show tl "-" = [45] from cd_mi]; simp
  have i := at_iff (x := z) hy 0
  rw [List.drop_zero, show tl z = c :: r from h, show tl "-" = [45] from cd_mi, pre_one] at i
  have e : Txt.startswith z "-" = true ↔ StrLaws.At z "-" z.length 0 := by
    unfold Txt.startswith StrLaws.At
    rw [Bool.and_eq_true, decide_eq_true_eq]
  cases hb : (c == 45) with
  | true => exact e.mpr (i.mpr hb)
  | false =>
    cases hs : Txt.startswith z "-" with
    | false => rfl
    | true => rw [i.mp (e.mp hs)] at hb; cases hb
theorem apart_txt {qs : List (Str × Int)} (h : ∀ q ∈ qs, IsNm q.1) : apart (txt qs) = Txt.join " " (partsZ qs) := by
  refine cd_inj ?_
  rw [join_eq]
  show _ = tl _
  rw [tl_join, show tl " " = [32] from cd_sp]
  cases qs with
  | nil => decide +kernel
  | cons q qs =>
    have e : partsZ (q :: qs) = parts (q :: qs) := if_neg (by simp)
    rw [e, join_parts]
    obtain ⟨c, r, hc⟩ := wo_ne (z := q.2) (h q List.mem_cons_self)
    have c45 := (okC_32 (wo_ok (z := q.2) (h q List.mem_cons_self) c (by rw [hc]; exact List.mem_cons_self))).2.1
    have ct := cd_txt q qs
    unfold apart sgn
    unfold fi at ct
    by_cases hz : q.2 < 0
    · rw [if_pos hz, cd_app, cd_mi] at ct
      rw [if_pos hz, sw_cons (c := 45) (by rw [ct]; rfl), if_pos (by rfl), cd_app, cd_rest, ct, cd_mi]
      have : cd ("- " : Str) = [45, 32] := by decide +kernel
      rw [this]
      simp
    · rw [if_neg hz, cd_app, cd_no, List.nil_append] at ct
      rw [if_neg hz, sw_cons (c := c) (by rw [ct, hc]; rfl), if_neg (by simp [c45]), cd_app, ct, cd_pl]
      have : cd ("+ " : Str) = [43, 32] := by decide +kernel
      rw [this]
      simp
theorem parts_free {qs : List (Str × Int)} (h : ∀ q ∈ qs, IsNm q.1) : ∀ p ∈ partsZ qs, 32 ∉ tl p := by
  unfold partsZ
  split
  · decide +kernel
  · intro p hp
    obtain ⟨q, hq, hp⟩ := List.mem_flatMap.mp hp
    simp only [List.mem_cons, List.not_mem_nil, or_false] at hp
    rcases hp with rfl | rfl
    · unfold sgn
      split <;> decide +kernel
    · intro hc
      exact (okC_32 (wo_ok (h q hq) 32 hc)).1 rfl
theorem split_apart {qs : List (Str × Int)} (h : ∀ q ∈ qs, IsNm q.1) : Txt.split (Txt.join " " (partsZ qs)) " " = partsZ qs := by
  refine split_join (s := 32) (S := []) cd_sp (by decide +kernel) (fun e => ?_) (parts_free h)
  unfold partsZ at e
  split at e
  · cases e
  · rename_i hn
    cases qs with
    | nil => exact hn rfl
    | cons q qs => simp [parts] at e
/-! a word, cut at its star -/
theorem star_one {x : Str} {z : Int} (hx : IsNm x) (h1 : ab z = 1) : Txt.rpartition (wo x z) "*" = (Str.empty, Str.empty, x) := by
  unfold wo
  rw [if_pos h1]
  refine rpart_none (s := 42) cd_st fun hc => ?_
  have := List.all_eq_true.mp (isNm_all hx) 42 hc
  exact absurd this (by decide)
theorem star_two {x : Str} {z : Int} (hx : IsNm x) (h1 : ¬ ab z = 1) : Txt.rpartition (wo x z) "*" = (num (ab z), ("*" : Str), x) := by
  unfold wo
  rw [if_neg h1]
  have e : Str.empty ++ num (ab z) = num (ab z) := cd_inj (by rw [cd_app, cd_em, List.nil_append])
  rw [e]
  refine rpart_app (s := 42) cd_st fun hc => ?_
  have := List.all_eq_true.mp (isNm_all hx) 42 hc
  exact absurd this (by decide)
theorem star_zero : Txt.rpartition "0" "*" = (Str.empty, Str.empty, ("0" : Str)) := rpart_none (s := 42) (a := "0") cd_st (by decide +kernel)
/-! every other of the words -/
theorem range_map {α β : Type} (f : α → β) (l : List α) : (List.range l.length).filterMap (fun j => (l[j]?).map f) = l.map f := by
  induction l with
  | nil => rfl
  | cons a l ih =>
    rw [List.length_cons, List.range_succ_eq_map]
    have e : (List.filterMap (fun j => ((a :: l)[j]?).map f) (0 :: (List.range l.length).map Nat.succ)) = f a :: List.filterMap (fun j => ((a :: l)[j]?).map f) ((List.range l.length).map Nat.succ) := List.filterMap_cons_some rfl
    rw [e, List.filterMap_map, List.map_cons, ← ih]
    rfl
theorem flat_even {α : Type} (f g : α → V) : ∀ (l : List α) (j : Nat), (l.flatMap fun q => [f q, g q])[2 * j]? = (l[j]?).map f ∧ (l.flatMap fun q => [f q, g q])[2 * j + 1]? = (l[j]?).map g
  | [], j => by simp
  | q :: l, 0 => by simp
  | q :: l, j + 1 => by
    obtain ⟨a, b⟩ := flat_even f g l j
    have e : (q :: l).flatMap (fun q => [f q, g q]) = f q :: g q :: l.flatMap fun q => [f q, g q] := rfl
    rw [e, show 2 * (j + 1) = 2 * j + 1 + 1 by omega, show 2 * j + 1 + 1 + 1 = (2 * j + 1) + 1 + 1 by omega]
    simp only [List.getElem?_cons_succ]
    exact ⟨a, b⟩
theorem flat_len {α : Type} (f g : α → V) (l : List α) : (l.flatMap fun q => [f q, g q]).length = 2 * l.length := by
  induction l with
  | nil => rfl
  | cons q l ih =>
    show (f q :: g q :: l.flatMap fun q => [f q, g q]).length = _
    rw [List.length_cons, List.length_cons, ih, List.length_cons]
    omega
theorem step2_even {α : Type} (f g : α → V) (l : List α) : step2 0 (l.flatMap fun q => [f q, g q]) = l.map f := by
  unfold step2
  rw [flat_len, Nat.zero_min, ← range_map f l]
  unfold sliceRange
  have hc : (if (2 : Int) > 0 then (if ((0 : Nat) : Int) < ((2 * l.length : Nat) : Int) then (((2 * l.length : Nat) : Int) - ((0 : Nat) : Int) + 2 - 1) / 2 else 0) else (if ((0 : Nat) : Int) > ((2 * l.length : Nat) : Int) then (((0 : Nat) : Int) - ((2 * l.length : Nat) : Int) - 2 - 1) / (-2) else 0)).toNat = l.length := by
    simp only [show (2 : Int) > 0 by decide, if_true]
    split <;> omega
  simp only [hc]
  rw [List.filterMap_map]
  congr 1
  funext j
  show (l.flatMap fun q => [f q, g q])[(((0 : Nat) : Int) + 2 * (j : Int)).toNat]? = _
  rw [show (((0 : Nat) : Int) + 2 * (j : Int)).toNat = 2 * j by omega]
  exact (flat_even f g l j).1
theorem step2_odd {α : Type} (f g : α → V) (l : List α) : step2 1 (l.flatMap fun q => [f q, g q]) = l.map g := by
  cases l with
  | nil => rfl
  | cons q0 l0 =>
    generalize hl : q0 :: l0 = l
    have h1 : 1 ≤ l.length := by rw [← hl, List.length_cons]; omega
    unfold step2
    rw [flat_len, Nat.min_eq_left (by omega), ← range_map g l]
    unfold sliceRange
    have hc : (if (2 : Int) > 0 then (if ((1 : Nat) : Int) < ((2 * l.length : Nat) : Int) then (((2 * l.length : Nat) : Int) - ((1 : Nat) : Int) + 2 - 1) / 2 else 0) else (if ((1 : Nat) : Int) > ((2 * l.length : Nat) : Int) then (((1 : Nat) : Int) - ((2 * l.length : Nat) : Int) - 2 - 1) / (-2) else 0)).toNat = l.length := by
      simp only [show (2 : Int) > 0 by decide, if_true]
      split <;> omega
    simp only [hc]
    rw [List.filterMap_map]
    congr 1
    funext j
    show (l.flatMap fun q => [f q, g q])[(((1 : Nat) : Int) + 2 * (j : Int)).toNat]? = _
    rw [show (((1 : Nat) : Int) + 2 * (j : Int)).toNat = 2 * j + 1 by omega]
    exact (flat_even f g l j).2
end RV
/-! what reading a text promises -/
namespace RV
open PySem L2 PyProof.Rows TL
def sp_digits : Sp := fun vs H Q _ => ∃ z : Int, vs = [.str (num z)] ∧ 0 ≤ z ∧ Q (.bl true) H
def sp_readnum : Sp := fun vs H Q _ => ∃ z : Int, vs = [.str (num z)] ∧ 0 ≤ z ∧ z < 10 ^ 60 ∧ Q (.int z) H
def sp_apart : Sp := fun vs H Q _ => ∃ z : Str, vs = [.str z] ∧ z.length ≤ 1000000 ∧ Q (.str (apart z)) H
/-- a word of a sum's text -/
def sp_rterm (_K : PySem.W.Frag) : Sp := fun vs H Q _ => (∃ q : Str × Int, vs = [.str (sgn q), .str (wo q.1 q.2)] ∧ IsNm q.1 ∧ q.2.natAbs < 10 ^ 60 ∧ ∀ t H', Kp H [(t, oP q)] H' → Q (.ref t) H') ∨
  (vs = [.str "+", .str "0"] ∧ ∀ H', Same H H' → Q .non H')
def sp_termsin (_K : PySem.W.Frag) : Sp := fun vs H Q _ => ∃ qs : List (Str × Int), vs = [.str (txt qs)] ∧ Due qs ∧ ∀ (us : List TP) (m : Addr) H', prs us = qs → Kp H ((m, .tup (vP us)) :: lP us) H' → Q (.ref m) H'
def sp_read (C : Addr) : Sp := fun vs H Q _ => ∃ qs : List (Str × Int), vs = [.ref C, .str (txt qs)] ∧ Due qs ∧ ∀ (x dx m : Addr) (us : List TP) H', prs us = qs → Kp H (lS C x dx m us) H' → Q (.ref x) H'
theorem all_cps {p : Nat → Bool} {x : Str} (h : ∀ c ∈ cd x, p c = true) : x.cps.all p = true := by
  rw [← Array.all_toList]
  exact List.all_eq_true.mpr h
theorem num_ascii {z : Int} (h : 0 ≤ z) : Txt.isascii (num z) = true := all_cps fun c hc => by
  have := num_dig h c hc
  simp only [digC, Bool.and_eq_true, decide_eq_true_eq] at this ⊢
  omega
theorem dig_uni {c : Nat} (h : digC c = true) : Unicode.isDigit c = true := by
  simp only [digC, Bool.and_eq_true, decide_eq_true_eq] at h
  have : c = 48 ∨ c = 49 ∨ c = 50 ∨ c = 51 ∨ c = 52 ∨ c = 53 ∨ c = 54 ∨ c = 55 ∨ c = 56 ∨ c = 57 := by omega
  rcases this with e | e | e | e | e | e | e | e | e | e <;> subst e <;> decide +kernel
theorem num_len0 {z : Int} (h : 0 ≤ z) : 1 ≤ (num z).length := by
  rw [cd_len, num_cd h]
  exact List.length_pos_iff.mpr (numL_ne _)
theorem num_digit {z : Int} (h : 0 ≤ z) : Txt.isdigit (num z) = true := by
  unfold Txt.isdigit
  rw [Bool.and_eq_true, decide_eq_true_eq]
  exact ⟨num_len0 h, all_cps fun c hc => dig_uni (num_dig h c hc)⟩
theorem num_len60 {z : Int} (h : 0 ≤ z) (h1 : z < 10 ^ 60) : (num z).length ≤ 60 := by
  rw [cd_len, num_cd h]
  refine numL_len (by decide) ?_
  have : ((z.toNat : Nat) : Int) < ((10 ^ 60 : Nat) : Int) := by
    rw [Int.toNat_of_nonneg h]
    exact h1
  exact Int.ofNat_lt.mp this
/-- int of a 0 and the digits -/
theorem int_back {z : Int} (h : 0 ≤ z) (h1 : z < 10 ^ 60) : intText? (("0" : Str) ++ num z) = some z := by
  have e : cd (("0" : Str) ++ num z) = 48 :: numL z.toNat := by rw [cd_app, cd_ze, num_cd h]; rfl
  have l := num_len60 h h1
  rw [cd_len, num_cd h] at l
  have r := intText_digits (x := ("0" : Str) ++ num z) (by
    rw [show (("0" : Str) ++ num z).cps.toList = 48 :: numL z.toNat from e]
    intro c hc
    rcases List.mem_cons.mp hc with rfl | hc
    · decide
    · exact numL_digits _ c hc) (by rw [show (("0" : Str) ++ num z).cps.toList = 48 :: numL z.toNat from e]; simp) (by
    rw [cd_len, e, List.length_cons]
    omega)
  rw [r, show (("0" : Str) ++ num z).cps.toList = 48 :: numL z.toNat from e]
  have v : NumText.digitsVal (48 :: numL z.toNat) = NumText.digitsVal (numL z.toNat) := rfl
  rw [v, numL_val, Int.toNat_of_nonneg h]
theorem txt_len {qs : List (Str × Int)} (d : Due qs) : (txt qs).length ≤ 200000 := by
  have h : ∀ q ∈ qs, IsNm q.1 ∧ q.2.natAbs < 10 ^ 64 := fun q hq => ⟨d.nm q hq, Nat.lt_of_le_of_lt (tot_mem hq) (Nat.lt_of_le_of_lt d.tt (by decide))⟩
  have e : (txt qs).length = ((pieces qs).map (·.length)).sum := by
    unfold txt
    rw [join_eq, len_tl, tl_join, show tl "" = [] from cd_no, joinL_nil, List.length_flatten, List.map_map]
    exact congrArg List.sum (List.map_congr_left fun x _ => (len_tl x).symm)
  have h1 := pieces_sum h
  have h2 := d.ln
  rw [e]
  omega
theorem Kp.thn {H0 H H' : Hp} {L L' : List (Addr × HO)} (h : Kp H0 L H) (k : Kp H L' H') : Kp H0 (L' ++ L) H' := ⟨fun b o e => k.sm b o (h.sm b o e), fun p hp => (List.mem_append.mp hp).elim (fun z => ⟨h.none0 (k.nw p z).1, (k.nw p z).2⟩) fun z => ⟨(h.nw p z).1, k.sm _ _ (h.nw p z).2⟩⟩
theorem Kp.put {H0 H : Hp} {L : List (Addr × HO)} {D : Addr} {o : HO} (h : Kp H0 L H) (h0 : H0 D = none) (hp : ∀ p ∈ L, p.1 ≠ D) : Kp H0 L (upd H D o) :=
  ⟨fun b u e => by rw [upd_ne (ne_of_none e h0)]; exact h.sm b u e, fun p hq => ⟨(h.nw p hq).1, by rw [upd_ne (hp p hq)]; exact (h.nw p hq).2⟩⟩
theorem Kp.off {H0 H : Hp} {us : List TP} {D : Addr} {xs : List V} (h : Kp H0 (lP us) H) (e : H D = some (.lst xs)) : ∀ p ∈ lP us, p.1 ≠ D := fun p hp z => by
  have q := (h.nw p hp).2
  rw [z, e] at q
  obtain ⟨u, _, rfl⟩ := List.mem_map.mp hp
  cases Option.some.inj q
/-- [f(s, w) for s, w in zip(xs, ys)]: f may make things -/
theorem cutS_all (z : Str) (k : Nat) (h : z.length ≤ k) : cutS z none (some (k : Int)) = z := cd_inj (by rw [cd_pre, List.take_of_length_le (by rw [← cd_len]; exact h)])
end RV
/-! the text of a sum, term by term -/
namespace RV
open PySem L2 PyProof.Rows TL
/-- the line behind some terms -/
def line (qs : List (Str × Int)) : Str := if qs = [] then "" else txt qs
theorem line_ne {q : Str × Int} {qs : List (Str × Int)} (h : IsNm q.1) : ¬ line (q :: qs) = "" := fun e => by
  have e2 := congrArg cd e
  rw [line, if_neg (by simp), cd_txt, cd_no] at e2
  obtain ⟨c, r, hc⟩ := wo_ne (z := q.2) h
  unfold fi at e2
  rw [cd_app, hc] at e2
  simp at e2
theorem wo_law (x : Str) (z : Int) (h : ¬ ab z = 1) : (num (ab z) ++ ("*" : Str)) ++ x = wo x z := cd_inj (by
  unfold wo
  rw [if_neg h, cd_app, cd_app, cd_app, cd_app, cd_app, cd_em, List.nil_append])
theorem line_one (q : Str × Int) : (if q.2 < 0 then ("-" : Str) ++ wo q.1 q.2 else wo q.1 q.2) = line [q] := cd_inj (by
  rw [show line [q] = txt [q] from if_neg (by simp), cd_txt]
  unfold fi
  split
  · rw [cd_app]; simp
  · rw [cd_app, cd_no]; simp)
theorem line_more (q r : Str × Int) (qs : List (Str × Int)) : (line (q :: qs) ++ (if r.2 < 0 then (" - " : Str) else " + ")) ++ wo r.1 r.2 = line (q :: qs ++ [r]) := cd_inj (by
  rw [show line (q :: qs ++ [r]) = txt (q :: (qs ++ [r])) from if_neg (by simp), show line (q :: qs) = txt (q :: qs) from if_neg (by simp), cd_txt, List.map_append, List.flatten_append, cd_app, cd_app, cd_txt]
  have e : (List.map (fun r => cd (fu r)) [r]).flatten = cd (fu r) := by simp
  rw [e, cd_fu]
  have h1 : cd " - " = [32, 45, 32] := by decide +kernel
  have h2 : cd " + " = [32, 43, 32] := by decide +kernel
  unfold sgn
  split
  · rw [h1, cd_mi]; simp
  · rw [h2, cd_pl]; simp)
theorem line_txt (qs : List (Str × Int)) : (if line qs = "" then ("0" : Str) else line qs) = txt qs ∨ ∃ q r, qs = q :: r := by
  cases qs with
  | nil => left; decide +kernel
  | cons q r => exact .inr ⟨q, r, rfl⟩
theorem line_len {qs : List (Str × Int)} (h : ∀ q ∈ qs, IsNm q.1 ∧ q.2.natAbs < 10 ^ 64) (hl : qs.length ≤ 60) : (line qs).length ≤ 200000 := by
  unfold line
  split
  · decide +kernel
  · have e : (txt qs).length = ((pieces qs).map (·.length)).sum := by
      unfold txt
      rw [join_eq, len_tl, tl_join, show tl "" = [] from cd_no, joinL_nil, List.length_flatten, List.map_map]
      exact congrArg List.sum (List.map_congr_left fun x _ => (len_tl x).symm)
    have h1 := pieces_sum h
    rw [e]
    omega
def sp_sumtext (K : PySem.W.Frag) : Sp := fun vs H Q _ => ∃ (l : Addr) (ds : List TP), vs = [.ref l] ∧ SqL K H l (vP ds) ∧ TPs K H ds ∧ Due (prs ds) ∧ Q (.str (txt (prs ds))) H
end RV
/-! steps over a ledger: sums read, texts shown -/
namespace RV
open PySem L2 PyProof.Rows TL
def gR (vs zs : List V) : List V := match vs, zs with
  | [x], [t] => [x, t]
  | _, _ => []
theorem txt_ch {qs : List (Str × Int)} (h : ∀ q ∈ qs, IsNm q.1) : ∀ c ∈ cd (txt qs), c < 127 := by
  cases qs with
  | nil => decide +kernel
  | cons q qs =>
    have hw : ∀ r ∈ q :: qs, ∀ c ∈ cd (wo r.1 r.2), c < 127 := fun r hr c hc => (okC_32 (wo_ok (h r hr) c hc)).2.2.1
    intro c hc
    rw [cd_txt] at hc
    rcases List.mem_append.mp hc with hc | hc
    · unfold fi at hc
      rw [cd_app] at hc
      rcases List.mem_append.mp hc with hc | hc
      · split at hc
        · rw [cd_mi] at hc
          rw [List.mem_singleton.mp hc]
          decide
        · rw [cd_no] at hc
          cases hc
      · exact hw q List.mem_cons_self c hc
    · obtain ⟨l, hl, hc⟩ := List.mem_flatten.mp hc
      obtain ⟨r, hr, rfl⟩ := List.mem_map.mp hl
      rw [cd_fu] at hc
      rcases List.mem_cons.mp hc with rfl | hc
      · decide
      rcases List.mem_append.mp hc with hc | hc
      · unfold sgn at hc
        split at hc
        · rw [cd_mi] at hc
          rw [List.mem_singleton.mp hc]
          decide
        · rw [cd_pl] at hc
          rw [List.mem_singleton.mp hc]
          decide
      · rcases List.mem_cons.mp hc with rfl | hc
        · decide
        · exact hw r (List.mem_cons_of_mem _ hr) c hc
theorem reprS_txt {qs : List (Str × Int)} {H : Hp} {Q : VK} (d : Due qs) (k : Q (.str (reprText (txt qs))) H) : rReprS [.str (txt qs)] H Q := by
  unfold rReprS
  refine ⟨_, rfl, ?_, k⟩
  have h1 := StrLaws.reprText_len (txt qs) fun c hc => Nat.lt_of_lt_of_le (txt_ch d.nm c hc) (by decide)
  have h2 := txt_len d
  exact Nat.le_trans (show _ ≤ 2000002 by omega) (by decide)
theorem tot_mul {b : Nat} : ∀ {qs : List (Str × Int)}, (∀ q ∈ qs, q.2.natAbs ≤ b) → tot qs ≤ qs.length * b
  | [], _ => Nat.zero_le _
  | q :: qs, h => by
    have a := h q List.mem_cons_self
    have c := tot_mul fun r hr => h r (List.mem_cons_of_mem q hr)
    have e : tot (q :: qs) = q.2.natAbs + tot qs := rfl
    rw [e, List.length_cons, Nat.succ_mul]
    omega
section
variable {K : PySem.W.Frag} {C a l x : Addr} {n : Nat} {L : List (Addr × HO)} {H0 H : Hp} {us ds : List TP} {Q : VK} {E : XK} {qs : List (Str × Int)}
theorem read_step (h : Has H0 a n L H) (d : Due qs) (k : ∀ (x dx m : Addr) (us : List TP) H', prs us = qs → Has H0 a n (lS C x dx m us ++ L) H' → Q (.ref x) H') : Irr (sp_read C) [.ref C, .str (txt qs)] H Q E :=
  irr ⟨qs, rfl, d, fun x dx m us H' e kp => k x dx m us H' e (h.kp kp)⟩
theorem sumtext_step (hl : SqL K H l (vP ds)) (ht : TPs K H ds) (d : Due (prs ds)) (k : Q (.str (txt (prs ds))) H) : Irr (sp_sumtext K) [.ref l] H Q E := irr ⟨l, ds, rfl, hl, ht, d, k⟩
/-- what a call of tuple(l) makes -/
theorem tuple_step {R : V → Hp → Prop} {xs : List V} (h : Has H0 a n L H) (hl : SqL K H l xs) (k : ∀ m, Has H0 a n L (upd H m (.tup xs)) → H m = none → R (.ref m) (upd H m (.tup xs))) :
    ∃ p ys, [V.ref l] = [V.ref p] ∧ ((SqL K H p ys ∧ ∀ m, H m = none → R (.ref m) (upd H m (.tup ys))) ∨ (SqT K H p ys ∧ R (.ref p) H)) := ⟨l, xs, rfl, .inl ⟨hl, fun m nm => k m (h.tup nm) nm⟩⟩
end
end RV
/-! -o, o + p, o - p, o * n, n * o of own classes -/
namespace PySem
open AutoSeq1 (wpAny_loadPart')
set_option maxHeartbeats 4000000 in
theorem rv_int_mul_inst (b : Int) (u : Tok) (l C dx : Addr) :
    Meets (Builtin.«int.__mul__» ⟨[.int b u, .ref l], []⟩) (fun _ R s => s.heap.get? l = some (PySem.W.instObj C dx) ∧ R (.ok (.ret .notImplemented)) s) :=
  .of_wp fun prog w A R s h => by
    obtain ⟨hp, g, d, tk, os⟩ := s
    obtain ⟨hl, h⟩ := h
    unfold PySem.W.instObj at hl
    wp_walk using wpAny_loadPart' hl, wpAny_load hl
    exact ⟨_, rfl, h⟩
end PySem
namespace PySem.W
open PySem PySem.Calls PyProof.Rows
section
variable {prog : Program} {w : World} {A : Around} {E : Value → Shared → Prop} {s : Shared} {K : Frag} {x C dx L f g : Addr} {h₀ : Heap} {m : Str → Option Value} {od : Option Obj} {i : Int} {t : Tok} {fo ro : Option Value}
theorem rv_mulI {Q : Value → Shared → Prop} (F : Fr h₀ L s.heap m) (X₀ : K.In h₀) (I : InstAt s.heap x (instObj C dx) C od) (hc : selfFirst K C = true)
    (hs : findIn K (.ref C) (PySem.dunder "mul") = some (some (.ref f))) (hr : findIn K (.ref C) (dunderR "mul") = some (some (.ref g))) (hg : isFn K (.ref g) = true)
    (h1 : findIn K (.type "int") (PySem.dunder "mul") = some fo) (h2 : findIn K (.type "int") (dunderR "mul") = some ro) (hsub : subIn K (.ref C) (.type "int") = some false)
    (h : wpAny (model prog w) A (call (.ref g) [.ref x, .int i t]) (CmpBack Q) E s) : wpAny (model prog w) A (binaryOp .Mult (.int i t) (.ref x)) Q E s := by
  have X := X₀.keeps F.keep
  obtain ⟨cd, rest, hcd, hm⟩ := ksp_first hc
  have one := ksp_try X I hr hg h
  have decl : wpAny (model prog w) A (tryMethod (.int i t) (PySem.dunder "mul") (.ref x)) (fun r s' => r = none ∧ s' = s) E s :=
    wpAny_tryMethod_declines (Q := fun r s' => r = none ∧ s' = s) (typeIs_int _ _ _) PySem.F.slot_int_mul (call_meets PySem.F.slot_int_mul (typeIs_int _ _ _) PySem.F.entry_int_mul (PySem.F.args_int_mul_2 _ _) (PySem.rv_int_mul_inst i t x C dx) ⟨I.at_, rfl, rfl, rfl⟩)
  obtain ⟨hh, g', d, tt, os⟩ := s
  have L1 : Looks (model prog w) hh (typeOf (.int i t)) (.type "int") := Looks.of_pure rfl
  have L2 : Looks (model prog w) hh (typeOf (.ref x)) (.ref C) := I.type
  have L3 : Looks (model prog w) hh (fillsNumberSlot (.ref C) "mul") true := fills_K X hcd hm hs
  have L4 : Looks (model prog w) hh (fillsNumberSlot (.type "int") "mul") ((fo.isSome && !isSeqSlot fo) || (ro.isSome && !isSeqSlot ro)) := ksp_fillsT X h1 h2
  have L5 : Looks (model prog w) hh (isSubtype (.ref C) (.type "int")) false := looks_subIn X hsub
  have L7 : Looks (model prog w) hh (numberSlotInPython (.type "int") "mul") false := Looks.of_pure rfl
  generalize ((fo.isSome && !isSeqSlot fo) || (ro.isSome && !isSeqSlot ro)) = left at L4
  have hne : (Value.type "int" == Value.ref C) = false := Bool.eq_false_iff.mpr fun q => by cases beq_iff_eq.mp q
  simp only [binaryOp, show Operator.info .Mult = ("*", "mul") from rfl]
  refine wpAny_holding (wpAny_bind ?_)
  unfold binaryOp1
  refine wpAny_bind (L1.at (wpAny_bind (L2.at (wpAny_bind (L4.at ?_)))))
  simp only [hne, Bool.false_eq_true, if_false]
  cases left with
  | false =>
    ksp_lk
    refine wpAny_mono one (fun r s' hr' => ?_) fun _ _ e => e
    obtain ⟨v, rfl, hq⟩ := hr'
    ksp_lk
    exact hq
  | true =>
    ksp_lk
    refine wpAny_mono decl (fun r s' hd => ?_) fun _ _ e => e
    obtain ⟨rfl, rfl⟩ := hd
    ksp_lk
    refine wpAny_mono one (fun r s' hr' => ?_) fun _ _ e => e
    obtain ⟨v, rfl, hq⟩ := hr'
    ksp_lk
    exact hq
end
end PySem.W
namespace RV
open PySem L2 PyProof.Rows
section
variable {X : Cx} {C : Addr} {k : Nat} {sp : Sp}
@[irreducible] def rBinO (C : Addr) (sp : Sp) : R2 := fun x y H Q => ∃ a b dx fs dy gs, x = .ref a ∧ y = .ref b ∧ H a = some (.ins C dx fs) ∧ H b = some (.ins C dy gs) ∧ sp [.ref a, .ref b] H (fun v H' => ∃ p, v = .ref p ∧ Q (.ref p) H') E0
@[irreducible] def rMulO (C : Addr) (sp : Sp) : R2 := fun x y H Q => ∃ (a : Addr) (i : Int) (dx : Addr) (fs : List (Str × V)), x = .ref a ∧ y = .int i ∧ H a = some (.ins C dx fs) ∧ sp [.ref a, .int i] H (fun v H' => ∃ p, v = .ref p ∧ Q (.ref p) H') E0
@[irreducible] def rMulI (C : Addr) (sp : Sp) : R2 := fun x y H Q => ∃ (a : Addr) (i : Int) (dx : Addr) (fs : List (Str × V)), x = .int i ∧ y = .ref a ∧ H a = some (.ins C dx fs) ∧ sp [.ref a, .int i] H (fun v H' => ∃ p, v = .ref p ∧ Q (.ref p) H') E0
@[irreducible] def rNegO (C : Addr) (sp : Sp) : V → Hp → VK → Prop := fun x H Q => ∃ a dx fs, x = .ref a ∧ H a = some (.ins C dx fs) ∧ sp [.ref a] H Q E0
/-- o op p -/
theorem op_binO {op : Operator} {m : String} (h : OwnM X.prog X.w X.K X.mg X.base C m k sp) (hm : PySem.dunder op.info.2 = Str.ofString m) (hc : PySem.W.selfFirst X.K C = true) (hr : Room k X.A) : OpR X (binaryOp op) (rBinO C sp) := by
  intro pins s σ H x y v u Q I rx ry hq
  unfold rBinO at hq
  obtain ⟨a, b, dx, fs, dy, gs, rfl, rfl, ha, hb2, hsp⟩ := hq
  obtain ⟨f, fd, ps, hs, hf, _, hb, F⟩ := h
  have rx' := rx
  have ry' := ry
  cases rx
  cases ry
  obtain ⟨mA, J, _⟩ := ins_get I.hok ha
  obtain ⟨od, J, _⟩ := J.look
  obtain ⟨m, hF⟩ := I.fr
  refine PySem.W.binop_K hF I.ok.mod.kin J ((TyL.ins hb2).looks I ry') hc (by rw [hm]; exact hs) hf (wpAny_mono (call_owns F hb hr rfl I (.cons rx' (.cons ry' .nil)) hsp) (fun r s' z => ?_) fun _ _ x => x)
  obtain ⟨v, H', I', rv, p, rfl, q⟩ := z
  cases rv
  exact ⟨.ref p, H', I', rfl, q⟩
/-- o * i -/
theorem op_mulO (h : OwnM X.prog X.w X.K X.mg X.base C "__mul__" k sp) (hc : PySem.W.selfFirst X.K C = true) {fr : Addr} {fo ro : Option Value} (hR : PySem.W.findIn X.K (.ref C) (dunderR "mul") = some (some (.ref fr)))
    (h1 : PySem.W.findIn X.K (.type "int") (PySem.dunder "mul") = some fo) (h2 : PySem.W.findIn X.K (.type "int") (dunderR "mul") = some ro) (hsub : PySem.W.subIn X.K (.type "int") (.ref C) = some false) (hr : Room k X.A) : OpR X (binaryOp .Mult) (rMulO C sp) := by
  intro pins s σ H x y v u Q I rx ry hq
  unfold rMulO at hq
  obtain ⟨a, i, dx, fs, rfl, rfl, ha, hsp⟩ := hq
  obtain ⟨f, fd, ps, hs, hf, _, hb, F⟩ := h
  have rx' := rx
  have ry' := ry
  cases rx
  obtain ⟨t, rfl⟩ := ry
  obtain ⟨mA, J, _⟩ := ins_get I.hok ha
  obtain ⟨od, J, _⟩ := J.look
  obtain ⟨m, hF⟩ := I.fr
  refine PySem.W.ksp_binT (op := .Mult) (T := "int") hF I.ok.mod.kin J rfl hc hs hf hR (.inr ⟨fr, rfl⟩) h1 h2 hsub (wpAny_mono (call_owns F hb hr rfl I (.cons rx' (.cons ry' .nil)) hsp) (fun r s' z => ?_) fun _ _ x => x)
  obtain ⟨v, H', I', rv, p, rfl, q⟩ := z
  cases rv
  exact ⟨.ref p, H', I', rfl, q⟩
/-- i * o -/
theorem op_mulI (h : OwnM X.prog X.w X.K X.mg X.base C "__rmul__" k sp) (hc : PySem.W.selfFirst X.K C = true) {fm : Addr} {fo ro : Option Value} (hM : PySem.W.findIn X.K (.ref C) (PySem.dunder "mul") = some (some (.ref fm)))
    (h1 : PySem.W.findIn X.K (.type "int") (PySem.dunder "mul") = some fo) (h2 : PySem.W.findIn X.K (.type "int") (dunderR "mul") = some ro) (hsub : PySem.W.subIn X.K (.ref C) (.type "int") = some false) (hr : Room k X.A) : OpR X (binaryOp .Mult) (rMulI C sp) := by
  intro pins s σ H x y v u Q I rx ry hq
  unfold rMulI at hq
  obtain ⟨a, i, dx, fs, rfl, rfl, ha, hsp⟩ := hq
  obtain ⟨f, fd, ps, hs, hf, _, hb, F⟩ := h
  have rx' := rx
  have ry' := ry
  cases ry
  obtain ⟨t, rfl⟩ := rx
  obtain ⟨mA, J, _⟩ := ins_get I.hok ha
  obtain ⟨od, J, _⟩ := J.look
  obtain ⟨m, hF⟩ := I.fr
  refine PySem.W.rv_mulI hF I.ok.mod.kin J hc hM hs hf h1 h2 hsub (wpAny_mono (call_owns F hb hr rfl I (.cons ry' (.cons rx' .nil)) hsp) (fun r s' z => ?_) fun _ _ x => x)
  obtain ⟨v, H', I', rv, p, rfl, q⟩ := z
  cases rv
  exact ⟨.ref p, H', I', rfl, q⟩
/-- -o -/
theorem un_negO (h : OwnM X.prog X.w X.K X.mg X.base C "__neg__" k sp) (hr : Room k X.A) : UnR X (unaryOp .USub) (rNegO C sp) := by
  intro pins s σ H x v Q I rx hq
  unfold rNegO at hq
  obtain ⟨a, dx, fs, rfl, ha, hsp⟩ := hq
  obtain ⟨f, fd, ps, hs, hf, _, hb, F⟩ := h
  have rx' := rx
  cases rx
  obtain ⟨mA, J, _⟩ := ins_get I.hok ha
  obtain ⟨od, J, _⟩ := J.look
  obtain ⟨m, hF⟩ := I.fr
  exact PySem.W.ksp_neg hF I.ok.mod.kin J hs hf (call_owns F hb hr rfl I (.cons rx' .nil) hsp)
end
end RV
/-! sums by operators -/
namespace RV
open PySem L2 PyProof.Rows TL
def scl (i : Int) (qs : List (Str × Int)) : List (Str × Int) := qs.map fun q => (q.1, i * q.2)
theorem scl_co (i : Int) (qs : List (Str × Int)) (x : Str) : co (scl i qs) x = i * co qs x := by
  induction qs with
  | nil => simp [scl, co_nil]
  | cons q qs ih =>
    show co ((q.1, i * q.2) :: scl i qs) x = _
    rw [co_cons, co_cons, ih, Int.mul_add]
    dsimp only
    split <;> simp
theorem scl_nm (i : Int) (qs : List (Str × Int)) : (scl i qs).map (·.1) = qs.map (·.1) := by
  rw [scl, List.map_map]
  rfl
theorem scl_isNm {i : Int} {qs : List (Str × Int)} (h : ∀ q ∈ qs, IsNm q.1) : ∀ q ∈ scl i qs, IsNm q.1 := fun q hq => by
  obtain ⟨r, hr, rfl⟩ := List.mem_map.mp hq
  exact h r hr
theorem scl_tot (i : Int) (qs : List (Str × Int)) : tot (scl i qs) = i.natAbs * tot qs := by
  induction qs with
  | nil => simp [scl, tot]
  | cons q qs ih =>
    have e1 : tot (scl i (q :: qs)) = (i * q.2).natAbs + tot (scl i qs) := rfl
    have e2 : tot (q :: qs) = q.2.natAbs + tot qs := rfl
    rw [e1, e2, ih, Int.natAbs_mul, Nat.mul_add]
theorem scl_len (i : Int) (qs : List (Str × Int)) : (scl i qs).length = qs.length := List.length_map _
theorem scl_app (i : Int) (qs rs : List (Str × Int)) : scl i (qs ++ rs) = scl i qs ++ scl i rs := List.map_append
/-- bits for a product -/
theorem mulW {i j : Int} (hi : i.natAbs < 10 ^ 60) (hj : j.natAbs < 10 ^ 60) : CMulW i j := wide_mul (a := 200) (b := 200) (by omega) (by omega) (by decide) (by decide) (by decide)
/-- numbers small enough -/
structure Lit (qs : List (Str × Int)) : Prop where
  nm : ∀ q ∈ qs, IsNm q.1
  sm : ∀ q ∈ qs, q.2.natAbs < 10 ^ 60
  ln : qs.length ≤ 60
theorem Lit.of {qs : List (Str × Int)} (h : ∀ q ∈ qs, IsNm q.1) (ht : tot qs ≤ 10 ^ 59) (hl : qs.length ≤ 60) : Lit qs :=
  ⟨h, fun _ hq => Nat.lt_of_le_of_lt (tot_mem hq) (Nat.lt_of_le_of_lt ht (by decide)), hl⟩
section
variable {K : PySem.W.Frag} {a D : Addr} {us : List TP} {i j : Nat} {te : TE} {vs : List Nat} {σ : L2.St} {H1 : Hp} {Qd : Hp → Prop}
/-- [(x, f(z)) for x, z in xs]: each turn makes a pair -/
theorem lc_mk (g : Str × Int → Str × Int) (J : It) (GG : Hp → Prop) (wk : Walk J us.length GG (YAt (vP us))) (ht : TPs K H1 us) (nD : H1 D = none) (len : us.length ≤ 1000) (hG : ∀ H', Same H1 H' → GG H') (hw : ∀ x y, wipe (((wipe σ vs).set i x).set j y) vs = wipe σ vs)
    (h : ∀ q ∈ prs us, ∀ H2, Same H1 H2 → ∀ R : VK, (∀ t, H2 t = none → R (.ref t) (upd H2 t (oP (g q)))) → te (((wipe σ vs).set i (some (.str q.1))).set j (some (.int q.2))) H2 R)
    (k : ∀ (ws : List TP) H', prs ws = (prs us).map g → Kp H1 (lP ws) H' → H' D = some (.lst (vP ws)) → Qd H') :
    ∃ W : Nat → Nat → Hp → Prop, (∃ m, W 0 m (upd H1 D (.lst []))) ∧ ∀ i' m H, W i' m H →
      (J.stop i' H ∧ Qd H) ∨ (J.go i' H ∧ ∃ Nx : Hp → Prop, (∀ H', Nx H' → ∃ m', m' < m ∧ W (i' + 1) m' H') ∧ ∀ x H', J.yld i' H x H' → gPr K i j x (wipe σ vs) H' fun σ2 H2 => wipe σ2 vs = wipe σ vs ∧ tYes σ2 H2 fun b H3 =>
        if b = true then te σ2 H3 fun y H4 => ∃ acc, H4 D = some (.lst acc) ∧ acc.length < sizeLine ∧ Nx (upd H4 D (.lst (acc ++ [y]))) else Nx H3) := by
  refine L2.lc_it wk (fun i' H' => ∃ ws : List TP, prs ws = ((prs us).take i').map g ∧ Kp H1 (lP ws) H' ∧ H' D = some (.lst (vP ws)))
    ⟨[], by simp [prs], (Kp.start H1).put nD fun _ hp => (nomatch hp), upd_same⟩ (fun i' H' _ z => ?_) (fun i' x Ha Hb hi hv y => ?_) (fun H' hv => ?_)
  · obtain ⟨_, _, kp, _⟩ := z
    exact hG _ kp.sm
  · obtain ⟨ws, hw1, kp, eD⟩ := hv
    obtain ⟨rfl, hx⟩ := y
    rw [vP, List.getElem?_map, List.getElem?_eq_getElem hi] at hx
    obtain rfl : V.ref us[i'].1 = x := Option.some.inj hx
    have hm : us[i'] ∈ us := List.getElem_mem hi
    have et : (prs us).take (i' + 1) = (prs us).take i' ++ [us[i'].2] := by
      rw [List.take_add_one, prs, List.getElem?_map, List.getElem?_eq_getElem hi]
      rfl
    have wl : ws.length = i' := by
      have := congrArg List.length hw1
      rw [prs_len, List.length_map, List.length_take, prs_len] at this
      omega
    have e0 : ∀ (σ : L2.St) (H : Hp) (R : Bool → Hp → Prop), R true H → tYes σ H R := fun _ _ _ r => r
    refine gPr_at ((ht _ hm).ext kp.sm) ⟨hw _ _, e0 _ _ _ ?_⟩
    simp only [↓reduceIte]
    refine h us[i'].2 (List.mem_map.mpr ⟨us[i'], hm, rfl⟩) Hb kp.sm _ fun t nt => ?_
    have eT : upd Hb t (oP (g us[i'].2)) D = some (.lst (vP ws)) := by rw [upd_ne (ne_of_none eD nt)]; exact eD
    have kT : Kp H1 (lP (ws ++ [(t, g us[i'].2)])) (upd Hb t (oP (g us[i'].2))) := (kp.new (o := oP (g us[i'].2)) nt).sub fun p hp => by
      rw [lP_app] at hp
      rcases List.mem_append.mp hp with hp | hp
      · exact List.mem_cons_of_mem _ hp
      · rw [List.mem_singleton.mp hp]
        exact List.mem_cons_self
    refine ⟨_, eT, ?_, ws ++ [(t, g us[i'].2)], ?_, kT.put nD (Kp.off kT eT), ?_⟩
    · rw [vP_len, wl]
      exact Nat.lt_of_lt_of_le (show i' < 1001 by omega) (by decide)
    · rw [prs_app, hw1, et, List.map_append]
      rfl
    · rw [upd_same, vP_app]
      rfl
  · obtain ⟨ws, hw1, kp, eD⟩ := hv
    rw [← prs_len, List.take_length] at hw1
    exact k ws H' hw1 kp eD
theorem walkL {l : Addr} : Walk (Itl K l) us.length (fun H => SqL K H l (vP us)) (YAt (vP us)) := by
  have := walk_list (K := K) (a := l) (xs := vP us)
  rwa [vP_len] at this
theorem walkT {l : Addr} : Walk (Itt K l) us.length (fun H => SqT K H l (vP us)) (YAt (vP us)) := by
  have := walk_tup (K := K) (a := l) (xs := vP us)
  rwa [vP_len] at this
end
/-- [(x, n * z) for x, z in xs] -/
def sp_times (K : PySem.W.Frag) : Sp := fun vs H Q _ => ∃ (l : Addr) (us : List TP) (i : Int), vs = [.ref l, .int i] ∧ SqL K H l (vP us) ∧ TPs K H us ∧ (∀ q ∈ prs us, q.2.natAbs < 10 ^ 60) ∧ us.length ≤ 60 ∧ i.natAbs < 10 ^ 60 ∧
  ∀ (ws : List TP) (m : Addr) H', prs ws = scl i (prs us) → Kp H (lT m ws) H' → Q (.ref m) H'
def sp_mulS (C : Addr) : Sp := fun vs H Q _ => ∃ (a : Addr) (qs : List (Str × Int)) (i : Int), vs = [.ref a, .int i] ∧ SumR C H a qs ∧ Lit qs ∧ i.natAbs < 10 ^ 60 ∧
  ∀ (x dx m : Addr) (ds : List TP) H', Mad (scl i qs) (prs ds) → Kp H (lS C x dx m ds) H' → Q (.ref x) H'
def sp_negS (C : Addr) : Sp := fun vs H Q _ => ∃ (a : Addr) (qs : List (Str × Int)), vs = [.ref a] ∧ SumR C H a qs ∧ Lit qs ∧
  ∀ (x dx m : Addr) (ds : List TP) H', Mad (scl (-1) qs) (prs ds) → Kp H (lS C x dx m ds) H' → Q (.ref x) H'
def sp_addS (C : Addr) : Sp := fun vs H Q _ => ∃ (a b : Addr) (qs rs : List (Str × Int)), vs = [.ref a, .ref b] ∧ SumR C H a qs ∧ SumR C H b rs ∧ (∀ q ∈ qs ++ rs, IsNm q.1) ∧ Few (qs ++ rs) ∧
  ∀ (x dx m : Addr) (ds : List TP) H', Mad (qs ++ rs) (prs ds) → Kp H (lS C x dx m ds) H' → Q (.ref x) H'
def sp_subS (C : Addr) : Sp := fun vs H Q _ => ∃ (a b : Addr) (qs rs : List (Str × Int)), vs = [.ref a, .ref b] ∧ SumR C H a qs ∧ SumR C H b rs ∧ (∀ q ∈ qs, IsNm q.1) ∧ Lit rs ∧ Few (qs ++ rs) ∧
  ∀ (x dx m : Addr) (ds : List TP) H', Mad (qs ++ scl (-1) rs) (prs ds) → Kp H (lS C x dx m ds) H' → Q (.ref x) H'
/-- a sum is the one of these pairs -/
def sp_is (K : PySem.W.Frag) (C : Addr) : Sp := fun vs H Q _ => ∃ (x l : Addr) (qs : List (Str × Int)) (us : List TP), vs = [.ref x, .ref l] ∧ SumR C H x qs ∧ Nrm qs ∧ SqL K H l (vP us) ∧ TPs K H us ∧ (∀ q ∈ prs us, IsNm q.1) ∧ us.length ≤ 60 ∧ tot (prs us) ≤ 10 ^ 42 ∧ (∀ y, co qs y = co (prs us) y) ∧
  ∀ H', Same H H' → Q (.bl true) H'
theorem Mad.app {qs rs rs' ds : List (Str × Int)} (h : Mad rs rs') (k : Mad (qs ++ rs') ds) : Mad (qs ++ rs) ds := by
  refine ⟨k.nr, fun x => ?_, fun q hq => ?_, ?_⟩
  · rw [k.co, co_app, co_app, h.co]
  · have := k.nm q hq
    rw [List.map_append, List.mem_append] at this ⊢
    refine this.imp id fun z => ?_
    obtain ⟨r, hr, e⟩ := List.mem_map.mp z
    exact e ▸ h.nm r hr
  · have h1 := k.ln
    have h2 := h.ln
    rw [List.length_append] at h1 ⊢
    omega
end RV
/-! sums of names -/
namespace RV
open PySem L2 PyProof.Rows ClX
def ones (ns : List Str) : List (Str × Int) := ns.map fun x => (x, 1)
def sp_ofB (K : PySem.W.Frag) (C : Addr) : Sp := fun vs H Q _ => ∃ (p : Addr) (ns : List Str), vs = [.ref C, .ref p] ∧ SqT K H p (ns.map V.str) ∧ (∀ x ∈ ns, IsNm x) ∧ ns.length ≤ 60 ∧
  ∀ (x dx m : Addr) (ds : List TP) H', Mad (ones ns) (prs ds) → Kp H (lS C x dx m ds) H' → Q (.ref x) H'
def sp_of (C : Addr) : Sp := fun vs H Q _ => ∃ ns : List Str, vs = .ref C :: ns.map V.str ∧ (∀ x ∈ ns, IsNm x) ∧ ns.length ≤ 60 ∧
  ∀ (x dx m : Addr) (ds : List TP) H', Mad (ones ns) (prs ds) → Kp H (lS C x dx m ds) H' → Q (.ref x) H'
/-- a class method that takes any number of values -/
def ClsR (P : Program) (w : World) (K : PySem.W.Frag) (mg : Str → Option Value) (base : Heap) (C : Addr) (m : Str) (k : Nat) (sp : Sp) : Prop :=
  ∃ mc p g, CRead K C mc ∧ CMet K C mc m p g ∧ FnR P w K mg base CX0 k g sp
theorem ClsR.irr {P : Program} {w : World} {K : PySem.W.Frag} {mg : Str → Option Value} {base : Heap} {C : Addr} {m : Str} {k : Nat} {sp : Sp} (h : ClsR P w K mg base C m k sp) : ClsR P w K mg base C m k (Irr sp) := by
  obtain ⟨mc, p, g, a, b, F⟩ := h
  exact ⟨mc, p, g, a, b, F.imp fun _ _ _ _ z => irr_of z⟩
theorem pe_cmR {X : Cx} {C : Addr} {k : Nat} {m : Str} {sp : Sp} {o e : Expr} {es : List Expr} {t : TA} {ta : TE} {pos apos : Pos} {pl : Sem Bool} (h : ClsR X.prog X.w X.K X.mg X.base C m k sp) (hr : Room k X.A) (he : PE X o ta) (ha : PA X (e :: es) t)
    (hst : starEach (e :: es) X.env = (false, eval e X.env) :: starEach es X.env := by rfl) (hpl : (backTo pos (starEach es X.env)).any (·.1) = false := by rfl)
    (ht : eval (.Call (.Attribute o m apos) (e :: es) [] pos) X.env = (do
      let ov ← eval o X.env
      standAt apos.atName
      let (f, first) ← holding [ov] (getMethod ov m pl)
      callWith pos f first (backTo pos (starEach (e :: es) X.env)) (backToKw pos (keywordEach [] X.env))) := by rfl) :
    PE X (.Call (.Attribute o m apos) (e :: es) [] pos) (tCMeth C sp E0 ta t) := by
  obtain ⟨mc, p, g, r, c, F⟩ := h
  exact pe_cmeth he r c F hr pass0 ha hst hpl ht
end RV
/-! steps with sums over a heap that only grows -/
namespace RV
open PySem L2 PyProof.Rows TL
/-- pairs of names, so many, so great in all -/
structure Raw (qs : List (Str × Int)) (n b : Nat) : Prop where
  nm : ∀ q ∈ qs, IsNm q.1
  ln : qs.length ≤ n
  tt : tot qs ≤ b
theorem Raw.app {qs rs : List (Str × Int)} {n b m c : Nat} (h : Raw qs n b) (k : Raw rs m c) : Raw (qs ++ rs) (n + m) (b + c) :=
  ⟨fun q hq => (List.mem_append.mp hq).elim (h.nm q) (k.nm q), by rw [List.length_append]; exact Nat.add_le_add h.ln k.ln, by rw [tot_app]; exact Nat.add_le_add h.tt k.tt⟩
theorem Raw.scl {qs : List (Str × Int)} {n b : Nat} {i : Int} {j : Nat} (h : Raw qs n b) (hi : i.natAbs ≤ j) : Raw (RV.scl i qs) n (j * b) :=
  ⟨scl_isNm h.nm, by rw [scl_len]; exact h.ln, by rw [scl_tot]; exact Nat.mul_le_mul hi h.tt⟩
theorem Raw.mono {qs : List (Str × Int)} {n b m c : Nat} (h : Raw qs n b) (hn : n ≤ m) (hb : b ≤ c) : Raw qs m c := ⟨h.nm, Nat.le_trans h.ln hn, Nat.le_trans h.tt hb⟩
theorem Raw.nil (n b : Nat) : Raw [] n b := ⟨fun _ hq => (nomatch hq), Nat.zero_le _, Nat.zero_le _⟩
theorem Mad.of {qs rs ds : List (Str × Int)} (h : Mad rs ds) (hc : ∀ x, RV.co rs x = RV.co qs x) (hn : ∀ q ∈ rs, q.1 ∈ qs.map (·.1)) (hl : rs.length ≤ qs.length) : Mad qs ds := by
  refine ⟨h.nr, fun x => (h.co x).trans (hc x), fun q hq => ?_, Nat.le_trans h.ln hl⟩
  obtain ⟨r, hr, e⟩ := List.mem_map.mp (h.nm q hq)
  exact e ▸ hn r hr
theorem Mad.app2 {qs qs' rs rs' ds : List (Str × Int)} (h : Mad qs qs') (h2 : Mad rs rs') (k : Mad (qs' ++ rs') ds) : Mad (qs ++ rs) ds := by
  refine k.of (fun x => by rw [co_app, co_app, h.co, h2.co]) (fun q hq => ?_) (by rw [List.length_append, List.length_append]; exact Nat.add_le_add h.ln h2.ln)
  rw [List.map_append, List.mem_append]
  exact (List.mem_append.mp hq).imp (h.nm q) (h2.nm q)
theorem Mad.scl {qs rs : List (Str × Int)} (h : Mad qs rs) (i : Int) : ∀ q ∈ RV.scl i rs, q.1 ∈ (RV.scl i qs).map (·.1) := fun q hq => by
  rw [scl_nm]
  obtain ⟨r, hr, rfl⟩ := List.mem_map.mp hq
  exact h.nm r hr
theorem Mad.mul {qs rs ds : List (Str × Int)} {i : Int} (h : Mad qs rs) (k : Mad (RV.scl i rs) ds) : Mad (RV.scl i qs) ds :=
  k.of (fun x => by rw [scl_co, scl_co, h.co]) (h.scl i) (by rw [scl_len, scl_len]; exact h.ln)
/-- a sum of these pairs, as they were given -/
def Own (C : Addr) (H : Hp) (x : Addr) (qs : List (Str × Int)) : Prop := ∃ rs, SumR C H x rs ∧ Mad qs rs
section
variable {K : PySem.W.Frag} {C a b l x : Addr} {H H' : Hp} {qs rs : List (Str × Int)} {n m c d : Nat} {Q : VK} {E : XK} {us : List TP}
theorem Own.ext (h : Own C H x qs) (s : Same H H') : Own C H' x qs := by
  obtain ⟨rs, hs, md⟩ := h
  exact ⟨rs, hs.ext s, md⟩
theorem Raw.due (r : Raw qs n d) (md : Mad qs rs) (hn : n ≤ 60) (hd : d ≤ 10 ^ 42) : Due rs := md.due r.nm (Nat.le_trans r.ln hn) (Nat.le_trans r.tt hd)
theorem Due.lit (h : Due qs) : Lit qs := ⟨h.nm, fun _ hq => Nat.lt_of_le_of_lt (tot_mem hq) (Nat.lt_of_le_of_lt h.tt (by decide)), h.ln⟩
theorem add_step (ha : Own C H a qs) (hb : Own C H b rs) (r1 : Raw qs n c) (r2 : Raw rs m d) (hn : n + m ≤ 60) (hc : c ≤ 10 ^ 42) (hd : d ≤ 10 ^ 42)
    (k : ∀ x H', Own C H' x (qs ++ rs) → Same H H' → Q (.ref x) H') : rBinO C (Irr (sp_addS C)) (.ref a) (.ref b) H Q := by
  unfold rBinO
  obtain ⟨qs', ha, m1⟩ := ha
  obtain ⟨rs', hb, m2⟩ := hb
  have d1 := r1.due m1 (by omega) hc
  have d2 := r2.due m2 (by omega) hd
  obtain ⟨dx, t, us, e, q⟩ := id ha
  obtain ⟨dy, t2, us2, e2, q2⟩ := id hb
  refine ⟨a, b, dx, _, dy, _, rfl, rfl, q _ List.mem_cons_self, q2 _ List.mem_cons_self, irr ⟨a, b, qs', rs', rfl, ha, hb, fun q hq => (List.mem_append.mp hq).elim (d1.nm q) (d2.nm q), ?_, fun x dx' t' ds H' md kp => ⟨x, rfl, k x H' ⟨_, SumR.of fun p hp => kp.at hp, m1.app2 m2 md⟩ kp.sm⟩⟩⟩
  refine Few.of ?_
  have := m1.ln
  have := m2.ln
  have := r1.ln
  have := r2.ln
  rw [List.length_append]
  omega
theorem sub_step (ha : Own C H a qs) (hb : Own C H b rs) (r1 : Raw qs n c) (r2 : Raw rs m d) (hn : n + m ≤ 60) (hc : c ≤ 10 ^ 42) (hd : d ≤ 10 ^ 42)
    (k : ∀ x H', Own C H' x (qs ++ scl (-1) rs) → Same H H' → Q (.ref x) H') : rBinO C (Irr (sp_subS C)) (.ref a) (.ref b) H Q := by
  unfold rBinO
  obtain ⟨qs', ha, m1⟩ := ha
  obtain ⟨rs', hb, m2⟩ := hb
  have d1 := r1.due m1 (by omega) hc
  have d2 := r2.due m2 (by omega) hd
  obtain ⟨dx, t, us, e, q⟩ := id ha
  obtain ⟨dy, t2, us2, e2, q2⟩ := id hb
  refine ⟨a, b, dx, _, dy, _, rfl, rfl, q _ List.mem_cons_self, q2 _ List.mem_cons_self, irr ⟨a, b, qs', rs', rfl, ha, hb, d1.nm, d2.lit, ?_, fun x dx' t' ds H' md kp => ⟨x, rfl, k x H' ⟨_, SumR.of fun p hp => kp.at hp, ?_⟩ kp.sm⟩⟩⟩
  · refine Few.of ?_
    have := m1.ln
    have := m2.ln
    have := r1.ln
    have := r2.ln
    rw [List.length_append]
    omega
  · refine md.of (fun x => by rw [co_app, co_app, scl_co, scl_co, m1.co, m2.co]) (fun q hq => ?_) (by rw [List.length_append, List.length_append, scl_len, scl_len]; exact Nat.add_le_add m1.ln m2.ln)
    rw [List.map_append, List.mem_append]
    exact (List.mem_append.mp hq).imp (m1.nm q) (m2.scl (-1) q)
theorem mulO_step {i : Int} (ha : Own C H a qs) (r1 : Raw qs n c) (hn : n ≤ 60) (hc : c ≤ 10 ^ 42) (hi : i.natAbs < 10 ^ 60)
    (k : ∀ x H', Own C H' x (scl i qs) → Same H H' → Q (.ref x) H') : rMulO C (Irr (sp_mulS C)) (.ref a) (.int i) H Q := by
  unfold rMulO
  obtain ⟨qs', ha, m1⟩ := ha
  have d1 := r1.due m1 hn hc
  obtain ⟨dx, t, us, e, q⟩ := id ha
  exact ⟨a, i, dx, _, rfl, rfl, q _ List.mem_cons_self, irr ⟨a, qs', i, rfl, ha, d1.lit, hi, fun x dx' t' ds H' md kp => ⟨x, rfl, k x H' ⟨_, SumR.of fun p hp => kp.at hp, m1.mul md⟩ kp.sm⟩⟩⟩
theorem mulI_step {i : Int} (ha : Own C H a qs) (r1 : Raw qs n c) (hn : n ≤ 60) (hc : c ≤ 10 ^ 42) (hi : i.natAbs < 10 ^ 60)
    (k : ∀ x H', Own C H' x (scl i qs) → Same H H' → Q (.ref x) H') : rMulI C (Irr (sp_mulS C)) (.int i) (.ref a) H Q := by
  unfold rMulI
  obtain ⟨qs', ha, m1⟩ := ha
  have d1 := r1.due m1 hn hc
  obtain ⟨dx, t, us, e, q⟩ := id ha
  exact ⟨a, i, dx, _, rfl, rfl, q _ List.mem_cons_self, irr ⟨a, qs', i, rfl, ha, d1.lit, hi, fun x dx' t' ds H' md kp => ⟨x, rfl, k x H' ⟨_, SumR.of fun p hp => kp.at hp, m1.mul md⟩ kp.sm⟩⟩⟩
theorem neg_step (ha : Own C H a qs) (r1 : Raw qs n c) (hn : n ≤ 60) (hc : c ≤ 10 ^ 42)
    (k : ∀ x H', Own C H' x (scl (-1) qs) → Same H H' → Q (.ref x) H') : rNegO C (Irr (sp_negS C)) (.ref a) H Q := by
  unfold rNegO
  obtain ⟨qs', ha, m1⟩ := ha
  have d1 := r1.due m1 hn hc
  obtain ⟨dx, t, us, e, q⟩ := id ha
  exact ⟨a, dx, _, rfl, q _ List.mem_cons_self, irr ⟨a, qs', rfl, ha, d1.lit, fun x dx' t' ds H' md kp => k x H' ⟨_, SumR.of fun p hp => kp.at hp, m1.mul md⟩ kp.sm⟩⟩
/-- a list of pairs -/
structure Lsp (K : PySem.W.Frag) (H : Hp) (l : Addr) (us : List TP) : Prop where
  hd : H l = some (.lst (vP us))
  ps : TPs K H us
theorem Lsp.ext (h : Lsp K H l us) (s : Same H H') : Lsp K H' l us := ⟨s _ _ h.hd, h.ps.ext s⟩
theorem Lsp.sL (h : Lsp K H l us) : SqL K H l (vP us) := SqL.of h.hd
theorem Has.lsp {H0 : Hp} {a : Addr} {n : Nat} (h : Has H0 a n (lT l us) H) : Lsp K H l us := ⟨h.at List.mem_cons_self, h.sP⟩
theorem times_step {i : Int} (hl : Lsp K H l us) (r : Raw (prs us) n c) (hn : n ≤ 60) (hc : c ≤ 10 ^ 42) (hi : i.natAbs < 10 ^ 60)
    (k : ∀ (ws : List TP) (m : Addr) H', prs ws = scl i (prs us) → Lsp K H' m ws → Same H H' → Q (.ref m) H') : Irr (sp_times K) [.ref l, .int i] H Q E :=
  irr ⟨l, us, i, rfl, hl.sL, hl.ps, fun _ hq => Nat.lt_of_le_of_lt (tot_mem hq) (Nat.lt_of_le_of_lt (Nat.le_trans r.tt hc) (by decide)), by rw [← prs_len]; exact Nat.le_trans r.ln hn, hi,
    fun ws m H' e kp => k ws m H' e ⟨kp.at List.mem_cons_self, fun u hu => SqT.of (kp.at (List.mem_cons_of_mem _ (List.mem_map.mpr ⟨u, hu, rfl⟩)))⟩ kp.sm⟩
theorem is_step (hx : Own C H x qs) (hl : Lsp K H l us) (r : Raw (prs us) n c) (hn : n ≤ 60) (hc : c ≤ 10 ^ 42) (he : ∀ y, co qs y = co (prs us) y) (k : ∀ H', Same H H' → Q (.bl true) H') : Irr (sp_is K C) [.ref x, .ref l] H Q E := by
  obtain ⟨rs, hs, md⟩ := hx
  exact irr ⟨x, l, rs, us, rfl, hs, md.nr, hl.sL, hl.ps, r.nm, by rw [← prs_len]; exact Nat.le_trans r.ln hn, Nat.le_trans r.tt hc, fun y => (md.co y).trans (he y), k⟩
/-- xs + ys -/
theorem cat_step {l1 l2 : Addr} {vs : List TP} (h1 : Lsp K H l1 us) (h2 : Lsp K H l2 vs) (hn : us.length + vs.length ≤ 1000)
    (k : ∀ lo H', Lsp K H' lo (us ++ vs) → Same H H' → Q (.ref lo) H') : rCat (.ref l1) (.ref l2) H Q :=
  ⟨l1, l2, _, _, rfl, rfl, h1.hd, h2.hd, by rw [vP_len, vP_len]; exact Nat.le_trans hn (by decide), fun lo nlo => by
    have s : Same H (upd H lo (.lst (vP us ++ vP vs))) := fun b o e => by rw [upd_ne (ne_of_none e nlo)]; exact e
    exact k lo _ ⟨by rw [vP_app]; exact upd_same, fun u hu => (List.mem_append.mp hu).elim (h1.ps.ext s u) (h2.ps.ext s u)⟩ s⟩
end
/-- C() with the written part's empty tuple, C(tuple(xs)) -/
theorem made_step {K : PySem.W.Frag} {C x dx t : Addr} {H : Hp} {us : List TP} {E : XK} {R : Hp → Prop} {n c : Nat} (ht : SqT K H t (vP us)) (hp : TPs K H us) (r : Raw (prs us) n c) (hn : n ≤ 60) (nx : H x = none) (nd : H dx = none) (ne : dx ≠ x)
    (k : ∀ H2, Own C H2 x (prs us) → Same H H2 → R H2) : Irr (sp_Sum K C) [.ref x, .ref t] (upd (upd H dx (.own x)) x (.ins C dx [])) (fun v H2 => v = .non ∧ R H2) E :=
  Sum_kp ⟨ht, hp, r.nm, by rw [← prs_len]; exact Nat.le_trans r.ln hn⟩ nx nd ne fun ds m dx' H2 md kp => k H2 ⟨_, SumR.of fun p hp => kp.at hp, md⟩ kp.sm
/-- tuple(l) -/
theorem tup_step {K : PySem.W.Frag} {H : Hp} {l : Addr} {xs : List V} {R : V → Hp → Prop} (hl : SqL K H l xs) (k : ∀ m H', SqT K H' m xs → Same H H' → R (.ref m) H') :
    ∃ p ys, [V.ref l] = [V.ref p] ∧ ((SqL K H p ys ∧ ∀ m, H m = none → R (.ref m) (upd H m (.tup ys))) ∨ (SqT K H p ys ∧ R (.ref p) H)) :=
  ⟨l, xs, rfl, .inl ⟨hl, fun m nm => k m _ (SqT.of upd_same) fun b o e => by rw [upd_ne (ne_of_none e nm)]; exact e⟩⟩
def sp_mults : Sp := fun vs H Q _ => ∃ (a : Addr) (n : Nat), vs = [.ref a] ∧ WellAt H a n ∧ n < 800000 ∧ ∀ H', Grow a H H' → WellAt H' a (n + 100) → Q (.bl true) H'
theorem Has.wm {H0 H : Hp} {a : Addr} {n m : Nat} {L : List (Addr × HO)} (h : Has H0 a n L H) (e : n ≤ m) : Has H0 a m L H := ⟨h.gr, h.well.mono e, h.here⟩
end RV
/-! rows of sums beside their models -/
namespace RV
open PySem L2 PyProof.Rows TL
/-! ### data that are equal -/
theorem eqvAll_pairs : ∀ qs rs : List (Str × Int), PyData.eqvAll (qs.map dq) (rs.map dq) = decide (qs = rs)
  | [], [] => by simp [PyData.eqvAll]
  | [], _ :: _ => by simp [PyData.eqvAll]
  | _ :: _, [] => by simp [PyData.eqvAll]
  | q :: qs, r :: rs => by
    rw [List.map_cons, List.map_cons, PyData.eqvAll, eqv_dq, eqvAll_pairs qs rs]
    by_cases h1 : q = r <;> by_cases h2 : qs = rs <;> simp [h1, h2]
theorem eqv_pairsL (qs rs : List (Str × Int)) : PyData.eqv (.list (qs.map dq)) (.list (rs.map dq)) = decide (qs = rs) := by rw [PyData.eqv, eqvAll_pairs]
theorem eqvAll_bools : ∀ bs : List Bool, PyData.eqvAll (bs.map PyData.bool) (bs.map PyData.bool) = true
  | [] => rfl
  | b :: bs => by simp [PyData.eqvAll, PyData.eqv, eqvAll_bools bs]
theorem eqv_bools (bs : List Bool) : PyData.eqv (.list (bs.map PyData.bool)) (.list (bs.map PyData.bool)) = true := by rw [PyData.eqv, eqvAll_bools]
theorem shaped_bools (bs : List Bool) : SeqAt.shaped (.list (bs.map PyData.bool)) = true := by
  have h1 : ∀ bs : List Bool, PyData.canLayAll0 (bs.map PyData.bool) = true := by
    intro bs
    induction bs with
    | nil => simp [PyData.canLayAll0]
    | cons b bs ih => simp [PyData.canLayAll0, PyData.canLay0, ih]
  have h2 : ∀ bs : List Bool, PyData.depthAll (bs.map PyData.bool) ≤ 1 := by
    intro bs
    induction bs with
    | nil => simp [PyData.depthAll]
    | cons b bs ih => simp [PyData.depthAll, PyData.depth]; omega
  have := h2 bs
  simp [SeqAt.shaped, PyData.canLay0, PyData.depth, h1]
  omega
theorem dps_bools {K : PySem.W.Frag} {H : Hp} : ∀ bs : List Bool, DpAll K H (bs.map V.bl) (bs.map PyData.bool)
  | [] => .nil
  | b :: bs => .cons (.bl b) (dps_bools bs)
/-! ### what stands, where a list is changed -/
section
variable {K : PySem.W.Frag} {C t p l x : Addr} {H H' : Hp} {xs ys : List V} {us : List TP} {qs : List (Str × Int)}
theorem SqT.gro (h : SqT K H t xs) (e : H p = some (.lst ys)) (g : Grow p H H') : SqT K H' t xs := by
  rcases h with h | h
  · refine .inl ?_
    rcases h with h | ⟨o, h⟩
    · exact .inl (g _ _ (fun z => by rw [z, e] at h; cases h) h)
    · exact .inr ⟨o, g _ _ (fun z => by rw [z, e] at h; cases h) h⟩
  · exact .inr h
theorem TPs.gro (h : TPs K H us) (e : H p = some (.lst ys)) (g : Grow p H H') : TPs K H' us := fun u hu => SqT.gro (h u hu) e g
theorem SumR.gro (h : SumR C H x qs) (e : H p = some (.lst ys)) (g : Grow p H H') : SumR C H' x qs := by
  obtain ⟨dx, t, us, e1, k⟩ := h
  refine ⟨dx, t, us, e1, fun q hq => g _ _ (fun z => ?_) (k q hq)⟩
  have w := k q hq
  rw [z, e] at w
  have w := Option.some.inj w
  simp only [lS, List.mem_cons, lP, List.mem_map] at hq
  rcases hq with rfl | rfl | ⟨u, _, rfl⟩ <;> cases w
theorem Lsp.gro (h : Lsp K H l us) (n : l ≠ p) (e : H p = some (.lst ys)) (g : Grow p H H') : Lsp K H' l us := ⟨g _ _ n h.hd, h.ps.gro e g⟩
theorem Grow.put {o : HO} : Grow p H (upd H p o) := fun _ _ n e => by rw [upd_ne n]; exact e
end
/-! ### a sum and its model -/
abbrev Rw := Addr × Addr × List TP
structure One (K : PySem.W.Frag) (C : Addr) (H : Hp) (r : Rw) : Prop where
  sr : SumR C H r.1 (prs r.2.2)
  ls : Lsp K H r.2.1 r.2.2
theorem One.ext {K : PySem.W.Frag} {C : Addr} {H H' : Hp} {r : Rw} (h : One K C H r) (s : Same H H') : One K C H' r := ⟨h.sr.ext s, h.ls.ext s⟩
theorem sub_len : ∀ {xs ys : List Str}, xs.Pairwise Lt → (∀ x ∈ xs, x ∈ ys) → xs.length ≤ ys.length
  | [], _, _, _ => Nat.zero_le _
  | x :: xs, ys, h, s => by
    rw [List.pairwise_cons] at h
    have hx := s x List.mem_cons_self
    have := sub_len (ys := ys.erase x) h.2 fun y hy => (List.mem_erase_of_ne (fun e => Lt.irr y (by have := h.1 y hy; rwa [← e] at this))).mpr (s y (List.mem_cons_of_mem _ hy))
    rw [List.length_erase_of_mem hx] at this
    have := List.length_pos_of_mem hx
    rw [List.length_cons]
    omega
/-- no coefficient of a model is greater -/
def lim : Nat := 3 * 10 ^ 33
structure Fit (pool : List Str) (us : List TP) : Prop where
  nr : Nrm (prs us)
  nm : ∀ q ∈ prs us, IsNm q.1
  pl : ∀ q ∈ prs us, q.1 ∈ pool
  sm : ∀ q ∈ prs us, q.2.natAbs ≤ lim
section
variable {pool pool' : List Str} {us ds : List TP} {K : PySem.W.Frag} {C x : Addr} {H : Hp} {qs rs : List (Str × Int)}
theorem Fit.mono (h : Fit pool us) (s : ∀ x ∈ pool, x ∈ pool') : Fit pool' us := ⟨h.nr, h.nm, fun q hq => s _ (h.pl q hq), h.sm⟩
theorem Fit.len (h : Fit pool us) : us.length ≤ pool.length := by
  have := sub_len h.nr.asc fun x hx => by
    obtain ⟨q, hq, rfl⟩ := List.mem_map.mp hx
    exact h.pl q hq
  rwa [List.length_map, prs_len] at this
theorem Fit.raw (h : Fit pool us) (hp : pool.length ≤ 60) : Raw (prs us) 60 (60 * lim) := by
  have l := Nat.le_trans h.len hp
  refine ⟨h.nm, by rw [prs_len]; exact l, Nat.le_trans (tot_mul h.sm) ?_⟩
  rw [prs_len]
  exact Nat.mul_le_mul_right _ l
theorem Fit.due (h : Fit pool us) (hp : pool.length ≤ 60) : Due (prs us) := ⟨h.nr, h.nm, Nat.le_trans (h.raw hp).tt (by decide), (h.raw hp).ln⟩
theorem Own.one (h : Own C H x qs) (md : Mad qs rs) : SumR C H x rs := by
  obtain ⟨rs', hs, md'⟩ := h
  rw [md.same md' fun _ => rfl]
  exact hs
theorem SumR.own (h : SumR C H x qs) (n : Nrm qs) : Own C H x qs := ⟨qs, h, n, fun _ => rfl, fun q hq => List.mem_map.mpr ⟨q, hq, rfl⟩, Nat.le_refl _⟩
theorem Mad.fit (md : Mad (prs us) (prs ds)) (nm : ∀ q ∈ prs us, IsNm q.1) (pl : ∀ q ∈ prs us, q.1 ∈ pool) (sm : ∀ y, (RV.co (prs us) y).natAbs ≤ lim) : Fit pool ds := by
  refine ⟨md.nr, fun q hq => ?_, fun q hq => ?_, fun q hq => ?_⟩
  · obtain ⟨r, hr, e⟩ := List.mem_map.mp (md.nm q hq)
    exact e ▸ nm r hr
  · obtain ⟨r, hr, e⟩ := List.mem_map.mp (md.nm q hq)
    exact e ▸ pl r hr
  · rw [← md.nr.co hq, md.co]
    exact sm _
/-- no coefficient is greater: of a model with none greater -/
theorem Fit.co (h : Fit pool us) {c : Nat} (hc : ∀ q ∈ prs us, q.2.natAbs ≤ c) (y : Str) : (RV.co (prs us) y).natAbs ≤ c := by
  by_cases e : RV.co (prs us) y = 0
  · rw [e]
    exact Nat.zero_le _
  · obtain ⟨q, hq, rfl⟩ := List.mem_map.mp ((h.nr.mem y).mpr e)
    rw [h.nr.co hq]
    exact hc q hq
end
/-! ### steps with greater sums -/
section
variable {K : PySem.W.Frag} {C a b : Addr} {H : Hp} {qs rs : List (Str × Int)} {n m c d : Nat} {Q : VK}
theorem add_step2 (ha : Own C H a qs) (hb : Own C H b rs) (r1 : Raw qs n c) (r2 : Raw rs m d) (hn : n ≤ 60) (hm : m ≤ 60) (hp : ∃ pool : List Str, pool.length ≤ 60 ∧ ∀ q ∈ qs ++ rs, q.1 ∈ pool) (hc : c ≤ 10 ^ 42) (hd : d ≤ 10 ^ 42)
    (k : ∀ x H', Own C H' x (qs ++ rs) → Same H H' → Q (.ref x) H') : rBinO C (Irr (sp_addS C)) (.ref a) (.ref b) H Q := by
  unfold rBinO
  obtain ⟨qs', ha, m1⟩ := ha
  obtain ⟨rs', hb, m2⟩ := hb
  have d1 := r1.due m1 hn hc
  have d2 := r2.due m2 hm hd
  obtain ⟨dx, t, us, e, q⟩ := id ha
  obtain ⟨dy, t2, us2, e2, q2⟩ := id hb
  refine ⟨a, b, dx, _, dy, _, rfl, rfl, q _ List.mem_cons_self, q2 _ List.mem_cons_self, irr ⟨a, b, qs', rs', rfl, ha, hb, fun q hq => (List.mem_append.mp hq).elim (d1.nm q) (d2.nm q), ?_, fun x dx' t' ds H' md kp => ⟨x, rfl, k x H' ⟨_, SumR.of fun p hp => kp.at hp, m1.app2 m2 md⟩ kp.sm⟩⟩⟩
  refine ⟨?_, hp.imp fun pool hp => ⟨hp.1, fun q hq => ?_⟩⟩
  · have := m1.ln
    have := m2.ln
    have := r1.ln
    have := r2.ln
    rw [List.length_append]
    omega
  · rcases List.mem_append.mp hq with hq | hq
    · obtain ⟨r, hr, e⟩ := List.mem_map.mp (m1.nm q hq)
      exact e ▸ hp.2 r (List.mem_append_left _ hr)
    · obtain ⟨r, hr, e⟩ := List.mem_map.mp (m2.nm q hq)
      exact e ▸ hp.2 r (List.mem_append_right _ hr)
theorem sub_step2 (ha : Own C H a qs) (hb : Own C H b rs) (r1 : Raw qs n c) (r2 : Raw rs m d) (hn : n ≤ 60) (hm : m ≤ 60) (hp : ∃ pool : List Str, pool.length ≤ 60 ∧ ∀ q ∈ qs ++ rs, q.1 ∈ pool) (hc : c ≤ 10 ^ 42) (hd : d ≤ 10 ^ 42)
    (k : ∀ x H', Own C H' x (qs ++ scl (-1) rs) → Same H H' → Q (.ref x) H') : rBinO C (Irr (sp_subS C)) (.ref a) (.ref b) H Q := by
  unfold rBinO
  obtain ⟨qs', ha, m1⟩ := ha
  obtain ⟨rs', hb, m2⟩ := hb
  have d1 := r1.due m1 hn hc
  have d2 := r2.due m2 hm hd
  obtain ⟨dx, t, us, e, q⟩ := id ha
  obtain ⟨dy, t2, us2, e2, q2⟩ := id hb
  refine ⟨a, b, dx, _, dy, _, rfl, rfl, q _ List.mem_cons_self, q2 _ List.mem_cons_self, irr ⟨a, b, qs', rs', rfl, ha, hb, d1.nm, d2.lit, ?_, fun x dx' t' ds H' md kp => ⟨x, rfl, k x H' ⟨_, SumR.of fun p hp => kp.at hp, ?_⟩ kp.sm⟩⟩⟩
  · refine ⟨?_, hp.imp fun pool hp => ⟨hp.1, fun q hq => ?_⟩⟩
    · have := m1.ln
      have := m2.ln
      have := r1.ln
      have := r2.ln
      rw [List.length_append]
      omega
    · rcases List.mem_append.mp hq with hq | hq
      · obtain ⟨r, hr, e⟩ := List.mem_map.mp (m1.nm q hq)
        exact e ▸ hp.2 r (List.mem_append_left _ hr)
      · obtain ⟨r, hr, e⟩ := List.mem_map.mp (m2.nm q hq)
        exact e ▸ hp.2 r (List.mem_append_right _ hr)
  · refine md.of (fun x => by rw [co_app, co_app, scl_co, scl_co, m1.co, m2.co]) (fun q hq => ?_) (by rw [List.length_append, List.length_append, scl_len, scl_len]; exact Nat.add_le_add m1.ln m2.ln)
    rw [List.map_append, List.mem_append]
    exact (List.mem_append.mp hq).imp (m1.nm q) (m2.scl (-1) q)
end
section
variable {K : PySem.W.Frag} {l D : Addr} {us : List TP} {i j : Nat} {te : TE} {vs : List Nat} {σ : L2.St} {H1 : Hp} {Qd : Hp → Prop}
/-- [(x, n * z) for x, z in l] -/
theorem lc_scl (n : Int) (hl : Lsp K H1 l us) (nD : H1 D = none) (len : us.length ≤ 1000) (hw : ∀ x y, wipe (((wipe σ vs).set i x).set j y) vs = wipe σ vs)
    (h : ∀ q ∈ prs us, ∀ H2, Same H1 H2 → ∀ R : VK, (∀ t, H2 t = none → R (.ref t) (upd H2 t (.tup [.str q.1, .int (n * q.2)]))) → te (((wipe σ vs).set i (some (.str q.1))).set j (some (.int q.2))) H2 R)
    (k : ∀ (ws : List TP) H', prs ws = scl n (prs us) → Lsp K H' D ws → Same H1 H' → Qd H') :
    ∃ W : Nat → Nat → Hp → Prop, (∃ m, W 0 m (upd H1 D (.lst []))) ∧ ∀ i' m H, W i' m H →
      ((Itl K l).stop i' H ∧ Qd H) ∨ ((Itl K l).go i' H ∧ ∃ Nx : Hp → Prop, (∀ H', Nx H' → ∃ m', m' < m ∧ W (i' + 1) m' H') ∧ ∀ x H', (Itl K l).yld i' H x H' → gPr K i j x (wipe σ vs) H' fun σ2 H2 => wipe σ2 vs = wipe σ vs ∧ tYes σ2 H2 fun b H3 =>
        if b = true then te σ2 H3 fun y H4 => ∃ acc, H4 D = some (.lst acc) ∧ acc.length < sizeLine ∧ Nx (upd H4 D (.lst (acc ++ [y]))) else Nx H3) :=
  lc_mk (us := us) (fun q => (q.1, n * q.2)) _ (fun H' => SqL K H' l (vP us)) walkL hl.ps nD len (fun H' sm => hl.sL.ext sm) hw h fun ws H' e kp eD => k ws H' e ⟨eD, fun u hu => SqT.of (kp.at (List.mem_map.mpr ⟨u, hu, rfl⟩))⟩ kp.sm
end
def rTupOf (K : PySem.W.Frag) : List V → Hp → VK → Prop := fun xs H Q => ∃ p ys, xs = [V.ref p] ∧ ((SqL K H p ys ∧ ∀ l, H l = none → Q (.ref l) (upd H l (.tup ys))) ∨ (SqT K H p ys ∧ Q (.ref p) H))
theorem call_tuple_ofK {X : Cx} {K : PySem.W.Frag} (h : X.K = K := by rfl) : CallR X (.type "tuple") (rTupOf K) := h ▸ call_tuple_of
/-! ### promises -/
def vS (rs : List Rw) : List V := rs.map fun r => .ref r.1
def vM (rs : List Rw) : List V := rs.map fun r => .ref r.2.1
section
variable {K : PySem.W.Frag} {a D : Addr} {rs : List Rw} {i : Nat} {te : TE} {vs : List Nat} {σ : L2.St} {H1 : Hp} {Qd : Hp → Prop}
/-- [p(x) for x in xs]: p makes no thing and answers True or False -/
theorem lc_bools (v : Rw → V) (b : Rw → Bool) (hl : SqL K H1 a (rs.map v)) (nD : H1 D = none) (len : rs.length ≤ 1000) (hw : ∀ x, wipe ((wipe σ vs).set i x) vs = wipe σ vs)
    (h : ∀ r ∈ rs, ∀ H2, Same H1 H2 → ∀ R : VK, R (.bl (b r)) H2 → te ((wipe σ vs).set i (some (v r))) H2 R)
    (k : ∀ H', Same H1 H' → H' D = some (.lst ((rs.map b).map V.bl)) → Qd H') :
    ∃ W : Nat → Nat → Hp → Prop, (∃ m, W 0 m (upd H1 D (.lst []))) ∧ ∀ i' m H, W i' m H →
      ((Itl K a).stop i' H ∧ Qd H) ∨ ((Itl K a).go i' H ∧ ∃ Nx : Hp → Prop, (∀ H', Nx H' → ∃ m', m' < m ∧ W (i' + 1) m' H') ∧ ∀ x H', (Itl K a).yld i' H x H' → gName i x (wipe σ vs) H' fun σ2 H2 => wipe σ2 vs = wipe σ vs ∧ tYes σ2 H2 fun b H3 =>
        if b = true then te σ2 H3 fun y H4 => ∃ acc, H4 D = some (.lst acc) ∧ acc.length < sizeLine ∧ Nx (upd H4 D (.lst (acc ++ [y]))) else Nx H3) := by
  refine lc_list (xs := rs.map v) (fun i' H => Same H1 H ∧ H D = some (.lst (((rs.take i').map b).map V.bl))) ⟨fun b o e => by rw [upd_ne (ne_of_none e nD)]; exact e, upd_same⟩ (fun _ H _ z => hl.ext z.1) ?_ ?_
  · rintro i' x H hx ⟨sm, hD⟩
    rw [List.getElem?_map] at hx
    cases hu : rs[i']? with
    | none => rw [hu] at hx; cases hx
    | some u =>
      rw [hu] at hx
      obtain rfl : v u = x := Option.some.inj hx
      have hm : u ∈ rs := List.mem_of_getElem? hu
      have et : rs.take (i' + 1) = rs.take i' ++ [u] := by
        rw [List.take_add_one, hu]
        rfl
      have e0 : ∀ (σ : L2.St) (H : Hp) (R : Bool → Hp → Prop), R true H → tYes σ H R := fun _ _ _ r => r
      refine ⟨hw _, e0 _ _ _ ?_⟩
      simp only [↓reduceIte]
      refine h u hm H sm _ ⟨_, hD, ?_, fun b o e => by rw [upd_ne (ne_of_none e nD)]; exact sm b o e, ?_⟩
      · have l2 := List.length_take_le' i' rs
        rw [List.length_map, List.length_map]
        exact Nat.lt_of_le_of_lt (Nat.le_trans l2 len) (by decide)
      · rw [upd_same, et, List.map_append, List.map_append]
        rfl
  · rintro H ⟨sm, hD⟩
    rw [List.length_map, List.take_length] at hD
    exact k H sm hD
end
/-- the greatest size -/
def sp_much (K : PySem.W.Frag) : Sp := fun vs H Q _ => ∃ (l : Addr) (us : List TP), vs = [.ref l] ∧ Lsp K H l us ∧ us.length ≤ 60 ∧ ∀ (m : Int) H', (∀ q ∈ prs us, (q.2.natAbs : Int) ≤ m) → Same H H' → Q (.int m) H'
def sp_allr (K : PySem.W.Frag) (C : Addr) : Sp := fun vs H Q _ => ∃ (S M : Addr) (rs : List Rw), vs = [.ref S, .ref M] ∧ SqL K H S (vS rs) ∧ SqL K H M (vM rs) ∧ (∀ r ∈ rs, One K C H r ∧ Due (prs r.2.2)) ∧ rs.length ≤ 20 ∧ ∀ H', Same H H' → Q (.bl true) H'
def sp_turn (K : PySem.W.Frag) (C : Addr) : Sp := fun vs H Q _ => ∃ (a S M : Addr) (n : Nat) (rs : List Rw) (pool : List Str), vs = [.ref a, .ref S, .ref M] ∧ WellAt H a n ∧ n < 600000 ∧ S ≠ a ∧ M ≠ a ∧ H S = some (.lst (vS rs)) ∧ H M = some (.lst (vM rs)) ∧ rs.length = 4 ∧
  (∀ r ∈ rs, One K C H r ∧ Fit pool r.2.2 ∧ r.2.1 ≠ a) ∧ pool.length ≤ 57 ∧
  ∀ (p x l : Addr) (us : List TP) (new : List Str) H', H' p = some (.lst [.ref x, .ref l]) → Own C H' x (prs us) → Lsp K H' l us → us.length ≤ 120 → (∀ q ∈ prs us, IsNm q.1 ∧ q.1 ∈ pool ++ new) → new.length ≤ 3 → (∀ y, (co (prs us) y).natAbs ≤ lim) →
    Grow a H H' → WellAt H' a (n + 1010) → Q (.ref p) H'
def sp_row : Sp := fun vs H Q _ => ∃ (a : Addr) (n : Nat), vs = [.ref a] ∧ WellAt H a n ∧ n < 1000 ∧ ∀ H', Grow a H H' → Q (.bl true) H'
end RV
/-! a row: a list of sums and a list of their models, both changed in place; older ones -/
namespace RV
open PySem L2 PyProof.Rows TL
structure RowAt (K : PySem.W.Frag) (C : Addr) (H0 H : Hp) (a : Addr) (n : Nat) (S M : Addr) (rs os : List Rw) (pool : List Str) (L : List (Addr × HO)) : Prop where
  hs : Has H0 a n ((S, .lst (vS rs)) :: (M, .lst (vM rs)) :: L) H
  s0 : H0 S = none
  m0 : H0 M = none
  sm : S ≠ M
  off : ∀ p ∈ L, p.1 ≠ S ∧ p.1 ≠ M
  ln : rs.length = 4
  on : ∀ r ∈ rs ++ os, One K C H r ∧ Fit pool r.2.2 ∧ r.2.1 ≠ a ∧ r.2.1 ≠ S ∧ r.2.1 ≠ M
section
variable {K : PySem.W.Frag} {C : Addr} {H0 H H' : Hp} {a S M p : Addr} {n m : Nat} {rs os os' : List Rw} {pool pool' : List Str} {L L' : List (Addr × HO)} {o : HO}
theorem RowAt.eS (h : RowAt K C H0 H a n S M rs os pool L) : H S = some (.lst (vS rs)) := h.hs.at List.mem_cons_self
theorem RowAt.eM (h : RowAt K C H0 H a n S M rs os pool L) : H M = some (.lst (vM rs)) := h.hs.at (List.mem_cons_of_mem _ List.mem_cons_self)
theorem RowAt.at (h : RowAt K C H0 H a n S M rs os pool L) (hp : (p, o) ∈ L) : H p = some o := h.hs.at (List.mem_cons_of_mem _ (List.mem_cons_of_mem _ hp))
theorem RowAt.sa (h : RowAt K C H0 H a n S M rs os pool L) : S ≠ a := (h.hs.here _ List.mem_cons_self).1
theorem RowAt.ma (h : RowAt K C H0 H a n S M rs os pool L) : M ≠ a := (h.hs.here _ (List.mem_cons_of_mem _ List.mem_cons_self)).1
theorem RowAt.grow (h : RowAt K C H0 H a n S M rs os pool L) (g : Grow a H H') (w : WellAt H' a m) : RowAt K C H0 H' a m S M rs os pool L := by
  obtain ⟨x, y, z, e, _⟩ := h.hs.well
  exact ⟨h.hs.grow g w, h.s0, h.m0, h.sm, h.off, h.ln, fun r hr => by
    obtain ⟨on, ft, na, ns, nm⟩ := h.on r hr
    exact ⟨⟨on.sr.gro e g, on.ls.gro na e g⟩, ft, na, ns, nm⟩⟩
theorem RowAt.same (h : RowAt K C H0 H a n S M rs os pool L) (s : Same H H') : RowAt K C H0 H' a n S M rs os pool L :=
  ⟨h.hs.same s, h.s0, h.m0, h.sm, h.off, h.ln, fun r hr => ⟨(h.on r hr).1.ext s, (h.on r hr).2⟩⟩
theorem RowAt.new (h : RowAt K C H0 H a n S M rs os pool L) (np : H p = none) : RowAt K C H0 (upd H p o) a n S M rs os pool ((p, o) :: L) := by
  have s : Same H (upd H p o) := fun b u e => by rw [upd_ne (ne_of_none e np)]; exact e
  refine ⟨(h.hs.new np).sub fun q hq => ?_, h.s0, h.m0, h.sm, fun q hq => ?_, h.ln, fun r hr => ⟨(h.on r hr).1.ext s, (h.on r hr).2⟩⟩
  · simp only [List.mem_cons] at hq ⊢
    rcases hq with q | q | q | q
    · exact .inr (.inl q)
    · exact .inr (.inr (.inl q))
    · exact .inl q
    · exact .inr (.inr (.inr q))
  · rcases List.mem_cons.mp hq with rfl | hq
    · refine ⟨fun e => ?_, fun e => ?_⟩
      · rw [show p = S from e, h.eS] at np
        cases np
      · rw [show p = M from e, h.eM] at np
        cases np
    · exact h.off q hq
theorem RowAt.sub (h : RowAt K C H0 H a n S M rs os pool L) (s : ∀ q ∈ L', q ∈ L) : RowAt K C H0 H a n S M rs os pool L' :=
  ⟨h.hs.sub fun q hq => by
    simp only [List.mem_cons] at hq ⊢
    exact hq.imp id fun z => z.imp id (s q), h.s0, h.m0, h.sm, fun q hq => h.off q (s q hq), h.ln, h.on⟩
theorem RowAt.mono (h : RowAt K C H0 H a n S M rs os pool L) (hn : n ≤ m) (hp : ∀ x ∈ pool, x ∈ pool') : RowAt K C H0 H a m S M rs os pool' L :=
  ⟨h.hs.wm hn, h.s0, h.m0, h.sm, h.off, h.ln, fun r hr => ⟨(h.on r hr).1, (h.on r hr).2.1.mono hp, (h.on r hr).2.2⟩⟩
/-- sums[j], models[j] = .. -/
theorem RowAt.set (h : RowAt K C H0 H a n S M rs os pool L) {r : Rw} {j : Nat} (on : One K C H r) (ft : Fit pool r.2.2) (na : r.2.1 ≠ a) (ns : r.2.1 ≠ S) (nm : r.2.1 ≠ M) :
    RowAt K C H0 (upd (upd H S (.lst ((vS rs).set j (.ref r.1)))) M (.lst ((vM rs).set j (.ref r.2.1)))) a n S M (rs.set j r) (os ++ [r]) pool L := by
  have e1 : (vS rs).set j (.ref r.1) = vS (rs.set j r) := by rw [vS, vS, List.map_set]
  have e2 : (vM rs).set j (.ref r.2.1) = vM (rs.set j r) := by rw [vM, vM, List.map_set]
  rw [e1, e2]
  have eS := h.eS
  have eM := h.eM
  have eM' : upd H S (.lst (vS (rs.set j r))) M = some (.lst (vM rs)) := by rw [upd_ne h.sm.symm]; exact eM
  have g1 : Grow S H (upd H S (.lst (vS (rs.set j r)))) := Grow.put
  have g2 : Grow M (upd H S (.lst (vS (rs.set j r)))) (upd (upd H S (.lst (vS (rs.set j r)))) M (.lst (vM (rs.set j r)))) := Grow.put
  have all : ∀ r' : Rw, One K C H r' → r'.2.1 ≠ S → r'.2.1 ≠ M → One K C (upd (upd H S (.lst (vS (rs.set j r)))) M (.lst (vM (rs.set j r)))) r' := fun r' o1 n1 n2 =>
    ⟨(o1.sr.gro eS g1).gro eM' g2, (o1.ls.gro n1 eS g1).gro n2 eM' g2⟩
  have hh : Has H0 a n L H := h.hs.sub fun q hq => List.mem_cons_of_mem _ (List.mem_cons_of_mem _ hq)
  have h1 := hh.put (o := .lst (vS (rs.set j r))) h.s0 (fun q hq => (h.off q hq).1) h.sa
  have h2 := h1.put (o := .lst (vM (rs.set j r))) h.m0 (fun q hq => (h.off q hq).2) h.ma
  refine ⟨⟨h2.gr, h2.well, fun q hq => ?_⟩, h.s0, h.m0, h.sm, h.off, by rw [List.length_set]; exact h.ln, fun r' hr' => ?_⟩
  · simp only [List.mem_cons] at hq
    rcases hq with rfl | rfl | hq
    · exact ⟨h.sa, by rw [upd_ne h.sm]; exact upd_same⟩
    · exact ⟨h.ma, upd_same⟩
    · exact h2.here q hq
  · have old : r' ∈ rs ++ os → _ := fun z => h.on r' z
    have fin : r' = r ∨ r' ∈ rs ++ os := by
      rcases List.mem_append.mp hr' with z | z
      · rcases List.mem_or_eq_of_mem_set z with z | z
        · exact .inr (List.mem_append_left _ z)
        · exact .inl z
      · rcases List.mem_append.mp z with z | z
        · exact .inr (List.mem_append_right _ z)
        · exact .inl (List.mem_singleton.mp z)
    rcases fin with rfl | z
    · exact ⟨all _ on ns nm, ft, na, ns, nm⟩
    · obtain ⟨o1, f1, n1, n2, n3⟩ := h.on r' z
      exact ⟨all r' o1 n2 n3, f1, n1, n2, n3⟩
theorem vS_len (rs : List Rw) : (vS rs).length = rs.length := List.length_map _
theorem vM_len (rs : List Rw) : (vM rs).length = rs.length := List.length_map _
theorem vS_app (rs os : List Rw) : vS (rs ++ os) = vS rs ++ vS os := List.map_append
theorem vM_app (rs os : List Rw) : vM (rs ++ os) = vM rs ++ vM os := List.map_append
end
end RV
namespace RV
open PySem L2
def top (i : Nat) : Stmt := PySem.Challenge.pw_ringvotes_k07_whole_rows_of_sums.main.body.getD i (.Pass ⟨0, 0, 0, 0⟩)
abbrev s_is_number : Stmt := top 6
abbrev sc_is_number_N : List Str := ["value"]
theorem sc_is_number : FnScope sc_is_number_N ["value"] (defScope s_is_number) := ⟨rfl, rfl, rfl, by decide +kernel, rfl, by decide +kernel, by decide +kernel⟩
abbrev s_is_name : Stmt := top 7
abbrev sc_is_name_N : List Str := ["value", "letter"]
theorem sc_is_name : FnScope sc_is_name_N ["value"] (defScope s_is_name) := ⟨rfl, rfl, rfl, by decide +kernel, rfl, by decide +kernel, by decide +kernel⟩
abbrev s_is_digits : Stmt := top 8
abbrev sc_is_digits_N : List Str := ["text"]
theorem sc_is_digits : FnScope sc_is_digits_N ["text"] (defScope s_is_digits) := ⟨rfl, rfl, rfl, by decide +kernel, rfl, by decide +kernel, by decide +kernel⟩
abbrev s_written_number : Stmt := top 9
abbrev sc_written_number_N : List Str := ["number", "pieces", "rest"]
theorem sc_written_number : FnScope sc_written_number_N ["number"] (defScope s_written_number) := ⟨rfl, rfl, rfl, by decide +kernel, rfl, by decide +kernel, by decide +kernel⟩
abbrev s_read_number : Stmt := top 10
abbrev sc_read_number_N : List Str := ["digits", "first", "number", "at"]
theorem sc_read_number : FnScope sc_read_number_N ["digits"] (defScope s_read_number) := ⟨rfl, rfl, rfl, by decide +kernel, rfl, by decide +kernel, by decide +kernel⟩
abbrev s_Sum___init__ : Stmt := inClass (top 19) 0
abbrev sc_Sum___init___N : List Str := ["self", "terms"]
theorem sc_Sum___init__ : FnScope sc_Sum___init___N ["self", "terms"] (defScope s_Sum___init__) := ⟨rfl, rfl, rfl, by decide +kernel, rfl, by decide +kernel, by decide +kernel⟩
abbrev s_Sum_read : Stmt := inClass (top 19) 1
abbrev sc_Sum_read_N : List Str := ["cls", "text", "total"]
theorem sc_Sum_read : FnScope sc_Sum_read_N ["cls", "text"] (defScope s_Sum_read) := ⟨rfl, rfl, rfl, by decide +kernel, rfl, by decide +kernel, by decide +kernel⟩
abbrev s_Sum_of : Stmt := inClass (top 19) 2
abbrev sc_Sum_of_N : List Str := ["cls", "names", "name"]
theorem sc_Sum_of : FnScope sc_Sum_of_N ["cls", "names"] (defScope s_Sum_of) := ⟨rfl, rfl, rfl, by decide +kernel, rfl, by decide +kernel, by decide +kernel⟩
abbrev s_Sum_terms : Stmt := inClass (top 19) 3
abbrev sc_Sum_terms_N : List Str := ["self"]
theorem sc_Sum_terms : FnScope sc_Sum_terms_N ["self"] (defScope s_Sum_terms) := ⟨rfl, rfl, rfl, by decide +kernel, rfl, by decide +kernel, by decide +kernel⟩
abbrev s_Sum___len__ : Stmt := inClass (top 19) 4
abbrev sc_Sum___len___N : List Str := ["self"]
theorem sc_Sum___len__ : FnScope sc_Sum___len___N ["self"] (defScope s_Sum___len__) := ⟨rfl, rfl, rfl, by decide +kernel, rfl, by decide +kernel, by decide +kernel⟩
abbrev s_Sum___bool__ : Stmt := inClass (top 19) 5
abbrev sc_Sum___bool___N : List Str := ["self"]
theorem sc_Sum___bool__ : FnScope sc_Sum___bool___N ["self"] (defScope s_Sum___bool__) := ⟨rfl, rfl, rfl, by decide +kernel, rfl, by decide +kernel, by decide +kernel⟩
abbrev s_Sum___getitem__ : Stmt := inClass (top 19) 6
abbrev sc_Sum___getitem___N : List Str := ["self", "at", "name", "number"]
theorem sc_Sum___getitem__ : FnScope sc_Sum___getitem___N ["self", "at"] (defScope s_Sum___getitem__) := ⟨rfl, rfl, rfl, by decide +kernel, rfl, by decide +kernel, by decide +kernel⟩
abbrev s_Sum___iter__ : Stmt := inClass (top 19) 7
abbrev sc_Sum___iter___N : List Str := ["self"]
theorem sc_Sum___iter__ : FnScope sc_Sum___iter___N ["self"] (defScope s_Sum___iter__) := ⟨rfl, rfl, rfl, by decide +kernel, rfl, by decide +kernel, by decide +kernel⟩
abbrev s_Sum___contains__ : Stmt := inClass (top 19) 8
abbrev sc_Sum___contains___N : List Str := ["self", "x"]
theorem sc_Sum___contains__ : FnScope sc_Sum___contains___N ["self", "x"] (defScope s_Sum___contains__) := ⟨rfl, rfl, rfl, by decide +kernel, rfl, by decide +kernel, by decide +kernel⟩
abbrev s_Sum___str__ : Stmt := inClass (top 19) 9
abbrev sc_Sum___str___N : List Str := ["self"]
theorem sc_Sum___str__ : FnScope sc_Sum___str___N ["self"] (defScope s_Sum___str__) := ⟨rfl, rfl, rfl, by decide +kernel, rfl, by decide +kernel, by decide +kernel⟩
abbrev s_Sum___eq__ : Stmt := inClass (top 19) 10
abbrev sc_Sum___eq___N : List Str := ["self", "other"]
theorem sc_Sum___eq__ : FnScope sc_Sum___eq___N ["self", "other"] (defScope s_Sum___eq__) := ⟨rfl, rfl, rfl, by decide +kernel, rfl, by decide +kernel, by decide +kernel⟩
abbrev s_Sum___add__ : Stmt := inClass (top 19) 11
abbrev sc_Sum___add___N : List Str := ["self", "other"]
theorem sc_Sum___add__ : FnScope sc_Sum___add___N ["self", "other"] (defScope s_Sum___add__) := ⟨rfl, rfl, rfl, by decide +kernel, rfl, by decide +kernel, by decide +kernel⟩
abbrev s_Sum___sub__ : Stmt := inClass (top 19) 12
abbrev sc_Sum___sub___N : List Str := ["self", "other"]
theorem sc_Sum___sub__ : FnScope sc_Sum___sub___N ["self", "other"] (defScope s_Sum___sub__) := ⟨rfl, rfl, rfl, by decide +kernel, rfl, by decide +kernel, by decide +kernel⟩
abbrev s_Sum___neg__ : Stmt := inClass (top 19) 13
abbrev sc_Sum___neg___N : List Str := ["self"]
theorem sc_Sum___neg__ : FnScope sc_Sum___neg___N ["self"] (defScope s_Sum___neg__) := ⟨rfl, rfl, rfl, by decide +kernel, rfl, by decide +kernel, by decide +kernel⟩
abbrev s_Sum___mul__ : Stmt := inClass (top 19) 14
abbrev sc_Sum___mul___N : List Str := ["self", "other", "name", "number"]
theorem sc_Sum___mul__ : FnScope sc_Sum___mul___N ["self", "other"] (defScope s_Sum___mul__) := ⟨rfl, rfl, rfl, by decide +kernel, rfl, by decide +kernel, by decide +kernel⟩
abbrev s_Sum___rmul__ : Stmt := inClass (top 19) 15
abbrev sc_Sum___rmul___N : List Str := ["self", "other"]
theorem sc_Sum___rmul__ : FnScope sc_Sum___rmul___N ["self", "other"] (defScope s_Sum___rmul__) := ⟨rfl, rfl, rfl, by decide +kernel, rfl, by decide +kernel, by decide +kernel⟩
abbrev s_check_terms : Stmt := top 20
abbrev sc_check_terms_N : List Str := ["terms", "index", "term"]
theorem sc_check_terms : FnScope sc_check_terms_N ["terms"] (defScope s_check_terms) := ⟨rfl, rfl, rfl, by decide +kernel, rfl, by decide +kernel, by decide +kernel⟩
abbrev s_is_term : Stmt := top 21
abbrev sc_is_term_N : List Str := ["value"]
theorem sc_is_term : FnScope sc_is_term_N ["value"] (defScope s_is_term) := ⟨rfl, rfl, rfl, by decide +kernel, rfl, by decide +kernel, by decide +kernel⟩
abbrev s_collected : Stmt := top 22
abbrev sc_collected_N : List Str := ["terms", "coefficients", "name", "number"]
theorem sc_collected : FnScope sc_collected_N ["terms"] (defScope s_collected) := ⟨rfl, rfl, rfl, by decide +kernel, rfl, by decide +kernel, by decide +kernel⟩
abbrev s_written_terms : Stmt := top 23
abbrev sc_written_terms_N : List Str := ["terms", "name", "number", "minus", "first"]
theorem sc_written_terms : FnScope sc_written_terms_N ["terms"] (defScope s_written_terms) := ⟨rfl, rfl, rfl, by decide +kernel, rfl, by decide +kernel, by decide +kernel⟩
abbrev s_written_further : Stmt := top 24
abbrev sc_written_further_N : List Str := ["name", "number", "sign"]
theorem sc_written_further : FnScope sc_written_further_N ["name", "number"] (defScope s_written_further) := ⟨rfl, rfl, rfl, by decide +kernel, rfl, by decide +kernel, by decide +kernel⟩
abbrev s_without_sign : Stmt := top 25
abbrev sc_without_sign_N : List Str := ["name", "number"]
theorem sc_without_sign : FnScope sc_without_sign_N ["name", "number"] (defScope s_without_sign) := ⟨rfl, rfl, rfl, by decide +kernel, rfl, by decide +kernel, by decide +kernel⟩
abbrev s_terms_in : Stmt := top 26
abbrev sc_terms_in_N : List Str := ["text", "words", "terms", "sign", "word", "term"]
theorem sc_terms_in : FnScope sc_terms_in_N ["text"] (defScope s_terms_in) := ⟨rfl, rfl, rfl, by decide +kernel, rfl, by decide +kernel, by decide +kernel⟩
abbrev s_with_sign_apart : Stmt := top 27
abbrev sc_with_sign_apart_N : List Str := ["text"]
theorem sc_with_sign_apart : FnScope sc_with_sign_apart_N ["text"] (defScope s_with_sign_apart) := ⟨rfl, rfl, rfl, by decide +kernel, rfl, by decide +kernel, by decide +kernel⟩
abbrev s_read_term : Stmt := top 28
abbrev sc_read_term_N : List Str := ["sign", "word", "digits", "star", "name", "number"]
theorem sc_read_term : FnScope sc_read_term_N ["sign", "word"] (defScope s_read_term) := ⟨rfl, rfl, rfl, by decide +kernel, rfl, by decide +kernel, by decide +kernel⟩
abbrev s_well : Stmt := top 30
abbrev sc_well_N : List Str := ["_law_cells", "_law_k", "_law_cell", "_law_other"]
theorem sc_well : FnScope sc_well_N ["_law_cells", "_law_k"] (defScope s_well) := ⟨rfl, rfl, rfl, by decide +kernel, rfl, by decide +kernel, by decide +kernel⟩
abbrev s_dip : Stmt := top 31
abbrev sc_dip_N : List Str := ["_law_well_here", "_law_many", "_law_digit", "_law_mixed"]
theorem sc_dip : FnScope sc_dip_N ["_law_well_here", "_law_many"] (defScope s_dip) := ⟨rfl, rfl, rfl, by decide +kernel, rfl, by decide +kernel, by decide +kernel⟩
abbrev s_name : Stmt := top 32
abbrev sc_name_N : List Str := ["_law_well_here", "_law_signs", "_law_line", "_law_turn"]
theorem sc_name : FnScope sc_name_N ["_law_well_here"] (defScope s_name) := ⟨rfl, rfl, rfl, by decide +kernel, rfl, by decide +kernel, by decide +kernel⟩
abbrev s_fresh : Stmt := top 33
abbrev sc_fresh_N : List Str := ["_law_well_here", "_law_taken", "_law_way", "_law_name_here", "_law_mate", "_law_free", "_law_sign", "_law_each"]
theorem sc_fresh : FnScope sc_fresh_N ["_law_well_here", "_law_taken"] (defScope s_fresh) := ⟨rfl, rfl, rfl, by decide +kernel, rfl, by decide +kernel, by decide +kernel⟩
abbrev s_number : Stmt := top 34
abbrev sc_number_N : List Str := ["_law_well_here", "_law_way", "_law_sign"]
theorem sc_number : FnScope sc_number_N ["_law_well_here"] (defScope s_number) := ⟨rfl, rfl, rfl, by decide +kernel, rfl, by decide +kernel, by decide +kernel⟩
abbrev s_pairs : Stmt := top 35
abbrev sc_pairs_N : List Str := ["_law_well_here", "_law_most", "_law_names", "_law_found", "_law_turn", "_law_is_old", "_law_to_zero", "_law_number_here", "_law_name_here", "_law_other", "_law_much_here"]
theorem sc_pairs : FnScope sc_pairs_N ["_law_well_here", "_law_most"] (defScope s_pairs) := ⟨rfl, rfl, rfl, by decide +kernel, rfl, by decide +kernel, by decide +kernel⟩
abbrev s_merged : Stmt := top 36
abbrev sc_merged_N : List Str := ["_law_pairs_here", "_law_found", "_law_name_here", "_law_total", "_law_each", "_law_much_here"]
theorem sc_merged : FnScope sc_merged_N ["_law_pairs_here"] (defScope s_merged) := ⟨rfl, rfl, rfl, by decide +kernel, rfl, by decide +kernel, by decide +kernel⟩
abbrev s_sum_text : Stmt := top 37
abbrev sc_sum_text_N : List Str := ["_law_terms", "_law_line", "_law_name_here", "_law_number_here", "_law_size", "_law_word"]
theorem sc_sum_text : FnScope sc_sum_text_N ["_law_terms"] (defScope s_sum_text) := ⟨rfl, rfl, rfl, by decide +kernel, rfl, by decide +kernel, by decide +kernel⟩
abbrev s_much : Stmt := top 38
abbrev sc_much_N : List Str := ["_law_pairs_here", "_law_name_here", "_law_number_here"]
theorem sc_much : FnScope sc_much_N ["_law_pairs_here"] (defScope s_much) := ⟨rfl, rfl, rfl, by decide +kernel, rfl, by decide +kernel, by decide +kernel⟩
abbrev s_step : Stmt := top 39
abbrev sc_step_N : List Str := ["_law_well_here", "_law_sums", "_law_models", "_law_way", "_law_one", "_law_two", "_law_pairs_here", "_law_times", "_law_name_here", "_law_number_here"]
theorem sc_step : FnScope sc_step_N ["_law_well_here", "_law_sums", "_law_models"] (defScope s_step) := ⟨rfl, rfl, rfl, by decide +kernel, rfl, by decide +kernel, by decide +kernel⟩
abbrev s_all_right : Stmt := top 40
abbrev sc_all_right_N : List Str := ["_law_sums", "_law_models", "_law_at", "_law_other"]
theorem sc_all_right : FnScope sc_all_right_N ["_law_sums", "_law_models"] (defScope s_all_right) := ⟨rfl, rfl, rfl, by decide +kernel, rfl, by decide +kernel, by decide +kernel⟩
abbrev s_row_right : Stmt := top 41
abbrev sc_row_right_N : List Str := ["_law_well_here", "_law_models", "_law_sums", "_law_older", "_law_turn", "_law_at", "_law_made", "_law_pairs_here"]
theorem sc_row_right : FnScope sc_row_right_N ["_law_well_here"] (defScope s_row_right) := ⟨rfl, rfl, rfl, by decide +kernel, rfl, by decide +kernel, by decide +kernel⟩
abbrev s_law : Stmt := top 42
abbrev sc_law_N : List Str := ["_law_cells", "_law_k"]
theorem sc_law : FnScope sc_law_N ["_law_cells"] (defScope s_law) := ⟨rfl, rfl, rfl, by decide +kernel, rfl, by decide +kernel, by decide +kernel⟩
end RV
namespace RV
open PySem L2
section
variable {P : Program} {w : World} {K : PySem.W.Frag} {mg : Str → Option Value} {base : Heap}
theorem ok_well {f : Addr} {fd : FuncData} (F : Fun K "_law_well" "_law_well" s_well f fd) (T : Blt mg) : FnOk P w K mg base CX0 1 f fd ["_law_cells", "_law_k"] (sp_well K) := by
  refine F.ok sc_well (fun vs H Q E h => ?_) (fun cdv A outer s H vs Q E hr h => ?_)
  · obtain ⟨_, _, _, rfl, _⟩ := h
    rfl
  · obtain ⟨c, ns, i, rfl, hS, hl, hi, k⟩ := h
    refine ⟨_, (pss_cons (ps_set (i := 2) sc_well.nd rfl (Or.inl rfl) (pe_ifExp (pt_cmpR op_lt (pv 1) (pe_callB call_len_seq (by rfl) T.b_len (by decide +kernel) (pa_cons (pv 0) pa_nil)) (nomark _)) (pe_ix ix_list (pv 0) (pv 1) (fun _ _ => rfl)) (pe_op op_mul (pe_op op_mul pe_int (pe_op op_add (pv 1) pe_int)) (pe_op op_add (pv 1) pe_int))))
      (pss_cons (ps_if (pt_cmpR op_ge (pv 1) (pe_callB call_len_seq (by rfl) T.b_len (by decide +kernel) (pa_cons (pv 0) pa_nil)) (nomark _)) (pss_one (ps_for PassesOwn.never rfl (pi_list (pv 0)) (pg_name (i := 3) sc_well.nd rfl (Or.inl rfl)) (pss_one (ps_set (i := 2) sc_well.nd rfl (Or.inl rfl) (pe_op op_mod (pe_callTy call_int1 (by rfl) T.b_int (by decide +kernel) (pa_cons (pe_op op_add (pe_op op_mul (pv 2) pe_int) (pv 3)) pa_nil)) pe_int))))) pss_nil)
      (pss_one (ps_ret (pe_lst (pa_cons (pe_op op_mod (pe_callTy call_int1 (by rfl) T.b_int (by decide +kernel) (pa_cons (pv 2) pa_nil)) pe_int) (pa_cons (pe_ifExp (pt_cmpR op_ge (pe_callB call_abs (by rfl) T.b_abs (by decide +kernel) (pa_cons (pv 2) pa_nil)) (pe_op op_pow pe_int pe_int) (nomark _)) (pe_callB call_abs (by rfl) T.b_abs (by decide +kernel) (pa_cons (pv 2) pa_nil)) pe_int) (pa_cons pe_int pa_nil)))))))), ?_⟩
    -- the end, from any number in the cell's slot
    have fin : ∀ (z : Int) (o : Option V), (tRet (tLst (tCons (tOp (rI (fun _ j => 0 < j) fun i j => .int (i % j)) (tCB (fun xs H Q => (∃ i, xs = [.int i] ∧ Q (.int i) H) ∨ ∃ k, xs = [.bl k] ∧ Q (.int (if k then 1 else 0)) H) (tCons (tVar 2) tNil)) (tC (.int 2147483629)))
        (tCons (tIf (tTest (tOp (rI0 fun i j => .bl (decide (j ≤ i))) (tCB (fun xs H Q => ∃ i, xs = [.int i] ∧ Q (.int (if i < 0 then -i else i)) H) (tCons (tVar 2) tNil)) (tOp (rI CPow fun i j => .int (i ^ j.toNat)) (tC (.int 10)) (tC (.int 18)))))
          (tCB (fun xs H Q => ∃ i, xs = [.int i] ∧ Q (.int (if i < 0 then -i else i)) H) (tCons (tVar 2) tNil)) (tC (.int 0))) (tCons (tC (.int 0)) tNil))))) { nx := fun _ H' => Q .non H', rt := Q } [some (.ref c), some (.int i), some (.int z), o] H := by
      intro z o
      refine ⟨_, rfl, .inl ⟨_, rfl, _, _, rfl, rfl, (by show (0 : Int) < 2147483629; decide), ?_⟩⟩
      have hz : (0 : Int) ≤ if z < 0 then -z else z := by split <;> omega
      have out : ∀ y : Int, 0 ≤ y → ∀ p, H p = none → Q (.ref p) (upd H p (.lst [.int (z % 2147483629), .int y, .int 0])) := fun y hy p np =>
        k p _ np (fun b o e => by rw [upd_ne (ne_of_none e np)]; exact e) ⟨_, _, _, upd_same, ⟨by omega, by omega⟩, hy, by omega⟩
      refine ⟨_, rfl, _, rfl, _, _, rfl, rfl, ⟨by decide, by decide, by decide⟩, _, _, rfl, rfl, _, rfl, ?_⟩
      refine ite2 (fun _ => ?_) (fun _ => ?_)
      · exact ⟨_, rfl, _, rfl, (by show 3 ≤ sizeLine; decide), out _ hz⟩
      · exact ⟨(by show 3 ≤ sizeLine; decide), out _ (by decide)⟩
    refine tif_int (b := decide ((i : Int) < ns.length)) (fun R r => ⟨_, rfl, _, rfl, c, _, rfl, .inl hS, _, _, rfl, rfl, _, rfl, by rw [List.length_map]; exact r⟩) (fun hb => ?_) (fun hb => ?_) (fun z => ?_)
    · have hlt : (i : Int) < ns.length := of_decide_eq_true hb
      have hlt' : i < ns.length := by omega
      exact ⟨ns[i], fun R r => ⟨_, rfl, _, rfl, c, _, _, _, rfl, rfl, hS, atI_nat (by rw [List.getElem?_map, List.getElem?_eq_getElem hlt']; rfl), r⟩⟩
    · exact ⟨_, fun R r => ⟨_, rfl, _, _, rfl, rfl, _, _, rfl, rfl, .inl ⟨by decide, by decide⟩, _, rfl, _, _, rfl, rfl, _, _, rfl, rfl, .inl ⟨by omega, by omega⟩, r⟩⟩
    · refine ⟨_, rfl, _, rfl, c, _, rfl, .inl hS, _, _, rfl, rfl, _, rfl, ?_⟩
      refine ite2 (fun _ => ?_) (fun _ => fin z _)
      refine ⟨_, rfl, c, rfl, ⟨_, hS⟩, for_list (K := K) (a := c) (xs := ns.map V.int) (fun j σ H' => H' = H ∧ ∃ (z : Int) (o : Option V), σ = [some (.ref c), some (.int i), some (.int z), o]) ⟨rfl, z, none, rfl⟩ (fun j σ H' _ h => by rw [h.1]; exact hS) ?_ ?_⟩
      · rintro j y σ H' hj ⟨rfl, z, o, rfl⟩
        obtain ⟨u, rfl⟩ : ∃ u, y = V.int u := by
          rw [List.getElem?_map] at hj
          cases e : ns[j]? with
          | none => rw [e] at hj; cases hj
          | some u => rw [e] at hj; exact ⟨u, (Option.some.inj hj).symm⟩
        exact ⟨_, rfl, _, _, rfl, rfl, .inr ⟨by decide, by decide⟩, _, rfl, _, _, rfl, rfl, .inl ⟨_, rfl, _, _, rfl, rfl, (by show (0 : Int) < 2147483629; decide), rfl, _, _, rfl⟩⟩
      · rintro σ H' ⟨rfl, z, o, rfl⟩
        exact fin z o

theorem ok_dip {f : Addr} {fd : FuncData} (F : Fun K "_law_dip" "_law_dip" s_dip f fd) (T : Blt mg) : FnOk P w K mg base CX0 1 f fd ["_law_well_here", "_law_many"] sp_dip := by
  refine F.ok sc_dip (fun vs H Q E h => ?_) (fun cdv A outer s H vs Q E hr h => ?_)
  · obtain ⟨_, _, _, rfl, _⟩ := h
    rfl
  · obtain ⟨a, m, n, rfl, ⟨x, y, z, e, hx, hy, hz⟩, hn, hm, hm2, k⟩ := h
    refine ⟨_, (pss_cons (ps_asg (pe_op op_add (pe_ix ix_list (pv 0) pe_int (fun _ _ => rfl)) pe_int) (pg_sub (pv 0) pe_int set_list))
      (pss_cons (ps_if (pt_cmpR op_gt (pe_ix ix_list (pv 0) pe_int (fun _ _ => rfl)) pe_int (nomark _)) (pss_cons (ps_asg (pe_callB call_divmodW (by rfl) T.b_divmod (by decide +kernel) (pa_cons (pe_ix ix_list (pv 0) pe_int (fun _ _ => rfl)) (pa_cons (pv 1) pa_nil))) (pg_tup (by rfl) (pgs_cons (pg_sub (pv 0) pe_int set_list) (pgs_cons (pg_name (i := 2) sc_dip.nd rfl (Or.inl rfl)) pgs_nil)))) (pss_one (ps_ret (pv 2)))) pss_nil)
      (pss_cons (ps_asg (pe_op op_mod (pe_callTy call_int1 (by rfl) T.b_int (by decide +kernel) (pa_cons (pe_op op_add (pe_op op_add (pe_op op_mul (pe_ix ix_list (pv 0) pe_int (fun _ _ => rfl)) pe_int) (pe_op op_mul (pe_op op_mul pe_int (pe_ix ix_list (pv 0) pe_int (fun _ _ => rfl))) (pe_ix ix_list (pv 0) pe_int (fun _ _ => rfl)))) pe_int) pa_nil)) pe_int) (pg_sub (pv 0) pe_int set_list))
      (pss_cons (ps_set (i := 3) sc_dip.nd rfl (Or.inl rfl) (pe_op op_mod (pe_callTy call_int1 (by rfl) T.b_int (by decide +kernel) (pa_cons (pe_op op_mul (pe_ix ix_list (pv 0) pe_int (fun _ _ => rfl)) (pe_op op_add (pe_op op_mod (pe_callTy call_int1 (by rfl) T.b_int (by decide +kernel) (pa_cons (pe_ix ix_list (pv 0) pe_int (fun _ _ => rfl)) pa_nil)) pe_int) pe_int)) pa_nil)) pe_int))
      (pss_one (ps_ret (pe_op op_mod (pe_callTy call_int1 (by rfl) T.b_int (by decide +kernel) (pa_cons (pe_op op_fdiv (pv 3) pe_int) pa_nil)) (pv 1)))))))), ?_⟩
    refine ⟨_, rfl, a, _, 2, _, rfl, rfl, SqL.of e, rfl, _, _, rfl, rfl, _, rfl, a, _, _, 2, rfl, rfl, e, rfl, ?_⟩
    refine ⟨_, rfl, a, _, 1, _, rfl, rfl, SqL.of upd_same, rfl, _, _, rfl, rfl, _, rfl, ?_⟩
    refine ite2 (fun hp => ?_) (fun _ => ?_)
    · refine ⟨_, rfl, a, _, 1, _, rfl, rfl, SqL.of upd_same, rfl, _, rfl, _, _, rfl, ⟨hm, ?_⟩, fun p np => ?_⟩
      · refine PyProof.noPylong_of_log2 ?_
        have q := PySem.Flt.log2_lt_of (n := m.natAbs) (k := 200) (by decide) (by omega)
        omega
      · have npa : a ≠ p := fun w => by rw [← w, upd_same] at np; cases np
        refine ⟨p, _, rfl, SqT.of upd_same, rfl, _, _, rfl, ⟨_, rfl, a, _, _, 1, rfl, rfl, Eq.trans (upd_ne npa) upd_same, rfl, _, _, rfl, ⟨rfl, _, rfl, ?_⟩⟩⟩
        refine k _ _ (Int.emod_nonneg _ (by omega)) (Int.emod_lt_of_pos _ hm) (fun b o hb eb => ?_) ⟨_, _, _, upd_same, hx, Int.ediv_nonneg hy (by omega), by omega, by omega⟩
        rw [upd_ne hb, upd_ne (ne_of_none (o := o) (by rw [upd_ne hb]; exact eb) np), upd_ne hb]
        exact eb
    · refine ⟨_, rfl, a, _, 0, _, rfl, rfl, SqL.of upd_same, rfl, _, _, rfl, rfl, .inr ⟨by decide, by decide⟩, _, rfl, a, _, 2, _, rfl, rfl, SqL.of upd_same, rfl, _, _, rfl, rfl, .inl ⟨by decide, by decide⟩, _, rfl, a, _, 2, _, rfl, rfl, SqL.of upd_same, rfl, _, _, rfl, rfl, .inl ⟨by omega, by omega⟩,
        _, _, rfl, rfl, _, _, rfl, rfl, .inl ⟨_, rfl, _, _, rfl, rfl, (by show (0 : Int) < 2147483629; decide), _, rfl, a, _, _, 0, rfl, rfl, upd_same, rfl, ?_⟩⟩
      refine ⟨_, rfl, a, _, 0, _, rfl, rfl, SqL.of upd_same, rfl, _, rfl, a, _, 0, _, rfl, rfl, SqL.of upd_same, rfl, .inl ⟨_, rfl, _, _, rfl, rfl, (by show (0 : Int) < 30011; decide), _, _, rfl, rfl, _, _, rfl, rfl, .inl ⟨?_, ?_⟩, .inl ⟨_, rfl, _, _, rfl, rfl, (by show (0 : Int) < 2147483587; decide), ?_⟩⟩⟩
      · omega
      · omega
      refine ⟨_, rfl, _, _, rfl, rfl, ⟨by decide, by decide⟩, .inl ⟨_, rfl, _, rfl, _, _, rfl, rfl, hm, ?_⟩⟩
      refine k _ _ (Int.emod_nonneg _ (by omega)) (Int.emod_lt_of_pos _ hm) (fun b o hb eb => by rw [upd_ne hb, upd_ne hb]; exact eb) ⟨_, _, _, upd_same, ⟨by omega, by omega⟩, hy, by omega, by omega⟩
end
section
variable {P : Program} {w : World} {K : PySem.W.Frag} {mg : Str → Option Value} {base : Heap}
def words : List Str := ["pipe", "meter", "sealed", "self", "net", "tell", "if", "a"]
theorem words_nm : ∀ x ∈ words, IsNm x := by
  have h : words.all (fun x => isNm (cd x)) = true := by decide +kernel
  exact fun x hx => List.all_eq_true.mp h x hx
theorem ok_name {f : Addr} {fd : FuncData} (F : Fun K "_law_name" "_law_name" s_name f fd) (T : Blt mg) (h_dip : Fn P w K mg base "_law_dip" 1 ["_law_well_here", "_law_many"] sp_dip) : FnOk P w K mg base CX0 2 f fd ["_law_well_here"] sp_name := by
  refine F.ok sc_name (fun vs H Q E h => ?_) (fun cdv A outer s H vs Q E hr h => ?_)
  · obtain ⟨_, _, rfl, _⟩ := h
    rfl
  · obtain ⟨a, n, rfl, wl, hn, k⟩ := h
    refine ⟨_, (pss_cons (ps_if (pt_cmpR op_eq (pe_fn h_dip (hr.mono (by decide)) (pa_cons (pv 0) (pa_cons pe_int pa_nil))) pe_int (nomark _)) (pss_one (ps_ret (pe_ix ix_list (pe_lst (pa_cons pe_str (pa_cons pe_str (pa_cons pe_str (pa_cons pe_str (pa_cons pe_str (pa_cons pe_str (pa_cons pe_str (pa_cons pe_str pa_nil))))))))) (pe_fn h_dip (hr.mono (by decide)) (pa_cons (pv 0) (pa_cons pe_int pa_nil))) (fun _ _ => rfl)))) pss_nil)
      (pss_cons (ps_set (i := 1) sc_name.nd rfl (Or.inl rfl) pe_str)
      (pss_cons (ps_set (i := 2) sc_name.nd rfl (Or.inl rfl) (pe_ix ix_str (pv 1) (pe_fn h_dip (hr.mono (by decide)) (pa_cons (pv 0) (pa_cons pe_int pa_nil))) (fun _ _ => rfl)))
      (pss_cons (ps_for PassesOwn.never rfl (pi_range1 rfl T.b_range (pa_cons (pe_fn h_dip (hr.mono (by decide)) (pa_cons (pv 0) (pa_cons pe_int pa_nil))) pa_nil)) (pg_name (i := 3) sc_name.nd rfl (Or.inl rfl)) (pss_one (ps_set (i := 2) sc_name.nd rfl (Or.inl rfl) (pe_op op_add_str (pv 2) (pe_ix ix_str (pv 1) (pe_fn h_dip (hr.mono (by decide)) (pa_cons (pv 0) (pa_cons pe_int pa_nil))) (fun _ _ => rfl))))))
      (pss_one (ps_ret (pv 2))))))), ?_⟩
    refine ⟨_, rfl, a, 6, n, rfl, wl, by omega, by decide, by decide, fun r H1 r0 r6 g1 w1 => ⟨rfl, _, rfl, ?_⟩⟩
    refine ite2 (fun _ => ?_) (fun _ => ?_)
    · refine ⟨(by show 8 ≤ sizeLine; decide), fun p np => ?_⟩
      refine ⟨_, rfl, a, 8, n + 1, rfl, w1.new np, by omega, by decide, by decide, fun r2 H2 r20 r28 g2 w2 => ?_⟩
      obtain ⟨x, hx, hnm, hm⟩ := at_of_list words_nm r20 r28
      have e2 : H2 p = some (.lst (words.map V.str)) := g2 p _ (w1.ne np).symm upd_same
      refine ⟨p, _, _, .str x, rfl, rfl, SqL.of e2, ?_, ?_⟩
      · unfold atI at hx ⊢
        rw [List.length_map]
        revert hx
        cases ixN words.length r2 with
        | none => intro hx; cases hx
        | some j =>
          intro hx
          show (words.map V.str)[j]? = _
          rw [List.getElem?_map, show words[j]? = some x from hx]
          rfl
      · exact k x H2 hnm ((g1.trans (Grow.new np)).trans g2) (w2.mono (by omega))
    · refine ⟨_, rfl, _, rfl, a, 26, n + 1, rfl, w1, by omega, by decide, by decide, fun r2 H2 r20 r26 g2 w2 => ?_⟩
      obtain ⟨c, hc, lc⟩ := at_low r20 r26
      refine ⟨signs, _, c, rfl, rfl, by decide, hc, ?_⟩
      refine ⟨_, rfl, a, 8, n + 2, rfl, w2, by omega, by decide, by decide, fun m H3 m0 m8 g3 w3 => ?_⟩
      obtain ⟨mn, rfl⟩ := Int.eq_ofNat_of_zero_le m0
      have hm8 : mn < 8 := by omega
      refine ⟨_, rfl, by omega, by omega, for_range (lo := 0) (n := mn) (fun i σ H' => ∃ (x : Str) (o : Option V), σ = [some (.ref a), some (.str signs), some (.str x), o] ∧ isNm (cd x) = true ∧ (cd x).length = i + 1 ∧ Grow a H H' ∧ WellAt H' a (n + 3 + i))
        ⟨⟨#[c]⟩, none, rfl, isNm_iff.mpr ⟨c, [], rfl, lc, rfl, by decide⟩, rfl, (g1.trans g2).trans g3, w3⟩ ?_ ?_⟩
      · rintro i σ H4 hi ⟨x, o, rfl, hx, hl, g4, w4⟩
        refine ⟨_, rfl, _, rfl, _, rfl, a, 36, n + 3 + i, rfl, w4, by omega, by decide, by decide, fun r5 H5 r50 r536 g5 w5 => ?_⟩
        obtain ⟨c5, hc5, lc5⟩ := at_tail r50 r536
        refine ⟨signs, _, c5, rfl, rfl, by decide, hc5, ?_⟩
        refine ⟨_, _, rfl, rfl, ?_, ?_⟩
        · have e1 : x.length = i + 1 := by rw [cd_len]; exact hl
          have e2 : Str.length ⟨#[c5]⟩ = 1 := rfl
          rw [e1, e2]
          exact Nat.le_trans (show i + 1 + 1 ≤ 20 by omega) (by decide)
        · refine ⟨x ++ ⟨#[c5]⟩, _, rfl, ?_, ?_, g4.trans g5, w5⟩
          · rw [cd_app, cd_one]
            exact isNm_snoc hx (by omega) lc5
          · rw [cd_app, cd_one, List.length_append, hl]
            rfl
      · rintro σ H4 ⟨x, o, rfl, hx, hl, g4, w4⟩
        exact ⟨_, rfl, k x H4 hx g4 (w4.mono (by omega))⟩
end
section
variable {P : Program} {w : World} {K : PySem.W.Frag} {mg : Str → Option Value} {base : Heap}
theorem ok_fresh {f : Addr} {fd : FuncData} (F : Fun K "_law_fresh" "_law_fresh" s_fresh f fd) (T : Blt mg) (h_dip : Fn P w K mg base "_law_dip" 1 ["_law_well_here", "_law_many"] sp_dip) (h_name : Fn P w K mg base "_law_name" 2 ["_law_well_here"] sp_name) : FnOk P w K mg base CX0 3 f fd ["_law_well_here", "_law_taken"] sp_fresh := by
  refine F.ok sc_fresh (fun vs H Q E h => ?_) (fun cdv A outer s H vs Q E hr h => ?_)
  · obtain ⟨_, _, _, _, rfl, _⟩ := h
    rfl
  · obtain ⟨a, t, n, xs, rfl, wl, hn, ht, nta, hxs, hlen, k⟩ := h
    refine ⟨_, (pss_cons (ps_asg (pe_tup (pa_cons (pe_fn h_dip (hr.mono (by decide)) (pa_cons (pv 0) (pa_cons pe_int pa_nil))) (pa_cons (pe_fn h_name (hr.mono (by decide)) (pa_cons (pv 0) pa_nil)) pa_nil))) (pg_tup (by rfl) (pgs_cons (pg_name (i := 2) sc_fresh.nd rfl (Or.inl rfl)) (pgs_cons (pg_name (i := 3) sc_fresh.nd rfl (Or.inr rfl)) pgs_nil))))
      (pss_cons (ps_if (PW.pt (pw_and (pt_cmpR (op_neD hr.units) (pv 1) (pe_lst pa_nil) (nomark _)) (pw_and1 (pt_cmpR op_lt (pv 2) pe_int (nomark _))))) (pss_cons (ps_set (i := 4) sc_fresh.nd rfl (Or.inl rfl) (pe_ix ix_list (pv 1) (pe_fn h_dip (hr.mono (by decide)) (pa_cons (pv 0) (pa_cons (pe_callB call_len_seq (by rfl) T.b_len (by decide +kernel) (pa_cons (pv 1) pa_nil)) pa_nil))) (fun _ _ => rfl))) (pss_one (ps_set (i := 3) sc_fresh.nd rfl (Or.inr rfl) (pe_ifExp (pt_cmpR op_eq (pv 2) pe_int (nomark _)) (pe_slice sl_str (pe_op op_add_str (pv 4) (pv 3)) po_none (po_some pe_int)) (pe_slice sl_str (pv 4) po_none (po_some (pe_op op_add pe_int (pe_fn h_dip (hr.mono (by decide)) (pa_cons (pv 0) (pa_cons pe_int pa_nil)))))))))) pss_nil)
      (pss_cons (ps_if (pt_cmpR op_notIn_seq (pv 3) (pv 1) (by rfl)) (pss_one (ps_ret (pv 3))) pss_nil)
      (pss_cons (ps_setLc (i := 5) (own := [("_law_sign", 6)]) (g := gName 6) (tt := tYes) rfl sc_fresh.nd rfl rfl (sw_true rfl rfl rfl (by decide +kernel)) (pi_str pe_str) (blkOk_by (N := sc_fresh_N) (sc := defScope s_fresh) (by decide +kernel)) (fun _ _ _ _ _ => pg_name (i := 6) sc_fresh.nd rfl (Or.inl rfl)) (fun _ _ _ _ _ => pts_nil) (fun _ _ _ _ _ => (pe_op op_add_str (pe_slice sl_str (pv 3) po_none (po_some pe_int)) (pv 6))))
      (pss_one (ps_ret (pe_ix ix_list (pe_lc (own := [("_law_each", 7)]) (g := gName 7) rfl sc_fresh.nd (pi_list (pv 5)) (blkOk_by (N := sc_fresh_N) (sc := defScope s_fresh) (by decide +kernel)) (fun _ _ _ _ _ => pg_name (i := 7) sc_fresh.nd rfl (Or.inl rfl)) (fun _ _ _ _ _ => pts_one (pt_cmpR (op_notInK (K := K)) (pv 7) (pv 1) (by rfl))) (fun _ _ _ _ _ => (pv 7))) pe_int (fun _ _ => rfl)))))))), ?_⟩
    refine ⟨_, rfl, a, 4, n, rfl, wl, by omega, by decide, by decide, fun way H1 wy0 wy4 g1 w1 => ?_⟩
    refine ⟨_, rfl, a, n + 1, rfl, w1, by omega, fun x H2 hx g2 w2 => ⟨(by show 2 ≤ sizeLine; decide), fun p np => ?_⟩⟩
    refine ⟨p, _, rfl, SqT.of upd_same, rfl, _, _, rfl, _, _, rfl, rfl, ?_⟩
    have g3 : Grow a H (upd H2 p (.tup [.int way, .str x])) := (g1.trans g2).trans (Grow.new np)
    have w3 := w2.new (o := .tup [.int way, .str x]) np
    revert g3 w3
    generalize upd H2 p (.tup [.int way, .str x]) = H3
    intro g3 w3
    -- the title as it stands behind the if
    dsimp only
    refine seq_of (fun σ' H' => ∃ (x : Str) (o : Option V), σ' = [some (.ref a), some (.ref t), some (.int way), some (.str x), o, none, none, none] ∧ IsNm x ∧ Grow a H H' ∧ WellAt H' a (n + 13)) ?rest (fun N hN => ?main)
    case main =>
      have ht3 := g3 t _ nta ht
      have st : N [some (.ref a), some (.ref t), some (.int way), some (.str x), none, none, none, none] H3 := hN _ _ ⟨x, none, rfl, hx, g3, w3.mono (by omega)⟩
      refine ⟨_, rfl, by decide, fun p2 np2 => ?_⟩
      have g4 : Grow a H (upd H3 p2 (.lst [])) := g3.trans (Grow.new np2)
      have w4 := w3.new (o := .lst []) np2
      have np2' : t ≠ p2 := ne_of_none ht3 np2
      have ht4 : (upd H3 p2 (.lst [])) t = some (.lst (xs.map V.str)) := by rw [upd_ne np2']; exact ht3
      refine ⟨_, _, .lst (SqL.of ht4) (dps xs), .lst (SqL.of upd_same) .nil, shaped_strs hxs, shaped_nil, _, rfl, ?_⟩
      rw [eqv_nil]
      revert g4 w4 ht4
      generalize upd H3 p2 (.lst []) = H4
      intro g4 w4 ht4
      cases he : xs.isEmpty with
      | true => exact iteF (iteF (hN _ _ ⟨x, none, rfl, hx, g4, w4.mono (by omega)⟩))
      | false =>
        refine iteT ⟨_, rfl, _, _, rfl, rfl, _, rfl, ?_⟩
        refine ite2 (fun hw => ?_) (fun _ => hN _ _ ⟨x, none, rfl, hx, g4, w4.mono (by omega)⟩)
        have hpos : 0 < xs.length := by cases xs with | nil => cases he | cons x0 xr => simp
        refine ⟨_, rfl, _, rfl, _, rfl, t, _, rfl, .inl (SqL.of ht4), a, _, n + 11, rfl, w4, by omega, ?_, ?_, fun r H5 r0 r1 g5 w5 => ?_⟩
        · rw [List.length_map]; omega
        · rw [List.length_map]; omega
        rw [List.length_map] at r1
        obtain ⟨y, hy, hynm, _⟩ := at_of_list hxs r0 r1
        have ht5 := g5 t _ nta ht4
        refine ⟨t, _, r, .str y, rfl, rfl, SqL.of ht5, ?_, ?_⟩
        · unfold atI at hy ⊢
          rw [List.length_map]
          revert hy
          cases ixN xs.length r with
          | none => intro hy; cases hy
          | some j =>
            intro hy
            show (xs.map V.str)[j]? = _
            rw [List.getElem?_map, show xs[j]? = some y from hy]
            rfl
        · have ly := (isNm_len hynm)
          have lx := (isNm_len hx)
          rw [← cd_len] at ly lx
          refine ⟨_, rfl, rfl, _, rfl, ?_⟩
          refine ite2 (fun _ => ?_) (fun _ => ?_)
          · refine ⟨_, rfl, _, rfl, _, _, rfl, rfl, szn (by omega), _, rfl, _, rfl, ?_, ?_⟩
            · rw [cd_len, cd_app, List.length_append, ← cd_len, ← cd_len]
              exact szn (by omega)
            · refine hN _ _ ⟨_, _, rfl, ?_, g4.trans g5, w5.mono (by omega)⟩
              show isNm (cd _) = true
              rw [show cutS (y ++ x) none (some 8) = cutS (y ++ x) none (some ((8 : Nat) : Int)) from rfl, cd_pre, cd_app]
              exact isNm_cut hynm (isNm_all hx) (by decide) (by decide)
          · refine ⟨_, rfl, _, rfl, a, 7, n + 12, rfl, w5, by omega, by decide, by decide, fun r6 H6 r60 r67 g6 w6 => ?_⟩
            obtain ⟨m, rfl⟩ := Int.eq_ofNat_of_zero_le r60
            refine ⟨_, _, rfl, rfl, _, rfl, _, rfl, szn (by omega), ?_⟩
            refine hN _ _ ⟨_, _, rfl, ?_, (g4.trans g5).trans g6, w6.mono (by omega)⟩
            show isNm (cd _) = true
            rw [show (1 : Int) + ((m : Nat) : Int) = ((1 + m : Nat) : Int) by omega, cd_pre]
            exact isNm_take hynm (by omega) (by omega)
    case rest =>
      rintro σ' H5 ⟨x, o, rfl, hx, g5, w5⟩
      have ht5 := g5 t _ nta ht
      have lx := (isNm_len hx)
      rw [← cd_len] at lx
      refine ⟨_, rfl, _, rfl, t, _, rfl, .inl (SqL.of ht5), rfl, flat_str xs, _, rfl, ?_⟩
      rw [inV_str]
      refine ite2 (fun hin => ?_) (fun _ => ?_)
      · refine ⟨_, rfl, k x H5 hx (fun hm => ?_) g5 w5⟩
        simp [hm] at hin
      -- the free ones
      refine ⟨signs, rfl, fun D nD => lc_str (z := signs) (fun i H' => Grow a H H' ∧ WellAt H' a (n + 13) ∧ H' D = some (.lst (((cands x).take i).map V.str))) ⟨g5.trans (Grow.new nD), w5.new nD, upd_same⟩ ?_ ?_⟩
      · rintro i c H6 hi ⟨g6, w6, h6⟩
        have nDa : D ≠ a := (w5.ne nD).symm
        refine ⟨rfl, _, rfl, _, rfl, _, rfl, szn (by omega), _, rfl, _, _, rfl, rfl, ?_, _, h6, ?_, ?_⟩
        · rw [show cutS x none (some 7) = cutS x none (some ((7 : Nat) : Int)) from rfl, cd_len, cd_pre, List.length_take, ← cd_len]
          have e2 : Str.length ⟨#[c]⟩ = 1 := rfl
          rw [e2]
          exact szn (by omega)
        · rw [List.length_map, List.length_take]
          exact Nat.lt_of_lt_of_le (show min i (cands x).length < 1000 by rw [cands_len]; omega) (by decide)
        · refine ⟨fun b o hb eb => ?_, ?_, ?_⟩
          · rw [upd_ne (ne_of_none (g5 b o hb eb) nD)]
            exact g6 b o hb eb
          · obtain ⟨x1, y1, z1, e1, r1⟩ := w6
            exact ⟨x1, y1, z1, by rw [upd_ne nDa.symm]; exact e1, r1⟩
          · rw [upd_same]
            have e : (cands x)[i]? = some (cutS x none (some 7) ++ ⟨#[c]⟩) := by
              unfold cands
              rw [List.getElem?_map, hi]
              rfl
            obtain ⟨hl, e'⟩ := List.getElem?_eq_some_iff.mp e
            rw [List.take_succ_eq_append_getElem hl, e', List.map_append]
            rfl
      · intro H6 ⟨g6, w6, h6⟩
        rw [List.take_of_length_le (by rw [cands_len, cd_signs]; decide)] at h6
        have ht6 := g6 t _ nta ht
        refine ⟨_, rfl, D, rfl, ⟨_, SqL.of h6⟩, fun D2 nD2 => lc_list (K := K) (a := D) (xs := (cands x).map V.str) (fun i H' => Grow a H H' ∧ WellAt H' a (n + 13) ∧ H' D = some (.lst ((cands x).map V.str)) ∧ H' t = some (.lst (xs.map V.str)) ∧ H' D2 = some (.lst ((((cands x).take i).filter (fun y => decide (y ∉ xs))).map V.str)))
          ⟨g6.trans (Grow.new nD2), w6.new nD2, by rw [upd_ne (ne_of_none h6 nD2)]; exact h6, by rw [upd_ne (ne_of_none ht6 nD2)]; exact ht6, upd_same⟩ (fun _ _ _ h => SqL.of h.2.2.1) ?_ ?_⟩
        · rintro i v H7 hi ⟨g7, w7, h7, t7, d7⟩
          obtain ⟨y, rfl, hy⟩ : ∃ y, v = V.str y ∧ (cands x)[i]? = some y := by
            rw [List.getElem?_map] at hi
            cases e : (cands x)[i]? with
            | none => rw [e] at hi; cases hi
            | some y => rw [e] at hi; exact ⟨y, (Option.some.inj hi).symm, rfl⟩
          have eT : (cands x).take (i + 1) = (cands x).take i ++ [y] := by
            obtain ⟨hl, e'⟩ := List.getElem?_eq_some_iff.mp hy
            rw [List.take_succ_eq_append_getElem hl, e']
          refine ⟨rfl, _, rfl, _, rfl, t, _, rfl, .inl (SqL.of t7), rfl, flat_str xs, _, rfl, ?_⟩
          rw [inV_str]
          refine ite2 (fun hin => ?_) (fun hin => ?_)
          · have hn' : y ∉ xs := by simpa using hin
            refine ⟨_, rfl, _, d7, ?_, ?_⟩
            · rw [List.length_map]
              have := List.length_filter_le (fun y => decide (y ∉ xs)) ((cands x).take i)
              rw [List.length_take, cands_len] at this
              exact Nat.lt_of_lt_of_le (show _ < 1000 by omega) (by decide)
            · refine ⟨fun b o hb eb => ?_, ?_, ?_, ?_, ?_⟩
              · rw [upd_ne (ne_of_none (g6 b o hb eb) nD2)]
                exact g7 b o hb eb
              · obtain ⟨x1, y1, z1, e1, r1⟩ := w7
                exact ⟨x1, y1, z1, by rw [upd_ne (w6.ne nD2)]; exact e1, r1⟩
              · rw [upd_ne (ne_of_none h6 nD2)]; exact h7
              · rw [upd_ne (ne_of_none ht6 nD2)]; exact t7
              · rw [upd_same, eT, List.filter_append, List.map_append]
                simp [hn']
          · have hn' : y ∈ xs := by simpa using hin
            refine ⟨g7, w7, h7, t7, ?_⟩
            rw [d7, eT, List.filter_append]
            simp [hn']
        · rintro H7 ⟨g7, w7, h7, t7, d7⟩
          rw [List.length_map, List.take_of_length_le (Nat.le_refl _)] at d7
          obtain ⟨y, hy, hyx⟩ := one_free (cands_nodup x) (xs := xs) (by rw [cands_len]; omega)
          have hm : y ∈ (cands x).filter (fun y => decide (y ∉ xs)) := List.mem_filter.mpr ⟨hy, decide_eq_true hyx⟩
          cases ef : (cands x).filter (fun y => decide (y ∉ xs)) with
          | nil => rw [ef] at hm; cases hm
          | cons z zs =>
            rw [ef] at d7
            have hz : z ∈ (cands x).filter (fun y => decide (y ∉ xs)) := by rw [ef]; exact List.mem_cons_self
            obtain ⟨hz1, hz2⟩ := List.mem_filter.mp hz
            exact ⟨D2, _, 0, .str z, rfl, rfl, SqL.of d7, atI_nat (j := 0) rfl, k z H7 (cands_nm hx z hz1) (of_decide_eq_true hz2) g7 w7⟩
end
end RV
namespace RV
open PySem L2
section
variable {P : Program} {w : World} {K : PySem.W.Frag} {mg : Str → Option Value} {base : Heap}
theorem ok_is_name {f : Addr} {fd : FuncData} (F : Fun K "is_name" "is_name" s_is_name f fd) (T : Blt mg) (C : Cst mg) : FnOk P w K mg base CX0 1 f fd ["value"] (sp_is_name K) := by
  refine F.ok sc_is_name (fun vs H Q E h => ?_) (fun cdv A outer s H vs Q E hr h => ?_)
  · obtain ⟨_, rfl, _⟩ := h
    rfl
  · obtain ⟨v, rfl, k⟩ := h
    refine ⟨_, (pss_cons (ps_if (PW.pt (pw_or (pt_not (pt_val (pe_callB call_isi (by rfl) T.b_isinstance (by decide +kernel) (pa_cons (pv 0) (pa_cons (pe_bltn (v := .ty "str") (by rfl) T.b_str (by decide +kernel) rfl) pa_nil))))) (pw_or1 (pt_not (pt_chain op_le op_le pe_int (pe_callB call_len_str (by rfl) T.b_len (by decide +kernel) (pa_cons (pv 0) pa_nil)) (pe_gI C.c__LONGEST_NAME)))))) (pss_one (ps_ret pe_bl)) pss_nil)
      (pss_one (ps_ret (pe_and (pe_cmpR op_in_sign (pe_ix ix_str (pv 0) pe_int (fun _ _ => rfl)) (pe_gS C.c__LETTERS) (by rfl)) (pe_one (pe_callB (cr_all rfl) (by rfl) T.b_all (by decide +kernel) (pa_cons (pe_lc (own := [("letter", 1)]) (g := gName 1) (tt := tYes) rfl sc_is_name.nd (pi_str (pv 0)) (blkOk_by (N := sc_is_name_N) (sc := defScope s_is_name) (by decide +kernel)) (fun _ _ _ _ _ => pg_name (i := 1) sc_is_name.nd rfl (Or.inl rfl)) (fun _ _ _ _ _ => pts_nil) (fun _ _ _ _ _ => (pe_cmpR op_in_sign (pv 1) (pe_op op_add_str (pe_gS C.c__LETTERS) (pe_gS C.c__DIGITS)) (by rfl)))) pa_nil))))))), ?_⟩
    rcases k with ⟨x, rfl, hx, k⟩ | ⟨t, ty, kt, k⟩
    · refine ⟨_, rfl, _, _, .type "str", .type "str", true, rfl, .ty _, .base (.str x), kit_ty (by decide +kernel), true, rfl, ?_⟩
      refine iteF ⟨_, rfl, _, rfl, hx, _, _, rfl, rfl, _, rfl, ?_⟩
      have out : isNm (cd x) = false → Q (.bl false) H := fun e => e ▸ k H (Same.refl H)
      refine ite2 (fun h1 => ?_) (fun h1 => ?_)
      · refine ⟨_, _, rfl, rfl, _, rfl, ?_⟩
        have h1' := of_decide_eq_true h1
        cases e8 : decide ((x.length : Int) ≤ 8) with
        | false =>
          refine out ?_
          cases q : isNm (cd x) with
          | false => rfl
          | true =>
            have := isNm_len q
            rw [← cd_len] at this
            have h8 := of_decide_eq_false e8
            omega
        | true =>
          have h8 := of_decide_eq_true e8
          obtain ⟨c, r, ec⟩ : ∃ c r, cd x = c :: r := by
            cases e : cd x with
            | nil =>
              rw [cd_len, e] at h1'
              simp at h1'
            | cons c r => exact ⟨c, r, rfl⟩
          have hr7 : r.length ≤ 7 := by
            rw [cd_len, ec, List.length_cons] at h8
            omega
          refine ⟨_, rfl, x, _, c, rfl, rfl, hx, atI_nat (j := 0) (by show (cd x)[0]? = some c; rw [ec]; rfl), c, _, rfl, rfl, _, rfl, ?_⟩
          have el : decide (c ∈ cd "abcdefghijklmnopqrstuvwxyz") = lowC c := low_in c
          refine ite2 (fun hl => ?_) (fun hl => ?_)
          · have hl' : lowC c = true := el.symm.trans hl
            refine ⟨_, rfl, x, rfl, fun D nD => lc_str (z := x) (fun i H' => Same H H' ∧ H' D = some (.lst ((((cd x).take i).map tailC).map V.bl))) ⟨fun b o e => by rw [upd_ne (ne_of_none e nD)]; exact e, upd_same⟩ ?_ ?_⟩
            · rintro i d H6 hi ⟨s6, h6⟩
              refine ⟨rfl, _, rfl, _, _, rfl, rfl, by decide, d, _, rfl, rfl, _, h6, ?_, ?_⟩
              · rw [List.length_map, List.length_map, List.length_take, ← cd_len]
                exact Nat.lt_of_lt_of_le (show _ < 1000 by omega) (by decide)
              · refine ⟨fun b o e => by rw [upd_ne (ne_of_none e nD)]; exact s6 b o e, ?_⟩
                rw [upd_same]
                obtain ⟨hl6, e'⟩ := List.getElem?_eq_some_iff.mp hi
                rw [List.take_succ_eq_append_getElem hl6, e', List.map_append, List.map_append]
                show some (HO.lst (_ ++ [V.bl (decide (d ∈ cd (("abcdefghijklmnopqrstuvwxyz" : Str) ++ ("0123456789" : Str))))])) = _
                rw [tail_in]
                rfl
            · rintro H6 ⟨s6, h6⟩
              rw [List.take_of_length_le (Nat.le_refl _)] at h6
              refine ⟨D, _, rfl, SqL.of h6, ?_⟩
              have e : isNm (cd x) = ((cd x).map tailC).all id := by
                rw [ec]
                show (lowC c && r.all tailC && decide (r.length ≤ 7)) = (tailC c && (r.map tailC).all id)
                rw [hl', tail_of_low hl', decide_eq_true hr7, List.all_map]
                simp
              have := k H6 s6
              rwa [e] at this
          · refine out ?_
            have hl' : lowC c = false := by
              rw [← el]
              exact Bool.eq_false_iff.mpr hl
            rw [ec]
            simp [isNm, hl']
      · refine ⟨_, rfl, ?_⟩
        refine out ?_
        cases q : isNm (cd x) with
        | false => rfl
        | true =>
          have := isNm_len q
          rw [← cd_len] at this
          exact absurd (decide_eq_true (by omega)) h1
    · refine ⟨_, rfl, _, _, t, .type "str", false, rfl, .ty _, ty, kt, false, rfl, ?_⟩
      exact iteT (iteT k)
end
end RV
namespace RV
open PySem L2
section
variable {P : Program} {w : World} {K : PySem.W.Frag} {mg : Str → Option Value} {base : Heap}
theorem ok_number {f : Addr} {fd : FuncData} (F : Fun K "_law_number" "_law_number" s_number f fd) (h_dip : Fn P w K mg base "_law_dip" 1 ["_law_well_here", "_law_many"] (Irr sp_dip)) : FnOk P w K mg base CX0 2 f fd ["_law_well_here"] sp_number := by
  refine F.ok sc_number (fun vs H Q E h => ?_) (fun cdv A outer s H vs Q E hr h => ?_)
  · obtain ⟨_, _, rfl, _⟩ := h
    rfl
  · obtain ⟨a, n, rfl, wl, hn, k⟩ := h
    refine ⟨_, (pss_cons (ps_par (i := 1) (j := 2) (by rfl) sc_number.nd rfl rfl (by decide) rfl rfl (pa_cons (pe_fn h_dip (hr.mono (by decide)) (pa_cons (pv 0) (pa_cons pe_int pa_nil))) (pa_cons (pe_op op_sub pe_int (pe_op op_mul pe_int (pe_fn h_dip (hr.mono (by decide)) (pa_cons (pv 0) (pa_cons pe_int pa_nil))))) pa_nil)) (by rfl))
      (pss_cons (ps_if (pt_cmpR op_lt (pv 1) pe_int (nomark _)) (pss_one (ps_ret (pe_op op_mul (pv 2) (pe_fn h_dip (hr.mono (by decide)) (pa_cons (pv 0) (pa_cons (pe_ix ix_list (pe_lst (pa_cons pe_int (pa_cons pe_int (pa_cons pe_int pa_nil)))) (pv 1) (fun _ _ => rfl)) pa_nil)))))) pss_nil)
      (pss_one (ps_ret (pe_op op_mul (pv 2) (pe_op op_add (pe_op op_mul (pe_fn h_dip (hr.mono (by decide)) (pa_cons (pv 0) (pa_cons (pe_op op_pow pe_int pe_int) pa_nil))) (pe_op op_pow pe_int pe_int)) (pe_fn h_dip (hr.mono (by decide)) (pa_cons (pv 0) (pa_cons (pe_op op_pow pe_int pe_int) pa_nil))))))))), ?_⟩
    refine ⟨_, rfl, dip_step (Has.start wl) (by omega) (by decide) (by decide) fun r1 H1 r10 r14 h1 => ?_⟩
    refine ⟨_, rfl, dip_step h1 (by omega) (by decide) (by decide) fun r2 H2 r20 r22 h2 => ?_⟩
    refine ⟨_, _, rfl, rfl, .inl ⟨by decide, by decide⟩, _, _, rfl, rfl, _, _, rfl, ?_⟩
    have hs : 1 - 2 * r2 = 1 ∨ 1 - 2 * r2 = -1 := by omega
    refine ⟨_, rfl, _, _, rfl, rfl, _, rfl, ?_⟩
    have out : ∀ z, 0 ≤ z → z < big → ∀ H', Has H a (n + 5) [] H' → Q (.int ((1 - 2 * r2) * z)) H' := fun z z0 zb H' h' =>
      k _ _ (by rcases hs with e | e <;> rw [e] <;> omega) (by rcases hs with e | e <;> rw [e] <;> omega) h'.gr h'.well
    refine ite2 (fun hw => ?_) (fun hw => ?_)
    · have hw' : r1 < 3 := of_decide_eq_true hw
      refine ⟨_, rfl, _, rfl, (by show 3 ≤ sizeLine; decide), fun p np => ?_⟩
      have hm : ∃ m : Int, atI [V.int 3, V.int 12, V.int 1000] r1 = some (.int m) ∧ 0 < m ∧ m ≤ 1000 := by
        have : r1 = 0 ∨ r1 = 1 ∨ r1 = 2 := by omega
        rcases this with rfl | rfl | rfl
        · exact ⟨3, rfl, by decide, by decide⟩
        · exact ⟨12, rfl, by decide, by decide⟩
        · exact ⟨1000, rfl, by decide, by decide⟩
      obtain ⟨m, em, m0, m1⟩ := hm
      refine ⟨_, rfl, p, _, r1, _, rfl, rfl, SqL.of upd_same, em, ?_⟩
      have hb : (1000 : Int) < big := by decide
      have h2' : Has H a (n + 1 + 1) [] (upd H2 p (.lst [V.int 3, V.int 12, V.int 1000])) := (h2.new np).sub (fun _ z => nomatch z)
      refine dip_step h2' (by omega) m0 (Int.le_trans m1 (by decide)) fun r H3 r0 r1' h3 => ?_
      exact ⟨_, _, rfl, rfl, .inl ⟨by omega, by omega⟩, out r r0 (by omega) H3 ⟨h3.gr, h3.well.mono (by omega), h3.here⟩⟩
    · refine ⟨_, rfl, _, rfl, _, _, rfl, rfl, ⟨by decide, by decide, by decide⟩, ?_⟩
      refine dip_step h2 (by omega) (by decide) (by decide) fun r3 H3 r30 r3b h3 => ?_
      refine ⟨_, _, rfl, rfl, ⟨by decide, by decide, by decide⟩, _, _, rfl, rfl, .inl ⟨?_, ?_⟩, ?_⟩
      · have : r3 < 10 ^ 6 := r3b
        omega
      · have : r3 < 10 ^ 6 := r3b
        omega
      refine ⟨_, rfl, _, _, rfl, rfl, ⟨by decide, by decide, by decide⟩, ?_⟩
      refine dip_step h3 (by omega) (by decide) (by decide) fun r4 H4 r40 r4b h4 => ?_
      refine ⟨_, _, rfl, rfl, _, _, rfl, rfl, .inl ⟨by omega, by omega⟩, ?_⟩
      have e3 : r3 < 1000000 := r3b
      have e4 : r4 < 1000000000000000000000000 := r4b
      have eb : big = 1000000000000000000000000000000 := by decide
      have e24 : (10 : Int) ^ (24 : Int).toNat = 1000000000000000000000000 := by decide
      refine out _ ?_ ?_ H4 ⟨h4.gr, h4.well.mono (by omega), h4.here⟩
      · rw [e24]; omega
      · rw [e24, eb]; omega
end
end RV
namespace RV
open PySem L2
section
variable {P : Program} {w : World} {K : PySem.W.Frag} {mg : Str → Option Value} {base : Heap}
theorem ok_pairs {f : Addr} {fd : FuncData} (F : Fun K "_law_pairs" "_law_pairs" s_pairs f fd) (T : Blt mg) (T2 : Blt2 mg) (h_dip : Fn P w K mg base "_law_dip" 1 ["_law_well_here", "_law_many"] (Irr sp_dip))
    (h_fresh : Fn P w K mg base "_law_fresh" 3 ["_law_well_here", "_law_taken"] (Irr sp_fresh)) (h_number : Fn P w K mg base "_law_number" 2 ["_law_well_here"] (Irr sp_number)) : FnOk P w K mg base CX0 4 f fd ["_law_well_here", "_law_most"] sp_pairs := by
  refine F.ok sc_pairs (fun vs H Q E h => ?_) (fun cdv A outer s H vs Q E hr h => ?_)
  · obtain ⟨_, _, _, rfl, _⟩ := h
    rfl
  · obtain ⟨a, n, m, rfl, wl, hn, hm, k⟩ := h
    refine ⟨_, (pss_cons (ps_par (i := 2) (j := 3) (by rfl) sc_pairs.nd rfl rfl (by decide) rfl rfl (pa_cons (pe_lst pa_nil) (pa_cons (pe_lst pa_nil) pa_nil)) (by rfl))
      (pss_cons (ps_for PassesOwn.never rfl (pi_range1 rfl T.b_range (pa_cons (pe_fn h_dip (hr.mono (by decide)) (pa_cons (pv 0) (pa_cons (pe_op op_add (pv 1) pe_int) pa_nil))) pa_nil)) (pg_name (i := 4) sc_pairs.nd rfl (Or.inl rfl)) (pss_cons (ps_par3 (i := 5) (j := 6) (l := 7) (by rfl) sc_pairs.nd rfl rfl rfl (by decide) (by decide) (by decide) rfl rfl rfl (pa_cons (pe_and (pe_cmpR op_eq (pe_fn h_dip (hr.mono (by decide)) (pa_cons (pv 0) (pa_cons pe_int pa_nil))) pe_int (nomark _)) (pe_one (pe_cmpR (op_neD hr.units) (pv 2) (pe_lst pa_nil) (nomark _)))) (pa_cons (pe_cmpR op_eq (pe_fn h_dip (hr.mono (by decide)) (pa_cons (pv 0) (pa_cons pe_int pa_nil))) pe_int (nomark _)) (pa_cons (pe_fn h_number (hr.mono (by decide)) (pa_cons (pv 0) pa_nil)) pa_nil))) (by rfl)) (pss_cons (ps_set (i := 8) sc_pairs.nd rfl (Or.inr rfl) (pe_ifExp (pt_val (pv 5)) (pe_ix ix_list (pv 2) (pe_fn h_dip (hr.mono (by decide)) (pa_cons (pv 0) (pa_cons (pe_callB call_len_seq (by rfl) T.b_len (by decide +kernel) (pa_cons (pv 2) pa_nil)) pa_nil))) (fun _ _ => rfl)) (pe_fn h_fresh (hr.mono (by decide)) (pa_cons (pv 0) (pa_cons (pv 2) pa_nil))))) (pss_cons (ps_if (PW.pt (pw_and (pt_val (pv 5)) (pw_and1 (pt_val (pv 6))))) (pss_one (ps_set (i := 7) sc_pairs.nd rfl (Or.inl rfl) (pe_op op_sub pe_int (pe_callB (cr_sum rfl) (by rfl) T2.b_sum (by decide +kernel) (pa_cons (pe_lc (own := [("_law_other", 9), ("_law_much_here", 10)]) (g := gPr K 9 10) rfl sc_pairs.nd (pi_list (pv 3)) (blkOk_by (N := sc_pairs_N) (sc := defScope s_pairs) (by decide +kernel)) (fun _ _ _ _ _ => pg_tupK (by rfl) (pgs_cons (pg_name (i := 9) sc_pairs.nd rfl (Or.inl rfl)) (pgs_cons (pg_name (i := 10) sc_pairs.nd rfl (Or.inl rfl)) pgs_nil))) (fun _ _ _ _ _ => pts_one (pt_cmpR op_eq (pv 9) (pv 8) (nomark _))) (fun _ _ _ _ _ => (pv 10))) pa_nil))))) pss_nil) (pss_cons (ps_if (pt_not (pt_val (pv 5))) (pss_one (ps_expr (pe_bm PySem.F.plainAttrs_list PySem.F.slot_list_append PySem.F.type_list_append mt_append (pv 2) (pa_cons (pv 8) pa_nil)))) pss_nil) (pss_one (ps_expr (pe_bm PySem.F.plainAttrs_list PySem.F.slot_list_append PySem.F.type_list_append mt_append (pv 3) (pa_cons (pe_tup (pa_cons (pv 8) (pa_cons (pv 7) pa_nil))) pa_nil)))))))))
      (pss_one (ps_ret (pv 3))))), ?_⟩
    refine ⟨by decide, fun nl n0 => ⟨by decide, fun fl f0 => ⟨_, _, rfl, ?_⟩⟩⟩
    have h1 := ((Has.start wl).new (o := .lst []) n0).new (o := .lst []) f0
    have nfl : nl ≠ fl := fun e => by rw [e, upd_same] at f0; cases f0
    have fl0 : H fl = none := by rw [upd_ne nfl.symm] at f0; exact f0
    refine ⟨_, rfl, _, rfl, _, _, rfl, rfl, ?_⟩
    refine dip_step h1 (by omega) (by omega) (by omega) fun r H1 r0 r1 h2 => ?_
    obtain ⟨rn, rfl⟩ := Int.eq_ofNat_of_zero_le r0
    have hrn : rn ≤ m := by omega
    refine ⟨_, rfl, by omega, by omega, for_range (lo := 0) (n := rn) (fun j σ H' => ∃ (us : List TP) (names : List Str) (o4 o5 o6 o7 o8 o9 o10 : Option V), σ = [some (.ref a), some (.int m), some (.ref nl), some (.ref fl), o4, o5, o6, o7, o8, o9, o10] ∧
      Pairs us j ∧ (∀ x ∈ names, IsNm x) ∧ names.length ≤ j ∧ Has H a (n + 1 + 40 * j) ((nl, .lst (names.map V.str)) :: (fl, .lst (vP us)) :: lP us) H') ?_ ?_ ?_⟩
    · refine ⟨[], [], none, none, none, none, none, none, none, rfl, ⟨fun q hq => (nomatch hq), by decide, Nat.le_refl 0⟩, fun x hx => (nomatch hx), Nat.le_refl 0, ?_⟩
      exact h2.sub fun p hp => by
        simp only [List.map_nil, vP, lP, List.mem_cons, List.not_mem_nil, or_false] at hp ⊢
        exact hp.symm
    · rintro j σ H2 hj ⟨us, names, o4, o5, o6, o7, o8, o9, o10, rfl, hP, hN', hl, h3⟩
      have hj20 : j < 20 := by omega
      let L : List (Addr × HO) := (nl, .lst (names.map V.str)) :: (fl, .lst (vP us)) :: lP us
      change Has H a (n + 1 + 40 * j) L H2 at h3
      have mN : (nl, HO.lst (names.map V.str)) ∈ L := List.mem_cons_self
      have mF : (fl, HO.lst (vP us)) ∈ L := List.mem_cons_of_mem _ List.mem_cons_self
      refine seq_of (fun σ' H' => ∃ (old b : Bool) (z : Int), σ' = [some (.ref a), some (.int m), some (.ref nl), some (.ref fl), some (.int (0 + (j : Int))), some (.bl old), some (.bl b), some (.int z), o8, o9, o10] ∧ (old = true → names ≠ []) ∧ -big < z ∧ z < big ∧ Has H a (n + 1 + 40 * j + 7) L H') ?rest (fun N hN => ?main)
      case main =>
        have go : ∀ (old : Bool) H3, (old = true → names ≠ []) → Has H a (n + 1 + 40 * j + 1) L H3 → (tCons (tOp rEq (tCall (Irr sp_dip) [] E0 (tCons (tVar 0) (tCons (tC (V.int 2)) tNil))) (tC (V.int 0))) (tCons (tCall (Irr sp_number) [] E0 (tCons (tVar 0) tNil)) tNil)) [some (.ref a), some (.int m), some (.ref nl), some (.ref fl), some (.int (0 + (j : Int))), o5, o6, o7, o8, o9, o10] H3 fun xs H4 => ∃ u v w, V.bl old :: xs = [u, v, w] ∧ N [some (.ref a), some (.int m), some (.ref nl), some (.ref fl), some (.int (0 + (j : Int))), some u, some v, some w, o8, o9, o10] H4 := by
          intro old H3 ho h4
          refine ⟨_, rfl, dip_step h4 (by omega) (by decide) (by decide) fun r H4 r0 r1 h5 => ⟨rfl, _, rfl, ?_⟩⟩
          refine number_step h5 (by omega) fun z H5 z0 z1 h6 => ⟨_, _, _, rfl, hN _ _ ⟨old, _, z, rfl, ho, z0, z1, h6⟩⟩
        refine ⟨_, rfl, dip_step h3 (by omega) (by decide) (by decide) fun r H4 r0 r1 h4 => ⟨rfl, _, rfl, ?_⟩⟩
        refine ite2 (fun _ => ?_) (fun _ => go false H4 (fun e => nomatch e) h4)
        refine ⟨_, rfl, by decide, fun p np => ?_⟩
        have h5 := (h4.new (o := .lst []) np)
        refine ⟨_, _, .lst (SqL.of (h5.at (List.mem_cons_of_mem _ mN))) (dps names), .lst (SqL.of upd_same) .nil, shaped_strs hN', shaped_nil, ?_⟩
        rw [eqv_nil]
        refine go _ _ (fun e => ?_) (h5.sub fun q hq => List.mem_cons_of_mem _ hq)
        rintro rfl
        cases e
      rintro σ1 H3 ⟨old, b, z, rfl, ho, z0, z1, h4⟩
      refine seq_of (fun σ' H' => ∃ (x : Str), σ' = [some (.ref a), some (.int m), some (.ref nl), some (.ref fl), some (.int (0 + (j : Int))), some (.bl old), some (.bl b), some (.int z), some (.str x), o9, o10] ∧ IsNm x ∧ Has H a (n + 1 + 40 * j + 7 + 13) L H') ?rest2 (fun N hN => ?main2)
      case main2 =>
        refine ⟨_, rfl, _, rfl, ?_⟩
        cases old with
        | true =>
          refine iteT ⟨_, rfl, _, rfl, _, rfl, nl, _, rfl, .inl (SqL.of (h4.at mN)), ?_⟩
          have hp : 0 < names.length := List.length_pos_iff.mpr (ho rfl)
          rw [List.length_map]
          refine dip_step h4 (by omega) (by omega) (by omega) fun r H4 r0 r1 h5 => ?_
          obtain ⟨y, hy, hynm, _⟩ := at_of_list hN' r0 r1
          refine ⟨nl, _, r, .str y, rfl, rfl, SqL.of (h5.at mN), ?_, ?_⟩
          · unfold atI at hy ⊢
            rw [List.length_map]
            revert hy
            cases ixN names.length r with
            | none => intro hy; cases hy
            | some i =>
              intro hy
              show (names.map V.str)[i]? = _
              rw [List.getElem?_map, show names[i]? = some y from hy]
              rfl
          · exact hN _ _ ⟨y, rfl, hynm, h5.gr, h5.well.mono (by omega), h5.here⟩
        | false =>
          refine iteF ⟨_, rfl, _, rfl, ?_⟩
          refine fresh_step h4 (by omega) mN hN' (by omega) fun x H4 hx _ h5 => ?_
          exact hN _ _ ⟨x, rfl, hx, h5⟩
      rintro σ2 H4 ⟨x, rfl, hx, h5⟩
      refine seq_of (fun σ' H' => ∃ (z : Int) (o9 o10 : Option V), σ' = [some (.ref a), some (.int m), some (.ref nl), some (.ref fl), some (.int (0 + (j : Int))), some (.bl old), some (.bl b), some (.int z), some (.str x), o9, o10] ∧ ((z.natAbs : Int) ≤ big ∨ z.natAbs ≤ tot (prs us)) ∧ Has H a (n + 1 + 40 * j + 7 + 13) L H') ?rest3 (fun N hN => ?main3)
      case main3 =>
        have skip : N [some (.ref a), some (.int m), some (.ref nl), some (.ref fl), some (.int (0 + (j : Int))), some (.bl old), some (.bl b), some (.int z), some (.str x), o9, o10] H4 := hN _ _ ⟨z, o9, o10, rfl, .inl (by omega), h5⟩
        refine ⟨_, rfl, _, rfl, ?_⟩
        refine ite2 (fun _ => ?_) (fun _ => iteF skip)
        refine ⟨_, rfl, _, rfl, ?_⟩
        refine ite2 (fun _ => ?_) (fun _ => skip)
        refine ⟨_, rfl, fl, rfl, ⟨_, SqL.of (h5.at mF)⟩, fun D nD => lc_pairs (us := us) (fun q => decide (V.str q.1 = V.str x)) (fun q => V.int q.2) (SqL.of (h5.at mF)) (TPs.of h5 fun p hp => List.mem_cons_of_mem _ (List.mem_cons_of_mem _ hp)) nD (by have := hP.ln; omega) (fun _ _ => rfl) (fun q _ H6 _ => ⟨fun R r => ⟨_, rfl, _, rfl, rfl, _, rfl, r⟩, fun _ R r => ⟨_, rfl, r⟩⟩) fun H6 sm hD => ?_⟩
        refine ⟨D, (((prs us).filter fun q => decide (V.str q.1 = V.str x)).map fun q => q.2), rfl, SqL.of (by rw [List.map_map]; exact hD), _, _, rfl, rfl, hN _ _ ⟨_, _, _, rfl, .inr ?_, h5.same sm⟩⟩
        have := sum_le (fun q => decide (V.str q.1 = V.str x)) (prs us)
        omega
      rintro σ3 H5 ⟨z, o9, o10, rfl, hz, h6⟩
      have offN : ∀ q ∈ (fl, HO.lst (vP us)) :: lP us, q.1 ≠ nl := fun q hq => by
        rcases List.mem_cons.mp hq with rfl | hq'
        · exact nfl.symm
        · obtain ⟨u, hu, rfl⟩ := List.mem_map.mp hq'
          exact h6.apart (List.mem_cons_of_mem _ hq) mN (fun e => nomatch e)
      refine seq_of (fun σ' H' => ∃ (names : List Str), σ' = [some (.ref a), some (.int m), some (.ref nl), some (.ref fl), some (.int (0 + (j : Int))), some (.bl old), some (.bl b), some (.int z), some (.str x), o9, o10] ∧ (∀ x ∈ names, IsNm x) ∧ names.length ≤ j + 1 ∧ Has H a (n + 1 + 40 * j + 7 + 13) ((nl, .lst (names.map V.str)) :: (fl, .lst (vP us)) :: lP us) H') ?rest4 (fun N hN => ?main4)
      case main4 =>
        refine ⟨_, rfl, _, rfl, ?_⟩
        refine ite2 (fun _ => ?_) (fun _ => hN _ _ ⟨names, rfl, hN', by omega, h6⟩)
        refine ⟨_, rfl, .inl ⟨rfl, _, SqL.of (h6.at mN)⟩, _, rfl, nl, _, _, rfl, rfl, h6.at mN, ?_, ?_⟩
        · rw [List.length_map]
          exact Nat.lt_of_le_of_lt hl (Nat.lt_of_lt_of_le hj20 (by decide))
        · refine hN _ _ ⟨names ++ [x], rfl, fun y hy => ?_, by rw [List.length_append]; exact Nat.succ_le_succ hl, ?_⟩
          · rcases List.mem_append.mp hy with q | q
            · exact hN' y q
            · rw [List.mem_singleton.mp q]; exact hx
          · rw [List.map_append]
            exact h6.reset n0 offN
      rintro σ4 H6 ⟨names, rfl, hN', hl, h7⟩
      have mF7 : (fl, HO.lst (vP us)) ∈ (nl, HO.lst (names.map V.str)) :: (fl, HO.lst (vP us)) :: lP us := List.mem_cons_of_mem _ List.mem_cons_self
      refine ⟨_, rfl, .inl ⟨rfl, _, SqL.of (h7.at mF7)⟩, _, rfl, _, rfl, (by show 2 ≤ sizeLine; decide), fun T nT => ?_⟩
      have h8 := h7.new (o := oP (x, z)) nT
      have h9 := h8.sub (L' := (fl, HO.lst (vP us)) :: (nl, HO.lst (names.map V.str)) :: lP (us ++ [(T, x, z)])) fun q hq => by
        rw [lP_app] at hq
        simp only [List.mem_cons, List.mem_append, lP, List.map_cons, List.map_nil, List.not_mem_nil, or_false] at hq ⊢
        rcases hq with q | q | q | q
        · exact .inr (.inr (.inl q))
        · exact .inr (.inl q)
        · exact .inr (.inr (.inr q))
        · exact .inl q
      refine ⟨fl, _, _, rfl, rfl, h9.at List.mem_cons_self, ?_, ?_⟩
      · rw [vP_len]
        exact Nat.lt_of_le_of_lt hP.ln (Nat.lt_of_lt_of_le hj20 (by decide))
      refine ⟨us ++ [(T, x, z)], names, _, _, _, _, _, _, _, rfl, ⟨fun q hq => ?_, ?_, ?_⟩, hN', hl, ?_⟩
      · rw [prs_app] at hq
        rcases List.mem_append.mp hq with q | q
        · exact hP.nm _ q
        · rw [List.mem_singleton.mp q]; exact hx
      · rw [prs_app, tot_app]
        have e : tot (prs [(T, x, z)]) = z.natAbs := Nat.add_zero _
        have h1 := hP.gr
        have h2 : big ≤ big * 2 ^ j := by
          have : (1 : Int) ≤ 2 ^ j := p2_pos j
          have := Int.mul_le_mul_of_nonneg_left this (show (0 : Int) ≤ big by decide)
          omega
        have h3 : big * 2 ^ (j + 1) = big * 2 ^ j + big * 2 ^ j := by rw [Int.pow_succ, ← Int.mul_assoc]; omega
        rw [e, h3]
        omega
      · rw [List.length_append]; exact Nat.succ_le_succ hP.ln
      · have h10 := h9.reset (o' := .lst (vP us ++ [V.ref T])) fl0 fun q hq => ?_
        · rw [vP_app]
          refine ⟨h10.gr, h10.well.mono (by omega), fun q hq => h10.here q ?_⟩
          simp only [List.mem_cons] at hq ⊢
          rcases hq with q | q | q
          · exact .inr (.inl q)
          · exact .inl q
          · exact .inr (.inr q)
        · rcases List.mem_cons.mp hq with rfl | hq'
          · exact nfl
          · obtain ⟨u, hu, rfl⟩ := List.mem_map.mp hq'
            exact h9.apart (List.mem_cons_of_mem _ hq) List.mem_cons_self (fun e => nomatch e)
    · rintro σ H2 ⟨us, names, o4, o5, o6, o7, o8, o9, o10, rfl, hP, hN, hl, h3⟩
      refine ⟨_, rfl, k us fl H2 ⟨hP.nm, ?_, Nat.le_trans hP.ln hrn⟩ (fun p hp => h3.here p (List.mem_cons_of_mem _ hp)) fl0 h3.gr (h3.well.mono (by omega))⟩
      refine Int.le_trans hP.gr (Int.mul_le_mul_of_nonneg_left ?_ (by decide))
      exact p2_le hrn
end
end RV
namespace RV
open PySem L2
section
variable {P : Program} {w : World} {K : PySem.W.Frag} {mg : Str → Option Value} {base : Heap}
theorem ok_merged {f : Addr} {fd : FuncData} (F : Fun K "_law_merged" "_law_merged" s_merged f fd) (T2 : Blt2 mg) : FnOk P w K mg base CX0 1 f fd ["_law_pairs_here"] (sp_merged K) := by
  refine F.ok sc_merged (fun vs H Q E h => ?_) (fun cdv A outer s H vs Q E hr h => ?_)
  · obtain ⟨_, _, rfl, _⟩ := h
    rfl
  · obtain ⟨l, us, rfl, hl, ht, hn, k⟩ := h
    refine ⟨_, (pss_cons (ps_set (i := 1) sc_merged.nd rfl (Or.inl rfl) (pe_lst pa_nil))
      (pss_cons (ps_for PassesOwn.never rfl (pi_list (pe_callB (cr_sortS rfl) (by rfl) T2.b_sorted (by decide +kernel) (pa_cons (pe_callTy (cr_setS rfl) (by rfl) T2.b_set (by decide +kernel) (pa_cons (pe_lc (own := [("_law_each", 4), ("_law_much_here", 5)]) (g := gPr K 4 5) (tt := tYes) rfl sc_merged.nd (pi_list (pv 0)) (blkOk_by (N := sc_merged_N) (sc := defScope s_merged) (by decide +kernel)) (fun _ _ _ _ _ => pg_tupK (by rfl) (pgs_cons (pg_name (i := 4) sc_merged.nd rfl (Or.inl rfl)) (pgs_cons (pg_name (i := 5) sc_merged.nd rfl (Or.inl rfl)) pgs_nil))) (fun _ _ _ _ _ => pts_nil) (fun _ _ _ _ _ => (pv 4))) pa_nil)) pa_nil))) (pg_name (i := 2) sc_merged.nd rfl (Or.inr rfl)) (pss_cons (ps_set (i := 3) sc_merged.nd rfl (Or.inl rfl) (pe_callB (cr_sum rfl) (by rfl) T2.b_sum (by decide +kernel) (pa_cons (pe_lc (own := [("_law_each", 4), ("_law_much_here", 5)]) (g := gPr K 4 5) rfl sc_merged.nd (pi_list (pv 0)) (blkOk_by (N := sc_merged_N) (sc := defScope s_merged) (by decide +kernel)) (fun _ _ _ _ _ => pg_tupK (by rfl) (pgs_cons (pg_name (i := 4) sc_merged.nd rfl (Or.inl rfl)) (pgs_cons (pg_name (i := 5) sc_merged.nd rfl (Or.inl rfl)) pgs_nil))) (fun _ _ _ _ _ => pts_one (pt_cmpR op_eq (pv 4) (pv 2) (nomark _))) (fun _ _ _ _ _ => (pv 5))) pa_nil))) (pss_one (ps_if (pt_cmpR op_ne (pv 3) pe_int (nomark _)) (pss_one (ps_expr (pe_bm PySem.F.plainAttrs_list PySem.F.slot_list_append PySem.F.type_list_append mt_append (pv 1) (pa_cons (pe_tup (pa_cons (pv 2) (pa_cons (pv 3) pa_nil))) pa_nil)))) pss_nil))))
      (pss_one (ps_ret (pv 1))))), ?_⟩
    refine ⟨by decide, fun fl f0 => ?_⟩
    have h1 := (Kp.start H).new (o := .lst []) f0
    refine ⟨_, rfl, l, rfl, ⟨_, hl.ext h1.sm⟩, fun D nD => lc_pairs (us := us) (fun _ => true) (fun q => V.str q.1) (hl.ext h1.sm) (ht.ext h1.sm) nD (by omega) (fun _ _ => rfl) (fun q _ H6 _ => ⟨fun R r => r, fun _ R r => ⟨_, rfl, r⟩⟩) fun H2 sm2 hD => ?_⟩
    have hD' : H2 D = some (.lst (((prs us).map fun q => q.1).map V.str)) := by
      rw [hD, List.filter_eq_self.mpr fun _ _ => rfl, List.map_map]
      rfl
    have h2 := h1.next sm2
    refine ⟨D, (prs us).map fun q => q.1, rfl, SqL.of hD', by rw [List.length_map, prs_len]; omega, fun sa sn na hsn => ?_⟩
    have h3 := (h2.new (o := SetT P w sa (fun x => decide (x ∈ (prs us).map fun q => q.1)) sn) na).sub (L' := [(fl, HO.lst [])]) fun p hp => List.mem_cons_of_mem _ hp
    refine ⟨sa, _, sn, rfl, upd_same, fun xs xl sx nx mx lx nxl => ?_⟩
    have h4 := h3.new (o := .lst (xs.map V.str)) nxl
    have hx : ∀ k, k ∈ xs ↔ k ∈ (prs us).map fun q => q.1 := fun k => by rw [mx, decide_eq_true_eq]
    have asc := asc_of sx nx
    have nfx : fl ≠ xl := ne_of_none (h3.at (p := fl) (o := .lst []) List.mem_cons_self) nxl
    have lxu : xs.length ≤ us.length := by rw [lx]; rw [List.length_map, prs_len] at hsn; exact hsn
    refine ⟨xl, rfl, ⟨_, SqL.of upd_same⟩, for_list (xs := xs.map V.str) (fun i σ H' => ∃ (ds : List TP) (o2 o3 o4 o5 : Option V), σ = [some (.ref l), some (.ref fl), o2, o3, o4, o5] ∧ prs ds = ((xs.take i).map fun x => (x, co (prs us) x)).filter (fun q => !decide (q.2 = 0)) ∧
      Kp H ((fl, .lst (vP ds)) :: (xl, .lst (xs.map V.str)) :: lP ds) H') ⟨[], none, none, none, none, rfl, rfl, h4.sub fun p hp => ?_⟩ ?_ ?_ ?_⟩
    · simp only [vP, lP, List.map_nil, List.mem_cons, List.not_mem_nil, or_false] at hp ⊢
      exact hp.symm
    · rintro i σ H5 _ ⟨ds, o2, o3, o4, o5, rfl, hds, h5⟩
      exact SqL.of (h5.at (List.mem_cons_of_mem _ List.mem_cons_self))
    · rintro i x σ H5 hxi ⟨ds, o2, o3, o4, o5, rfl, hds, h5⟩
      obtain ⟨y, hy, rfl⟩ : ∃ y, xs[i]? = some y ∧ x = V.str y := by
        rw [List.getElem?_map] at hxi
        cases e : xs[i]? with
        | none => rw [e] at hxi; cases hxi
        | some y => rw [e] at hxi; exact ⟨y, rfl, (Option.some.inj hxi).symm⟩
      have et : xs.take (i + 1) = xs.take i ++ [y] := by rw [List.take_add_one, hy]; rfl
      have lds : ds.length ≤ i := by
        rw [← prs_len, hds]
        refine Nat.le_trans (List.length_filter_le _ _) ?_
        rw [List.length_map]
        exact List.length_take_le i xs
      have li : i < 121 := by
        have h1 := (List.getElem?_eq_some_iff.mp hy).1
        omega
      refine ⟨_, rfl, l, rfl, ⟨_, hl.ext h5.sm⟩, fun D2 nD2 => lc_pairs (us := us) (fun q => decide (V.str q.1 = V.str y)) (fun q => V.int q.2) (hl.ext h5.sm) (ht.ext h5.sm) nD2 (by omega) (fun _ _ => rfl) (fun q _ H6 _ => ⟨fun R r => ⟨_, rfl, _, rfl, rfl, _, rfl, r⟩, fun _ R r => ⟨_, rfl, r⟩⟩) fun H6 sm hD2 => ?_⟩
      have h6 := h5.next sm
      have ec : ((prs us).filter fun q => decide (V.str q.1 = V.str y)) = (prs us).filter fun q => decide (q.1 = y) := List.filter_congr fun q _ => by simp
      refine ⟨D2, (((prs us).filter fun q => decide (V.str q.1 = V.str y)).map fun q => q.2), rfl, SqL.of (by rw [List.map_map]; exact hD2), ?_⟩
      have e2 : (((prs us).filter fun q => decide (V.str q.1 = V.str y)).map fun q => q.2).sum = co (prs us) y := by rw [ec]; rfl
      rw [e2]
      have e3 : ∀ b, (!decide (co (prs us) y = 0)) = b → ((xs.take (i + 1)).map fun x => (x, co (prs us) x)).filter (fun q => !decide (q.2 = 0)) = prs ds ++ if b = true then [(y, co (prs us) y)] else [] := fun b hb => by
        rw [et, List.map_append, List.filter_append, ← hds]
        cases b <;> simp [List.filter_cons, hb]
      refine ⟨_, rfl, rfl, _, rfl, ?_⟩
      have dz : (!decide (V.int (co (prs us) y) = V.int 0)) = !decide (co (prs us) y = 0) := by simp
      rw [dz]
      refine ite2 (fun hz => ?_) (fun hz => ?_)
      · refine ⟨_, rfl, .inl ⟨rfl, _, SqL.of (h6.at List.mem_cons_self)⟩, _, rfl, _, rfl, (by show 2 ≤ sizeLine; decide), fun T nT => ?_⟩
        have h7 := (h6.new (o := oP (y, co (prs us) y)) nT).sub (L' := (fl, HO.lst (vP ds)) :: (xl, .lst (xs.map V.str)) :: lP (ds ++ [(T, y, co (prs us) y)])) fun q hq => by
          rw [lP_app] at hq
          simp only [List.mem_cons, List.mem_append, lP, List.map_cons, List.map_nil, List.not_mem_nil, or_false] at hq ⊢
          rcases hq with q | q | q | q
          · exact .inr (.inl q)
          · exact .inr (.inr (.inl q))
          · exact .inr (.inr (.inr q))
          · exact .inl q
        refine ⟨fl, _, _, rfl, rfl, h7.at List.mem_cons_self, ?_, ?_⟩
        · rw [vP_len]
          exact Nat.lt_of_le_of_lt (show ds.length ≤ 121 by omega) (by decide)
        refine ⟨ds ++ [(T, y, co (prs us) y)], _, _, _, _, rfl, ?_, ?_⟩
        · rw [prs_app, e3 true hz]
          rfl
        · rw [vP_app]
          refine h7.reset fun q hq => ?_
          rcases List.mem_cons.mp hq with rfl | hq'
          · exact nfx.symm
          · obtain ⟨u, hu, rfl⟩ := List.mem_map.mp hq'
            exact h7.apart (List.mem_cons_of_mem _ hq) List.mem_cons_self (fun e => nomatch e)
      · refine ⟨ds, _, _, _, _, rfl, ?_, h6⟩
        rw [e3 false (Bool.eq_false_iff.mpr hz)]
        simp
    · rintro σ H5 ⟨ds, o2, o3, o4, o5, rfl, hds, h5⟩
      rw [List.length_map, List.take_length] at hds
      refine ⟨_, rfl, k ds fl H5 ?_ ?_ ?_ ?_ (h5.sub fun p hp => ?_)⟩
      · rw [hds]; exact nrm_of asc
      · intro x
        rw [hds]
        refine nrm_co asc (fun y hy => co_none fun q hq e => hy ((hx y).2 (List.mem_map.mpr ⟨q, hq, e⟩))) x
      · intro q hq
        rw [hds] at hq
        obtain ⟨y, hy, rfl⟩ := List.mem_map.mp (List.mem_filter.mp hq).1
        exact (hx y).1 hy
      · rw [← prs_len, hds]
        refine Nat.le_trans (List.length_filter_le _ _) ?_
        rw [List.length_map]
        exact lxu
      · rcases List.mem_cons.mp hp with e | e
        · exact e ▸ List.mem_cons_self
        · exact List.mem_cons_of_mem _ (List.mem_cons_of_mem _ e)
end
end RV
namespace RV
open PySem L2
section
variable {P : Program} {w : World} {K : PySem.W.Frag} {mg : Str → Option Value} {base : Heap}
theorem ok_is_number {f : Addr} {fd : FuncData} (F : Fun K "is_number" "is_number" s_is_number f fd) (T : Blt mg) (T2 : Blt2 mg) : FnOk P w K mg base CX0 1 f fd ["value"] (sp_is_number K) := by
  refine F.ok sc_is_number (fun vs H Q E h => ?_) (fun cdv A outer s H vs Q E hr h => ?_)
  · obtain ⟨_, rfl, _⟩ := h
    rfl
  · obtain ⟨v, rfl, k⟩ := h
    refine ⟨_, (pss_one (ps_ret (pe_and (pe_callB call_isi (by rfl) T.b_isinstance (by decide +kernel) (pa_cons (pv 0) (pa_cons (pe_bltn (v := .ty "int") (by rfl) T.b_int (by decide +kernel) rfl) pa_nil))) (pe_one (pe_not (pe_callB call_isi (by rfl) T.b_isinstance (by decide +kernel) (pa_cons (pv 0) (pa_cons (pe_bltn (v := .ty "bool") (by rfl) T2.b_bool (by decide +kernel) rfl) pa_nil)))))))), ?_⟩
    rcases k with ⟨z, rfl, k⟩ | ⟨b, rfl, k⟩ | ⟨t, ty, kt, k⟩
    · refine ⟨_, rfl, _, _, .type "int", .type "int", true, rfl, .ty _, .base (.int z), kit_ty (by decide +kernel), true, rfl, ?_⟩
      exact iteT ⟨_, rfl, _, _, .type "int", .type "bool", false, rfl, .ty _, .base (.int z), kit_ty (by decide +kernel), false, rfl, k⟩
    · refine ⟨_, rfl, _, _, .type "bool", .type "int", true, rfl, .ty _, .base (.bl b), kit_ty (by decide +kernel), true, rfl, ?_⟩
      exact iteT ⟨_, rfl, _, _, .type "bool", .type "bool", true, rfl, .ty _, .base (.bl b), kit_ty (by decide +kernel), true, rfl, k⟩
    · refine ⟨_, rfl, _, _, t, .type "int", false, rfl, .ty _, ty, kt, false, rfl, ?_⟩
      exact iteF k
theorem ok_is_term {f : Addr} {fd : FuncData} (F : Fun K "_is_term" "_is_term" s_is_term f fd) (T : Blt mg) (T2 : Blt2 mg) (h_is_name : Fn P w K mg base "is_name" 1 ["value"] (Irr (sp_is_name K))) (h_is_number : Fn P w K mg base "is_number" 1 ["value"] (Irr (sp_is_number K))) : FnOk P w K mg base CX0 2 f fd ["value"] (sp_is_term K) := by
  refine F.ok sc_is_term (fun vs H Q E h => ?_) (fun cdv A outer s H vs Q E hr h => ?_)
  · obtain ⟨_, _, _, rfl, _⟩ := h
    rfl
  · obtain ⟨t, x, z, rfl, ht, hx, k⟩ := h
    refine ⟨_, (pss_one (ps_ret (pe_and (pe_callB call_isi (by rfl) T.b_isinstance (by decide +kernel) (pa_cons (pv 0) (pa_cons (pe_bltn (v := .ty "tuple") (by rfl) T2.b_tuple (by decide +kernel) rfl) pa_nil))) (pe_and (pe_cmpR op_eq (pe_callB call_len_seq (by rfl) T.b_len (by decide +kernel) (pa_cons (pv 0) pa_nil)) pe_int (nomark _)) (pe_and (pe_fn h_is_name (hr.mono (by decide)) (pa_cons (pe_ix ix_tup (pv 0) pe_int (fun _ _ => rfl)) pa_nil)) (pe_one (pe_fn h_is_number (hr.mono (by decide)) (pa_cons (pe_ix ix_tup (pv 0) pe_int (fun _ _ => rfl)) pa_nil)))))))), ?_⟩
    refine ⟨_, rfl, _, _, .type "tuple", .type "tuple", true, rfl, .ty _, tyx_tup ht, kit_ty (by decide +kernel), true, rfl, iteT ?_⟩
    refine ⟨_, rfl, t, _, rfl, .inr ht, rfl, _, rfl, ?_⟩
    have hxl : x.length ≤ sizeLine := by rw [cd_len]; exact Nat.le_trans (isNm_len hx).2 (by decide)
    refine iteT ⟨_, rfl, t, _, 0, .str x, rfl, rfl, ht, rfl, irr ⟨_, rfl, .inl ⟨x, rfl, hxl, fun H1 s1 => ⟨true, by rw [show isNm (cd x) = true from hx], ?_⟩⟩⟩⟩
    refine iteT ⟨_, rfl, t, _, 1, .int z, rfl, rfl, ht.ext s1, rfl, irr ⟨_, rfl, .inl ⟨z, rfl, k H1 s1⟩⟩⟩
theorem ok_check_terms {f : Addr} {fd : FuncData} (F : Fun K "_check_terms" "_check_terms" s_check_terms f fd) (T : Blt mg) (T2 : Blt2 mg) (h_is_term : Fn P w K mg base "_is_term" 2 ["value"] (Irr (sp_is_term K))) : FnOk P w K mg base CX0 3 f fd ["terms"] (sp_check_terms K) := by
  refine F.ok sc_check_terms (fun vs H Q E h => ?_) (fun cdv A outer s H vs Q E hr h => ?_)
  · obtain ⟨_, _, rfl, _⟩ := h
    rfl
  · obtain ⟨t, us, rfl, hl, ht, hx, hn, k⟩ := h
    refine ⟨_, (pss_cons (ps_if (pt_not (pt_val (pe_callB call_isi (by rfl) T.b_isinstance (by decide +kernel) (pa_cons (pv 0) (pa_cons (pe_bltn (v := .ty "tuple") (by rfl) T2.b_tuple (by decide +kernel) rfl) pa_nil))))) (pss_one ps_never) pss_nil)
      (pss_one (ps_for PassesOwn.never rfl (pi_enumT (by rfl) T2.b_enumerate (pa_cons (pv 0) pa_nil)) (pg_tup (by rfl) (pgs_cons (pg_name (i := 1) sc_check_terms.nd rfl (Or.inl rfl)) (pgs_cons (pg_name (i := 2) sc_check_terms.nd rfl (Or.inl rfl)) pgs_nil))) (pss_one (ps_if (pt_not (pt_val (pe_fn h_is_term (hr.mono (by decide)) (pa_cons (pv 2) pa_nil)))) (pss_one ps_never) pss_nil))))), ?_⟩
    refine ⟨_, rfl, _, _, .type "tuple", .type "tuple", true, rfl, .ty _, tyx_tup hl, kit_ty (by decide +kernel), true, rfl, iteF ?_⟩
    refine ⟨_, rfl, t, _, rfl, hl, for_enumT (xs := vP us) (fun i σ H' => ∃ o1 o2, σ = [some (.ref t), o1, o2] ∧ Same H H') ⟨none, none, rfl, fun _ _ e => e⟩ ?_ ?_ ?_⟩
    · rintro i σ H1 _ ⟨_, _, _, s1⟩
      exact hl.ext s1
    · rintro i x σ H1 T hx' ⟨o1, o2, rfl, s1⟩ nT
      rw [vP, List.getElem?_map] at hx'
      cases hu : us[i]? with
      | none => rw [hu] at hx'; cases hx'
      | some u =>
        rw [hu] at hx'
        obtain rfl : V.ref u.1 = x := Option.some.inj hx'
        have hm := List.mem_of_getElem? hu
        have s2 : Same H (upd H1 T (.tup [.int (i : Nat), .ref u.1])) := fun b o e => by
          rw [upd_ne (ne_of_none (s1 b o e) nT)]
          exact s1 b o e
        refine ⟨T, _, rfl, SqT.of upd_same, rfl, _, _, rfl, _, _, rfl, rfl, ?_⟩
        refine ⟨_, rfl, irr ⟨u.1, u.2.1, u.2.2, rfl, (ht u hm).ext s2, hx u.2 (List.mem_map.mpr ⟨u, hm, rfl⟩), fun H2 s3 => ⟨true, rfl, ?_⟩⟩⟩
        exact iteF ⟨_, _, rfl, fun b o e => s3 b o (s2 b o e)⟩
    · rintro σ H1 ⟨_, _, _, s1⟩
      exact k H1 s1
end
end RV
namespace RV
open PySem L2
section
variable {P : Program} {w : World} {K : PySem.W.Frag} {mg : Str → Option Value} {base : Heap}
theorem ok_collected {f : Addr} {fd : FuncData} (F : Fun K "_collected" "_collected" s_collected f fd) (T2 : Blt2 mg) : FnOk P w K mg base CX0 1 f fd ["terms"] (sp_collected K) := by
  refine F.ok sc_collected (fun vs H Q E h => ?_) (fun cdv A outer s H vs Q E hr h => ?_)
  · obtain ⟨_, _, rfl, _⟩ := h
    rfl
  · obtain ⟨t, us, rfl, hl, ht, hn, k⟩ := h
    have hu : (A.deeper (PyProof.Rows.envOfC "_collected" (defScope s_collected) s.heap.objs.size f cdv)).units + 1 < cLine := by have := hr.units; omega
    refine ⟨_, (pss_cons (ps_set (i := 1) sc_collected.nd rfl (Or.inr rfl) pe_dnewK)
      (pss_cons (ps_for PassesOwn.never rfl (pi_tup (pv 0)) (pg_tup (by rfl) (pgs_cons (pg_name (i := 2) sc_collected.nd rfl (Or.inl rfl)) (pgs_cons (pg_name (i := 3) sc_collected.nd rfl (Or.inl rfl)) pgs_nil))) (pss_one (ps_dput hu (pv 1) (pv 2) (pe_op op_add (pe_dget2 hu (pv 1) (pv 2) pe_int ⟨by rfl, by rfl, by rfl, by rfl⟩) (pv 3)) (by rfl))))
      (pss_one (ps_ret (pe_callTy call_tuple_of (by rfl) T2.b_tuple (by decide +kernel) (pa_cons (pe_lc (own := [("name", 2)]) (g := gName 2) rfl sc_collected.nd (pi_list (pe_callB (call_sortedD rfl) (by rfl) T2.b_sorted (by decide +kernel) (pa_cons (pv 1) pa_nil))) (blkOk_by (N := sc_collected_N) (sc := defScope s_collected) (by decide +kernel)) (fun _ _ _ _ _ => pg_name (i := 2) sc_collected.nd rfl (Or.inl rfl)) (fun _ _ _ _ _ => pts_one (pt_cmpR op_ne (pe_dget hu (pv 1) (pv 2) (fun _ _ => rfl)) pe_int (nomark _))) (fun _ _ _ _ _ => (pe_tup (pa_cons (pv 2) (pa_cons (pe_dget hu (pv 1) (pv 2) (fun _ _ => rfl)) pa_nil))))) pa_nil)))))), ?_⟩
    intro dl d0
    have h1 := (Kp.start H).new (o := .dK []) d0
    refine ⟨_, rfl, t, rfl, ⟨_, hl.ext h1.sm⟩, for_tup (xs := vP us) (fun i σ H' => ∃ kvs ks o2 o3, σ = [some (.ref t), some (.ref dl), o2, o3] ∧ Dct kvs ((prs us).take i) ks ∧ Kp H [(dl, .dK kvs)] H') ⟨[], [], none, none, rfl, Dct.nil, h1⟩ ?_ ?_ ?_⟩
    · rintro i σ H1 _ ⟨_, _, _, _, _, _, h2⟩
      exact hl.ext h2.sm
    · rintro i x σ H1 hx' ⟨kvs, ks, o2, o3, rfl, hD, h2⟩
      rw [vP, List.getElem?_map] at hx'
      cases hu' : us[i]? with
      | none => rw [hu'] at hx'; cases hx'
      | some u =>
        rw [hu'] at hx'
        obtain rfl : V.ref u.1 = x := Option.some.inj hx'
        have hm := List.mem_of_getElem? hu'
        have et : (prs us).take (i + 1) = (prs us).take i ++ [u.2] := by
          rw [List.take_add_one, prs, List.getElem?_map, hu']
          rfl
        have hat := h2.at (p := dl) (o := .dK kvs) List.mem_cons_self
        refine ⟨u.1, _, rfl, (ht u hm).ext h2.sm, rfl, _, _, rfl, _, _, rfl, rfl, ?_⟩
        refine ⟨_, rfl, dl, rfl, .inl ⟨_, .inl hat⟩, _, rfl, _, DGet.k (k := Sum.inr u.2.1) hat, _, rfl, _, _, hD.get u.2.1, rfl, ?_⟩
        obtain ⟨ks', hD'⟩ := hD.put u.2.1 u.2.2
        refine ⟨_, rfl, _, rfl, dl, _, rfl, DPut.k (k := Sum.inr u.2.1) hat ?_, putK kvs (.inr u.2.1) (.int (co ((prs us).take i) u.2.1 + u.2.2)), ks', _, _, rfl, ?_, h2.reset fun q hq => nomatch hq⟩
        · have e := congrArg List.length hD.keys
          rw [List.length_map, List.length_map] at e
          have e2 := hD.ln
          rw [List.length_take] at e2
          rw [e]
          exact Nat.lt_of_le_of_lt (show ks.length ≤ 120 by have := hn.1; rw [prs_len] at e2 this; omega) (by decide)
        · rw [et]
          exact hD'
    · rintro σ H1 ⟨kvs, ks, o2, o3, rfl, hD, h2⟩
      rw [vP_len, ← prs_len, List.take_length] at hD
      have hln : ks.length ≤ us.length := by rw [← prs_len]; exact hD.ln
      have hat := h2.at (p := dl) (o := .dK kvs) List.mem_cons_self
      have h60 : ks.length ≤ 60 := by
        obtain ⟨_, pool, h2, h3⟩ := hn
        refine Nat.le_trans (nodup_len hD.nd fun y hy => ?_) h2
        obtain ⟨q, hq, e⟩ := List.mem_map.mp ((hD.mem y).mp hy)
        exact e ▸ h3 q hq
      refine ⟨_, rfl, dl, kvs, ks, rfl, .inl hat, hD.keys, by omega, fun xs xl pm sx nxl => ?_⟩
      have nx : xs.Nodup := pm.nodup_iff.mpr hD.nd
      have hx : ∀ y, y ∈ xs ↔ y ∈ (prs us).map fun q => q.1 := fun y => pm.mem_iff.trans (hD.mem y)
      have asc := asc_of sx nx
      have lxu : xs.length ≤ us.length := by rw [pm.length_eq]; exact hln
      have h3 := h2.new (o := .lst (xs.map V.str)) nxl
      refine ⟨xl, rfl, ⟨_, SqL.of upd_same⟩, fun D nD => ?_⟩
      have h4 := h3.new (o := .lst []) nD
      have nDd : D ≠ dl := (ne_of_none (h3.at (p := dl) (o := .dK kvs) (List.mem_cons_of_mem _ List.mem_cons_self)) nD).symm
      have nDx : D ≠ xl := (ne_of_none (h3.at (p := xl) (o := .lst (xs.map V.str)) List.mem_cons_self) nD).symm
      refine lc_list (xs := xs.map V.str) (fun i H' => ∃ (ds : List TP), prs ds = ((xs.take i).map fun x => (x, co (prs us) x)).filter (fun q => !decide (q.2 = 0)) ∧ Kp H ((D, .lst (vP ds)) :: (xl, .lst (xs.map V.str)) :: (dl, .dK kvs) :: lP ds) H') ⟨[], rfl, h4⟩ ?_ ?_ ?_
      · rintro i H5 _ ⟨ds, _, h5⟩
        exact SqL.of (h5.at (List.mem_cons_of_mem _ List.mem_cons_self))
      · rintro i x H5 hxi ⟨ds, hds, h5⟩
        obtain ⟨y, hy, rfl⟩ : ∃ y, xs[i]? = some y ∧ x = V.str y := by
          rw [List.getElem?_map] at hxi
          cases e : xs[i]? with
          | none => rw [e] at hxi; cases hxi
          | some y => rw [e] at hxi; exact ⟨y, rfl, (Option.some.inj hxi).symm⟩
        have et : xs.take (i + 1) = xs.take i ++ [y] := by rw [List.take_add_one, hy]; rfl
        have lds : ds.length ≤ i := by
          rw [← prs_len, hds]
          refine Nat.le_trans (List.length_filter_le _ _) ?_
          rw [List.length_map]
          exact List.length_take_le i xs
        have li := (List.getElem?_eq_some_iff.mp hy).1
        have hv : valV kvs (.inr y) = some (.int (co (prs us) y)) := by
          rw [hD.val, if_pos (pm.mem_iff.mp (List.mem_of_getElem? hy))]
        have dat := h5.at (p := dl) (o := .dK kvs) (List.mem_cons_of_mem _ (List.mem_cons_of_mem _ List.mem_cons_self))
        have e3 : ∀ b, (!decide (co (prs us) y = 0)) = b → ((xs.take (i + 1)).map fun x => (x, co (prs us) x)).filter (fun q => !decide (q.2 = 0)) = prs ds ++ if b = true then [(y, co (prs us) y)] else [] := fun b hb => by
          rw [et, List.map_append, List.filter_append, ← hds]
          cases b <;> simp [List.filter_cons, hb]
        have dg : ∀ H', H' dl = some (.dK kvs) → DGet H' dl (.str y) (some (.int (co (prs us) y))) := fun H' e => hv ▸ DGet.k (k := Sum.inr y) e
        refine ⟨rfl, _, rfl, _, rfl, dl, _, rfl, dg _ dat, rfl, _, rfl, ?_⟩
        have dz : (!decide (V.int (co (prs us) y) = V.int 0)) = !decide (co (prs us) y = 0) := by simp
        rw [dz]
        refine ite2 (fun hz => ?_) (fun hz => ?_)
        · refine ⟨_, rfl, _, rfl, _, rfl, dl, _, rfl, dg _ dat, (by show 2 ≤ sizeLine; decide), fun T nT => ?_⟩
          have h7 := (h5.new (o := oP (y, co (prs us) y)) nT).sub (L' := (D, HO.lst (vP ds)) :: (xl, .lst (xs.map V.str)) :: (dl, .dK kvs) :: lP (ds ++ [(T, y, co (prs us) y)])) fun q hq => by
            rw [lP_app] at hq
            simp only [List.mem_cons, List.mem_append, lP, List.map_cons, List.map_nil, List.not_mem_nil, or_false] at hq ⊢
            rcases hq with q | q | q | q | q
            · exact .inr (.inl q)
            · exact .inr (.inr (.inl q))
            · exact .inr (.inr (.inr (.inl q)))
            · exact .inr (.inr (.inr (.inr q)))
            · exact .inl q
          refine ⟨_, h7.at List.mem_cons_self, ?_, ds ++ [(T, y, co (prs us) y)], ?_, ?_⟩
          · rw [vP_len]
            exact Nat.lt_of_le_of_lt (show ds.length ≤ 121 by have := hn.1; rw [prs_len] at this; omega) (by decide)
          · rw [prs_app, e3 true hz]
            rfl
          · rw [vP_app]
            refine h7.reset fun q hq => ?_
            rcases List.mem_cons.mp hq with rfl | hq'
            · exact nDx.symm
            rcases List.mem_cons.mp hq' with rfl | hq''
            · exact nDd.symm
            · obtain ⟨u, hu, rfl⟩ := List.mem_map.mp hq''
              exact h7.apart (List.mem_cons_of_mem _ hq) List.mem_cons_self (fun e => nomatch e)
        · refine ⟨ds, ?_, h5⟩
          rw [e3 false (Bool.eq_false_iff.mpr hz)]
          simp
      · rintro H5 ⟨ds, hds, h5⟩
        rw [List.length_map, List.take_length] at hds
        refine ⟨D, _, rfl, .inl ⟨SqL.of (h5.at List.mem_cons_self), fun m nm => ?_⟩⟩
        refine k ds m _ ?_ ?_ ?_ ?_ ((h5.new (o := .tup (vP ds)) nm).sub fun p hp => ?_)
        · rw [hds]; exact nrm_of asc
        · intro x
          rw [hds]
          exact nrm_co asc (fun y hy => co_none fun q hq e => hy ((hx y).2 (List.mem_map.mpr ⟨q, hq, e⟩))) x
        · intro q hq
          rw [hds] at hq
          obtain ⟨y, hy, rfl⟩ := List.mem_map.mp (List.mem_filter.mp hq).1
          exact (hx y).1 hy
        · rw [← prs_len, hds]
          refine Nat.le_trans (List.length_filter_le _ _) ?_
          rw [List.length_map]
          exact lxu
        · rcases List.mem_cons.mp hp with e | e
          · exact e ▸ List.mem_cons_self
          · exact List.mem_cons_of_mem _ (List.mem_cons_of_mem _ (List.mem_cons_of_mem _ (List.mem_cons_of_mem _ e)))
end
end RV
namespace RV
open PySem L2
section
variable {P : Program} {w : World} {K : PySem.W.Frag} {mg : Str → Option Value} {base : Heap} {C : Addr}
theorem ok_Sum_i {f : Addr} {fd : FuncData} {pds : List V} {kws : List (Str × V)} (F : FunD K "__init__" "Sum.__init__" (defArgs s_Sum___init__) (defBody s_Sum___init__) (defScope s_Sum___init__) pds kws f fd) (T : SClass K mg C) (h_check_terms : Fn P w K mg base "_check_terms" 3 ["terms"] (Irr (sp_check_terms K))) (h_collected : Fn P w K mg base "_collected" 1 ["terms"] (Irr (sp_collected K))) : FnOk P w K mg base CX0 4 f fd ["self", "terms"] (sp_Sum K C) := by
  refine F.ok sc_Sum___init__ (fun vs H Q E h => ?_) (fun cdv A outer s H vs Q E hr h => ?_)
  · obtain ⟨_, _, _, _, rfl, _⟩ := h
    rfl
  · obtain ⟨x, dx, t, us, rfl, hx, ht, k⟩ := h
    refine ⟨_, (pss_cons (ps_expr (pe_fn h_check_terms (hr.mono (by decide)) (pa_cons (pv 1) pa_nil)))
      (pss_one (ps_fld (pv 0) (pe_fn h_collected (hr.mono (by decide)) (pa_cons (pv 1) pa_nil)) rfl))), ?_⟩
    refine ⟨_, rfl, irr ⟨t, us, rfl, ht.tp, ht.ps, ht.nm, by rw [← prs_len]; exact ht.ln.1, fun H1 s1 => ?_⟩⟩
    refine ⟨_, rfl, irr ⟨t, us, rfl, ht.tp.ext s1, ht.ps.ext s1, ht.ln, fun ds m H2 n1 n2 n3 n4 kp => ?_⟩⟩
    have hx2 := kp.sm _ _ (s1 _ _ hx)
    refine ⟨_, rfl, x, C, dx, _, rfl, hx2, T.x.cl, T.n1, (by show 0 < 1000; decide), ?_⟩
    refine k ds m dx _ ⟨n1, n2, n3, by rw [prs_len, prs_len]; exact n4⟩ (fun b o hb e => by rw [upd_ne hb]; exact kp.sm _ _ (s1 _ _ e)) (fun p hp => ?_) fun p hp => ?_
    · cases e : H p.1 with
      | none => rfl
      | some o =>
        have := s1 _ _ e
        rw [(kp.nw p hp).1] at this
        cases this
    · rcases List.mem_cons.mp hp with rfl | hp
      · exact upd_same
      · have hne : p.1 ≠ x := (ne_of_none (s1 _ _ hx) (kp.nw p hp).1).symm
        rw [upd_ne hne]
        exact (kp.nw p hp).2
theorem ok_Sum_l {f : Addr} {fd : FuncData} (F : Fun K "__len__" "Sum.__len__" s_Sum___len__ f fd) (T : SClass K mg C) (B : Blt mg) : FnOk P w K mg base CX0 1 f fd ["self"] (sp_len C) := by
  refine F.ok sc_Sum___len__ (fun vs H Q E h => ?_) (fun cdv A outer s H vs Q E hr h => ?_)
  · obtain ⟨_, _, rfl, _⟩ := h
    rfl
  · obtain ⟨a, qs, rfl, ⟨dx, t, us, rfl, hs⟩, k⟩ := h
    refine ⟨_, (pss_one (ps_ret (pe_callB call_len_seq (by rfl) B.b_len (by decide +kernel) (pa_cons (pe_fld (pv 0) rfl) pa_nil)))), ?_⟩
    refine ⟨_, rfl, a, C, dx, _, _, rfl, hs _ List.mem_cons_self, T.x.cl, T.n1, rfl, t, _, rfl, .inr (SqT.of (hs _ (List.mem_cons_of_mem _ List.mem_cons_self))), ?_⟩
    rw [vP_len, ← prs_len]
    exact k
theorem ok_Sum_b {f : Addr} {fd : FuncData} (F : Fun K "__bool__" "Sum.__bool__" s_Sum___bool__ f fd) : FnOk P w K mg base CX0 1 f fd ["self"] sp_yes := by
  refine F.ok sc_Sum___bool__ (fun vs H Q E h => ?_) (fun cdv A outer s H vs Q E hr h => ?_)
  · obtain ⟨_, rfl, _⟩ := h
    rfl
  · obtain ⟨a, rfl, k⟩ := h
    refine ⟨_, (pss_one (ps_ret pe_bl)), ?_⟩
    exact k
theorem ok_Sum_t {f : Addr} {fd : FuncData} (F : Fun K "terms" "Sum.terms" s_Sum_terms f fd) (T : SClass K mg C) : FnOk P w K mg base CX0 1 f fd ["self"] (sp_terms C) := by
  refine F.ok sc_Sum_terms (fun vs H Q E h => ?_) (fun cdv A outer s H vs Q E hr h => ?_)
  · obtain ⟨_, _, _, _, rfl, _⟩ := h
    rfl
  · obtain ⟨a, dx, t, us, rfl, hs, k⟩ := h
    refine ⟨_, (pss_one (ps_ret (pe_fld (pv 0) rfl))), ?_⟩
    exact ⟨_, rfl, a, C, dx, _, _, rfl, hs _ List.mem_cons_self, T.x.cl, T.n1, rfl, k⟩
theorem ok_Sum_g {f : Addr} {fd : FuncData} (F : Fun K "__getitem__" "Sum.__getitem__" s_Sum___getitem__ f fd) (T : SClass K mg C) (h_is_name : Fn P w K mg base "is_name" 1 ["value"] (Irr (sp_is_name K))) : FnOk P w K mg base CX0 2 f fd ["self", "at"] (sp_get C) := by
  refine F.ok sc_Sum___getitem__ (fun vs H Q E h => ?_) (fun cdv A outer s H vs Q E hr h => ?_)
  · obtain ⟨_, _, _, rfl, _⟩ := h
    rfl
  · obtain ⟨a, x, qs, rfl, hx, ⟨dx, t, us, rfl, hs⟩, hn, k⟩ := h
    refine ⟨_, (pss_cons (ps_if (pt_not (pt_val (pe_fn h_is_name (hr.mono (by decide)) (pa_cons (pv 1) pa_nil)))) (pss_one ps_never) pss_nil)
      (pss_cons (ps_for PassesOwn.never rfl (pi_tup (pe_fld (pv 0) rfl)) (pg_tup (by rfl) (pgs_cons (pg_name (i := 2) sc_Sum___getitem__.nd rfl (Or.inl rfl)) (pgs_cons (pg_name (i := 3) sc_Sum___getitem__.nd rfl (Or.inl rfl)) pgs_nil))) (pss_one (ps_if (pt_cmpR op_eq (pv 2) (pv 1) (nomark _)) (pss_one (ps_ret (pv 3))) pss_nil)))
      (pss_one (ps_ret pe_int)))), ?_⟩
    have hxl : x.length ≤ sizeLine := by rw [cd_len]; exact Nat.le_trans (isNm_len hx).2 (by decide)
    refine ⟨_, rfl, irr ⟨_, rfl, .inl ⟨x, rfl, hxl, fun H1 s1 => ⟨true, by rw [show isNm (cd x) = true from hx], iteF ?_⟩⟩⟩⟩
    have hs1 : ∀ p ∈ lS C a dx t us, H1 p.1 = some p.2 := fun p hp => s1 _ _ (hs p hp)
    have st : SqT K H1 t (vP us) := SqT.of (hs1 _ (List.mem_cons_of_mem _ List.mem_cons_self))
    refine ⟨_, rfl, a, C, dx, _, _, rfl, hs1 _ List.mem_cons_self, T.x.cl, T.n1, rfl, t, rfl, ⟨_, st⟩, for_tup (xs := vP us) (fun i σ H' => H' = H1 ∧ (∃ o2 o3, σ = [some (.ref a), some (.str x), o2, o3]) ∧ ∀ q ∈ (prs us).take i, q.1 ≠ x) ⟨rfl, ⟨none, none, rfl⟩, fun q hq => nomatch hq⟩ ?_ ?_ ?_⟩
    · rintro i σ H2 _ ⟨rfl, _⟩
      exact st
    · rintro i y σ H2 hy ⟨rfl, ⟨o2, o3, rfl⟩, hb⟩
      rw [vP, List.getElem?_map] at hy
      cases hu : us[i]? with
      | none => rw [hu] at hy; cases hy
      | some u =>
        rw [hu] at hy
        obtain rfl : V.ref u.1 = y := Option.some.inj hy
        have hm := List.mem_of_getElem? hu
        have hq : u.2 ∈ prs us := List.mem_map.mpr ⟨u, hm, rfl⟩
        have et : (prs us).take (i + 1) = (prs us).take i ++ [u.2] := by
          rw [List.take_add_one, prs, List.getElem?_map, hu]
          rfl
        refine ⟨u.1, _, rfl, SqT.of (hs1 _ (List.mem_cons_of_mem _ (List.mem_cons_of_mem _ (List.mem_map.mpr ⟨u, hm, rfl⟩)))), rfl, _, _, rfl, _, _, rfl, rfl, ?_⟩
        refine ⟨_, rfl, _, rfl, rfl, _, rfl, ?_⟩
        refine ite2 (fun h => ?_) (fun h => ?_)
        · have e : u.2.1 = x := V.str.inj (of_decide_eq_true h)
          refine ⟨_, rfl, ?_⟩
          have := k H2 s1
          rw [← e, hn.co hq] at this
          exact this
        · refine ⟨rfl, ⟨_, _, rfl⟩, fun q hq' => ?_⟩
          rw [et] at hq'
          rcases List.mem_append.mp hq' with z | z
          · exact hb q z
          · rw [List.mem_singleton.mp z]
            exact fun e => h (decide_eq_true (congrArg V.str e))
    · rintro σ H2 ⟨rfl, ⟨o2, o3, rfl⟩, hb⟩
      rw [vP_len, ← prs_len, List.take_length] at hb
      have := k H2 s1
      rw [co_none hb] at this
      exact this
end
end RV
namespace RV
open PySem L2
section
variable {P : Program} {w : World} {K : PySem.W.Frag} {mg : Str → Option Value} {base : Heap} {C : Addr}
theorem ok_Sum_c {f : Addr} {fd : FuncData} (F : Fun K "__contains__" "Sum.__contains__" s_Sum___contains__ f fd) (h_is_name : Fn P w K mg base "is_name" 1 ["value"] (Irr (sp_is_name K))) (h_get : OwnM P w K mg base C "__getitem__" 2 (Irr (sp_get C))) : FnOk P w K mg base CX0 4 f fd ["self", "x"] (sp_has C) := by
  refine F.ok sc_Sum___contains__ (fun vs H Q E h => ?_) (fun cdv A outer s H vs Q E hr h => ?_)
  · obtain ⟨_, _, _, rfl, _⟩ := h
    rfl
  · obtain ⟨a, x, qs, rfl, hx, hs, hn, k⟩ := h
    refine ⟨_, (pss_one (ps_ret (pe_and (pe_fn h_is_name (hr.mono (by decide)) (pa_cons (pv 1) pa_nil)) (pe_one (pe_cmpR op_ne (pe_ixO h_get (hr.mono (by decide)) (pv 0) (pv 1)) pe_int (nomark _)))))), ?_⟩
    have hxl : x.length ≤ sizeLine := by rw [cd_len]; exact Nat.le_trans (isNm_len hx).2 (by decide)
    refine ⟨_, rfl, irr ⟨_, rfl, .inl ⟨x, rfl, hxl, fun H1 s1 => ⟨true, by rw [show isNm (cd x) = true from hx], ?_⟩⟩⟩⟩
    have hs1 := hs.ext s1
    obtain ⟨dx, t, us, e, q⟩ := id hs1
    refine iteT ⟨_, rfl, _, rfl, a, dx, _, rfl, q _ List.mem_cons_self, irr ⟨a, x, qs, rfl, hx, hs1, hn, fun H2 s2 => ⟨rfl, ?_⟩⟩⟩
    have := k H2 fun b o e => s2 b o (s1 b o e)
    have dz : (!decide (V.int (co qs x) = V.int 0)) = !decide (co qs x = 0) := by simp
    rw [dz]
    exact this
theorem ok_Sum_q {f : Addr} {fd : FuncData} (F : Fun K "__eq__" "Sum.__eq__" s_Sum___eq__ f fd) (T : SClass K mg C) (B : Blt mg) : FnOk P w K mg base CX0 1 f fd ["self", "other"] (sp_eqS K C) := by
  refine F.ok sc_Sum___eq__ (fun vs H Q E h => ?_) (fun cdv A outer s H vs Q E hr h => ?_)
  · obtain ⟨_, _, _, rfl, _⟩ := h
    rfl
  · obtain ⟨a, y, qs, rfl, hs, hn, k⟩ := h
    refine ⟨_, (pss_one (ps_ret (pe_and (pe_callB call_isi (by rfl) B.b_isinstance (by decide +kernel) (pa_cons (pv 1) (pa_cons (pe_gC T.k) pa_nil))) (pe_one (pe_cmpR (op_eqD hr.units) (pe_fld (pv 0) rfl) (pe_fld (pv 1) rfl) (nomark _)))))), ?_⟩
    rcases k with ⟨b, rs, rfl, hs2, hn2, k⟩ | ⟨t, ty, kt, k⟩
    · obtain ⟨dx, t, us, rfl, q⟩ := hs
      obtain ⟨dy, t2, us2, rfl, q2⟩ := hs2
      refine ⟨_, rfl, _, _, _, .ref C, true, rfl, .own C, T.x.ty (q2 _ List.mem_cons_self), T.me, true, rfl, iteT ?_⟩
      refine ⟨_, rfl, a, C, dx, _, _, rfl, q _ List.mem_cons_self, T.x.cl, T.n1, rfl, _, rfl, b, C, dy, _, _, rfl, q2 _ List.mem_cons_self, T.x.cl, T.n1, rfl, dQ (prs us), dQ (prs us2), ?_, ?_, shaped_pairs hn, shaped_pairs hn2, ?_⟩
      · exact dp_pairs (SqT.of (q _ (List.mem_cons_of_mem _ List.mem_cons_self))) fun u hu => SqT.of (q _ (List.mem_cons_of_mem _ (List.mem_cons_of_mem _ (List.mem_map.mpr ⟨u, hu, rfl⟩))))
      · exact dp_pairs (SqT.of (q2 _ (List.mem_cons_of_mem _ List.mem_cons_self))) fun u hu => SqT.of (q2 _ (List.mem_cons_of_mem _ (List.mem_cons_of_mem _ (List.mem_map.mpr ⟨u, hu, rfl⟩))))
      · rw [eqv_pairs]
        exact k
    · exact ⟨_, rfl, _, _, t, .ref C, false, rfl, .own C, ty, kt, false, rfl, iteF k⟩
end
end RV
namespace RV
open PySem L2
open PyProof.Rows (int_text_len_1921)
section
variable {P : Program} {w : World} {K : PySem.W.Frag} {mg : Str → Option Value} {base : Heap} {C : Addr}
theorem ok_written_number {f : Addr} {fd : FuncData} (F : Fun K "written_number" "written_number" s_written_number f fd) (T : Blt mg) (C2 : Cst2 mg) : FnOk P w K mg base CX0 1 f fd ["number"] sp_written := by
  refine F.ok sc_written_number (fun vs H Q E h => ?_) (fun cdv A outer s H vs Q E hr h => ?_)
  · obtain ⟨_, rfl, _⟩ := h
    rfl
  · obtain ⟨z, rfl, z0, z1, k⟩ := h
    refine ⟨_, (pss_cons (ps_set (i := 1) sc_written_number.nd rfl (Or.inl rfl) (pe_lst pa_nil))
      (pss_cons (ps_while PassesOwn.never (pt_cmpR op_ge (pv 0) (pe_gI C2.worth) (nomark _)) (pss_cons (ps_asg (pe_callB call_divmodW (by rfl) T.b_divmod (by decide +kernel) (pa_cons (pv 0) (pa_cons (pe_gI C2.worth) pa_nil))) (pg_tup (by rfl) (pgs_cons (pg_name (i := 0) sc_written_number.nd rfl (Or.inl rfl)) (pgs_cons (pg_name (i := 2) sc_written_number.nd rfl (Or.inl rfl)) pgs_nil)))) (pss_one (ps_expr (pe_bm PySem.F.plainAttrs_list PySem.F.slot_list_append PySem.F.type_list_append mt_append (pv 1) (pa_cons (pe_bm PySem.F.plainAttrs_str PySem.F.slot_str_zfill PySem.F.type_str_zfill mt_zfill (pe_callTy call_str_int (by rfl) T.b_str (by decide +kernel) (pa_cons (pv 2) pa_nil)) (pa_cons (pe_gI C2.piece) pa_nil)) pa_nil))))))
      (pss_cons (ps_expr (pe_bm PySem.F.plainAttrs_list PySem.F.slot_list_append PySem.F.type_list_append mt_append (pv 1) (pa_cons (pe_callTy call_str_int (by rfl) T.b_str (by decide +kernel) (pa_cons (pv 0) pa_nil)) pa_nil)))
      (pss_one (ps_ret (pe_join pe_str (pe_revL (pv 1)))))))), ?_⟩
    refine ⟨by decide, fun pl np => ?_⟩
    refine while_by (fun σ H' => σ = [some (.int z), some (.ref pl), none] ∧ H' = upd H pl (.lst [])) (fun _ _ => 0) ⟨rfl, rfl⟩ ?_ ?_
    · rintro σ H1 ⟨rfl, rfl⟩
      refine ⟨_, rfl, _, _, rfl, rfl, _, rfl, ?_⟩
      refine ite2 (fun h => absurd (of_decide_eq_true h) (by omega)) (fun _ => ?_)
      have zl : z.natAbs.log2 < 1920 := by
        have q := PySem.Flt.log2_lt_of (n := z.natAbs) (k := 300) (by decide) (by omega)
        omega
      refine ⟨_, rfl, .inl ⟨rfl, _, SqL.of upd_same⟩, _, rfl, z, rfl, zl, pl, _, _, rfl, rfl, upd_same, by decide, ?_⟩
      refine ⟨⟨_, rfl⟩, _, rfl, pl, _, rfl, SqL.of upd_same, fun p np2 => ⟨_, p, [num z], rfl, rfl, .inl (SqL.of upd_same), ?_, ?_⟩⟩
      · have h1 : (num z).length ≤ 1921 := int_text_len_1921 zl
        simp only [List.map_cons, List.map_nil, List.sum_cons, List.sum_nil, List.length_cons, List.length_nil]
        have h2 : Str.length "" = 0 := by decide +kernel
        rw [h2]
        omega
      · rw [join_one]
        refine k _ fun b o e => ?_
        have n1 := ne_of_none e np
        have e2 : (upd (upd H pl (.lst [])) pl (.lst ([] ++ [V.str (num z)]))) b = some o := by rw [upd_ne n1, upd_ne n1]; exact e
        rw [upd_ne (ne_of_none e2 np2)]
        exact e2
    · rintro σ H' Q1 Q2 hq ⟨v, hv, i, j, e1, e2, b, e3, q⟩
      exact ⟨v, hv, i, j, e1, e2, b, e3, hq _ _ q⟩
end
end RV
namespace RV
open PySem L2
section
variable {P : Program} {w : World} {K : PySem.W.Frag} {mg : Str → Option Value} {base : Heap} {C : Addr}
theorem ok_without_sign {f : Addr} {fd : FuncData} (F : Fun K "_without_sign" "_without_sign" s_without_sign f fd) (T : Blt mg) (h_written_number : Fn P w K mg base "written_number" 1 ["number"] (Irr sp_written)) : FnOk P w K mg base CX0 2 f fd ["name", "number"] sp_without := by
  refine F.ok sc_without_sign (fun vs H Q E h => ?_) (fun cdv A outer s H vs Q E hr h => ?_)
  · obtain ⟨_, _, rfl, _⟩ := h
    rfl
  · obtain ⟨x, z, rfl, hx, hz, k⟩ := h
    refine ⟨_, (pss_cons (ps_if (pt_cmpR op_eq (pe_callB call_abs (by rfl) T.b_abs (by decide +kernel) (pa_cons (pv 1) pa_nil)) pe_int (nomark _)) (pss_one (ps_ret (pv 0))) pss_nil)
      (pss_one (ps_ret (pe_joined (.cons (pe_fmt (pe_fn h_written_number (hr.mono (by decide)) (pa_cons (pe_callB call_abs (by rfl) T.b_abs (by decide +kernel) (pa_cons (pv 1) pa_nil)) pa_nil))) (.cons pe_str (.cons (pe_fmt (pv 0)) .nil))))))), ?_⟩
    have lx : 1 ≤ (cd x).length ∧ (cd x).length ≤ 8 := isNm_len hx
    rw [← cd_len] at lx
    refine ⟨_, rfl, _, rfl, rfl, _, rfl, ?_⟩
    refine ite2 (fun h => ?_) (fun h => ?_)
    · have e : ab z = 1 := V.int.inj (of_decide_eq_true h)
      have := k H (Same.refl H)
      rw [wo, if_pos e] at this
      exact ⟨_, rfl, this⟩
    · have e : ¬ ab z = 1 := fun q => h (decide_eq_true (congrArg V.int q))
      have nl := num_len (ab_lt hz)
      have h2 : Str.length "*" = 1 := by decide +kernel
      have h3 : Str.length Str.empty = 0 := by decide +kernel
      refine ⟨_, rfl, z, rfl, irr ⟨ab z, rfl, (ab_lt hz).1, (ab_lt hz).2, fun H1 s1 => .inl ⟨_, rfl, Nat.le_trans nl (by decide), _, rfl, ?_, _, rfl, ?_, _, rfl, .inl ⟨_, rfl, szn (by omega), _, rfl, ?_, ?_⟩⟩⟩⟩
      · rw [sl_app, h3]; exact Nat.le_trans (show _ ≤ 5000 by omega) (by decide)
      · rw [sl_app, sl_app, h3, h2]; exact Nat.le_trans (show _ ≤ 5000 by omega) (by decide)
      · rw [sl_app, sl_app, sl_app, h3, h2]; exact Nat.le_trans (show _ ≤ 5000 by omega) (by decide)
      · have := k H1 s1
        rw [wo, if_neg e] at this
        exact this
theorem ok_written_further {f : Addr} {fd : FuncData} (F : Fun K "_written_further" "_written_further" s_written_further f fd) (h_without_sign : Fn P w K mg base "_without_sign" 2 ["name", "number"] (Irr sp_without)) : FnOk P w K mg base CX0 3 f fd ["name", "number"] sp_further := by
  refine F.ok sc_written_further (fun vs H Q E h => ?_) (fun cdv A outer s H vs Q E hr h => ?_)
  · obtain ⟨_, rfl, _⟩ := h
    rfl
  · obtain ⟨q, rfl, hx, hz, k⟩ := h
    refine ⟨_, (pss_cons (ps_set (i := 2) sc_written_further.nd rfl (Or.inl rfl) (pe_ifExp (pt_cmpR op_lt (pv 1) pe_int (nomark _)) pe_str pe_str))
      (pss_one (ps_ret (pe_joined (.cons pe_str (.cons (pe_fmt (pv 2)) (.cons pe_str (.cons (pe_fmt (pe_fn h_without_sign (hr.mono (by decide)) (pa_cons (pv 0) (pa_cons (pv 1) pa_nil)))) .nil)))))))), ?_⟩
    have wl := wo_len hx hz
    have h2 : Str.length " " = 1 := by decide +kernel
    have h3 : Str.length Str.empty = 0 := by decide +kernel
    have sl := (sg_len q.2).1
    refine seq_of (fun σ' H' => σ' = [some (.str q.1), some (.int q.2), some (.str (if q.2 < 0 then ("-" : Str) else "+"))] ∧ H' = H) ?rest (fun N hN => ?main)
    case main =>
      refine ⟨_, rfl, _, _, rfl, rfl, _, rfl, ?_⟩
      refine ite2 (fun h => ?_) (fun h => ?_)
      · exact hN _ _ ⟨by rw [if_pos (of_decide_eq_true h)]; rfl, rfl⟩
      · exact hN _ _ ⟨by rw [if_neg (fun z => h (decide_eq_true z))]; rfl, rfl⟩
    rintro σ1 H1 ⟨rfl, rfl⟩
    refine ⟨_, rfl, ?_, _, rfl, .inl ⟨_, rfl, Nat.le_trans sl (by decide), _, rfl, ?_, _, rfl, ?_, _, rfl, _, rfl, irr ⟨q.1, q.2, rfl, hx, hz, fun H2 s2 => .inl ⟨_, rfl, Nat.le_trans wl (by decide), _, rfl, ?_, k H2 s2⟩⟩⟩⟩
    · rw [sl_app, h2, h3]; decide
    · rw [sl_app, sl_app, h2, h3]; exact Nat.le_trans (show _ ≤ 5000 by omega) (by decide)
    · rw [sl_app, sl_app, sl_app, h2, h3]; exact Nat.le_trans (show _ ≤ 5000 by omega) (by decide)
    · rw [sl_app, sl_app, sl_app, sl_app, h2, h3]; exact Nat.le_trans (show _ ≤ 5000 by omega) (by decide)
end
end RV
namespace RV
open PySem L2
section
variable {P : Program} {w : World} {K : PySem.W.Frag} {mg : Str → Option Value} {base : Heap} {C : Addr}
theorem ok_written_terms {f : Addr} {fd : FuncData} (F : Fun K "_written_terms" "_written_terms" s_written_terms f fd) (h_without_sign : Fn P w K mg base "_without_sign" 2 ["name", "number"] (Irr sp_without)) (h_written_further : Fn P w K mg base "_written_further" 3 ["name", "number"] (Irr sp_further)) : FnOk P w K mg base CX0 4 f fd ["terms"] (sp_wterms K) := by
  refine F.ok sc_written_terms (fun vs H Q E h => ?_) (fun cdv A outer s H vs Q E hr h => ?_)
  · obtain ⟨_, _, rfl, _⟩ := h
    rfl
  · obtain ⟨t, us, rfl, hl, ht, hn, hlen, k⟩ := h
    refine ⟨_, (pss_cons (ps_if (pt_not (pt_truth (pv 0) (by intro _; rfl))) (pss_one (ps_ret (pe_lst (pa_cons pe_str pa_nil)))) pss_nil)
      (pss_cons (ps_asg (pe_ix ix_tup (pv 0) pe_int (fun _ _ => rfl)) (pg_tup (by rfl) (pgs_cons (pg_name (i := 1) sc_written_terms.nd rfl (Or.inl rfl)) (pgs_cons (pg_name (i := 2) sc_written_terms.nd rfl (Or.inl rfl)) pgs_nil))))
      (pss_cons (ps_set (i := 3) sc_written_terms.nd rfl (Or.inl rfl) (pe_ifExp (pt_cmpR op_lt (pv 2) pe_int (nomark _)) pe_str pe_str))
      (pss_cons (ps_set (i := 4) sc_written_terms.nd rfl (Or.inl rfl) (pe_op op_add_str (pv 3) (pe_fn h_without_sign (hr.mono (by decide)) (pa_cons (pv 1) (pa_cons (pv 2) pa_nil)))))
      (pss_one (ps_ret (pe_op op_cat (pe_lst (pa_cons (pv 4) pa_nil)) (pe_lc (own := [("name", 1), ("number", 2)]) (g := gPr K 1 2) (tt := tYes) rfl sc_written_terms.nd (pi_tup (pe_slice sl_tup (pv 0) (po_some pe_int) po_none)) (blkOk_by (N := sc_written_terms_N) (sc := defScope s_written_terms) (by decide +kernel)) (fun _ _ _ _ _ => pg_tupK (by rfl) (pgs_cons (pg_name (i := 1) sc_written_terms.nd rfl (Or.inl rfl)) (pgs_cons (pg_name (i := 2) sc_written_terms.nd rfl (Or.inl rfl)) pgs_nil))) (fun _ _ _ _ _ => pts_nil) (fun _ _ _ _ _ => (pe_fn h_written_further (hr.mono (by decide)) (pa_cons (pv 1) (pa_cons (pv 2) pa_nil)))))))))))), ?_⟩
    cases us with
    | nil =>
      refine ⟨_, rfl, false, .inr (.inl ⟨[], hl, rfl⟩), ?_⟩
      refine iteT ⟨by decide, fun m nm => ?_⟩
      exact k m _ ((Kp.start H).new nm)
    | cons u us =>
      have hu := hn u.2 List.mem_cons_self
      refine ⟨_, rfl, true, .inr (.inl ⟨_, hl, rfl⟩), iteF ?_⟩
      refine ⟨_, rfl, t, _, 0, .ref u.1, rfl, rfl, hl, atI_nat (j := 0) rfl, u.1, _, rfl, ht u List.mem_cons_self, rfl, _, _, rfl, _, _, rfl, rfl, ?_⟩
      dsimp only
      refine seq_of (fun σ' H' => σ' = [some (.ref t), some (.str u.2.1), some (.int u.2.2), some (.str (if u.2.2 < 0 then ("-" : Str) else "")), none] ∧ H' = H) ?rest (fun N hN => ?main)
      case main =>
        refine ⟨_, rfl, _, _, rfl, rfl, _, rfl, ?_⟩
        refine ite2 (fun h => ?_) (fun h => ?_)
        · exact hN _ _ ⟨by rw [if_pos (of_decide_eq_true h)]; rfl, rfl⟩
        · exact hN _ _ ⟨by rw [if_neg (fun z => h (decide_eq_true z))]; rfl, rfl⟩
      rintro σ1 H1 ⟨rfl, rfl⟩
      have wl := wo_len hu.1 hu.2
      have sl := (sg_len u.2.2).2
      refine ⟨_, rfl, _, rfl, _, rfl, irr ⟨u.2.1, u.2.2, rfl, hu.1, hu.2, fun H2 s2 => ⟨_, _, rfl, rfl, Nat.le_trans (show _ ≤ 5000 by omega) (by decide), ?_⟩⟩⟩
      refine ⟨_, rfl, (by show 1 ≤ sizeLine; decide), fun p1 n1 => ?_⟩
      have k1 : Kp H1 [(p1, .lst [V.str (fi u.2)])] (upd H2 p1 (.lst [V.str (fi u.2)])) := ((Kp.start H1).next s2).new n1
      refine ⟨_, rfl, _, rfl, t, _, rfl, hl.ext k1.sm, ?_, fun p2 n2 => ?_⟩
      · rw [sIx_none, show (some (1 : Int)) = some ((1 : Nat) : Int) from rfl, sIx_some, vP_len, List.length_cons]
        omega
      rw [show (some (1 : Int)) = some ((1 : Nat) : Int) from rfl, cutV_suf]
      have k2 := k1.new (o := .tup (vP ((u :: us).drop 1))) n2
      refine ⟨p2, rfl, ⟨_, SqT.of upd_same⟩, fun D nD => lc_pairsT (us := us) (fun q => V.str (fu q)) (SqT.of upd_same) (TPs.ext (fun v hv => ht v (List.mem_cons_of_mem _ hv)) k2.sm) nD (by rw [List.length_cons] at hlen; omega) (fun _ _ => rfl) (fun q hq H3 s3 R hR => ?_) fun H3 s3 hD => ?_⟩
      · have hq' := hn q (List.mem_cons_of_mem _ hq)
        exact ⟨_, rfl, _, rfl, irr ⟨q, rfl, hq'.1, hq'.2, hR⟩⟩
      · have k3 := k2.next s3
        refine ⟨p1, D, _, _, rfl, rfl, k3.at (List.mem_cons_of_mem _ List.mem_cons_self), hD, ?_, fun m nm => ?_⟩
        · rw [List.length_map, prs_len]
          rw [List.length_cons] at hlen
          exact Nat.le_trans (show _ ≤ 5000 by simp; omega) (by decide)
        · have k4 := (k3.new (o := .lst ([V.str (fi u.2)] ++ (prs us).map fun q => V.str (fu q))) nm).sub (L' := [(m, .lst ([V.str (fi u.2)] ++ (prs us).map fun q => V.str (fu q)))]) fun q hq => by
            rw [List.mem_singleton.mp hq]; exact List.mem_cons_self
          have e : (pieces (prs (u :: us))).map V.str = [V.str (fi u.2)] ++ (prs us).map fun q => V.str (fu q) := by
            show V.str (fi u.2) :: ((prs us).map fu).map V.str = _
            rw [List.map_map]
            rfl
          rw [← e] at k4
          have := k m _ k4
          rw [e] at this
          exact this
end
end RV
namespace RV
open PySem L2
section
variable {P : Program} {w : World} {K : PySem.W.Frag} {mg : Str → Option Value} {base : Heap} {C : Addr}
theorem ok_Sum_s {f : Addr} {fd : FuncData} (F : Fun K "__str__" "Sum.__str__" s_Sum___str__ f fd) (T : SClass K mg C) (h_written_terms : Fn P w K mg base "_written_terms" 4 ["terms"] (Irr (sp_wterms K))) : FnOk P w K mg base CX0 5 f fd ["self"] (sp_text C) := by
  refine F.ok sc_Sum___str__ (fun vs H Q E h => ?_) (fun cdv A outer s H vs Q E hr h => ?_)
  · obtain ⟨_, _, rfl, _⟩ := h
    rfl
  · obtain ⟨a, qs, rfl, ⟨dx, t, us, rfl, q⟩, hn, hl, k⟩ := h
    refine ⟨_, (pss_one (ps_ret (pe_join pe_str (pe_fn h_written_terms (hr.mono (by decide)) (pa_cons (pe_fld (pv 0) rfl) pa_nil))))), ?_⟩
    refine ⟨⟨_, rfl⟩, _, rfl, a, C, dx, _, _, rfl, q _ List.mem_cons_self, T.x.cl, T.n1, rfl, irr ⟨t, us, rfl, SqT.of (q _ (List.mem_cons_of_mem _ List.mem_cons_self)), fun u hu => SqT.of (q _ (List.mem_cons_of_mem _ (List.mem_cons_of_mem _ (List.mem_map.mpr ⟨u, hu, rfl⟩)))), hn, by rw [← prs_len]; exact hl, fun m H' kp => ⟨_, m, pieces (prs us), rfl, rfl, .inl (SqL.of (kp.at List.mem_cons_self)), ?_, k H' kp.sm⟩⟩⟩
    have h1 := pieces_sum hn
    have h2 := pieces_length (prs us)
    have h3 : Str.length "" = 0 := by decide +kernel
    rw [h3]
    omega
end
end RV
namespace RV
open PySem L2
theorem FnG.imp {P : Program} {w : World} {K : PySem.W.Frag} {mg : Str → Option Value} {base : Heap} {k : Nat} {f : Addr} {fd : FuncData} {ps : List Str} {sp sp' : Sp} (F : FnG P w K mg base k f fd ps sp) (h : ∀ vs H Q E, sp' vs H Q E → sp vs H Q E) : FnG P w K mg base k f fd ps sp' :=
  ⟨fun vs H Q E z => F.len vs H Q E (h _ _ _ _ z), fun A o s H args us vs Q E gs hr e0 hb r z => F.run A o s H args us vs Q E gs hr e0 hb r (h _ _ _ _ z)⟩
theorem FnGd.irr {P : Program} {w : World} {K : PySem.W.Frag} {mg : Str → Option Value} {base : Heap} {x : Str} {k : Nat} {ps : List Str} {sp : Sp} (h : FnGd P w K mg base x k ps sp) : FnGd P w K mg base x k ps (Irr sp) := by
  obtain ⟨f, fd, a, b, c, F⟩ := h
  exact ⟨f, fd, a, b, c, F.imp fun _ _ _ _ z => irr_of z⟩
theorem OwnM.irr {P : Program} {w : World} {K : PySem.W.Frag} {mg : Str → Option Value} {base : Heap} {C : Addr} {m : String} {k : Nat} {sp : Sp} (h : OwnM P w K mg base C m k sp) : OwnM P w K mg base C m k (Irr sp) := by
  obtain ⟨f, fd, ps, a, b, c, d, F⟩ := h
  exact ⟨f, fd, ps, a, b, c, d, F.imp fun _ _ _ _ z => irr_of z⟩
theorem Prp.irr {P : Program} {w : World} {K : PySem.W.Frag} {mg : Str → Option Value} {base : Heap} {C : Addr} {m : Str} {k : Nat} {sp : Sp} (h : Prp P w K mg base C m k sp) : Prp P w K mg base C m k (Irr sp) := by
  obtain ⟨c, p, g, fd, ps, a, b, F⟩ := h
  exact ⟨c, p, g, fd, ps, a, b, F.imp fun _ _ _ _ z => irr_of z⟩
theorem nf_self (K : PySem.W.Frag) (C : Addr) : PySem.W.notFirst K C (.ref C) = true := by simp [PySem.W.notFirst]
theorem kit_self (K : PySem.W.Frag) (C : Addr) : PySem.W.kitOne K (.ref C) (.ref C) = some true := by
  unfold PySem.W.kitOne
  rw [if_pos (by simp)]
theorem kit_sub {K : PySem.W.Frag} {C : Addr} {t : Value} (hd : PySem.W.hasDictIn K C = true) (ty : PySem.W.typeIn K (.ref C) = some (.type "type")) (self : PySem.W.subIn K (.ref C) (.ref C) = some true) (hs : PySem.W.subIn K t (.ref C) = some false) : PySem.W.kitOne K t (.ref C) = some false := by
  obtain ⟨cd, hc, _⟩ := PySem.W.any_some hd
  have hne : ¬ (t == Value.ref C) = true := fun e => by
    rw [beq_iff_eq.mp e, self] at hs
    cases hs
  unfold PySem.W.kitOne
  rw [if_neg hne]
  show (if ((PySem.W.clsIn K C).isSome && PySem.W.typeIn K (Value.ref C) == some (Value.type "type")) = true then PySem.W.subIn K t (Value.ref C) else none) = some false
  rw [if_pos (by rw [hc, ty]; simp)]
  exact hs
/-! ### Sum(), Sum(t), Sum(terms=t) -/
abbrev FSum (K : PySem.W.Frag) (t0 f : Addr) (fd : FuncData) : Prop := FunD K "__init__" "Sum.__init__" (defArgs s_Sum___init__) (defBody s_Sum___init__) (defScope s_Sum___init__) [.ref t0] [] f fd
theorem chainA {f t0 : Addr} {K : PySem.W.Frag} {fd : FuncData} (F : FSum K t0 f fd) : ∃ ds, Vals [V.ref t0] ds ∧ Binds K fd ["self", "terms"] ds := by
  refine FunD.binds1 F 1 0 (by simp) rfl fun T kV doc pm an cdv ct us its h1 h2 => ?_
  match us, h1, its, h2 with
  | [x], _, [d], _ => exact ⟨_, rfl, rfl⟩
theorem chainB {f t0 : Addr} {K : PySem.W.Frag} {fd : FuncData} (F : FSum K t0 f fd) : ∃ ds, Vals [] ds ∧ Binds K fd ["self", "terms"] ds := by
  refine FunD.binds1 F 2 1 (by simp) rfl fun T kV doc pm an cdv ct us its h1 h2 => ?_
  match us, h1, its, h2 with
  | [x, y], _, [d], _ => exact ⟨_, rfl, rfl⟩
def gS' (us ws : List Value) : List Value := match us, ws with
  | [x], [t] => [x, t]
  | _, _ => []
theorem gS_rel {vs : List V} {us : List Value} {zs : List V} {ws : List Value} (r1 : Vals vs us) (r2 : Vals zs ws) : Vals (gS vs zs) (gS' us ws) := by
  cases r1 with
  | nil => exact .nil
  | cons a r =>
    cases r with
    | cons b r => exact .nil
    | nil =>
      cases r2 with
      | nil => exact .nil
      | cons c r2 =>
        cases r2 with
        | nil => exact .cons a (.cons c .nil)
        | cons d r2 => exact .nil
theorem kbS {f t0 : Addr} {K : PySem.W.Frag} {fd : FuncData} (F : FSum K t0 f fd) : KBn K fd ["self", "terms"] 1 ["terms"] gS' gS := by
  refine ⟨fun s us ws X h1 h2 => ?_, gS_rel⟩
  obtain ⟨oc, od, dV, kV, doc, pm, an, cdv, ct, osl, rfl, lk, hcd, hD, hK⟩ := F.ex
  rcases hD with ⟨e, _⟩ | ⟨_, T, o, its, m, rfl, lT, oT, rT⟩
  · cases e
  · match us, h1, ws, h2, its, rT with
    | [x], _, [t], _, [d], _ =>
      obtain ⟨k, e1, e2⟩ : ∃ k, bindArgs (PySem.W.fnOf "__init__" "Sum.__init__" (defArgs s_Sum___init__) (defBody s_Sum___init__) (defScope s_Sum___init__) (.ref T) kV doc pm an cdv ct) ⟨[x], (["terms"] : List Str).zip [t]⟩ = seqItems? (.ref T) >>= k ∧ k (some #[d]) = pure ((["self", "terms"] : List Str).zip (gS' [x] [t])) := ⟨_, rfl, rfl⟩
      refine BindsTo.of_looks fun M => ?_
      rw [e1]
      exact looks_items X lT oT (.of_pure e2)
end RV
namespace RV
open PySem L2
section
variable {P : Program} {w : World} {K : PySem.W.Frag} {mg : Str → Option Value} {base : Heap} {C : Addr}
theorem ok_is_digits {f : Addr} {fd : FuncData} (F : Fun K "is_digits" "is_digits" s_is_digits f fd) : FnOk P w K mg base CX0 1 f fd ["text"] sp_digits := by
  refine F.ok sc_is_digits (fun vs H Q E h => ?_) (fun cdv A outer s H vs Q E hr h => ?_)
  · obtain ⟨_, rfl, _⟩ := h
    rfl
  · obtain ⟨z, rfl, hz, k⟩ := h
    refine ⟨_, (pss_one (ps_ret (pe_and (pe_m0 PySem.F.slot_str_isascii PySem.F.type_str_isascii mt_isascii (pv 0)) (pe_one (pe_m0 PySem.F.slot_str_isdigit PySem.F.type_str_isdigit mt_isdigit (pv 0)))))), ?_⟩
    refine ⟨_, rfl, ⟨_, rfl⟩, _, rfl, rfl, trivial, true, congrArg V.bl (num_ascii hz), iteT ⟨_, rfl, ⟨_, rfl⟩, _, rfl, rfl, trivial, ?_⟩⟩
    rw [num_digit hz]
    exact k
theorem ok_read_number {f : Addr} {fd : FuncData} (F : Fun K "read_number" "read_number" s_read_number f fd) (T : Blt mg) (C2 : Cst2 mg) : FnOk P w K mg base CX0 1 f fd ["digits"] sp_readnum := by
  refine F.ok sc_read_number (fun vs H Q E h => ?_) (fun cdv A outer s H vs Q E hr h => ?_)
  · obtain ⟨_, rfl, _⟩ := h
    rfl
  · obtain ⟨z, rfl, hz, h1, k⟩ := h
    refine ⟨_, (pss_cons (ps_set (i := 1) sc_read_number.nd rfl (Or.inl rfl) (pe_op op_mod (pe_callB call_len_str (by rfl) T.b_len (by decide +kernel) (pa_cons (pv 0) pa_nil)) (pe_gI C2.piece)))
      (pss_cons (ps_set (i := 2) sc_read_number.nd rfl (Or.inl rfl) (pe_callTy call_int_str (by rfl) T.b_int (by decide +kernel) (pa_cons (pe_op op_add_str pe_str (pe_slice sl_str (pv 0) po_none (po_some (pv 1)))) pa_nil)))
      (pss_cons (ps_for PassesOwn.never rfl (pi_range3 (by rfl) T.b_range (pa_cons (pv 1) (pa_cons (pe_callB call_len_str (by rfl) T.b_len (by decide +kernel) (pa_cons (pv 0) pa_nil)) (pa_cons (pe_gI C2.piece) pa_nil)))) (pg_name (i := 3) sc_read_number.nd rfl (Or.inl rfl)) (pss_one (ps_set (i := 2) sc_read_number.nd rfl (Or.inl rfl) (pe_op op_add (pe_op op_mul (pv 2) (pe_gI C2.worth)) (pe_callTy call_int_str (by rfl) T.b_int (by decide +kernel) (pa_cons (pe_slice sl_str (pv 0) (po_some (pv 3)) (po_some (pe_op op_add (pv 3) (pe_gI C2.piece)))) pa_nil))))))
      (pss_one (ps_ret (pv 2)))))), ?_⟩
    have l0 := num_len0 hz
    have l1 := num_len60 hz h1
    refine ⟨_, rfl, _, rfl, szn (by omega), _, _, rfl, rfl, (by show (0 : Int) < 64; decide), ?_⟩
    dsimp only [gName]
    rw [show ((num z).length : Int) % 64 = ((num z).length : Nat) from by omega]
    refine ⟨_, rfl, _, rfl, _, rfl, _, rfl, szn (by omega), ?_⟩
    rw [cutS_all _ _ (Nat.le_refl _)]
    have l2 : Str.length "0" = 1 := by decide +kernel
    refine ⟨_, _, rfl, rfl, ?_, _, _, rfl, int_back hz h1, ?_, ?_⟩
    · rw [l2]
      exact szn (by omega)
    · rw [cd_len, cd_app, List.length_append, ← cd_len, ← cd_len, l2]
      omega
    have rg : ∀ l : Fin 61, RgC ((l.val : Nat) : Int) ((l.val : Nat) : Int) 64 0 := by
      unfold RgC
      decide +kernel
    refine ⟨_, rfl, _, rfl, _, rfl, szn (by omega), _, _, _, 0, rfl, rg ⟨(num z).length, by omega⟩, for_it (walk_rangeC) (fun _ σ H' => H' = H ∧ σ = [some (.str (num z)), some (.int ((num z).length : Nat)), some (.int z), none]) ⟨rfl, rfl⟩ (fun _ _ _ _ _ => trivial) (fun i x σ H1 H2 hi => absurd hi (Nat.not_lt_zero _)) ?_⟩
    rintro σ H' ⟨rfl, rfl⟩
    exact ⟨_, rfl, k⟩
theorem ok_with_sign_apart {f : Addr} {fd : FuncData} (F : Fun K "_with_sign_apart" "_with_sign_apart" s_with_sign_apart f fd) : FnOk P w K mg base CX0 1 f fd ["text"] sp_apart := by
  refine F.ok sc_with_sign_apart (fun vs H Q E h => ?_) (fun cdv A outer s H vs Q E hr h => ?_)
  · obtain ⟨_, rfl, _⟩ := h
    rfl
  · obtain ⟨z, rfl, hz, k⟩ := h
    refine ⟨_, (pss_cons (ps_if (pt_val (pe_bm PySem.F.plainAttrs_str PySem.F.slot_str_startswith PySem.F.type_str_startswith mt_startswith (pv 0) (pa_cons pe_str pa_nil))) (pss_one (ps_ret (pe_op op_add_str pe_str (pe_slice sl_str (pv 0) (po_some pe_int) po_none)))) pss_nil)
      (pss_one (ps_ret (pe_op op_add_str pe_str (pv 0))))), ?_⟩
    unfold apart at k
    refine ⟨_, rfl, rfl, _, _, rfl, rfl, _, rfl, ?_⟩
    have l2 : Str.length "- " = 2 := by decide +kernel
    have l3 : Str.length "+ " = 2 := by decide +kernel
    revert k
    cases Txt.startswith z "-" with
    | true =>
      intro k
      refine iteT ⟨_, rfl, _, rfl, _, rfl, Nat.le_trans hz (by decide), _, _, rfl, rfl, ?_, k⟩
      have l4 : (cutS z (some 1) none).length ≤ z.length := by
        rw [cd_len, cd_rest, List.length_drop, cd_len]
        omega
      rw [l2]
      exact Nat.le_trans (show _ ≤ 1000002 by omega) (by decide)
    | false =>
      intro k
      refine iteF ⟨_, rfl, _, _, rfl, rfl, ?_, k⟩
      rw [l3]
      exact Nat.le_trans (show _ ≤ 1000002 by omega) (by decide)
theorem ok_read_term {f : Addr} {fd : FuncData} (F : Fun K "_read_term" "_read_term" s_read_term f fd) (h_is_name : Fn P w K mg base "is_name" 1 ["value"] (Irr (sp_is_name K))) (h_is_digits : Fn P w K mg base "is_digits" 1 ["text"] (Irr sp_digits)) (h_read_number : Fn P w K mg base "read_number" 1 ["digits"] (Irr sp_readnum)) : FnOk P w K mg base CX0 2 f fd ["sign", "word"] (sp_rterm K) := by
  refine F.ok sc_read_term (fun vs H Q E h => ?_) (fun cdv A outer s H vs Q E hr h => ?_)
  · rcases h with ⟨_, rfl, _⟩ | ⟨rfl, _⟩ <;> rfl
  · obtain ⟨sg, wd, D, S, N, rfl, ep, lw, h⟩ : ∃ sg wd D S N : Str, vs = [.str sg, .str wd] ∧ Txt.rpartition wd "*" = (D, S, N) ∧ wd.length ≤ 1000 ∧ ((∃ q : Str × Int, sg = sgn q ∧ N = q.1 ∧ IsNm q.1 ∧ q.2.natAbs < 10 ^ 60 ∧ ((ab q.2 = 1 ∧ D = Str.empty ∧ S = Str.empty) ∨ (¬ ab q.2 = 1 ∧ D = num (ab q.2) ∧ S = "*")) ∧ ∀ t H', Kp H [(t, oP q)] H' → Q (.ref t) H') ∨ (N = "0" ∧ D = Str.empty ∧ S = Str.empty ∧ ∀ H', Same H H' → Q .non H')) := by
      rcases h with ⟨q, rfl, inm, hz, k⟩ | ⟨rfl, k⟩
      · have lw : (wo q.1 q.2).length ≤ 1000 := by
          unfold wo
          have hx := isNm_len inm
          rw [← cd_len] at hx
          split
          · omega
          · have := num_len60 (ab_nn q.2) (show ab q.2 < 10 ^ 60 by unfold ab; split <;> omega)
            have e1 : Str.length "*" = 1 := by decide +kernel
            have e2 : Str.length Str.empty = 0 := by decide +kernel
            rw [sl_app, sl_app, sl_app, e1, e2]
            omega
        by_cases h1 : ab q.2 = 1
        · exact ⟨_, _, _, _, _, rfl, star_one inm h1, lw, .inl ⟨q, rfl, rfl, inm, hz, .inl ⟨h1, rfl, rfl⟩, k⟩⟩
        · exact ⟨_, _, _, _, _, rfl, star_two inm h1, lw, .inl ⟨q, rfl, rfl, inm, hz, .inr ⟨h1, rfl, rfl⟩, k⟩⟩
      · exact ⟨_, _, _, _, _, rfl, star_zero, by decide +kernel, .inr ⟨rfl, rfl, rfl, k⟩⟩
    refine ⟨_, (pss_cons (ps_asg (pe_rpartition (pv 1) pe_str) (pg_tup (by rfl) (pgs_cons (pg_name (i := 2) sc_read_term.nd rfl (Or.inl rfl)) (pgs_cons (pg_name (i := 3) sc_read_term.nd rfl (Or.inl rfl)) (pgs_cons (pg_name (i := 4) sc_read_term.nd rfl (Or.inl rfl)) pgs_nil)))))
      (pss_cons (ps_if (PW.pt (pw_or (pt_not (pt_val (pe_fn h_is_name (hr.mono (by decide)) (pa_cons (pv 4) pa_nil)))) (pw_or1 (PW.pt (pw_and (pt_truth (pv 3) (by intro _; rfl)) (pw_and1 (pt_not (pt_val (pe_fn h_is_digits (hr.mono (by decide)) (pa_cons (pv 2) pa_nil)))))))))) (pss_one (ps_ret pe_non)) pss_nil)
      (pss_cons (ps_set (i := 5) sc_read_term.nd rfl (Or.inl rfl) (pe_ifExp (pt_truth (pv 3) (by intro _; rfl)) (pe_fn h_read_number (hr.mono (by decide)) (pa_cons (pv 2) pa_nil)) pe_int))
      (pss_one (ps_ret (pe_tup (pa_cons (pv 4) (pa_cons (pe_ifExp (pt_cmpR op_eq (pv 0) pe_str (nomark _)) (pe_un un_neg (pv 5)) (pv 5)) pa_nil)))))))), ?_⟩
    refine ⟨_, rfl, ⟨_, rfl⟩, _, _, rfl, rfl, by decide +kernel, szn lw, fun p np => ?_⟩
    rw [ep]
    refine ⟨p, _, rfl, SqT.of upd_same, rfl, _, _, rfl, _, _, rfl, _, _, rfl, rfl, ?_⟩
    have sp : Same H (upd H p (.tup [.str D, .str S, .str N])) := fun b o e => by rw [upd_ne (ne_of_none e np)]; exact e
    revert sp
    generalize upd H p (.tup [.str D, .str S, .str N]) = H1
    intro sp
    dsimp only
    have lN : ∀ {n : Str}, IsNm n → n.length ≤ sizeLine := fun h => by
      have := (isNm_len h).2
      rw [← cd_len] at this
      exact szn (by omega)
    rcases h with ⟨q, rfl, rfl, inm, hz, hw, k⟩ | ⟨rfl, rfl, rfl, k⟩
    · refine seq_of (fun σ' H' => σ' = [some (.str (sgn q)), some (.str wd), some (.str D), some (.str S), some (.str q.1), none] ∧ Same H H') ?rest (fun M hM => ?main)
      case main =>
        refine ⟨_, rfl, irr ⟨_, rfl, .inl ⟨q.1, rfl, lN inm, fun H2 s2 => ⟨true, congrArg V.bl inm, iteF ?_⟩⟩⟩⟩
        have s3 : Same H H2 := fun b o e => s2 b o (sp b o e)
        rcases hw with ⟨h1, rfl, rfl⟩ | ⟨h1, rfl, rfl⟩
        · exact ⟨_, rfl, false, ⟨by decide +kernel, by decide +kernel⟩, iteF (hM _ _ ⟨rfl, s3⟩)⟩
        · exact ⟨_, rfl, true, ⟨by decide +kernel, by decide +kernel⟩, iteT ⟨_, rfl, irr ⟨ab q.2, rfl, ab_nn _, true, rfl, hM _ _ ⟨rfl, s3⟩⟩⟩⟩
      rintro σ2 H2 ⟨rfl, s2⟩
      refine seq_of (fun σ' H' => σ' = [some (.str (sgn q)), some (.str wd), some (.str D), some (.str S), some (.str q.1), some (.int (ab q.2))] ∧ H' = H2) ?rest2 (fun M hM => ?main2)
      case main2 =>
        rcases hw with ⟨h1, rfl, rfl⟩ | ⟨h1, rfl, rfl⟩
        · exact ⟨_, rfl, false, ⟨by decide +kernel, by decide +kernel⟩, iteF (hM _ _ ⟨by rw [h1]; rfl, rfl⟩)⟩
        · exact ⟨_, rfl, true, ⟨by decide +kernel, by decide +kernel⟩, iteT ⟨_, rfl, irr ⟨ab q.2, rfl, ab_nn _, by unfold ab; split <;> omega, hM _ _ ⟨rfl, rfl⟩⟩⟩⟩
      rintro σ3 H3 ⟨rfl, rfl⟩
      refine ⟨_, rfl, _, rfl, rfl, _, rfl, ?_⟩
      have fin : ∀ t, H3 t = none → Q (.ref t) (upd H3 t (.tup [.str q.1, .int q.2])) := fun t nt => k t _ ⟨fun b o e => by rw [upd_ne (ne_of_none (s2 b o e) nt)]; exact s2 b o e, fun p hp => by
        rw [List.mem_singleton.mp hp]
        refine ⟨?_, upd_same⟩
        cases e : H t with
        | none => rfl
        | some o => rw [s2 t o e] at nt; cases nt⟩
      by_cases hn : q.2 < 0
      · have e : sgn q = "-" := if_pos hn
        rw [e]
        refine iteT ⟨_, rfl, _, rfl, (by show 2 ≤ sizeLine; decide), ?_⟩
        have ea : -ab q.2 = q.2 := by unfold ab; rw [if_pos hn]; omega
        dsimp only
        rw [ea]
        exact fin
      · have e : sgn q = "+" := if_neg hn
        rw [e]
        refine iteF ⟨_, rfl, (by show 2 ≤ sizeLine; decide), ?_⟩
        have ea : ab q.2 = q.2 := by unfold ab; rw [if_neg hn]
        dsimp only
        rw [ea]
        exact fin
    · refine ⟨_, rfl, irr ⟨_, rfl, .inl ⟨"0", rfl, by decide +kernel, fun H2 s2 => ⟨false, by decide +kernel, iteT ?_⟩⟩⟩⟩
      exact k H2 fun b o e => s2 b o (sp b o e)
end
end RV
namespace RV
open PySem L2
section
variable {P : Program} {w : World} {K : PySem.W.Frag} {mg : Str → Option Value} {base : Heap} {C : Addr}
theorem ok_terms_in {f : Addr} {fd : FuncData} (F : Fun K "_terms_in" "_terms_in" s_terms_in f fd) (hz : mg "zip" = none) (T2 : Blt2 mg) (h_apart : Fn P w K mg base "_with_sign_apart" 1 ["text"] (Irr sp_apart)) (h_rterm : Fn P w K mg base "_read_term" 2 ["sign", "word"] (Irr (sp_rterm K))) : FnOk P w K mg base CX0 3 f fd ["text"] (sp_termsin K) := by
  refine F.ok sc_terms_in (fun vs H Q E h => ?_) (fun cdv A outer s H vs Q E hr h => ?_)
  · obtain ⟨_, rfl, _⟩ := h
    rfl
  · obtain ⟨qs, rfl, d, k⟩ := h
    refine ⟨_, (pss_cons (ps_set (i := 1) sc_terms_in.nd rfl (Or.inl rfl) (pe_split (pe_fn h_apart (hr.mono (by decide)) (pa_cons (pv 0) pa_nil)) pe_str))
      (pss_cons (ps_setLc (i := 2) (own := [("sign", 3), ("word", 4)]) (g := gPr K 3 4) (tt := tYes) rfl sc_terms_in.nd rfl rfl (sw_true rfl rfl rfl (by decide +kernel)) (pi_zip (by rfl) hz (pa_cons (pe_sl2 (i := 0) (pv 1)) (pa_cons (pe_sl2 (i := 1) (pv 1)) pa_nil))) (blkOk_by (N := sc_terms_in_N) (sc := defScope s_terms_in) (by decide +kernel)) (fun _ _ _ _ _ => pg_tupK (by rfl) (pgs_cons (pg_name (i := 3) sc_terms_in.nd rfl (Or.inl rfl)) (pgs_cons (pg_name (i := 4) sc_terms_in.nd rfl (Or.inl rfl)) pgs_nil))) (fun _ _ _ _ _ => pts_nil) (fun _ _ _ _ _ => (pe_fn h_rterm (hr.mono (by decide)) (pa_cons (pv 3) (pa_cons (pv 4) pa_nil)))))
      (pss_one (ps_ret (pe_callTy call_tuple_of (by rfl) T2.b_tuple (by decide +kernel) (pa_cons (pe_lc (own := [("term", 5)]) (g := gName 5) rfl sc_terms_in.nd (pi_list (pv 2)) (blkOk_by (N := sc_terms_in_N) (sc := defScope s_terms_in) (by decide +kernel)) (fun _ _ _ _ _ => pg_name (i := 5) sc_terms_in.nd rfl (Or.inl rfl)) (fun _ _ _ _ _ => pts_one (pt_cmpR op_notN (pv 5) pe_non (nomark _))) (fun _ _ _ _ _ => (pv 5))) pa_nil)))))), ?_⟩
    have tl := txt_len d
    have dl := d.ln
    have al : (apart (txt qs)).length ≤ 200004 := by
      unfold apart
      have l2 : Str.length "- " = 2 := by decide +kernel
      have l3 : Str.length "+ " = 2 := by decide +kernel
      have l4 : (cutS (txt qs) (some 1) none).length ≤ (txt qs).length := by
        rw [cd_len, cd_rest, List.length_drop, cd_len]
        omega
      split
      · rw [sl_app, l2]; omega
      · rw [sl_app, l3]; omega
    refine ⟨_, rfl, irr ⟨txt qs, rfl, by omega, ⟨_, rfl⟩, _, _, rfl, rfl, by decide +kernel, Nat.le_trans (show _ ≤ 200010 by omega) (by decide), fun p np => ?_⟩⟩
    rw [apart_txt d.nm, split_apart d.nm]
    -- the pairs of a sign and a word
    obtain ⟨PS, hPS, ePS⟩ : ∃ PS : List (Str × Str), (partsZ qs).map V.str = PS.flatMap (fun q => [V.str q.1, V.str q.2]) ∧ ((qs = [] ∧ PS = [(("+" : Str), ("0" : Str))]) ∨ (qs ≠ [] ∧ PS = qs.map fun q => (sgn q, wo q.1 q.2))) := by
      by_cases hq : qs = []
      · exact ⟨[(("+" : Str), ("0" : Str))], by rw [hq]; rfl, .inl ⟨hq, rfl⟩⟩
      · refine ⟨qs.map fun q => (sgn q, wo q.1 q.2), ?_, .inr ⟨hq, rfl⟩⟩
        rw [partsZ, if_neg hq, parts, List.map_flatMap, List.flatMap_map]
        rfl
    have plen : PS.length ≤ 61 := by
      rcases ePS with ⟨_, rfl⟩ | ⟨_, rfl⟩
      · decide
      · rw [List.length_map]; omega
    rw [hPS]
    have k0 := (Kp.start H).new (o := .lst (PS.flatMap fun q => [V.str q.1, V.str q.2])) np
    dsimp only [gName]
    refine seq_of (fun σ' H' => ∃ (D : Addr) (zs : List V) (us : List TP), σ' = [some (.str (txt qs)), some (.ref p), some (.ref D), none, none, none] ∧ prs us = qs ∧ zs.filter (fun z => !decide (z = V.non)) = vP us ∧ zs.length ≤ 100 ∧ Kp H (lP us) H' ∧ H' D = some (.lst zs)) ?rest (fun M hM => ?main)
    case main =>
      refine ⟨_, rfl, p, _, rfl, SqL.of upd_same, fun p2 np2 => ?_⟩
      have k1 := k0.new (o := .lst (step2 0 (PS.flatMap fun q => [V.str q.1, V.str q.2]))) np2
      refine ⟨_, rfl, p, _, rfl, SqL.of (k1.at (List.mem_cons_of_mem _ List.mem_cons_self)), fun p3 np3 => ?_⟩
      have k2 := k1.new (o := .lst (step2 1 (PS.flatMap fun q => [V.str q.1, V.str q.2]))) np3
      rw [step2_even (fun q : Str × Str => V.str q.1) (fun q => V.str q.2), step2_odd (fun q : Str × Str => V.str q.1) (fun q => V.str q.2)] at k2 ⊢
      refine ⟨p2, p3, _, _, rfl, SqL.of (k2.at (List.mem_cons_of_mem _ List.mem_cons_self)), SqL.of (k2.at List.mem_cons_self), fun D nD => ?_⟩
      have e2 := k2.at (p := p2) (o := .lst (PS.map fun q => V.str q.1)) (List.mem_cons_of_mem _ List.mem_cons_self)
      have e3 := k2.at (p := p3) (o := .lst (PS.map fun q => V.str q.2)) List.mem_cons_self
      revert k2 e2 e3 nD
      generalize upd (upd (upd H p (HO.lst (List.flatMap (fun q : Str × Str => [V.str q.fst, V.str q.snd]) PS))) p2 (HO.lst (List.map (fun q : Str × Str => V.str q.fst) PS))) p3 (HO.lst (List.map (fun q : Str × Str => V.str q.snd) PS)) = H3
      intro k2 nD e2 e3
      refine L2.lc_it (walk_zip (K := K) (xs := PS.map fun q => V.str q.1) (ys := PS.map fun q => V.str q.2) (n := PS.length) (by simp))
        (fun i H' => ∃ (zs : List V) (us : List TP), zs.filter (fun z => !decide (z = V.non)) = vP us ∧ zs.length = i ∧ prs us = qs.take i ∧ Kp H3 (lP us) H' ∧ H' D = some (.lst zs))
        ⟨[], [], rfl, rfl, by simp [prs], (Kp.start H3).put nD fun _ hp => (nomatch hp), upd_same⟩ (fun i H' _ z => ?_) (fun i x Ha Hb hi hv y => ?_) (fun H' hv => ?_)
      · obtain ⟨_, _, _, _, _, kp, _⟩ := z
        exact ⟨SqL.of (kp.sm _ _ e2), SqL.of (kp.sm _ _ e3)⟩
      · obtain ⟨zs, us, hf, hl, hu, kp, eD⟩ := hv
        obtain ⟨T, a, b, rfl, nT, rfl, ha, hb⟩ := y
        dsimp only at ha hb
        rw [List.getElem?_map, List.getElem?_eq_getElem hi] at ha hb
        obtain rfl : V.str PS[i].1 = a := Option.some.inj ha
        obtain rfl : V.str PS[i].2 = b := Option.some.inj hb
        have kT := (kp.new (o := .tup [V.str PS[i].1, V.str PS[i].2]) nT).sub (L' := lP us) fun _ hp => List.mem_cons_of_mem _ hp
        have eT : upd Ha T (.tup [V.str PS[i].1, V.str PS[i].2]) D = some (.lst zs) := by rw [upd_ne (ne_of_none eD nT)]; exact eD
        refine ⟨T, _, rfl, SqT.of upd_same, rfl, _, _, rfl, _, _, rfl, ⟨rfl, ⟨rfl, ?_⟩⟩⟩
        have e0 : ∀ (σ : L2.St) (H : Hp) (R : Bool → Hp → Prop), R true H → tYes σ H R := fun _ _ _ r => r
        refine e0 _ _ _ ?_
        simp only [↓reduceIte]
        refine ⟨_, rfl, _, rfl, irr ?_⟩
        have zl : zs.length < sizeLine := by rw [hl]; exact Nat.lt_of_lt_of_le (show i < 100 by omega) (by decide)
        rcases ePS with ⟨hq, hPS⟩ | ⟨hq, hPS⟩
        · subst hPS
          have i0 : i = 0 := by simpa using hi
          subst i0
          refine .inr ⟨rfl, fun H' sm => ⟨zs, sm _ _ eT, zl, zs ++ [.non], us, ?_, by rw [List.length_append, hl]; rfl, by rw [hu, hq]; rfl, (kT.next sm).put nD (Kp.off (kT.next sm) (sm _ _ eT)), upd_same⟩⟩
          rw [List.filter_append, hf]
          simp
        · have hi' : i < qs.length := by rw [hPS, List.length_map] at hi; exact hi
          have e : PS[i] = (sgn qs[i], wo qs[i].1 qs[i].2) := by simp [hPS]
          rw [e]
          have hm : qs[i] ∈ qs := List.getElem_mem hi'
          refine .inl ⟨qs[i], rfl, d.nm _ hm, Nat.lt_of_le_of_lt (tot_mem hm) (Nat.lt_of_le_of_lt d.tt (by decide)), fun t H' kt => ?_⟩
          have kt2 : Kp H3 (lP (us ++ [(t, qs[i])])) H' := (kT.thn (by rw [e]; exact kt)).sub fun p hp => by
            rw [lP_app] at hp
            exact List.mem_append.mpr ((List.mem_append.mp hp).symm)
          have eD' : H' D = some (.lst zs) := kt.sm _ _ (by rw [← e]; exact eT)
          refine ⟨zs, eD', zl, zs ++ [.ref t], us ++ [(t, qs[i])], ?_, by rw [List.length_append, hl]; rfl, ?_, kt2.put nD (Kp.off kt2 eD'), upd_same⟩
          · rw [List.filter_append, hf, vP_app]
            rfl
          · rw [prs_app, hu, List.take_add_one, List.getElem?_eq_getElem hi']
            rfl
      · obtain ⟨zs, us, hf, hl, hu, kp, eD⟩ := hv
        refine hM _ _ ⟨D, zs, us, rfl, ?_, hf, by omega, ?_, eD⟩
        · rw [hu]
          rcases ePS with ⟨hq, _⟩ | ⟨_, hPS⟩
          · rw [hq]; simp
          · rw [hPS, List.length_map, List.take_length]
        · exact ⟨fun b o e => kp.sm b o (k2.sm b o e), fun p hp => ⟨k2.none0 (kp.nw p hp).1, (kp.nw p hp).2⟩⟩
    rintro σ1 H1 ⟨D, zs, us, rfl, eus, hzs, zl, k1, eD⟩
    refine ⟨_, rfl, D, rfl, ⟨_, SqL.of eD⟩, fun D2 nD2 => ?_⟩
    refine lc_list (xs := zs) (fun i H' => Same H1 H' ∧ H' D2 = some (.lst ((zs.take i).filter fun z => !decide (z = V.non)))) ⟨fun b o e => by rw [upd_ne (ne_of_none e nD2)]; exact e, upd_same⟩ (fun i H' _ z => SqL.of (z.1 _ _ eD)) ?_ ?_
    · rintro i x H' hx ⟨sm, e2⟩
      have et : zs.take (i + 1) = zs.take i ++ [x] := by rw [List.take_add_one, hx]; rfl
      refine ⟨rfl, _, rfl, rfl, _, rfl, ?_⟩
      rw [et, List.filter_append]
      by_cases hn : x = V.non
      · rw [hn]
        refine iteF ⟨sm, ?_⟩
        rw [e2]
        simp
      · have hd : (!decide (x = V.non)) = true := by rw [decide_eq_false hn]; rfl
        dsimp only
        rw [if_pos hd]
        refine ⟨_, rfl, _, e2, ?_, fun b o e => by rw [upd_ne (ne_of_none e nD2)]; exact sm b o e, ?_⟩
        · exact Nat.lt_of_le_of_lt (List.length_filter_le _ _) (Nat.lt_of_le_of_lt (List.length_take_le' _ _) (Nat.lt_of_le_of_lt zl (by decide)))
        · rw [upd_same]
          have e3 : [x].filter (fun z => !decide (z = V.non)) = [x] := by simp [hn]
          rw [e3]
    · rintro H' ⟨sm, e2⟩
      rw [List.take_length, hzs] at e2
      refine ⟨D2, vP us, rfl, .inl ⟨SqL.of e2, fun m nm => ?_⟩⟩
      exact k us m _ eus ((k1.next sm).new nm)
end
end RV
namespace RV
open PySem L2
section
variable {P : Program} {w : World} {K : PySem.W.Frag} {mg : Str → Option Value} {base : Heap} {C : Addr}
theorem ok_Sum_r {f : Addr} {fd : FuncData} (F : Fun K "read" "Sum.read" s_Sum_read f fd) (T : Blt mg) (h_Sum : Mkr P w K mg base "Sum" C 4 (Irr (sp_Sum K C)) []) (h_terms_in : Fn P w K mg base "_terms_in" 3 ["text"] (Irr (sp_termsin K))) (h_str : OwnM P w K mg base C "__str__" 5 (Irr (sp_text C))) : FnOk P w K mg base CX0 8 f fd ["cls", "text"] (sp_read C) := by
  refine F.ok sc_Sum_read (fun vs H Q E h => ?_) (fun cdv A outer s H vs Q E hr h => ?_)
  · obtain ⟨_, rfl, _⟩ := h
    rfl
  · obtain ⟨qs, rfl, d, k⟩ := h
    refine ⟨_, (pss_cons (ps_if (pt_not (pt_val (pe_callB call_isi (by rfl) T.b_isinstance (by decide +kernel) (pa_cons (pv 1) (pa_cons (pe_bltn (v := .ty "str") (by rfl) T.b_str (by decide +kernel) rfl) pa_nil))))) (pss_one ps_never) pss_nil)
      (pss_cons (ps_set (i := 2) sc_Sum_read.nd rfl (Or.inl rfl) (pe_mkL (i := 0) h_Sum (hr.mono (by decide)) rfl (Or.inl rfl) (pa_cons (pe_fn h_terms_in (hr.mono (by decide)) (pa_cons (pv 1) pa_nil)) pa_nil)))
      (pss_cons (ps_if (pt_cmpR op_ne (pe_callTy (call_strO h_str (hr.mono (by decide))) (by rfl) T.b_str (by decide +kernel) (pa_cons (pv 2) pa_nil)) (pv 1) (nomark _)) (pss_one ps_never) pss_nil)
      (pss_one (ps_ret (pv 2)))))), ?_⟩
    refine ⟨_, rfl, _, _, .type "str", .type "str", true, rfl, .ty _, .base (.str _), kit_ty (by decide +kernel), true, rfl, iteF ?_⟩
    refine ⟨rfl, _, rfl, irr ⟨qs, rfl, d, fun us m H1 eus k1 => ?_⟩⟩
    have un : ∀ q ∈ prs us, IsNm q.1 := eus ▸ d.nm
    have ul : us.length ≤ 60 := by rw [← prs_len, eus]; exact d.ln
    refine fun x dx hx hd ne => Sum_kp (us := us) ⟨SqT.of (k1.at List.mem_cons_self), fun u hu => SqT.of (k1.at (List.mem_cons_of_mem _ (List.mem_map.mpr ⟨u, hu, rfl⟩))), un, by omega⟩ hx hd ne fun ds m2 dx2 H2 md k2 => ?_
    have eds : prs ds = qs := by
      have d2 : Nrm (prs us) := eus ▸ d.nr
      rw [md.nr.uniq d2 md.co, eus]
    have k3 : Kp H (lS C x dx2 m2 ds) H2 := ⟨fun b o e => k2.sm b o (k1.sm b o e), fun p hp => ⟨k1.none0 (k2.nw p hp).1, (k2.nw p hp).2⟩⟩
    refine ⟨_, rfl, x, dx2, _, rfl, k3.at List.mem_cons_self, irr ⟨x, qs, rfl, eds ▸ SumR.of fun p hp => k3.at hp, fun q hq => ⟨d.nm q hq, Nat.lt_of_le_of_lt (tot_mem hq) (Nat.lt_of_le_of_lt d.tt (by decide))⟩, Nat.le_trans d.ln (by decide), fun H3 s3 => ?_⟩⟩
    refine ⟨_, rfl, _, rfl, rfl, _, rfl, ?_⟩
    refine ite2 (fun h => ?_) (fun _ => ?_)
    · simp at h
    exact ⟨_, rfl, k x dx2 m2 ds H3 eds (k3.next s3)⟩
end
end RV
namespace RV
open PySem L2
section
variable {P : Program} {w : World} {K : PySem.W.Frag} {mg : Str → Option Value} {base : Heap} {C : Addr}
theorem ok_sum_text {f : Addr} {fd : FuncData} (F : Fun K "_law_sum_text" "_law_sum_text" s_sum_text f fd) (T : Blt mg) : FnOk P w K mg base CX0 1 f fd ["_law_terms"] (sp_sumtext K) := by
  refine F.ok sc_sum_text (fun vs H Q E h => ?_) (fun cdv A outer s H vs Q E hr h => ?_)
  · obtain ⟨_, _, rfl, _⟩ := h
    rfl
  · obtain ⟨l, ds, rfl, hl, ht, d, k⟩ := h
    refine ⟨_, (pss_cons (ps_set (i := 1) sc_sum_text.nd rfl (Or.inl rfl) pe_str)
      (pss_cons (ps_for PassesOwn.never rfl (pi_list (pv 0)) (pg_tup (by rfl) (pgs_cons (pg_name (i := 2) sc_sum_text.nd rfl (Or.inl rfl)) (pgs_cons (pg_name (i := 3) sc_sum_text.nd rfl (Or.inl rfl)) pgs_nil))) (pss_cons (ps_set (i := 4) sc_sum_text.nd rfl (Or.inl rfl) (pe_callB call_abs (by rfl) T.b_abs (by decide +kernel) (pa_cons (pv 3) pa_nil))) (pss_cons (ps_set (i := 5) sc_sum_text.nd rfl (Or.inl rfl) (pe_ifExp (pt_cmpR op_eq (pv 4) pe_int (nomark _)) (pv 2) (pe_op op_add_str (pe_op op_add_str (pe_callTy call_str_int (by rfl) T.b_str (by decide +kernel) (pa_cons (pv 4) pa_nil)) pe_str) (pv 2)))) (pss_one (ps_if (pt_cmpR op_eq (pv 1) pe_str (nomark _)) (pss_one (ps_set (i := 1) sc_sum_text.nd rfl (Or.inl rfl) (pe_ifExp (pt_cmpR op_lt (pv 3) pe_int (nomark _)) (pe_op op_add_str pe_str (pv 5)) (pv 5)))) (pss_one (ps_set (i := 1) sc_sum_text.nd rfl (Or.inl rfl) (pe_op op_add_str (pe_op op_add_str (pv 1) (pe_ifExp (pt_cmpR op_lt (pv 3) pe_int (nomark _)) pe_str pe_str)) (pv 5)))))))))
      (pss_one (ps_ret (pe_ifExp (pt_cmpR op_eq (pv 1) pe_str (nomark _)) pe_str (pv 1)))))), ?_⟩
    have ul : ds.length ≤ 60 := by rw [← prs_len]; exact d.ln
    have dq : ∀ q ∈ prs ds, IsNm q.1 ∧ q.2.natAbs < 10 ^ 64 := fun q hq => ⟨d.nm q hq, Nat.lt_of_le_of_lt (tot_mem hq) (Nat.lt_of_le_of_lt d.tt (by decide))⟩
    have big5 : ∀ {n m : Nat}, n ≤ 200000 → m ≤ 5000 → n + m ≤ sizeLine := fun h1 h2 => Nat.le_trans (show _ ≤ 205000 by omega) (by decide)
    refine ⟨_, rfl, l, rfl, ⟨_, hl⟩, for_list (xs := vP ds) (fun i σ H' => H' = H ∧ ∃ o2 o3 o4 o5, σ = [some (.ref l), some (.str (line ((prs ds).take i))), o2, o3, o4, o5]) ⟨rfl, none, none, none, none, rfl⟩ (fun i σ H' _ h => by rw [h.1]; exact hl) ?_ ?_⟩
    · rintro i y σ H1 hy ⟨rfl, o2, o3, o4, o5, rfl⟩
      rw [vP, List.getElem?_map] at hy
      cases hu : ds[i]? with
      | none => rw [hu] at hy; cases hy
      | some u =>
        rw [hu] at hy
        obtain rfl : V.ref u.1 = y := Option.some.inj hy
        have hm := List.mem_of_getElem? hu
        have hq : u.2 ∈ prs ds := List.mem_map.mpr ⟨u, hm, rfl⟩
        have et : (prs ds).take (i + 1) = (prs ds).take i ++ [u.2] := by
          rw [List.take_add_one, prs, List.getElem?_map, hu]
          rfl
        have hx := (dq _ hq).1
        have hz := Nat.le_trans (tot_mem hq) d.tt
        have wl := wo_len hx (dq _ hq).2
        have ll : (line ((prs ds).take i)).length ≤ 200000 := line_len (fun q hq => dq q (List.mem_of_mem_take hq)) (by rw [List.length_take, prs_len]; omega)
        refine ⟨u.1, _, rfl, ht u hm, rfl, _, _, rfl, _, _, rfl, rfl, ?_⟩
        refine ⟨_, rfl, _, rfl, ?_⟩
        dsimp only [gName]
        rw [show (if u.2.2 < 0 then -u.2.2 else u.2.2) = ab u.2.2 from rfl]
        refine seq_of (fun σ' H' => σ' = [some (.ref l), some (.str (line ((prs ds).take i))), some (.str u.2.1), some (.int u.2.2), some (.int (ab u.2.2)), some (.str (wo u.2.1 u.2.2))] ∧ H' = H1) ?rest (fun M hM => ?main)
        case main =>
          refine ⟨_, rfl, rfl, _, rfl, ?_⟩
          refine ite2 (fun h => ?_) (fun h => ?_)
          · have h1 : ab u.2.2 = 1 := V.int.inj (of_decide_eq_true h)
            refine ⟨_, rfl, hM _ _ ⟨?_, rfl⟩⟩
            rw [wo, if_pos h1]
            rfl
          · have h1 : ¬ ab u.2.2 = 1 := fun e => h (decide_eq_true (congrArg V.int e))
            have lg : (ab u.2.2).natAbs ≤ 10 ^ 45 := by unfold ab; split <;> omega
            have nl := num_len (z := ab u.2.2) (ab_lt (dq _ hq).2)
            have e1 : Str.length "*" = 1 := by decide +kernel
            have hx8 := isNm_len hx
            rw [← cd_len] at hx8
            refine ⟨_, rfl, _, rfl, log_small lg, _, _, rfl, rfl, ?_, _, rfl, _, _, rfl, rfl, ?_, ?_⟩
            · show (num (ab u.2.2)).length + _ ≤ _
              rw [e1]
              exact big5 (show _ ≤ 200000 by omega) (by decide)
            · show (num (ab u.2.2) ++ ("*" : Str)).length + _ ≤ _
              rw [sl_app, e1]
              exact big5 (show _ ≤ 200000 by omega) (by omega)
            · refine hM _ _ ⟨?_, rfl⟩
              rw [← wo_law _ _ h1]
              rfl
        rintro σ2 H2 ⟨rfl, rfl⟩
        refine ⟨_, rfl, rfl, _, rfl, ?_⟩
        rw [et]
        generalize hqs : (prs ds).take i = qs at ll ⊢
        cases qs with
        | nil =>
          refine iteT ⟨_, rfl, _, _, rfl, rfl, _, rfl, ?_⟩
          refine ite2 (fun h => ?_) (fun h => ?_)
          · have hn : u.2.2 < 0 := of_decide_eq_true h
            have e1 : Str.length "-" = 1 := by decide +kernel
            refine ⟨_, rfl, _, _, rfl, rfl, ?_, ⟨rfl, some (.str u.2.1), some (.int u.2.2), some (.int (ab u.2.2)), some (.str (wo u.2.1 u.2.2)), ?_⟩⟩
            · rw [e1]
              exact big5 (by decide) (by omega)
            · rw [List.nil_append, ← line_one, if_pos hn]
              rfl
          · have hn : ¬ u.2.2 < 0 := of_decide_eq_false (by simpa using h)
            refine ⟨_, rfl, ⟨rfl, some (.str u.2.1), some (.int u.2.2), some (.int (ab u.2.2)), some (.str (wo u.2.1 u.2.2)), ?_⟩⟩
            rw [List.nil_append, ← line_one, if_neg hn]
            rfl
        | cons q r =>
          have hq0 : q ∈ prs ds := List.mem_of_mem_take (i := i) (by rw [hqs]; exact List.mem_cons_self)
          have ne : decide (V.str (line (q :: r)) = V.str "") = false := decide_eq_false fun e => line_ne (dq q hq0).1 (V.str.inj e)
          have e1 : Str.length " - " = 3 := by decide +kernel
          have e2 : Str.length " + " = 3 := by decide +kernel
          rw [ne]
          refine iteF ⟨_, rfl, _, rfl, _, _, rfl, rfl, _, rfl, ?_⟩
          refine ite2 (fun h => ?_) (fun h => ?_)
          · have hn : u.2.2 < 0 := of_decide_eq_true h
            refine ⟨_, _, rfl, rfl, ?_, _, rfl, _, _, rfl, rfl, ?_, ⟨rfl, some (.str u.2.1), some (.int u.2.2), some (.int (ab u.2.2)), some (.str (wo u.2.1 u.2.2)), ?_⟩⟩
            · rw [e1]
              exact big5 ll (by decide)
            · rw [sl_app, e1]
              exact Nat.le_trans (show _ ≤ 205000 by omega) (by decide)
            · rw [← line_more, if_pos hn]
              rfl
          · have hn : ¬ u.2.2 < 0 := of_decide_eq_false (by simpa using h)
            refine ⟨_, _, rfl, rfl, ?_, _, rfl, _, _, rfl, rfl, ?_, ⟨rfl, some (.str u.2.1), some (.int u.2.2), some (.int (ab u.2.2)), some (.str (wo u.2.1 u.2.2)), ?_⟩⟩
            · rw [e2]
              exact big5 ll (by decide)
            · rw [sl_app, e2]
              exact Nat.le_trans (show _ ≤ 205000 by omega) (by decide)
            · rw [← line_more, if_neg hn]
              rfl
    · rintro σ H1 ⟨rfl, o2, o3, o4, o5, rfl⟩
      rw [vP_len, ← prs_len, List.take_length]
      refine ⟨_, rfl, rfl, _, rfl, ?_⟩
      revert k dq
      generalize prs ds = qs
      intro dq k
      cases qs with
      | nil => exact iteT k
      | cons q r =>
        have ne : decide (V.str (line (q :: r)) = V.str "") = false := decide_eq_false fun e => line_ne (dq q List.mem_cons_self).1 (V.str.inj e)
        rw [ne]
        refine iteF ⟨_, rfl, ?_⟩
        rw [line, if_neg (by simp)]
        exact k
end
end RV
namespace RV
open PySem L2
/-! Sum.read(text=..) -/
def gR' (us ws : List Value) : List Value := match us, ws with
  | [x], [t] => [x, t]
  | _, _ => []
theorem gR_rel {vs : List V} {us : List Value} {zs : List V} {ws : List Value} (r1 : Vals vs us) (r2 : Vals zs ws) : Vals (gR vs zs) (gR' us ws) := by
  cases r1 with
  | nil => exact .nil
  | cons a r =>
    cases r with
    | cons b r => exact .nil
    | nil =>
      cases r2 with
      | nil => exact .nil
      | cons c r2 =>
        cases r2 with
        | nil => exact .cons a (.cons c .nil)
        | cons d r2 => exact .nil
theorem kbR {f : Addr} {K : PySem.W.Frag} {fd : FuncData} (F : Fun K "read" "Sum.read" s_Sum_read f fd) : KBn K fd ["cls", "text"] 1 ["text"] gR' gR := by
  refine ⟨fun s us ws X h1 h2 => ?_, gR_rel⟩
  obtain ⟨oc, od, kV, doc, pm, an, cdv, ct, osl, rfl, lk, hcd⟩ := F.ex
  match us, h1, ws, h2 with
  | [x], _, [t], _ => exact BindsTo.of_eq rfl
end RV
namespace RV
open PySem L2
section
variable {P : Program} {w : World} {K : PySem.W.Frag} {mg : Str → Option Value} {base : Heap} {C fr fm : Addr} {fo ro : Option Value}
theorem ok_Sum_a {f : Addr} {fd : FuncData} (F : Fun K "__add__" "Sum.__add__" s_Sum___add__ f fd) (T : SClass K mg C) (B : Blt mg) (h_Sum : Mkr P w K mg base "Sum" C 4 (Irr (sp_Sum K C)) []) : FnOk P w K mg base CX0 6 f fd ["self", "other"] (sp_addS C) := by
  refine F.ok sc_Sum___add__ (fun vs H Q E h => ?_) (fun cdv A outer s H vs Q E hr h => ?_)
  · obtain ⟨_, _, _, _, rfl, _⟩ := h
    rfl
  · obtain ⟨a, b, qs, rs, rfl, ha, hb, hn, hl, k⟩ := h
    refine ⟨_, (pss_cons (ps_if (pt_not (pt_val (pe_callB call_isi (by rfl) B.b_isinstance (by decide +kernel) (pa_cons (pv 1) (pa_cons (pe_gC T.k) pa_nil))))) (pss_one ps_never) pss_nil)
      (pss_one (ps_ret (pe_mk h_Sum (hr.mono (by decide)) (pa_cons (pe_op op_catA (pe_fld (pv 0) rfl) (pe_fld (pv 1) rfl)) pa_nil))))), ?_⟩
    obtain ⟨dx, t, us, rfl, q⟩ := ha
    obtain ⟨dy, t2, us2, rfl, q2⟩ := hb
    refine ⟨_, rfl, _, _, _, .ref C, true, rfl, .own C, T.x.ty (q2 _ List.mem_cons_self), T.me, true, rfl, iteF ?_⟩
    have e1 := q (t, .tup (vP us)) (List.mem_cons_of_mem _ List.mem_cons_self)
    have e2 := q2 (t2, .tup (vP us2)) (List.mem_cons_of_mem _ List.mem_cons_self)
    refine ⟨_, rfl, a, C, dx, _, _, rfl, q _ List.mem_cons_self, T.x.cl, T.n1, rfl, _, rfl, b, C, dy, _, _, rfl, q2 _ List.mem_cons_self, T.x.cl, T.n1, rfl, ?_⟩
    have hl' : us.length + us2.length ≤ 120 := by
      have hl := hl.1
      rw [List.length_append, prs_len, prs_len] at hl
      exact hl
    have fin : ∀ (t' : Addr) (H1 : Hp), Same H H1 → SqT K H1 t' (vP (us ++ us2)) → ∀ x dx, H1 x = none → H1 dx = none → dx ≠ x → Irr (sp_Sum K C) [.ref x, .ref t'] (upd (upd H1 dx (.own x)) x (.ins C dx [])) (fun v H2 => v = .non ∧ Q (.ref x) H2) E0 := fun t' H1 s1 ht' x dx' hx hd ne =>
      Sum_kpF (us := us ++ us2) ⟨ht', fun u hu => ?_, by rw [prs_app]; exact hn, by rw [prs_app]; exact hl⟩ hx hd ne fun ds m2 dx2 H3 md k3 => k x dx2 m2 ds H3 (by rw [prs_app] at md; exact md) ⟨fun b o e => k3.sm b o (s1 b o e), fun p hp => ⟨?_, (k3.nw p hp).2⟩⟩
    · refine ⟨t, t2, vP us, vP us2, rfl, rfl, SqT.of e1, SqT.of e2, ?_, fun e => ?_, fun _ e => ?_, fun _ _ p np => ?_⟩
      · rw [vP_len, vP_len]
        exact Nat.le_trans hl' (by decide)
      · have e0 : us = [] := List.map_eq_nil_iff.mp e
        exact fin t2 H (Same.refl H) (by rw [e0]; exact SqT.of e2)
      · have e0 : us2 = [] := List.map_eq_nil_iff.mp e
        exact fin t H (Same.refl H) (by rw [e0, List.append_nil]; exact SqT.of e1)
      · rw [← vP_app]
        exact fin p _ (fun b o e => by rw [upd_ne (ne_of_none e np)]; exact e) (SqT.of upd_same)
    · rcases List.mem_append.mp hu with hu | hu
      · exact (SqT.of (q _ (List.mem_cons_of_mem _ (List.mem_cons_of_mem _ (List.mem_map.mpr ⟨u, hu, rfl⟩))))).ext s1
      · exact (SqT.of (q2 _ (List.mem_cons_of_mem _ (List.mem_cons_of_mem _ (List.mem_map.mpr ⟨u, hu, rfl⟩))))).ext s1
    · cases e : H p.1 with
      | none => rfl
      | some o =>
        have z := s1 _ _ e
        rw [(k3.nw p hp).1] at z
        cases z
theorem ok_Sum_m {f : Addr} {fd : FuncData} (F : Fun K "__mul__" "Sum.__mul__" s_Sum___mul__ f fd) (T : SClass K mg C) (T2 : Blt2 mg) (h_is_number : Fn P w K mg base "is_number" 1 ["value"] (Irr (sp_is_number K))) (h_Sum : Mkr P w K mg base "Sum" C 4 (Irr (sp_Sum K C)) []) : FnOk P w K mg base CX0 6 f fd ["self", "other"] (sp_mulS C) := by
  refine F.ok sc_Sum___mul__ (fun vs H Q E h => ?_) (fun cdv A outer s H vs Q E hr h => ?_)
  · obtain ⟨_, _, _, rfl, _⟩ := h
    rfl
  · obtain ⟨a, qs, i, rfl, ha, hq, hi, k⟩ := h
    refine ⟨_, (pss_cons (ps_if (pt_not (pt_val (pe_fn h_is_number (hr.mono (by decide)) (pa_cons (pv 1) pa_nil)))) (pss_one ps_never) pss_nil)
      (pss_one (ps_ret (pe_mk h_Sum (hr.mono (by decide)) (pa_cons (pe_callTy call_tuple_of (by rfl) T2.b_tuple (by decide +kernel) (pa_cons (pe_lc (own := [("name", 2), ("number", 3)]) (g := gPr K 2 3) (tt := tYes) rfl sc_Sum___mul__.nd (pi_tup (pe_fld (pv 0) rfl)) (blkOk_by (N := sc_Sum___mul___N) (sc := defScope s_Sum___mul__) (by decide +kernel)) (fun _ _ _ _ _ => pg_tupK (by rfl) (pgs_cons (pg_name (i := 2) sc_Sum___mul__.nd rfl (Or.inl rfl)) (pgs_cons (pg_name (i := 3) sc_Sum___mul__.nd rfl (Or.inl rfl)) pgs_nil))) (fun _ _ _ _ _ => pts_nil) (fun _ _ _ _ _ => (pe_tup (pa_cons (pv 2) (pa_cons (pe_op op_mulW (pv 3) (pv 1)) pa_nil))))) pa_nil)) pa_nil))))), ?_⟩
    obtain ⟨dx, t, us, rfl, q⟩ := ha
    have ul : us.length ≤ 60 := by rw [← prs_len]; exact hq.ln
    have e1 := q (t, .tup (vP us)) (List.mem_cons_of_mem _ List.mem_cons_self)
    have ht : TPs K H us := fun u hu => SqT.of (q _ (List.mem_cons_of_mem _ (List.mem_cons_of_mem _ (List.mem_map.mpr ⟨u, hu, rfl⟩))))
    refine ⟨_, rfl, irr ⟨_, rfl, .inl ⟨i, rfl, true, rfl, iteF ?_⟩⟩⟩
    refine ⟨_, rfl, a, C, dx, _, _, rfl, q _ List.mem_cons_self, T.x.cl, T.n1, rfl, t, rfl, ⟨_, SqT.of e1⟩, fun D nD => lc_mk (us := us) (fun q => (q.1, i * q.2)) _ (fun H' => SqT K H' t (vP us)) walkT ht nD (by omega) (fun H' sm => SqT.of (sm _ _ e1)) (fun _ _ => rfl) (fun q' hq' H2 s2 R kR => ?_) fun ws H2 hws kp eD => ?_⟩
    · refine ⟨_, rfl, _, rfl, _, rfl, _, _, rfl, rfl, mulW (hq.sm _ hq') hi, (by show 2 ≤ sizeLine; decide), fun t' nt' => ?_⟩
      dsimp only
      rw [show q'.2 * i = i * q'.2 from Int.mul_comm _ _]
      exact kR t' nt'
    · have wl : ws.length = us.length := by
        have := congrArg List.length hws
        rwa [prs_len, List.length_map, prs_len] at this
      refine ⟨D, vP ws, rfl, .inl ⟨SqL.of eD, fun m nm => ?_⟩⟩
      have k2 := kp.new (o := .tup (vP ws)) nm
      have wn : ∀ q ∈ prs ws, IsNm q.1 := by rw [hws]; exact scl_isNm (i := i) hq.nm
      refine fun x dx' hx hd ne => Sum_kp (us := ws) ⟨SqT.of upd_same, fun u hu => SqT.of (k2.at (List.mem_cons_of_mem _ (List.mem_map.mpr ⟨u, hu, rfl⟩))), wn, by omega⟩ hx hd ne fun ds m2 dx2 H3 md k3 => ?_
      exact k x dx2 m2 ds H3 (by rw [hws] at md; exact md) ⟨fun b o e => k3.sm b o (k2.sm b o e), fun p hp => ⟨k2.none0 (k3.nw p hp).1, (k3.nw p hp).2⟩⟩
theorem ok_Sum_rm {f : Addr} {fd : FuncData} (F : Fun K "__rmul__" "Sum.__rmul__" s_Sum___rmul__ f fd) (T : SClass K mg C) (h_mul : OwnM P w K mg base C "__mul__" 6 (Irr (sp_mulS C))) (hc : PySem.W.selfFirst K C = true) (hR : PySem.W.findIn K (.ref C) (dunderR "mul") = some (some (.ref fr)))
    (h1 : PySem.W.findIn K (.type "int") (PySem.dunder "mul") = some fo) (h2 : PySem.W.findIn K (.type "int") (dunderR "mul") = some ro) (hsub : PySem.W.subIn K (.type "int") (.ref C) = some false) : FnOk P w K mg base CX0 7 f fd ["self", "other"] (sp_mulS C) := by
  refine F.ok sc_Sum___rmul__ (fun vs H Q E h => ?_) (fun cdv A outer s H vs Q E hr h => ?_)
  · obtain ⟨_, _, _, rfl, _⟩ := h
    rfl
  · obtain ⟨a, qs, i, rfl, ha, hq, hi, k⟩ := h
    refine ⟨_, (pss_one (ps_ret (pe_op (op_mulO h_mul hc hR h1 h2 hsub (hr.mono (by decide))) (pv 0) (pv 1)))), ?_⟩
    obtain ⟨dx, t, us, e, q⟩ := id ha
    refine ⟨_, rfl, _, rfl, ?_⟩
    unfold rMulO
    exact ⟨a, i, dx, _, rfl, rfl, q _ List.mem_cons_self, irr ⟨a, qs, i, rfl, ha, hq, hi, fun x dx m ds H' md kp => ⟨x, rfl, k x dx m ds H' md kp⟩⟩⟩
theorem ok_Sum_n {f : Addr} {fd : FuncData} (F : Fun K "__neg__" "Sum.__neg__" s_Sum___neg__ f fd) (T : SClass K mg C) (h_mul : OwnM P w K mg base C "__mul__" 6 (Irr (sp_mulS C))) (hc : PySem.W.selfFirst K C = true) (hR : PySem.W.findIn K (.ref C) (dunderR "mul") = some (some (.ref fr)))
    (h1 : PySem.W.findIn K (.type "int") (PySem.dunder "mul") = some fo) (h2 : PySem.W.findIn K (.type "int") (dunderR "mul") = some ro) (hsub : PySem.W.subIn K (.type "int") (.ref C) = some false) : FnOk P w K mg base CX0 7 f fd ["self"] (sp_negS C) := by
  refine F.ok sc_Sum___neg__ (fun vs H Q E h => ?_) (fun cdv A outer s H vs Q E hr h => ?_)
  · obtain ⟨_, _, rfl, _⟩ := h
    rfl
  · obtain ⟨a, qs, rfl, ha, hq, k⟩ := h
    refine ⟨_, (pss_one (ps_ret (pe_op (op_mulO h_mul hc hR h1 h2 hsub (hr.mono (by decide))) (pv 0) (pe_un un_neg pe_int)))), ?_⟩
    obtain ⟨dx, t, us, e, q⟩ := id ha
    refine ⟨_, rfl, _, rfl, ?_⟩
    unfold rMulO
    exact ⟨a, -1, dx, _, rfl, rfl, q _ List.mem_cons_self, irr ⟨a, qs, -1, rfl, ha, hq, by decide, fun x dx m ds H' md kp => ⟨x, rfl, k x dx m ds H' md kp⟩⟩⟩
theorem ok_Sum_sub {f : Addr} {fd : FuncData} (F : Fun K "__sub__" "Sum.__sub__" s_Sum___sub__ f fd) (T : SClass K mg C) (B : Blt mg) (h_neg : OwnM P w K mg base C "__neg__" 7 (Irr (sp_negS C))) (h_add : OwnM P w K mg base C "__add__" 6 (Irr (sp_addS C))) (hc : PySem.W.selfFirst K C = true) : FnOk P w K mg base CX0 8 f fd ["self", "other"] (sp_subS C) := by
  refine F.ok sc_Sum___sub__ (fun vs H Q E h => ?_) (fun cdv A outer s H vs Q E hr h => ?_)
  · obtain ⟨_, _, _, _, rfl, _⟩ := h
    rfl
  · obtain ⟨a, b, qs, rs, rfl, ha, hb, hn, hq, hl, k⟩ := h
    refine ⟨_, (pss_cons (ps_if (pt_not (pt_val (pe_callB call_isi (by rfl) B.b_isinstance (by decide +kernel) (pa_cons (pv 1) (pa_cons (pe_gC T.k) pa_nil))))) (pss_one ps_never) pss_nil)
      (pss_one (ps_ret (pe_op (op_binO (op := .Add) h_add rfl hc (hr.mono (by decide))) (pv 0) (pe_un (un_negO h_neg (hr.mono (by decide))) (pv 1)))))), ?_⟩
    obtain ⟨dx, t, us, e, q⟩ := id ha
    obtain ⟨dy, t2, us2, e2, q2⟩ := id hb
    refine ⟨_, rfl, _, _, _, .ref C, true, rfl, .own C, T.x.ty (q2 _ List.mem_cons_self), T.me, true, rfl, iteF ?_⟩
    refine ⟨_, rfl, _, rfl, ?_⟩
    unfold rNegO rBinO
    refine ⟨b, dy, _, rfl, q2 _ List.mem_cons_self, irr ⟨b, rs, rfl, hb, hq, fun x dx1 m ds H1 md k1 => ?_⟩⟩
    have nd : ∀ r ∈ qs ++ prs ds, IsNm r.1 := fun r hr => (List.mem_append.mp hr).elim (hn r) fun z => by
      have := md.nm r z
      rw [scl_nm] at this
      obtain ⟨y, hy, e⟩ := List.mem_map.mp this
      exact e ▸ hq.nm y hy
    have ln : Few (qs ++ prs ds) := by
      obtain ⟨h1, pool, h2, h3⟩ := hl
      refine ⟨?_, pool, h2, fun r hr => (List.mem_append.mp hr).elim (fun z => h3 r (List.mem_append_left _ z)) fun z => ?_⟩
      · have := md.ln
        rw [scl_len] at this
        rw [List.length_append] at h1 ⊢
        omega
      · have := md.nm r z
        rw [scl_nm] at this
        obtain ⟨y, hy, e⟩ := List.mem_map.mp this
        exact e ▸ h3 y (List.mem_append_right _ hy)
    refine ⟨a, x, dx, _, dx1, _, rfl, rfl, k1.sm _ _ (q _ List.mem_cons_self), k1.at List.mem_cons_self, irr ⟨a, x, qs, prs ds, rfl, ha.ext k1.sm, SumR.of fun p hp => k1.at hp, nd, ln, fun y dy2 m2 es H2 md2 k2 => ⟨y, rfl, ?_⟩⟩⟩
    exact k y dy2 m2 es H2 (md.app md2) ⟨fun b o e => k2.sm b o (k1.sm b o e), fun p hp => ⟨k1.none0 (k2.nw p hp).1, (k2.nw p hp).2⟩⟩
end
end RV
namespace RV
open PySem L2 PyProof.Rows
section
variable {P : Program} {w : World} {K : PySem.W.Frag} {mg : Str → Option Value} {base : Heap} {C : Addr}
theorem ok_much {f : Addr} {fd : FuncData} (F : Fun K "_law_much" "_law_much" s_much f fd) (T : Blt mg) : FnOk P w K mg base CX0 1 f fd ["_law_pairs_here"] (sp_much K) := by
  refine F.ok sc_much (fun vs H Q E h => ?_) (fun cdv A outer s H vs Q E hr h => ?_)
  · obtain ⟨_, _, rfl, _⟩ := h
    rfl
  · obtain ⟨l, us, rfl, hl, ul, k⟩ := h
    refine ⟨_, (pss_one (ps_ret (pe_callB (cr_max rfl) (by rfl) T.b_max (by decide +kernel) (pa_cons (pe_op op_cat (pe_lst (pa_cons pe_int pa_nil)) (pe_lc (own := [("_law_name_here", 1), ("_law_number_here", 2)]) (g := gPr K 1 2) (tt := tYes) rfl sc_much.nd (pi_list (pv 0)) (blkOk_by (N := sc_much_N) (sc := defScope s_much) (by decide +kernel)) (fun _ _ _ _ _ => pg_tupK (by rfl) (pgs_cons (pg_name (i := 1) sc_much.nd rfl (Or.inl rfl)) (pgs_cons (pg_name (i := 2) sc_much.nd rfl (Or.inl rfl)) pgs_nil))) (fun _ _ _ _ _ => pts_nil) (fun _ _ _ _ _ => (pe_callB call_abs (by rfl) T.b_abs (by decide +kernel) (pa_cons (pv 2) pa_nil))))) pa_nil)))), ?_⟩
    refine ⟨(by show 1 ≤ sizeLine; decide), fun p np => ⟨_, rfl, l, rfl, ?_⟩⟩
    have k1 := (Kp.start H).new (o := .lst [.int 0]) np
    have hl1 := hl.ext k1.sm
    refine ⟨⟨_, hl1.sL⟩, fun D nD => lc_pairs (us := us) (fun _ => true) (fun q => V.int (if q.2 < 0 then -q.2 else q.2)) hl1.sL hl1.ps nD (by omega) (fun _ _ => rfl) (fun q _ H6 _ => ⟨fun R r => r, fun _ R r => ⟨_, rfl, _, rfl, r⟩⟩) fun H2 sm2 hD => ?_⟩
    have k2 := k1.next sm2
    rw [List.filter_eq_self.mpr fun _ _ => rfl] at hD
    refine ⟨p, D, _, _, rfl, rfl, k2.at List.mem_cons_self, hD, ?_, fun lo nlo => ?_⟩
    · rw [List.length_map, prs_len]
      exact Nat.le_trans (show 1 + us.length ≤ 100 by omega) (by decide)
    refine ⟨lo, 0 :: (prs us).map (fun q => if q.2 < 0 then -q.2 else q.2), rfl, SqL.of ?_, Nat.succ_pos _, fun m _ hm => k m _ (fun q hq => ?_) fun b o e => ?_⟩
    · rw [upd_same, List.map_cons, List.map_map]
      rfl
    · have := hm _ (List.mem_cons_of_mem _ (List.mem_map.mpr ⟨q, hq, rfl⟩))
      split at this <;> omega
    · rw [upd_ne (ne_of_none (k2.sm _ _ e) nlo)]
      exact k2.sm _ _ e
end
end RV
namespace RV
open PySem L2 PyProof.Rows
section
variable {P : Program} {w : World} {K : PySem.W.Frag} {mg : Str → Option Value} {base : Heap} {C fr fm : Addr} {fo ro : Option Value}
theorem ok_step {f : Addr} {fd : FuncData} (F : Fun K "_law_step" "_law_step" s_step f fd) (T : Blt mg) (T2 : Blt2 mg) (SC : SClass K mg C)
    (h_dip : Fn P w K mg base "_law_dip" 1 ["_law_well_here", "_law_many"] (Irr sp_dip)) (h_pairs : Fn P w K mg base "_law_pairs" 4 ["_law_well_here", "_law_most"] (Irr sp_pairs)) (h_much : Fn P w K mg base "_law_much" 1 ["_law_pairs_here"] (Irr (sp_much K))) (h_sum_text : Fn P w K mg base "_law_sum_text" 1 ["_law_terms"] (Irr (sp_sumtext K)))
    (h_Sum : Mkr P w K mg base "Sum" C 4 (Irr (sp_Sum K C)) []) (h_str : OwnM P w K mg base C "__str__" 5 (Irr (sp_text C))) (h_read : ClsM P w K mg base C "read" 8 ["cls", "text"] (Irr (sp_read C)))
    (h_add : OwnM P w K mg base C "__add__" 6 (Irr (sp_addS C))) (h_sub : OwnM P w K mg base C "__sub__" 8 (Irr (sp_subS C))) (h_mul : OwnM P w K mg base C "__mul__" 6 (Irr (sp_mulS C))) (h_rmul : OwnM P w K mg base C "__rmul__" 7 (Irr (sp_mulS C))) (h_neg : OwnM P w K mg base C "__neg__" 7 (Irr (sp_negS C)))
    (hc : PySem.W.selfFirst K C = true) (hR : PySem.W.findIn K (.ref C) (dunderR "mul") = some (some (.ref fr))) (hM : PySem.W.findIn K (.ref C) (PySem.dunder "mul") = some (some (.ref fm)))
    (h1 : PySem.W.findIn K (.type "int") (PySem.dunder "mul") = some fo) (h2 : PySem.W.findIn K (.type "int") (dunderR "mul") = some ro) (hsub : PySem.W.subIn K (.type "int") (.ref C) = some false) (hsub' : PySem.W.subIn K (.ref C) (.type "int") = some false) : FnOk P w K mg base CX0 9 f fd ["_law_well_here", "_law_sums", "_law_models"] (sp_turn K C) := by
  refine F.ok sc_step (fun vs H Q E h => ?_) (fun cdv A outer s H vs Q E hr h => ?_)
  · obtain ⟨_, _, _, _, _, _, rfl, _⟩ := h
    rfl
  · obtain ⟨a, S, M, n, rs, pool, rfl, wl, hn, nS, nM, eS, eM, rl, hone, pl57, k⟩ := h
    have pl : pool.length ≤ 60 := by omega
    refine ⟨_, (pss_cons (ps_par3 (i := 3) (j := 4) (l := 5) (by rfl) sc_step.nd rfl rfl rfl (by decide) (by decide) (by decide) rfl rfl rfl (pa_cons (pe_fn h_dip (hr.mono (by decide)) (pa_cons (pv 0) (pa_cons pe_int pa_nil))) (pa_cons (pe_fn h_dip (hr.mono (by decide)) (pa_cons (pv 0) (pa_cons pe_int pa_nil))) (pa_cons (pe_fn h_dip (hr.mono (by decide)) (pa_cons (pv 0) (pa_cons pe_int pa_nil))) pa_nil))) (by rfl))
      (pss_cons (ps_set (i := 6) sc_step.nd rfl (Or.inl rfl) (pe_fn h_pairs (hr.mono (by decide)) (pa_cons (pv 0) (pa_cons pe_int pa_nil))))
      (pss_cons (ps_if (PW.pt (pw_or (pt_cmpR op_eq (pv 3) pe_int (nomark _)) (pw_or (pt_cmpR op_gt (pe_fn h_much (hr.mono (by decide)) (pa_cons (pe_ix ix_list (pv 2) (pv 4) (fun _ _ => rfl)) pa_nil)) (pe_op op_pow pe_int pe_int) (nomark _)) (pw_or1 (pt_cmpR op_gt (pe_fn h_much (hr.mono (by decide)) (pa_cons (pe_ix ix_list (pv 2) (pv 5) (fun _ _ => rfl)) pa_nil)) (pe_op op_pow pe_int pe_int) (nomark _)))))) (pss_one (ps_ret (pe_lst (pa_cons (pe_mk h_Sum (hr.mono (by decide)) (pa_cons (pe_callTy call_tuple_of (by rfl) T2.b_tuple (by decide +kernel) (pa_cons (pv 6) pa_nil)) pa_nil)) (pa_cons (pv 6) pa_nil))))) pss_nil)
      (pss_cons (ps_if (pt_cmpR op_eq (pv 3) pe_int (nomark _)) (pss_one (ps_ret (pe_lst (pa_cons (pe_op (op_binO h_add rfl hc (hr.mono (by decide))) (pe_ix ix_list (pv 1) (pv 4) (fun _ _ => rfl)) (pe_ix ix_list (pv 1) (pv 5) (fun _ _ => rfl))) (pa_cons (pe_op op_cat (pe_ix ix_list (pv 2) (pv 4) (fun _ _ => rfl)) (pe_ix ix_list (pv 2) (pv 5) (fun _ _ => rfl))) pa_nil))))) pss_nil)
      (pss_cons (ps_if (pt_cmpR op_eq (pv 3) pe_int (nomark _)) (pss_one (ps_ret (pe_lst (pa_cons (pe_op (op_binO h_sub rfl hc (hr.mono (by decide))) (pe_ix ix_list (pv 1) (pv 4) (fun _ _ => rfl)) (pe_ix ix_list (pv 1) (pv 5) (fun _ _ => rfl))) (pa_cons (pe_op op_cat (pe_ix ix_list (pv 2) (pv 4) (fun _ _ => rfl)) (pe_lc (own := [("_law_name_here", 8), ("_law_number_here", 9)]) (g := gPr K 8 9) (tt := tYes) rfl sc_step.nd (pi_list (pe_ix ix_list (pv 2) (pv 5) (fun _ _ => rfl))) (blkOk_by (N := sc_step_N) (sc := defScope s_step) (by decide +kernel)) (fun _ _ _ _ _ => pg_tupK (by rfl) (pgs_cons (pg_name (i := 8) sc_step.nd rfl (Or.inl rfl)) (pgs_cons (pg_name (i := 9) sc_step.nd rfl (Or.inl rfl)) pgs_nil))) (fun _ _ _ _ _ => pts_nil) (fun _ _ _ _ _ => (pe_tup (pa_cons (pv 8) (pa_cons (pe_op op_sub pe_int (pv 9)) pa_nil)))))) pa_nil))))) pss_nil)
      (pss_cons (ps_if (pt_cmpR op_eq (pv 3) pe_int (nomark _)) (pss_one (ps_ret (pe_lst (pa_cons (pe_un (un_negO h_neg (hr.mono (by decide))) (pe_ix ix_list (pv 1) (pv 4) (fun _ _ => rfl))) (pa_cons (pe_lc (own := [("_law_name_here", 8), ("_law_number_here", 9)]) (g := gPr K 8 9) (tt := tYes) rfl sc_step.nd (pi_list (pe_ix ix_list (pv 2) (pv 4) (fun _ _ => rfl))) (blkOk_by (N := sc_step_N) (sc := defScope s_step) (by decide +kernel)) (fun _ _ _ _ _ => pg_tupK (by rfl) (pgs_cons (pg_name (i := 8) sc_step.nd rfl (Or.inl rfl)) (pgs_cons (pg_name (i := 9) sc_step.nd rfl (Or.inl rfl)) pgs_nil))) (fun _ _ _ _ _ => pts_nil) (fun _ _ _ _ _ => (pe_tup (pa_cons (pv 8) (pa_cons (pe_op op_sub pe_int (pv 9)) pa_nil))))) pa_nil))))) pss_nil)
      (pss_cons (ps_if (pt_cmpR op_eq (pv 3) pe_int (nomark _)) (pss_cons (ps_set (i := 7) sc_step.nd rfl (Or.inr rfl) (pe_op op_sub (pe_fn h_dip (hr.mono (by decide)) (pa_cons (pv 0) (pa_cons pe_int pa_nil))) pe_int)) (pss_one (ps_ret (pe_lst (pa_cons (pe_op (op_mulI h_rmul hc hM h1 h2 hsub' (hr.mono (by decide))) (pv 7) (pe_ix ix_list (pv 1) (pv 4) (fun _ _ => rfl))) (pa_cons (pe_lc (own := [("_law_name_here", 8), ("_law_number_here", 9)]) (g := gPr K 8 9) (tt := tYes) rfl sc_step.nd (pi_list (pe_ix ix_list (pv 2) (pv 4) (fun _ _ => rfl))) (blkOk_by (N := sc_step_N) (sc := defScope s_step) (by decide +kernel)) (fun _ _ _ _ _ => pg_tupK (by rfl) (pgs_cons (pg_name (i := 8) sc_step.nd rfl (Or.inl rfl)) (pgs_cons (pg_name (i := 9) sc_step.nd rfl (Or.inl rfl)) pgs_nil))) (fun _ _ _ _ _ => pts_nil) (fun _ _ _ _ _ => (pe_tup (pa_cons (pv 8) (pa_cons (pe_op op_mulW (pv 7) (pv 9)) pa_nil))))) pa_nil)))))) pss_nil)
      (pss_cons (ps_if (pt_cmpR op_eq (pv 3) pe_int (nomark _)) (pss_cons (ps_set (i := 7) sc_step.nd rfl (Or.inr rfl) (pe_op op_sub (pe_fn h_dip (hr.mono (by decide)) (pa_cons (pv 0) (pa_cons pe_int pa_nil))) pe_int)) (pss_one (ps_ret (pe_lst (pa_cons (pe_op (op_mulO h_mul hc hR h1 h2 hsub (hr.mono (by decide))) (pe_ix ix_list (pv 1) (pv 4) (fun _ _ => rfl)) (pv 7)) (pa_cons (pe_lc (own := [("_law_name_here", 8), ("_law_number_here", 9)]) (g := gPr K 8 9) (tt := tYes) rfl sc_step.nd (pi_list (pe_ix ix_list (pv 2) (pv 4) (fun _ _ => rfl))) (blkOk_by (N := sc_step_N) (sc := defScope s_step) (by decide +kernel)) (fun _ _ _ _ _ => pg_tupK (by rfl) (pgs_cons (pg_name (i := 8) sc_step.nd rfl (Or.inl rfl)) (pgs_cons (pg_name (i := 9) sc_step.nd rfl (Or.inl rfl)) pgs_nil))) (fun _ _ _ _ _ => pts_nil) (fun _ _ _ _ _ => (pe_tup (pa_cons (pv 8) (pa_cons (pe_op op_mulW (pv 7) (pv 9)) pa_nil))))) pa_nil)))))) pss_nil)
      (pss_cons (ps_if (pt_cmpR op_eq (pv 3) pe_int (nomark _)) (pss_one (ps_ret (pe_lst (pa_cons (pe_cm h_read (hr.mono (by decide)) (pe_gC SC.k) (pa_cons (pe_fn h_sum_text (hr.mono (by decide)) (pa_cons (pe_ix ix_list (pv 2) (pv 4) (fun _ _ => rfl)) pa_nil)) pa_nil)) (pa_cons (pe_ix ix_list (pv 2) (pv 4) (fun _ _ => rfl)) pa_nil))))) pss_nil)
      (pss_one (ps_ret (pe_lst (pa_cons (pe_op (op_binO h_add rfl hc (hr.mono (by decide))) (pe_cm h_read (hr.mono (by decide)) (pe_gC SC.k) (pa_cons (pe_callTy (call_strO h_str (hr.mono (by decide))) (by rfl) T.b_str (by decide +kernel) (pa_cons (pe_ix ix_list (pv 1) (pv 4) (fun _ _ => rfl)) pa_nil)) pa_nil)) (pe_mk h_Sum (hr.mono (by decide)) (pa_cons (pe_callTy call_tuple_of (by rfl) T2.b_tuple (by decide +kernel) (pa_cons (pv 6) pa_nil)) pa_nil))) (pa_cons (pe_op op_cat (pe_ix ix_list (pv 2) (pv 4) (fun _ _ => rfl)) (pv 6)) pa_nil)))))))))))))), ?_⟩
    have h0 := Has.start wl
    refine ⟨_, rfl, dip_step h0 (by omega) (by decide) (by decide) fun way H1 w0 w1 h1' => ⟨_, rfl, dip_step h1' (by omega) (by decide) (by decide) fun one H2 o0 o1 h2' => ⟨_, rfl, dip_step h2' (by omega) (by decide) (by decide) fun two H3 t0 t1 h3' => ⟨_, _, _, rfl, ?_⟩⟩⟩⟩
    refine ⟨_, rfl, pairs_step h3' (by omega) (by decide) fun ps lp H4 pp nlp h4 => ?_⟩
    rw [List.append_nil] at h4
    dsimp only [gName]
    clear h0 h1' h2' h3' nlp
    obtain ⟨io, rfl⟩ := Int.eq_ofNat_of_zero_le o0
    obtain ⟨it, rfl⟩ := Int.eq_ofNat_of_zero_le t0
    have hio : io < rs.length := by omega
    have hit : it < rs.length := by omega
    obtain ⟨wx, wy, wz, ew, _⟩ := id wl
    -- the sums and the models, as long as all but the well stands
    have on : ∀ {H'} (_ : Grow a H H') {r}, r ∈ rs → One K C H' r := fun {H'} g {r} hr => ⟨(hone r hr).1.sr.gro ew g, (hone r hr).1.ls.gro (hone r hr).2.2 ew g⟩
    have sS : ∀ {H'}, Grow a H H' → SqL K H' S (vS rs) := fun {H'} g => SqL.of (g _ _ nS eS)
    have sM : ∀ {H'}, Grow a H H' → SqL K H' M (vM rs) := fun {H'} g => SqL.of (g _ _ nM eM)
    have aS : ∀ {i : Nat} (h : i < rs.length), atI (vS rs) (i : Int) = some (V.ref rs[i].1) := fun {i} h => atI_nat (by rw [vS, List.getElem?_map, List.getElem?_eq_getElem h]; rfl)
    have aM : ∀ {i : Nat} (h : i < rs.length), atI (vM rs) (i : Int) = some (V.ref rs[i].2.1) := fun {i} h => atI_nat (by rw [vM, List.getElem?_map, List.getElem?_eq_getElem h]; rfl)
    have mo : rs[io] ∈ rs := List.getElem_mem hio
    have mt : rs[it] ∈ rs := List.getElem_mem hit
    have fo' := (hone _ mo).2.1
    have ft' := (hone _ mt).2.1
    have ro := fo'.raw pl
    have rt := ft'.raw pl
    have lo : rs[io].2.2.length ≤ 60 := Nat.le_trans fo'.len pl
    have lt : rs[it].2.2.length ≤ 60 := Nat.le_trans ft'.len pl
    replace pp : Pairs ps 3 := pp
    have b8 : big * 2 ^ 3 ≤ 10 ^ 31 := by decide
    have rp : Raw (prs ps) 3 (10 ^ 31) := ⟨pp.nm, by rw [prs_len]; exact pp.ln, by have := pp.gr; omega⟩
    -- the answer
    have fin : ∀ {n' : Nat} {L : List (Addr × HO)} (x l : Addr) (us : List TP) (new : List Str) (H' : Hp), n' ≤ n + 1010 → Has H a n' L H' → Own C H' x (prs us) → Lsp K H' l us → us.length ≤ 120 → (∀ q ∈ prs us, IsNm q.1 ∧ q.1 ∈ pool ++ new) → new.length ≤ 3 → (∀ y, (co (prs us) y).natAbs ≤ lim) →
        ∀ p, H' p = none → Q (.ref p) (upd H' p (.lst [.ref x, .ref l])) := fun {n' L} x l us new H' hn' hh ow ls lu pq nw cl p np => by
      have s : Same H' (upd H' p (.lst [.ref x, .ref l])) := fun b o e => by rw [upd_ne (ne_of_none e np)]; exact e
      have h' := (hh.new (o := .lst [.ref x, .ref l]) np).wm hn'
      exact k p x l us new _ upd_same (ow.ext s) (ls.ext s) lu pq nw cl h'.gr h'.well
    have old : ∀ {us : List TP} (_ : ∀ q ∈ prs us, q.1 ∈ (prs rs[io].2.2).map (·.1)), ∀ q ∈ prs us, IsNm q.1 ∧ q.1 ∈ pool ++ [] := fun {us} hq q hqu => by
      obtain ⟨r, hr, e⟩ := List.mem_map.mp (hq q hqu)
      rw [List.append_nil, ← e]
      exact ⟨fo'.nm r hr, fo'.pl r hr⟩
    refine seq_of (fun σ' H' => σ' = [some (.ref a), some (.ref S), some (.ref M), some (.int way), some (.int (io : Int)), some (.int (it : Int)), some (.ref lp), none, none, none] ∧ Has H a (n + 1003) (lT lp ps) H' ∧ (∀ q ∈ prs rs[io].2.2, q.2.natAbs ≤ 10 ^ 33) ∧ (∀ q ∈ prs rs[it].2.2, q.2.natAbs ≤ 10 ^ 33)) ?rest (fun N hN => ?main)
    case main =>
      have e33 : ∀ {m : Int}, ¬ m > 10 ^ 33 → ∀ {x : Int}, (x.natAbs : Int) ≤ m → x.natAbs ≤ 10 ^ 33 := fun h {x} h2 => by omega
      unfold tIfS
      refine tst_of (fun b H' => Has H a (n + 1003) (lT lp ps) H' ∧ (b = false → (∀ q ∈ prs rs[io].2.2, q.2.natAbs ≤ 10 ^ 33) ∧ ∀ q ∈ prs rs[it].2.2, q.2.natAbs ≤ 10 ^ 33)) ?ret ?tst
      case tst =>
        intro Q' hQ'
        have h4' : Has H a (n + 1003) (lT lp ps) H4 := h4.wm (by omega)
        refine ⟨_, rfl, rfl, _, rfl, ite2 (fun _ => hQ' _ _ ⟨h4', fun e => nomatch e⟩) fun _ => ?_⟩
        refine ⟨_, rfl, _, rfl, M, _, _, _, rfl, rfl, sM h4'.gr, aM hio, irr ⟨_, _, rfl, (on h4'.gr mo).ls, lo, fun m1 H6 b1 s6 => ?_⟩⟩
        have h6 := h4'.same s6
        refine ⟨_, _, rfl, rfl, ⟨by decide, by decide, by decide⟩, _, _, rfl, rfl, _, rfl, ite2 (fun _ => hQ' _ _ ⟨h6, fun e => nomatch e⟩) fun g1 => ?_⟩
        refine ⟨_, rfl, _, rfl, M, _, _, _, rfl, rfl, sM h6.gr, aM hit, irr ⟨_, _, rfl, (on h6.gr mt).ls, lt, fun m2 H7 b2 s7 => ?_⟩⟩
        have h7 := h6.same s7
        refine ⟨_, _, rfl, rfl, ⟨by decide, by decide, by decide⟩, _, _, rfl, rfl, _, rfl, hQ' _ _ ⟨h7, fun g2 => ⟨fun q hq => ?_, fun q hq => ?_⟩⟩⟩
        · have := b1 q hq
          have e : ((33 : Int)).toNat = 33 := rfl
          rw [e] at g1
          by_cases z : (10 : Int) ^ 33 < m1
          · exact absurd (decide_eq_true z) g1
          · omega
        · have := b2 q hq
          have e : ((33 : Int)).toNat = 33 := rfl
          rw [e] at g2
          have := of_decide_eq_false g2
          omega
      rintro b H6 ⟨h6, hb⟩
      cases b with
      | true =>
        refine iteT ?_
        have l6 := h6.lsp (K := K)
        refine ⟨_, rfl, lp, vP ps, rfl, .inl ⟨l6.sL, fun t7 nt7 => ?_⟩⟩
        have s7 : Same H6 (upd H6 t7 (.tup (vP ps))) := fun b o e => (upd_ne (ne_of_none e nt7)).trans e
        refine fun x8 d8 hx8 hd8 ne8 => made_step (us := ps) (SqT.of upd_same) (l6.ext s7).ps rp (by decide) hx8 hd8 ne8 fun H8 o8 s8 => ⟨_, rfl, (by show 2 ≤ sizeLine; decide), ?_⟩
        have h8 := (h6.same s7).same s8
        refine fin x8 lp ps ((prs ps).map (·.1)) H8 (by omega) h8 o8 h8.lsp (by have := pp.ln; omega) (fun q hq => ⟨pp.nm q hq, List.mem_append_right _ (List.mem_map.mpr ⟨q, hq, rfl⟩)⟩) ?_ fun y => ?_
        · rw [List.length_map, prs_len]
          exact pp.ln
        · exact Nat.le_trans (co_le _ _) (Nat.le_trans rp.tt (by decide))
      | false => exact iteF (hN _ _ ⟨rfl, h6, hb rfl⟩)
    rintro σ5 H5 ⟨rfl, h5, bo, bt⟩
    have lme : lim = 3 * 10 ^ 33 := rfl
    have cb : ∀ y, (co (prs rs[io].2.2) y).natAbs ≤ 10 ^ 33 := fo'.co bo
    have ct : ∀ y, (co (prs rs[it].2.2) y).natAbs ≤ 10 ^ 33 := ft'.co bt
    have so : ∀ q ∈ prs rs[io].2.2, q.2.natAbs < 10 ^ 60 := fun q hq => Nat.lt_of_le_of_lt (bo q hq) (by decide)
    have st : ∀ q ∈ prs rs[it].2.2, q.2.natAbs < 10 ^ 60 := fun q hq => Nat.lt_of_le_of_lt (bt q hq) (by decide)
    have c60 : 60 * lim ≤ 10 ^ 42 := by decide
    have pot : ∃ pool : List Str, pool.length ≤ 60 ∧ ∀ q ∈ prs rs[io].2.2 ++ prs rs[it].2.2, q.1 ∈ pool := ⟨pool, Nat.le_trans pl (by decide), fun q hq => (List.mem_append.mp hq).elim (fo'.pl q) (ft'.pl q)⟩
    have pop : ∃ pool : List Str, pool.length ≤ 60 ∧ ∀ q ∈ prs rs[io].2.2 ++ prs ps, q.1 ∈ pool := by
      refine ⟨pool ++ (prs ps).map (·.1), ?_, fun q hq => (List.mem_append.mp hq).elim (fun z => List.mem_append_left _ (fo'.pl q z)) fun z => List.mem_append_right _ (List.mem_map.mpr ⟨q, z, rfl⟩)⟩
      rw [List.length_append, List.length_map, prs_len]
      have := pp.ln
      omega
    -- way 1
    refine ⟨_, rfl, rfl, _, rfl, ite2 (fun _ => ?_) fun _ => ?_⟩
    · have o1 := on h5.gr mo
      have o2 := on h5.gr mt
      refine ⟨_, rfl, _, rfl, S, _, _, _, rfl, rfl, sS h5.gr, aS hio, _, rfl, _, rfl, S, _, _, _, rfl, rfl, sS h5.gr, aS hit, add_step2 (o1.sr.own fo'.nr) (o2.sr.own ft'.nr) ro rt (by decide) (by decide) pot c60 c60 fun x6 H6 ow6 s6 => ?_⟩
      have h6 := h5.same s6
      refine ⟨_, rfl, _, rfl, M, _, _, _, rfl, rfl, sM h6.gr, aM hio, _, rfl, _, rfl, M, _, _, _, rfl, rfl, sM h6.gr, aM hit, cat_step (on h6.gr mo).ls (on h6.gr mt).ls (by omega) fun l7 H7 ll7 s7 => ⟨(by show 2 ≤ sizeLine; decide), ?_⟩⟩
      refine fin x6 l7 (rs[io].2.2 ++ rs[it].2.2) [] H7 (by omega) (h6.same s7) (by rw [prs_app]; exact ow6.ext s7) ll7 (by rw [List.length_append]; omega) (fun q hq => ?_) (by decide) fun y => ?_
      · rw [prs_app] at hq
        rw [List.append_nil]
        rcases List.mem_append.mp hq with hq | hq
        · exact ⟨fo'.nm q hq, fo'.pl q hq⟩
        · exact ⟨ft'.nm q hq, ft'.pl q hq⟩
      · rw [prs_app, co_app]
        have := cb y
        have := ct y
        omega
    -- way 2
    refine ⟨_, rfl, rfl, _, rfl, ite2 (fun _ => ?_) fun _ => ?_⟩
    · have o1 := on h5.gr mo
      have o2 := on h5.gr mt
      refine ⟨_, rfl, _, rfl, S, _, _, _, rfl, rfl, sS h5.gr, aS hio, _, rfl, _, rfl, S, _, _, _, rfl, rfl, sS h5.gr, aS hit, sub_step2 (o1.sr.own fo'.nr) (o2.sr.own ft'.nr) ro rt (by decide) (by decide) pot c60 c60 fun x6 H6 ow6 s6 => ?_⟩
      have h6 := h5.same s6
      have l6 := (on h6.gr mt).ls
      refine ⟨_, rfl, _, rfl, M, _, _, _, rfl, rfl, sM h6.gr, aM hio, _, rfl, _, rfl, M, _, _, _, rfl, rfl, sM h6.gr, aM hit, rs[it].2.1, rfl, ⟨_, l6.sL⟩, fun D nD => lc_scl (-1) l6 nD (by omega) (fun _ _ => rfl) (fun q' hq' H2 s2 R kR => ?_) fun ws H7 hws ll7 s7 => ?_⟩
      · refine ⟨_, rfl, _, rfl, _, _, rfl, rfl, (by show 2 ≤ sizeLine; decide), fun t' nt' => ?_⟩
        have := kR t' nt'
        rw [show -1 * q'.2 = (0 : Int) - q'.2 by omega] at this
        exact this
      · have wl : ws.length ≤ 60 := by rw [← prs_len, hws, scl_len, prs_len]; exact lt
        have h7 := h6.same s7
        refine cat_step ((on h7.gr mo).ls) ll7 (by omega) fun l8 H8 ll8 s8 => ⟨(by show 2 ≤ sizeLine; decide), ?_⟩
        refine fin x6 l8 (rs[io].2.2 ++ ws) [] H8 (by omega) (h7.same s8) (by rw [prs_app, hws]; exact (ow6.ext s7).ext s8) ll8 (by rw [List.length_append]; omega) (fun q hq => ?_) (by decide) fun y => ?_
        · rw [prs_app, hws] at hq
          rw [List.append_nil]
          rcases List.mem_append.mp hq with hq | hq
          · exact ⟨fo'.nm q hq, fo'.pl q hq⟩
          · obtain ⟨r, hr, rfl⟩ := List.mem_map.mp hq
            exact ⟨ft'.nm r hr, ft'.pl r hr⟩
        · rw [prs_app, co_app, hws, scl_co]
          have := cb y
          have := ct y
          omega
    -- way 3
    have scn : ∀ {ws : List TP} {i : Int}, prs ws = scl i (prs rs[io].2.2) → ws.length ≤ 120 ∧ ∀ q ∈ prs ws, IsNm q.1 ∧ q.1 ∈ pool ++ [] := fun {ws i} hws => by
      refine ⟨?_, old fun q hq => ?_⟩
      · rw [← prs_len, hws, scl_len, prs_len]
        omega
      · rw [hws] at hq
        obtain ⟨r, hr, rfl⟩ := List.mem_map.mp hq
        exact List.mem_map.mpr ⟨r, hr, rfl⟩
    have scb : ∀ {ws : List TP} {i : Int}, prs ws = scl i (prs rs[io].2.2) → i.natAbs ≤ 3 → ∀ y, (co (prs ws) y).natAbs ≤ lim := fun {ws i} hws hi y => by
      rw [hws, scl_co, Int.natAbs_mul]
      exact Nat.mul_le_mul hi (cb y)
    refine ⟨_, rfl, rfl, _, rfl, ite2 (fun _ => ?_) fun _ => ?_⟩
    · have o1 := on h5.gr mo
      refine ⟨_, rfl, _, rfl, S, _, _, _, rfl, rfl, sS h5.gr, aS hio, neg_step (o1.sr.own fo'.nr) ro (by decide) c60 fun x6 H6 ow6 s6 => ?_⟩
      have h6 := h5.same s6
      have l6 := (on h6.gr mo).ls
      refine ⟨_, rfl, _, rfl, M, _, _, _, rfl, rfl, sM h6.gr, aM hio, rs[io].2.1, rfl, ⟨_, l6.sL⟩, fun D nD => lc_scl (-1) l6 nD (by omega) (fun _ _ => rfl) (fun q' hq' H2 s2 R kR => ?_) fun ws H7 hws ll7 s7 => ?_⟩
      · refine ⟨_, rfl, _, rfl, _, _, rfl, rfl, (by show 2 ≤ sizeLine; decide), fun t' nt' => ?_⟩
        have := kR t' nt'
        rw [show -1 * q'.2 = (0 : Int) - q'.2 by omega] at this
        exact this
      · exact ⟨(by show 2 ≤ sizeLine; decide), fin x6 D ws [] H7 (by omega) (h6.same s7) (by rw [hws]; exact ow6.ext s7) ll7 (scn hws).1 (scn hws).2 (by decide) (scb hws (by decide))⟩
    -- way 4
    refine ⟨_, rfl, rfl, _, rfl, ite2 (fun _ => ?_) fun _ => ?_⟩
    · refine ⟨_, rfl, dip_step h5 (by omega) (by decide) (by decide) fun tm H6 m0 m1 h6 => ⟨_, _, rfl, rfl, ?_⟩⟩
      have tb : (tm - 3).natAbs ≤ 3 := by omega
      have tw : (tm - 3).natAbs < 10 ^ 60 := by omega
      dsimp only [gName]
      refine ⟨_, rfl, _, rfl, _, rfl, S, _, _, _, rfl, rfl, sS h6.gr, aS hio, mulI_step ((on h6.gr mo).sr.own fo'.nr) ro (by decide) c60 tw fun x7 H7 ow7 s7 => ?_⟩
      have h7 := h6.same s7
      have l7 := (on h7.gr mo).ls
      refine ⟨_, rfl, _, rfl, M, _, _, _, rfl, rfl, sM h7.gr, aM hio, rs[io].2.1, rfl, ⟨_, l7.sL⟩, fun D nD => lc_scl (tm - 3) l7 nD (by omega) (fun _ _ => rfl) (fun q' hq' H2 s2 R kR => ?_) fun ws H8 hws ll8 s8 => ?_⟩
      · exact ⟨_, rfl, _, rfl, _, rfl, _, _, rfl, rfl, mulW tw (so _ hq'), (by show 2 ≤ sizeLine; decide), fun t' nt' => kR t' nt'⟩
      · exact ⟨(by show 2 ≤ sizeLine; decide), fin x7 D ws [] H8 (by omega) (h7.same s8) (by rw [hws]; exact ow7.ext s8) ll8 (scn hws).1 (scn hws).2 (by decide) (scb hws tb)⟩
    -- way 5
    refine ⟨_, rfl, rfl, _, rfl, ite2 (fun _ => ?_) fun _ => ?_⟩
    · refine ⟨_, rfl, dip_step h5 (by omega) (by decide) (by decide) fun tm H6 m0 m1 h6 => ⟨_, _, rfl, rfl, ?_⟩⟩
      have tb : (tm - 3).natAbs ≤ 3 := by omega
      have tw : (tm - 3).natAbs < 10 ^ 60 := by omega
      dsimp only [gName]
      refine ⟨_, rfl, _, rfl, S, _, _, _, rfl, rfl, sS h6.gr, aS hio, _, rfl, mulO_step ((on h6.gr mo).sr.own fo'.nr) ro (by decide) c60 tw fun x7 H7 ow7 s7 => ?_⟩
      have h7 := h6.same s7
      have l7 := (on h7.gr mo).ls
      refine ⟨_, rfl, _, rfl, M, _, _, _, rfl, rfl, sM h7.gr, aM hio, rs[io].2.1, rfl, ⟨_, l7.sL⟩, fun D nD => lc_scl (tm - 3) l7 nD (by omega) (fun _ _ => rfl) (fun q' hq' H2 s2 R kR => ?_) fun ws H8 hws ll8 s8 => ?_⟩
      · exact ⟨_, rfl, _, rfl, _, rfl, _, _, rfl, rfl, mulW tw (so _ hq'), (by show 2 ≤ sizeLine; decide), fun t' nt' => kR t' nt'⟩
      · exact ⟨(by show 2 ≤ sizeLine; decide), fin x7 D ws [] H8 (by omega) (h7.same s8) (by rw [hws]; exact ow7.ext s8) ll8 (scn hws).1 (scn hws).2 (by decide) (scb hws tb)⟩
    -- way 6
    refine ⟨_, rfl, rfl, _, rfl, ite2 (fun _ => ?_) fun _ => ?_⟩
    · have o5 := on h5.gr mo
      have du := fo'.due pl
      refine ⟨rfl, _, rfl, _, rfl, M, _, _, _, rfl, rfl, sM h5.gr, aM hio, sumtext_step o5.ls.sL o5.ls.ps du (irr ⟨prs rs[io].2.2, rfl, du, fun x6 dx6 m6 us6 H6 e6 k6 => ?_⟩)⟩
      have h6 := h5.same k6.sm
      have ow6 : SumR C H6 x6 (prs us6) := SumR.of fun p hp => k6.at hp
      rw [e6] at ow6
      refine ⟨_, rfl, _, rfl, M, _, _, _, rfl, rfl, sM h6.gr, aM hio, (by show 2 ≤ sizeLine; decide), fin x6 rs[io].2.1 rs[io].2.2 [] H6 (by omega) h6 (ow6.own fo'.nr) (on h6.gr mo).ls (by omega) (old fun q hq => List.mem_map.mpr ⟨q, hq, rfl⟩) (by decide) fun y => Nat.le_trans (cb y) (by decide)⟩
    -- way 7
    have du := fo'.due pl
    have o5 := on h5.gr mo
    obtain ⟨dx5, fs5, q5⟩ := o5.sr.ins
    refine ⟨rfl, _, rfl, _, rfl, S, _, _, _, rfl, rfl, sS h5.gr, aS hio, rs[io].1, dx5, _, rfl, q5, irr ⟨rs[io].1, prs rs[io].2.2, rfl, o5.sr, fun q hq => ⟨du.nm q hq, Nat.lt_of_le_of_lt (tot_mem hq) (Nat.lt_of_le_of_lt du.tt (by decide))⟩, Nat.le_trans du.ln (by decide), fun H6 s6 => ?_⟩⟩
    have h6 := h5.same s6
    refine ⟨_, rfl, irr ⟨prs rs[io].2.2, rfl, du, fun x7 dx7 m7 us7 H7 e7 k7 => ?_⟩⟩
    have h7 := h6.same k7.sm
    have sr7 : SumR C H7 x7 (prs us7) := SumR.of fun p hp => k7.at hp
    rw [e7] at sr7
    have l7 := h7.lsp (K := K)
    refine ⟨_, rfl, lp, vP ps, rfl, .inl ⟨l7.sL, fun t8 nt8 => ?_⟩⟩
    have s8 : Same H7 (upd H7 t8 (.tup (vP ps))) := fun b o e => (upd_ne (ne_of_none e nt8)).trans e
    refine fun x9 d9 hx9 hd9 ne9 => made_step (us := ps) (SqT.of upd_same) (l7.ext s8).ps rp (by decide) hx9 hd9 ne9 fun H9 o9 s9 => ?_
    have s79 : Same H7 H9 := fun b o e => s9 b o (s8 b o e)
    have h9 := h7.same s79
    refine add_step2 ((sr7.ext s79).own fo'.nr) o9 ro rp (by decide) (by decide) pop c60 (by decide) fun x10 H10 ow10 s10 => ?_
    have h10 := h9.same s10
    refine ⟨_, rfl, _, rfl, M, _, _, _, rfl, rfl, sM h10.gr, aM hio, _, rfl, cat_step (on h10.gr mo).ls h10.lsp (by have := pp.ln; omega) fun l11 H11 ll11 s11 => ⟨(by show 2 ≤ sizeLine; decide), ?_⟩⟩
    refine fin x10 l11 (rs[io].2.2 ++ ps) ((prs ps).map (·.1)) H11 (by omega) (h10.same s11) (by rw [prs_app]; exact ow10.ext s11) ll11 (by have := pp.ln; rw [List.length_append]; omega) (fun q hq => ?_) ?_ fun y => ?_
    · rw [prs_app] at hq
      rcases List.mem_append.mp hq with hq | hq
      · exact ⟨fo'.nm q hq, List.mem_append_left _ (fo'.pl q hq)⟩
      · exact ⟨pp.nm q hq, List.mem_append_right _ (List.mem_map.mpr ⟨q, hq, rfl⟩)⟩
    · rw [List.length_map, prs_len]
      exact pp.ln
    · rw [prs_app, co_app]
      have := cb y
      have z := Nat.le_trans (co_le (prs ps) y) rp.tt
      have : (10 : Nat) ^ 31 ≤ 10 ^ 33 := by decide
      omega
end
end RV
namespace RV
open PySem L2 PyProof.Rows
section
variable {P : Program} {w : World} {K : PySem.W.Frag} {mg : Str → Option Value} {base : Heap} {C : Addr}
theorem ok_all_right {f : Addr} {fd : FuncData} (F : Fun K "_law_all_right" "_law_all_right" s_all_right f fd) (T : Blt mg) (T2 : Blt2 mg) (SK : SKinds K C) (h_sum_text : Fn P w K mg base "_law_sum_text" 1 ["_law_terms"] (Irr (sp_sumtext K)))
    (h_terms : Prp P w K mg base C "terms" 1 (Irr (sp_terms C))) (h_str : OwnM P w K mg base C "__str__" 5 (Irr (sp_text C))) (o_S : OwnEq P w K mg base C 1 (sp_eqS K C)) : FnG P w K mg base 8 f fd ["_law_sums", "_law_models"] (sp_allr K C) := by
  refine gFun F sc_all_right (fun vs H Q E h => ?_) (fun cdv A outer s H vs Q E gs hr h => ?_)
  · obtain ⟨_, _, _, rfl, _⟩ := h
    rfl
  · obtain ⟨S, M, rs, rfl, hS, hM, hr1, rl, k⟩ := h
    refine ⟨_, (pss_cons (ps_for PassesOwn.never rfl (pi_range1 rfl T.b_range (pa_cons (pe_callB call_len_seq (by rfl) T.b_len (by decide +kernel) (pa_cons (pv 0) pa_nil)) pa_nil)) (pg_name (i := 2) sc_all_right.nd rfl (Or.inr rfl)) (pss_cons (ps_if (PW.pt (pw_or (pt_cmpR op_ne (pe_callB (call_reprD hr.units gs) (by rfl) T.b_repr (by decide +kernel) (pa_cons (pe_propN h_terms (hr.mono (by decide)) (pe_ix ix_list (pv 0) (pv 2) (fun _ _ => rfl))) pa_nil)) (pe_callB (call_reprD hr.units gs) (by rfl) T.b_repr (by decide +kernel) (pa_cons (pe_callTy call_tuple_of (by rfl) T2.b_tuple (by decide +kernel) (pa_cons (pe_ix ix_list (pv 1) (pv 2) (fun _ _ => rfl)) pa_nil)) pa_nil)) (nomark _)) (pw_or1 (pt_cmpR op_ne (pe_callTy (call_strO h_str (hr.mono (by decide))) (by rfl) T.b_str (by decide +kernel) (pa_cons (pe_ix ix_list (pv 0) (pv 2) (fun _ _ => rfl)) pa_nil)) (pe_fn h_sum_text (hr.mono (by decide)) (pa_cons (pe_ix ix_list (pv 1) (pv 2) (fun _ _ => rfl)) pa_nil)) (nomark _))))) (pss_one (ps_ret pe_bl)) pss_nil) (pss_one (ps_if (pt_cmpR (op_neD hr.units) (pe_lc (own := [("_law_other", 3)]) (g := gName 3) (tt := tYes) rfl sc_all_right.nd (pi_list (pv 0)) (blkOk_by (N := sc_all_right_N) (sc := defScope s_all_right) (by decide +kernel)) (fun _ _ _ _ _ => pg_name (i := 3) sc_all_right.nd rfl (Or.inl rfl)) (fun _ _ _ _ _ => pts_nil) (fun _ _ _ _ _ => (pe_cmpR (op_eqOK o_S (hr.mono (by decide))) (pe_ix ix_listK (pv 0) (pv 2) (fun _ _ => rfl)) (pv 3) (nomark _)))) (pe_lc (own := [("_law_other", 3)]) (g := gName 3) (tt := tYes) rfl sc_all_right.nd (pi_list (pv 1)) (blkOk_by (N := sc_all_right_N) (sc := defScope s_all_right) (by decide +kernel)) (fun _ _ _ _ _ => pg_name (i := 3) sc_all_right.nd rfl (Or.inl rfl)) (fun _ _ _ _ _ => pts_nil) (fun _ _ _ _ _ => (pe_cmpR (op_eqDK hr.units) (pe_ix ix_listK (pv 1) (pv 2) (fun _ _ => rfl)) (pv 3) (nomark _)))) (nomark _)) (pss_one (ps_ret pe_bl)) pss_nil))))
      (pss_one (ps_ret pe_bl))), ?_⟩
    have aS : ∀ {i : Nat} (h : i < rs.length), atI (vS rs) (0 + (i : Int)) = some (V.ref rs[i].1) := fun {i} h => by
      rw [Int.zero_add]
      exact atI_nat (by rw [vS, List.getElem?_map, List.getElem?_eq_getElem h]; rfl)
    have aM : ∀ {i : Nat} (h : i < rs.length), atI (vM rs) (0 + (i : Int)) = some (V.ref rs[i].2.1) := fun {i} h => by
      rw [Int.zero_add]
      exact atI_nat (by rw [vM, List.getElem?_map, List.getElem?_eq_getElem h]; rfl)
    refine ⟨_, rfl, S, vS rs, rfl, .inl hS, ?_⟩
    rw [show (vS rs).length = rs.length from List.length_map _]
    refine ⟨_, rfl, Int.natCast_nonneg _, by omega, for_range (lo := 0) (n := rs.length) (fun i σ H' => Same H H' ∧ ∃ o2 o3, σ = [some (.ref S), some (.ref M), o2, o3]) ⟨Same.refl H, none, none, rfl⟩ ?_ ?_⟩
    · rintro i σ H1 hi ⟨s1, o2, o3, rfl⟩
      have hm : rs[i] ∈ rs := List.getElem_mem hi
      obtain ⟨on, du⟩ := hr1 _ hm
      have on1 := on.ext s1
      have hS1 := hS.ext s1
      have hM1 := hM.ext s1
      obtain ⟨dx, t, ts, ets, q⟩ := id on1.sr
      have tl : ts.length ≤ 60 := by rw [← prs_len, ets]; exact du.ln
      have dl : rs[i].2.2.length ≤ 60 := by rw [← prs_len]; exact du.ln
      dsimp only [gName]
      refine ⟨_, rfl, _, rfl, S, _, _, _, rfl, rfl, hS1, aS hi, rs[i].1, dx, _, rfl, q _ List.mem_cons_self, irr ⟨rs[i].1, dx, t, ts, rfl, q, ?_⟩⟩
      refine repr_pairs (us := ts) (SqT.of (q _ (List.mem_cons_of_mem _ List.mem_cons_self))) (fun u hu => SqT.of (q _ (List.mem_cons_of_mem _ (List.mem_cons_of_mem _ (List.mem_map.mpr ⟨u, hu, rfl⟩))))) (ets ▸ du.nm) (ets ▸ du.tt) (by omega) ?_
      refine ⟨_, rfl, _, rfl, M, _, _, _, rfl, rfl, hM1, aM hi, rs[i].2.1, _, rfl, .inl ⟨on1.ls.sL, fun t3 nt3 => ?_⟩⟩
      have s3 : Same H1 (upd H1 t3 (.tup (vP rs[i].2.2))) := fun b o e => by rw [upd_ne (ne_of_none e nt3)]; exact e
      refine repr_pairs (us := rs[i].2.2) (SqT.of upd_same) (on1.ls.ps.ext s3) du.nm du.tt (by omega) ⟨rfl, _, rfl, ?_⟩
      rw [ets]
      refine ite2 (fun h => ?_) (fun _ => ?_)
      · simp at h
      have s13 : Same H (upd H1 t3 (.tup (vP rs[i].2.2))) := fun b o e => s3 b o (s1 b o e)
      revert s13
      generalize upd H1 t3 (.tup (vP rs[i].2.2)) = H3
      intro s13
      have on3 := on.ext s13
      obtain ⟨dx3, fs3, q3⟩ := on3.sr.ins
      refine ⟨_, rfl, _, rfl, S, _, _, _, rfl, rfl, hS.ext s13, aS hi, rs[i].1, dx3, _, rfl, q3, irr ⟨rs[i].1, prs rs[i].2.2, rfl, on3.sr, fun q hq => ⟨du.nm q hq, Nat.lt_of_le_of_lt (tot_mem hq) (Nat.lt_of_le_of_lt du.tt (by decide))⟩, Nat.le_trans du.ln (by decide), fun H4 s4 => ⟨_, rfl, ?_⟩⟩⟩
      have s14 : Same H H4 := fun b o e => s4 b o (s13 b o e)
      have on4 := on.ext s14
      refine ⟨_, rfl, _, rfl, M, _, _, _, rfl, rfl, hM.ext s14, aM hi, sumtext_step on4.ls.sL on4.ls.ps du ⟨rfl, _, rfl, ?_⟩⟩
      refine ite2 (fun h => ?_) (fun _ => ?_)
      · simp at h
      -- the comparisons
      refine ⟨_, rfl, S, rfl, ⟨_, hS.ext s14⟩, fun D nD => lc_bools (rs := rs) (fun r => .ref r.1) (fun r => decide (prs rs[i].2.2 = prs r.2.2)) (hS.ext s14) nD (by omega) (fun _ => rfl) (fun r hr H5 s5 R kR => ?_) fun H5 s5 hD => ?_⟩
      · have s15 : Same H H5 := fun b o e => s5 b o (s14 b o e)
        exact ⟨_, rfl, _, rfl, S, _, _, _, rfl, rfl, hS.ext s15, aS hi, _, rfl, eqS_sum (on.ext s15).sr ((hr1 r hr).1.ext s15).sr du.nm (hr1 r hr).2.nm SK _ rfl kR⟩
      have s15 : Same H H5 := fun b o e => s5 b o (s14 b o e)
      refine ⟨_, rfl, M, rfl, ⟨_, hM.ext s15⟩, fun D2 nD2 => lc_bools (rs := rs) (fun r => .ref r.2.1) (fun r => decide (prs rs[i].2.2 = prs r.2.2)) (hM.ext s15) nD2 (by omega) (fun _ => rfl) (fun r hr H6 s6 R kR => ?_) fun H6 s6 hD2 => ?_⟩
      · have s16 : Same H H6 := fun b o e => s6 b o (s15 b o e)
        have a1 := (on.ext s16).ls
        have a2 := ((hr1 r hr).1.ext s16).ls
        refine ⟨_, rfl, _, rfl, M, _, _, _, rfl, rfl, hM.ext s16, aM hi, _, rfl, _, _, .lst a1.sL (dpAll_pairs a1.ps), .lst a2.sL (dpAll_pairs a2.ps), shaped_pairsL du.nm, shaped_pairsL (hr1 r hr).2.nm, ?_⟩
        rw [eqv_pairsL]
        exact kR
      refine ⟨_, _, .lst (SqL.of (s6 _ _ hD)) (dps_bools _), .lst (SqL.of hD2) (dps_bools _), shaped_bools _, shaped_bools _, ?_⟩
      rw [eqv_bools]
      exact ⟨false, rfl, iteF ⟨fun b o e => s6 b o (s15 b o e), _, _, rfl⟩⟩
    · rintro σ H1 ⟨s1, o2, o3, rfl⟩
      exact k H1 s1
end
end RV
namespace RV
open PySem L2 PyProof.Rows
section
variable {P : Program} {w : World} {K : PySem.W.Frag} {mg : Str → Option Value} {base : Heap} {C : Addr}
theorem ok_row_right {f : Addr} {fd : FuncData} (F : Fun K "_law_row_right" "_law_row_right" s_row_right f fd) (T : Blt mg) (T2 : Blt2 mg) (b_list : mg "list" = none)
    (h_dip : Fn P w K mg base "_law_dip" 1 ["_law_well_here", "_law_many"] (Irr sp_dip)) (h_pairs : Fn P w K mg base "_law_pairs" 4 ["_law_well_here", "_law_most"] (Irr sp_pairs)) (h_merged : Fn P w K mg base "_law_merged" 1 ["_law_pairs_here"] (Irr (sp_merged K)))
    (h_Sum : Mkr P w K mg base "Sum" C 4 (Irr (sp_Sum K C)) []) (h_step : Fn P w K mg base "_law_step" 9 ["_law_well_here", "_law_sums", "_law_models"] (Irr (sp_turn K C))) (h_all_right : FnGd P w K mg base "_law_all_right" 8 ["_law_sums", "_law_models"] (Irr (sp_allr K C))) : FnG P w K mg base 10 f fd ["_law_well_here"] sp_row := by
  refine gFun F sc_row_right (fun vs H Q E h => ?_) (fun cdv A outer s H vs Q E gs hr h => ?_)
  · obtain ⟨_, _, rfl, _⟩ := h
    rfl
  · obtain ⟨a, n, rfl, wl, hn, k⟩ := h
    refine ⟨_, (pss_cons (ps_setLc (i := 1) (own := [("_law_turn", 4)]) (g := gName 4) (tt := tYes) rfl sc_row_right.nd rfl rfl (sw_true rfl rfl rfl (by decide +kernel)) (pi_range1 rfl T.b_range (pa_cons pe_int pa_nil)) (blkOk_by (N := sc_row_right_N) (sc := defScope s_row_right) (by decide +kernel)) (fun _ _ _ _ _ => pg_name (i := 4) sc_row_right.nd rfl (Or.inl rfl)) (fun _ _ _ _ _ => pts_nil) (fun _ _ _ _ _ => (pe_fn h_merged (hr.mono (by decide)) (pa_cons (pe_fn h_pairs (hr.mono (by decide)) (pa_cons (pv 0) (pa_cons pe_int pa_nil))) pa_nil))))
      (pss_cons (ps_setLc (i := 2) (own := [("_law_pairs_here", 7)]) (g := gName 7) (tt := tYes) rfl sc_row_right.nd rfl rfl (sw_true rfl rfl rfl (by decide +kernel)) (pi_list (pv 1)) (blkOk_by (N := sc_row_right_N) (sc := defScope s_row_right) (by decide +kernel)) (fun _ _ _ _ _ => pg_name (i := 7) sc_row_right.nd rfl (Or.inl rfl)) (fun _ _ _ _ _ => pts_nil) (fun _ _ _ _ _ => (pe_mk h_Sum (hr.mono (by decide)) (pa_cons (pe_callTy (call_tuple_ofK (K := K)) (by rfl) T2.b_tuple (by decide +kernel) (pa_cons (pv 7) pa_nil)) pa_nil))))
      (pss_cons (ps_set (i := 3) sc_row_right.nd rfl (Or.inl rfl) (pe_lst (pa_cons (pe_callTy call_list_of (by rfl) b_list (by decide +kernel) (pa_cons (pv 2) pa_nil)) (pa_cons (pe_callTy call_list_of (by rfl) b_list (by decide +kernel) (pa_cons (pv 1) pa_nil)) pa_nil))))
      (pss_cons (ps_for PassesOwn.never rfl (pi_range1 rfl T.b_range (pa_cons pe_int pa_nil)) (pg_name (i := 4) sc_row_right.nd rfl (Or.inl rfl)) (pss_cons (ps_par (i := 5) (j := 6) (by rfl) sc_row_right.nd rfl rfl (by decide) rfl rfl (pa_cons (pe_fn h_dip (hr.mono (by decide)) (pa_cons (pv 0) (pa_cons pe_int pa_nil))) (pa_cons (pe_fn h_step (hr.mono (by decide)) (pa_cons (pv 0) (pa_cons (pv 2) (pa_cons (pv 1) pa_nil)))) pa_nil)) (by rfl)) (pss_cons (ps_asg (pe_tup (pa_cons (pe_ix ix_list (pv 6) pe_int (fun _ _ => rfl)) (pa_cons (pe_fn h_merged (hr.mono (by decide)) (pa_cons (pe_ix ix_list (pv 6) pe_int (fun _ _ => rfl)) pa_nil)) pa_nil))) (pg_tup (by rfl) (pgs_cons (pg_sub (pv 2) (pv 5) set_list) (pgs_cons (pg_sub (pv 1) (pv 5) set_list) pgs_nil)))) (pss_cons (ps_if (pt_not (pt_val (pe_fnG h_all_right gs (hr.mono (by decide)) (pa_cons (pv 2) (pa_cons (pv 1) pa_nil))))) (pss_one (ps_ret pe_bl)) pss_nil) (pss_one (ps_set (i := 3) sc_row_right.nd rfl (Or.inl rfl) (pe_lst (pa_cons (pe_op op_cat (pe_ix ix_list (pv 3) pe_int (fun _ _ => rfl)) (pe_lst (pa_cons (pe_ix ix_list (pv 2) (pv 5) (fun _ _ => rfl)) pa_nil))) (pa_cons (pe_op op_cat (pe_ix ix_list (pv 3) pe_int (fun _ _ => rfl)) (pe_lst (pa_cons (pe_ix ix_list (pv 1) (pv 5) (fun _ _ => rfl)) pa_nil))) pa_nil)))))))))
      (pss_one (ps_ret (pe_fnG h_all_right gs (hr.mono (by decide)) (pa_cons (pe_ix ix_list (pv 3) pe_int (fun _ _ => rfl)) (pa_cons (pe_ix ix_list (pv 3) pe_int (fun _ _ => rfl)) pa_nil))))))))), ?_⟩
    -- the models
    refine ⟨4, rfl, by decide, by decide, fun M nM => lc_range (lo := 0) (n := 4) (fun i H' => ∃ (ms : List (Addr × List TP)) (pool : List Str), ms.length = i ∧ pool.length ≤ 4 * i ∧ Has H a (n + 1000 * i) [] H' ∧ H' M = some (.lst (ms.map fun m => V.ref m.1)) ∧ (∀ m ∈ ms, Lsp K H' m.1 m.2 ∧ m.1 ≠ a ∧ m.1 ≠ M ∧ Fit pool m.2)) ?_ ?_ ?_⟩
    · exact ⟨[], [], rfl, by decide, (Has.start wl).put nM (fun _ hq => nomatch hq) (wl.ne nM).symm, upd_same, fun _ hm => nomatch hm⟩
    · rintro i H3 hi ⟨ms, pool, ml, pl, h3, eM, hm⟩
      have Ma : M ≠ a := (wl.ne nM).symm
      refine ⟨rfl, _, rfl, pairs_step (Has.start h3.well) (by omega) (by decide) fun us l H4 pp _ h4 => ?_⟩
      replace pp : Pairs us 4 := pp
      rw [List.append_nil] at h4
      refine irr ⟨l, us, rfl, h4.sL, h4.sP, Nat.le_trans pp.ln (by decide), fun ds m H5 n1 n2 n3 n4 kp => ?_⟩
      have md : Mad (prs us) (prs ds) := ⟨n1, n2, n3, by rw [prs_len, prs_len]; exact n4⟩
      have h5 := h4.kp kp
      have e4 := h4.gr _ _ Ma eM
      have e5 := kp.sm _ _ e4
      have b16 : big * 2 ^ 4 ≤ 10 ^ 33 := by decide
      have ft : Fit (pool ++ (prs us).map (·.1)) ds := md.fit pp.nm (fun q hq => List.mem_append_right _ (List.mem_map.mpr ⟨q, hq, rfl⟩)) fun y => by
        have := co_le (prs us) y
        have := pp.gr
        have : lim = 3 * 10 ^ 33 := rfl
        omega
      have s6 : Same H3 H5 → True := fun _ => trivial
      obtain ⟨wx, wy, wz, ew, _⟩ := id h3.well
      refine ⟨_, e5, ?_, ms ++ [(m, ds)], pool ++ (prs us).map (·.1), by rw [List.length_append, ml]; rfl, ?_, ?_, by rw [upd_same, List.map_append]; rfl, fun m' hm' => ?_⟩
      · rw [List.length_map, ml]
        exact Nat.lt_of_lt_of_le (show i < 5 by omega) (by decide)
      · rw [List.length_append, List.length_map, prs_len]
        have := pp.ln
        omega
      · have := h3.grow h5.gr h5.well
        exact ((this.put nM (fun _ hq => nomatch hq) Ma).wm (by omega))
      · have gD : Grow M H5 (upd H5 M (.lst ((ms.map fun m => V.ref m.1) ++ [.ref m]))) := Grow.put
        rcases List.mem_append.mp hm' with z | z
        · obtain ⟨a1, a2, a3, a4⟩ := hm m' z
          exact ⟨(a1.gro a2 ew h5.gr).gro a3 e5 gD, a2, a3, a4.mono fun x hx => List.mem_append_left _ hx⟩
        · rw [List.mem_singleton.mp z]
          have mM : m ≠ M := fun e => by
            have := (kp.nw _ List.mem_cons_self).1
            rw [show (m, HO.lst (vP ds)).1 = M from e, e4] at this
            cases this
          exact ⟨h5.lft.lsp.gro mM e5 gD, (h5.here _ List.mem_cons_self).1, mM, ft⟩
    rintro H1 ⟨ms, pool, ml, pl, h1, eM, hm⟩
    have Ma : M ≠ a := (wl.ne nM).symm
    -- the sums
    have ms0 : SqL K H1 M (ms.map fun m => V.ref m.1) := SqL.of eM
    refine ⟨_, rfl, M, rfl, ⟨_, ms0⟩, fun S nS => lc_list (xs := ms.map fun m => V.ref m.1) (fun i H' => ∃ rs : List Rw, rs.map (·.2) = ms.take i ∧ Same H1 H' ∧ H' S = some (.lst (vS rs)) ∧ ∀ r ∈ rs, SumR C H' r.1 (prs r.2.2)) ?_ (fun i H' _ z => ?_) ?_ ?_⟩
    · exact ⟨[], by rw [List.take_zero]; rfl, fun b o e => (upd_ne (ne_of_none e nS)).trans e, upd_same, fun _ hr => nomatch hr⟩
    · obtain ⟨rs, _, s, _⟩ := z
      exact ms0.ext s
    · rintro i v H3 hv ⟨rs, er, s3, eS, hr3⟩
      rw [List.getElem?_map] at hv
      cases hu : ms[i]? with
      | none => rw [hu] at hv; cases hv
      | some u =>
        rw [hu] at hv
        obtain rfl : V.ref u.1 = v := Option.some.inj hv
        have hmu : u ∈ ms := List.mem_of_getElem? hu
        obtain ⟨lu, _, _, fu⟩ := hm u hmu
        have lu3 := lu.ext s3
        have raw := fu.raw (by omega)
        refine ⟨rfl, _, rfl, u.1, vP u.2, rfl, .inl ⟨lu3.sL, fun t nt => ?_⟩⟩
        have s4 : Same H3 (upd H3 t (.tup (vP u.2))) := fun b o e => (upd_ne (ne_of_none e nt)).trans e
        refine fun x dx hx hd ne => made_step (us := u.2) (SqT.of upd_same) (lu3.ps.ext s4) raw (by decide) hx hd ne fun H5 o5 s5 => ?_
        have s35 : Same H3 H5 := fun b o e => s5 b o (s4 b o e)
        have eS5 := s35 _ _ eS
        have et : ms.take (i + 1) = ms.take i ++ [u] := by
          rw [List.take_add_one, hu]
          rfl
        have rl : rs.length ≤ i := by
          have := congrArg List.length er
          rw [List.length_map] at this
          rw [this]
          exact List.length_take_le _ _
        have il : i < ms.length := by
          have := List.getElem?_eq_some_iff.mp hu
          exact this.1
        refine ⟨_, eS5, ?_, rs ++ [(x, u)], by rw [List.map_append, er, et]; rfl, fun b o e => ?_, by rw [upd_same, vS_app]; rfl, fun r hr' => ?_⟩
        · rw [vS_len]
          exact Nat.lt_of_le_of_lt rl (Nat.lt_of_lt_of_le (show i < 5 by omega) (by decide))
        · rw [upd_ne (ne_of_none e nS)]
          exact s35 _ _ (s3 _ _ e)
        · rcases List.mem_append.mp hr' with z | z
          · exact ((hr3 r z).ext s35).gro eS5 Grow.put
          · rw [List.mem_singleton.mp z]
            exact (o5.one (⟨fu.nr, fun _ => rfl, fun q hq => List.mem_map.mpr ⟨q, hq, rfl⟩, Nat.le_refl _⟩ : Mad (prs u.2) (prs u.2))).gro eS5 Grow.put
    rintro H2 ⟨rs, er, s2, eS, hr2⟩
    rw [List.length_map, List.take_length] at er
    have h2 := h1.same s2
    have eM2 := s2 _ _ eM
    have vMe : (ms.map fun m => V.ref m.1) = vM rs := by rw [← er, List.map_map]; rfl
    rw [vMe] at eM2
    have MS : S ≠ M := fun e => by rw [e, eM] at nS; cases nS
    have Sa : S ≠ a := fun e => by
      obtain ⟨x, y, z, e1, _⟩ := h1.well
      rw [e, e1] at nS
      cases nS
    have nS0 : H S = none := h1.none0 nS
    have rln : rs.length = 4 := by
      have := congrArg List.length er
      rw [List.length_map] at this
      omega
    have R2 : RowAt K C H H2 a (n + 1000 * 4) S M rs rs pool [] := by
      refine ⟨⟨h2.gr, h2.well, fun q hq => ?_⟩, nS0, nM, MS, fun _ hq => (nomatch hq), rln, fun r hr' => ?_⟩
      · simp only [List.mem_cons, List.not_mem_nil, or_false] at hq
        rcases hq with rfl | rfl
        · exact ⟨Sa, eS⟩
        · exact ⟨Ma, eM2⟩
      · have hr' : r ∈ rs := (List.mem_append.mp hr').elim id id
        have hx : r.2 ∈ ms := by rw [← er]; exact List.mem_map.mpr ⟨r, hr', rfl⟩
        obtain ⟨b1, b2, b3, b4⟩ := hm _ hx
        refine ⟨⟨hr2 r hr', b1.ext s2⟩, b4, b2, fun e => ?_, b3⟩
        have := b1.hd
        rw [e, nS] at this
        cases this
    clear hr2 eS eM2 h2 s2 ms0 vMe hm h1
    -- the older ones
    refine ⟨_, rfl, S, vS rs, rfl, .inl (SqL.of R2.eS), fun A nA => ?_⟩
    have R3 := R2.new (o := .lst (vS rs)) nA
    refine ⟨_, rfl, M, vM rs, rfl, .inl (SqL.of R3.eM), fun B nB => ⟨(by show 2 ≤ sizeLine; decide), fun O nO => ?_⟩⟩
    have R4 := (R3.new (o := .lst (vM rs)) nB).new (o := .lst [.ref A, .ref B]) nO
    clear R2 R3
    dsimp only [gName]
    refine ⟨12, rfl, by decide, by decide, for_range (lo := 0) (n := 12) (fun i σ H' => ∃ (rs os : List Rw) (pool : List Str) (A B O : Addr) (o4 o5 o6 o7 : Option V), σ = [some (.ref a), some (.ref M), some (.ref S), some (.ref O), o4, o5, o6, o7] ∧
      RowAt K C H H' a (n + 4000 + 1100 * i) S M rs os pool [(O, .lst [.ref A, .ref B]), (B, .lst (vM os)), (A, .lst (vS os))] ∧ pool.length ≤ 16 + 3 * i ∧ os.length = 4 + i) ?_ ?_ ?_⟩
    · exact ⟨rs, rs, pool, A, B, O, _, _, _, _, rfl, R4, by omega, rln⟩
    · rintro i σ H3 hi ⟨rs, os, pool, A, B, O, o4, o5, o6, o7, rfl, R, pl, ol⟩
      dsimp only [gName]
      refine ⟨_, rfl, dip_step (Has.start R.hs.well) (by omega) (by decide) (by decide) fun j H4 j0 j1 h4 => ?_⟩
      obtain ⟨j, rfl⟩ := Int.eq_ofNat_of_zero_le j0
      have R4 := R.grow h4.gr h4.well
      refine ⟨_, rfl, _, rfl, _, rfl, irr ⟨a, S, M, _, rs, pool, rfl, R4.hs.well, by omega, R4.sa, R4.ma, R4.eS, R4.eM, R4.ln, fun r hr' => ?_, by omega, fun p x l us new H5 ep ow ls lu pq nw cl g w5 => ⟨_, _, rfl, ?_⟩⟩⟩
      · obtain ⟨b1, b2, b3, _⟩ := R4.on r (List.mem_append_left _ hr')
        exact ⟨b1, b2, b3⟩
      have R5 := (R4.grow g w5).mono (Nat.le_refl _) (pool' := pool ++ new) fun x hx => List.mem_append_left _ hx
      dsimp only [gName]
      refine ⟨_, rfl, p, _, 0, _, rfl, rfl, SqL.of ep, rfl, _, rfl, p, _, 1, _, rfl, rfl, SqL.of ep, rfl, irr ⟨l, us, rfl, ls.sL, ls.ps, lu, fun ds m H6 n1 n2 n3 n4 kp => ⟨(by show 2 ≤ sizeLine; decide), fun t nt => ?_⟩⟩⟩
      have md : Mad (prs us) (prs ds) := ⟨n1, n2, n3, by rw [prs_len, prs_len]; exact n4⟩
      have ft : Fit (pool ++ new) ds := md.fit (fun q hq => (pq q hq).1) (fun q hq => (pq q hq).2) cl
      have s7 : Same H6 (upd H6 t (.tup [.ref x, .ref m])) := fun b o e => (upd_ne (ne_of_none e nt)).trans e
      have R7 := (R5.same kp.sm).same s7
      have on7 : One K C (upd H6 t (.tup [.ref x, .ref m])) (x, m, ds) := ⟨((ow.ext kp.sm).ext s7).one md, s7 _ _ (kp.at List.mem_cons_self), fun u hu => (SqT.of (kp.at (List.mem_cons_of_mem _ (List.mem_map.mpr ⟨u, hu, rfl⟩)))).ext s7⟩
      have nm := (kp.nw _ List.mem_cons_self).1
      have ma : m ≠ a := fun e => by
        obtain ⟨x, y, z, e1, _⟩ := R5.hs.well
        rw [show (m, HO.lst (vP ds)).1 = a from e, e1] at nm
        cases nm
      have mS : m ≠ S := fun e => by
        rw [show (m, HO.lst (vP ds)).1 = S from e, R5.eS] at nm
        cases nm
      have mM : m ≠ M := fun e => by
        rw [show (m, HO.lst (vP ds)).1 = M from e, R5.eM] at nm
        cases nm
      have jl : j < rs.length := by rw [R.ln]; omega
      have R8 := R7.set (j := j) on7 ft ma mS mM
      have ij : ∀ {n : Nat}, j < n → ixN n (j : Int) = some j := fun {n} h => by
        unfold ixN
        rw [if_pos (by omega), if_pos (by omega)]
        rfl
      have m7 : upd (upd H6 t (.tup [.ref x, .ref m])) S (.lst ((vS rs).set j (.ref x))) M = some (.lst (vM rs)) := by
        rw [upd_ne R.sm.symm]
        exact R7.eM
      refine ⟨t, _, rfl, SqT.of upd_same, rfl, ?_⟩
      refine ⟨_, _, rfl, ⟨_, rfl, _, rfl, S, vS rs, _, j, rfl, rfl, R7.eS, ij (by rw [vS_len]; exact jl), ?_⟩⟩
      refine ⟨_, _, rfl, ⟨_, rfl, _, rfl, M, vM rs, _, j, rfl, rfl, m7, ij (by rw [vM_len]; exact jl), ?_⟩⟩
      refine ⟨rfl, ?_⟩
      revert R8
      generalize upd (upd (upd H6 t (.tup [.ref x, .ref m])) S (.lst ((vS rs).set j (.ref x)))) M (.lst ((vM rs).set j (.ref m))) = H8
      intro R8
      clear m7 R7 R5 R4 R on7 mS mM ma nm
      -- all right
      refine ⟨_, rfl, _, rfl, irr ⟨S, M, _, rfl, SqL.of R8.eS, SqL.of R8.eM, fun r hr' => ?_, by rw [R8.ln]; decide, fun H9 s9 => ⟨true, rfl, iteF ?_⟩⟩⟩
      · obtain ⟨b1, b2, _⟩ := R8.on r (List.mem_append_left _ hr')
        exact ⟨b1, b2.due (by rw [List.length_append]; omega)⟩
      have R9 := R8.same s9
      have aS : atI (vS (rs.set j (x, m, ds))) (j : Int) = some (V.ref x) := atI_nat (by rw [vS, List.getElem?_map, List.getElem?_set_self jl]; rfl)
      have aM : atI (vM (rs.set j (x, m, ds))) (j : Int) = some (V.ref m) := atI_nat (by rw [vM, List.getElem?_map, List.getElem?_set_self jl]; rfl)
      -- the older ones
      refine ⟨_, rfl, O, _, 0, _, rfl, rfl, SqL.of (R9.at List.mem_cons_self), rfl, _, rfl, _, rfl, S, _, _, _, rfl, rfl, SqL.of R9.eS, aS, (by show 1 ≤ sizeLine; decide), fun q1 nq1 => ?_⟩
      have R10 := R9.new (o := .lst [.ref x]) nq1
      refine ⟨A, q1, _, _, rfl, rfl, R10.at (List.mem_cons_of_mem _ (List.mem_cons_of_mem _ (List.mem_cons_of_mem _ List.mem_cons_self))), R10.at List.mem_cons_self, ?_, fun A' nA' => ?_⟩
      · rw [vS_len]
        exact Nat.le_trans (show os.length + 1 ≤ 100 by omega) (by decide)
      have R11 := R10.new (o := .lst (vS os ++ [.ref x])) nA'
      refine ⟨_, rfl, O, _, 1, _, rfl, rfl, SqL.of (R11.at (List.mem_cons_of_mem _ (List.mem_cons_of_mem _ List.mem_cons_self))), rfl, _, rfl, _, rfl, M, _, _, _, rfl, rfl, SqL.of R11.eM, aM, (by show 1 ≤ sizeLine; decide), fun q2 nq2 => ?_⟩
      have R12 := R11.new (o := .lst [.ref m]) nq2
      refine ⟨B, q2, _, _, rfl, rfl, R12.at (List.mem_cons_of_mem _ (List.mem_cons_of_mem _ (List.mem_cons_of_mem _ (List.mem_cons_of_mem _ List.mem_cons_self)))), R12.at List.mem_cons_self, ?_, fun B' nB' => ⟨(by show 2 ≤ sizeLine; decide), fun O' nO' => ?_⟩⟩
      · rw [vM_len]
        exact Nat.le_trans (show os.length + 1 ≤ 100 by omega) (by decide)
      have R13 := (R12.new (o := .lst (vM os ++ [.ref m])) nB').new (o := .lst [.ref A', .ref B']) nO'
      refine ⟨_, _, pool ++ new, A', B', O', _, _, _, _, rfl, (R13.sub fun q hq => ?_).mono (by omega) (fun _ hx => hx), by rw [List.length_append]; omega, by rw [List.length_append, ol]; rfl⟩
      rw [vS_app, vM_app] at hq
      simp only [List.mem_cons, List.not_mem_nil, or_false] at hq ⊢
      rcases hq with q | q | q
      · exact .inl q
      · exact .inr (.inl q)
      · exact .inr (.inr (.inr (.inl q)))
    · rintro σ H3 ⟨rs, os, pool, A, B, O, o4, o5, o6, o7, rfl, R, pl, ol⟩
      refine ⟨_, rfl, O, _, 0, _, rfl, rfl, SqL.of (R.at List.mem_cons_self), rfl, _, rfl, O, _, 1, _, rfl, rfl, SqL.of (R.at List.mem_cons_self), rfl, irr ⟨A, B, os, rfl, SqL.of (R.at (List.mem_cons_of_mem _ (List.mem_cons_of_mem _ List.mem_cons_self))), SqL.of (R.at (List.mem_cons_of_mem _ List.mem_cons_self)), fun r hr' => ?_, by omega, fun H4 s4 => ?_⟩⟩
      · obtain ⟨b1, b2, _⟩ := R.on r (List.mem_append_right _ hr')
        exact ⟨b1, b2.due (by omega)⟩
      · exact k H4 (R.same s4).hs.gr
end
end RV
namespace RV
open PySem L2 PyProof.Rows
section
variable {P : Program} {w : World} {K : PySem.W.Frag} {mg : Str → Option Value} {base : Heap}
theorem ok_law {f : Addr} {fd : FuncData} (F : Fun K "law" "law" s_law f fd) (T : Blt mg)
    (h_well : Fn P w K mg base "_law_well" 1 ["_law_cells", "_law_k"] (sp_well K)) (h_row_right : FnGd P w K mg base "_law_row_right" 10 ["_law_well_here"] sp_row) : FnG P w K mg base 11 f fd ["_law_cells"] (spLaw K) := by
  refine gFun F sc_law (fun vs H Q E h => ?_) (fun cdv A outer s H vs Q E gs hr h => ?_)
  · obtain ⟨_, _, rfl, _⟩ := h
    rfl
  · obtain ⟨c, ns, rfl, hS, hl, k⟩ := h
    refine ⟨_, (pss_one (ps_ret (pe_callB (cr_all rfl) (by rfl) T.b_all (by decide +kernel) (pa_cons (pe_lc (own := [("_law_k", 1)]) (g := gName 1) (tt := tYes) rfl sc_law.nd (pi_range1 rfl T.b_range (pa_cons (pe_callB (call_max2 rfl) (by rfl) T.b_max (by decide +kernel) (pa_cons pe_int (pa_cons (pe_callB (call_min2 rfl) (by rfl) T.b_min (by decide +kernel) (pa_cons (pe_callB call_len_seq (by rfl) T.b_len (by decide +kernel) (pa_cons (pv 0) pa_nil)) (pa_cons pe_int pa_nil))) pa_nil))) pa_nil)) (blkOk_by (N := sc_law_N) (sc := defScope s_law) (by decide +kernel)) (fun _ _ _ _ _ => pg_name (i := 1) sc_law.nd rfl (Or.inl rfl)) (fun _ _ _ _ _ => pts_nil) (fun _ _ _ _ _ => (pe_fnG h_row_right gs (hr.mono (by decide)) (pa_cons (pe_fn h_well (hr.mono (by decide)) (pa_cons (pv 0) (pa_cons (pv 1) pa_nil))) pa_nil)))) pa_nil)))), ?_⟩
    refine ⟨_, rfl, c, _, rfl, .inl hS, _, _, rfl, _, _, rfl, ?_⟩
    rw [List.length_map]
    generalize hj : (if (if (3 : Int) < (ns.length : Int) then (3 : Int) else (ns.length : Int)) > 2 then (if (3 : Int) < (ns.length : Int) then (3 : Int) else (ns.length : Int)) else 2) = j
    have hj2 : 2 ≤ j ∧ j ≤ 3 := by
      subst hj
      constructor <;> (repeat' split) <;> omega
    clear hj
    refine ⟨j, rfl, by omega, by omega, fun D nD => lc_range (lo := 0) (n := j.toNat) (fun i H' => Same H H' ∧ H' D = some (.lst ((List.replicate i true).map V.bl))) ⟨fun b o e => (upd_ne (ne_of_none e nD)).trans e, upd_same⟩ ?_ ?_⟩
    · rintro i H3 hi ⟨s3, e3⟩
      refine ⟨rfl, _, rfl, _, rfl, c, ns, i, by rw [Int.zero_add]; rfl, hS.ext s3, hl, by omega, fun a H4 na s4 w4 => ⟨a, _, rfl, w4, by decide, fun H5 g5 => ?_⟩⟩
      have aD : D ≠ a := fun e => by rw [← e, e3] at na; cases na
      have e5 := g5 _ _ aD (s4 _ _ e3)
      refine ⟨_, e5, ?_, fun b o e => ?_, ?_⟩
      · rw [List.length_map, List.length_replicate]
        exact Nat.lt_of_lt_of_le (show i < 9 by omega) (by decide)
      · rw [upd_ne (ne_of_none e nD)]
        exact g5 _ _ (fun z => by rw [z] at e; have := s3 _ _ e; rw [na] at this; cases this) (s4 _ _ (s3 _ _ e))
      · rw [upd_same, List.replicate_succ', List.map_append]
        rfl
    · rintro H3 ⟨s3, e3⟩
      refine ⟨D, _, rfl, SqL.of e3, ?_⟩
      rw [show (List.replicate j.toNat true).all id = true from List.all_eq_true.mpr fun b hb => List.eq_of_mem_replicate hb]
      exact k H3
end
end RV
namespace RV
open PySem L2
theorem all_mk {l : PySem.W.OpenLaw} {w : World} {K : PySem.W.Frag} {h : Heap} {mg : Str → Option Value} {fa : Addr} (X : K.In h) (G : h.Ns mainGlobals mg) (hfa : mg "law" = some (.ref fa))
    {tkA : Tok}
    {tkB : Tok}
    {tkC : Tok}
    {tkD : Tok}
    {tkE : Tok}
    {fIn : Addr}
    {odIn anIn : Option Addr} {slIn : Array (Option Value)} {ocIn kVIn dcIn pmIn cdIn ctIn : Value}
    {fNu : Addr}
    {odNu anNu : Option Addr} {slNu : Array (Option Value)} {ocNu kVNu dcNu pmNu cdNu ctNu : Value}
    {fWn : Addr}
    {odWn anWn : Option Addr} {slWn : Array (Option Value)} {ocWn kVWn dcWn pmWn cdWn ctWn : Value}
    {fIt : Addr}
    {odIt anIt : Option Addr} {slIt : Array (Option Value)} {ocIt kVIt dcIt pmIt cdIt ctIt : Value}
    {fCk : Addr}
    {odCk anCk : Option Addr} {slCk : Array (Option Value)} {ocCk kVCk dcCk pmCk cdCk ctCk : Value}
    {fCo : Addr}
    {odCo anCo : Option Addr} {slCo : Array (Option Value)} {ocCo kVCo dcCo pmCo cdCo ctCo : Value}
    {fWs : Addr}
    {odWs anWs : Option Addr} {slWs : Array (Option Value)} {ocWs kVWs dcWs pmWs cdWs ctWs : Value}
    {fWf : Addr}
    {odWf anWf : Option Addr} {slWf : Array (Option Value)} {ocWf kVWf dcWf pmWf cdWf ctWf : Value}
    {fWt : Addr}
    {odWt anWt : Option Addr} {slWt : Array (Option Value)} {ocWt kVWt dcWt pmWt cdWt ctWt : Value}
    {CS : Addr}
    {fSi : Addr}
    {tD : Addr}
    {odSi anSi odT : Option Addr} {slSi slT : Array (Option Value)} {ocSi kVSi dcSi pmSi cdSi ctSi : Value} {nT : Nat}
    {t0 : Addr}
    {od0 : Option Addr} {sl0 : Array (Option Value)} {n0 : Nat}
    {fSl : Addr}
    {odSl anSl : Option Addr} {slSl : Array (Option Value)} {ocSl kVSl dcSl pmSl cdSl ctSl : Value}
    {fSb : Addr}
    {odSb anSb : Option Addr} {slSb : Array (Option Value)} {ocSb kVSb dcSb pmSb cdSb ctSb : Value}
    {fSg : Addr}
    {odSg anSg : Option Addr} {slSg : Array (Option Value)} {ocSg kVSg dcSg pmSg cdSg ctSg : Value}
    {fSc : Addr}
    {odSc anSc : Option Addr} {slSc : Array (Option Value)} {ocSc kVSc dcSc pmSc cdSc ctSc : Value}
    {fSs : Addr}
    {odSs anSs : Option Addr} {slSs : Array (Option Value)} {ocSs kVSs dcSs pmSs cdSs ctSs : Value}
    {fSq : Addr}
    {odSq anSq : Option Addr} {slSq : Array (Option Value)} {ocSq kVSq dcSq pmSq cdSq ctSq : Value}
    {pSt : Addr}
    {fSt : Addr}
    {rSt : List Value}
    {odSt anSt : Option Addr} {slSt : Array (Option Value)} {ocSt kVSt dcSt pmSt cdSt ctSt : Value}
    {fWe : Addr}
    {odWe anWe : Option Addr} {slWe : Array (Option Value)} {ocWe kVWe dcWe pmWe cdWe ctWe : Value}
    {fDi : Addr}
    {odDi anDi : Option Addr} {slDi : Array (Option Value)} {ocDi kVDi dcDi pmDi cdDi ctDi : Value}
    {fNa : Addr}
    {odNa anNa : Option Addr} {slNa : Array (Option Value)} {ocNa kVNa dcNa pmNa cdNa ctNa : Value}
    {fFr : Addr}
    {odFr anFr : Option Addr} {slFr : Array (Option Value)} {ocFr kVFr dcFr pmFr cdFr ctFr : Value}
    {fNo : Addr}
    {odNo anNo : Option Addr} {slNo : Array (Option Value)} {ocNo kVNo dcNo pmNo cdNo ctNo : Value}
    {fPa : Addr}
    {odPa anPa : Option Addr} {slPa : Array (Option Value)} {ocPa kVPa dcPa pmPa cdPa ctPa : Value}
    {fMe : Addr}
    {odMe anMe : Option Addr} {slMe : Array (Option Value)} {ocMe kVMe dcMe pmMe cdMe ctMe : Value}
    {fDg : Addr}
    {odDg anDg : Option Addr} {slDg : Array (Option Value)} {ocDg kVDg dcDg pmDg cdDg ctDg : Value}
    {fRn : Addr}
    {odRn anRn : Option Addr} {slRn : Array (Option Value)} {ocRn kVRn dcRn pmRn cdRn ctRn : Value}
    {fAp : Addr}
    {odAp anAp : Option Addr} {slAp : Array (Option Value)} {ocAp kVAp dcAp pmAp cdAp ctAp : Value}
    {fRt : Addr}
    {odRt anRt : Option Addr} {slRt : Array (Option Value)} {ocRt kVRt dcRt pmRt cdRt ctRt : Value}
    {fTi : Addr}
    {odTi anTi : Option Addr} {slTi : Array (Option Value)} {ocTi kVTi dcTi pmTi cdTi ctTi : Value}
    {pSr : Addr}
    {fSr : Addr}
    {rSr : List Value}
    {odSr anSr : Option Addr} {slSr : Array (Option Value)} {ocSr kVSr dcSr pmSr cdSr ctSr : Value}
    {foI roI : Option Value}
    {fSad : Addr}
    {odSad anSad : Option Addr} {slSad : Array (Option Value)} {ocSad kVSad dcSad pmSad cdSad ctSad : Value}
    {fSmu : Addr}
    {odSmu anSmu : Option Addr} {slSmu : Array (Option Value)} {ocSmu kVSmu dcSmu pmSmu cdSmu ctSmu : Value}
    {fSrm : Addr}
    {odSrm anSrm : Option Addr} {slSrm : Array (Option Value)} {ocSrm kVSrm dcSrm pmSrm cdSrm ctSrm : Value}
    {fSne : Addr}
    {odSne anSne : Option Addr} {slSne : Array (Option Value)} {ocSne kVSne dcSne pmSne cdSne ctSne : Value}
    {fSsu : Addr}
    {odSsu anSsu : Option Addr} {slSsu : Array (Option Value)} {ocSsu kVSsu dcSsu pmSsu cdSsu ctSsu : Value}
    {fTx : Addr}
    {odTx anTx : Option Addr} {slTx : Array (Option Value)} {ocTx kVTx dcTx pmTx cdTx ctTx : Value}
    {fMu : Addr}
    {odMu anMu : Option Addr} {slMu : Array (Option Value)} {ocMu kVMu dcMu pmMu cdMu ctMu : Value}
    {fEp : Addr}
    {odEp anEp : Option Addr} {slEp : Array (Option Value)} {ocEp kVEp dcEp pmEp cdEp ctEp : Value}
    {fAl : Addr}
    {odAl anAl : Option Addr} {slAl : Array (Option Value)} {ocAl kVAl dcAl pmAl cdAl ctAl : Value}
    {fRo : Addr}
    {odRo anRo : Option Addr} {slRo : Array (Option Value)} {ocRo kVRo dcRo pmRo cdRo ctRo : Value}
    {fLa : Addr}
    {odLa anLa : Option Addr} {slLa : Array (Option Value)} {ocLa kVLa dcLa pmLa cdLa ctLa : Value}
    (b_len : PySem.W.nsIn K mainGlobals "len" = some none)
    (b_int : PySem.W.nsIn K mainGlobals "int" = some none)
    (b_abs : PySem.W.nsIn K mainGlobals "abs" = some none)
    (b_max : PySem.W.nsIn K mainGlobals "max" = some none)
    (b_min : PySem.W.nsIn K mainGlobals "min" = some none)
    (b_all : PySem.W.nsIn K mainGlobals "all" = some none)
    (b_any : PySem.W.nsIn K mainGlobals "any" = some none)
    (b_repr : PySem.W.nsIn K mainGlobals "repr" = some none)
    (b_range : PySem.W.nsIn K mainGlobals "range" = some none)
    (b_divmod : PySem.W.nsIn K mainGlobals "divmod" = some none)
    (b_isinstance : PySem.W.nsIn K mainGlobals "isinstance" = some none)
    (b_str : PySem.W.nsIn K mainGlobals "str" = some none)
    (b_sum : PySem.W.nsIn K mainGlobals "sum" = some none)
    (b_sorted : PySem.W.nsIn K mainGlobals "sorted" = some none)
    (b_set : PySem.W.nsIn K mainGlobals "set" = some none)
    (b_tuple : PySem.W.nsIn K mainGlobals "tuple" = some none)
    (b_enumerate : PySem.W.nsIn K mainGlobals "enumerate" = some none)
    (b_bool : PySem.W.nsIn K mainGlobals "bool" = some none)
    (g__LETTERS : PySem.W.nsIn K mainGlobals "_LETTERS" = some (some (.str "abcdefghijklmnopqrstuvwxyz" tkA)))
    (g__DIGITS : PySem.W.nsIn K mainGlobals "_DIGITS" = some (some (.str "0123456789" tkB)))
    (g__LONGEST_NAME : PySem.W.nsIn K mainGlobals "_LONGEST_NAME" = some (some (.int 8 tkC)))
    (g__PIECE_WORTH : PySem.W.nsIn K mainGlobals "_PIECE_WORTH" = some (some (.int 10000000000000000000000000000000000000000000000000000000000000000 tkD)))
    (g__PIECE : PySem.W.nsIn K mainGlobals "_PIECE" = some (some (.int 64 tkE)))
    (aIn : PySem.W.nsIn K mainGlobals "is_name" = some (some (.ref fIn)))
    (lIn : K.lookup fIn = some ⟨ocIn, odIn, .func (PySem.W.fnOf "is_name" "is_name" (defArgs s_is_name) (defBody s_is_name) (defScope s_is_name) .none kVIn dcIn pmIn anIn cdIn ctIn), slIn⟩)
    (cIn : PySem.W.codeIn K cdIn "is_name" = true)
    (kIn : PySem.W.keepIn K (.ref fIn) = true)
    (aNu : PySem.W.nsIn K mainGlobals "is_number" = some (some (.ref fNu)))
    (lNu : K.lookup fNu = some ⟨ocNu, odNu, .func (PySem.W.fnOf "is_number" "is_number" (defArgs s_is_number) (defBody s_is_number) (defScope s_is_number) .none kVNu dcNu pmNu anNu cdNu ctNu), slNu⟩)
    (cNu : PySem.W.codeIn K cdNu "is_number" = true)
    (kNu : PySem.W.keepIn K (.ref fNu) = true)
    (aWn : PySem.W.nsIn K mainGlobals "written_number" = some (some (.ref fWn)))
    (lWn : K.lookup fWn = some ⟨ocWn, odWn, .func (PySem.W.fnOf "written_number" "written_number" (defArgs s_written_number) (defBody s_written_number) (defScope s_written_number) .none kVWn dcWn pmWn anWn cdWn ctWn), slWn⟩)
    (cWn : PySem.W.codeIn K cdWn "written_number" = true)
    (kWn : PySem.W.keepIn K (.ref fWn) = true)
    (aIt : PySem.W.nsIn K mainGlobals "_is_term" = some (some (.ref fIt)))
    (lIt : K.lookup fIt = some ⟨ocIt, odIt, .func (PySem.W.fnOf "_is_term" "_is_term" (defArgs s_is_term) (defBody s_is_term) (defScope s_is_term) .none kVIt dcIt pmIt anIt cdIt ctIt), slIt⟩)
    (cIt : PySem.W.codeIn K cdIt "_is_term" = true)
    (kIt : PySem.W.keepIn K (.ref fIt) = true)
    (aCk : PySem.W.nsIn K mainGlobals "_check_terms" = some (some (.ref fCk)))
    (lCk : K.lookup fCk = some ⟨ocCk, odCk, .func (PySem.W.fnOf "_check_terms" "_check_terms" (defArgs s_check_terms) (defBody s_check_terms) (defScope s_check_terms) .none kVCk dcCk pmCk anCk cdCk ctCk), slCk⟩)
    (cCk : PySem.W.codeIn K cdCk "_check_terms" = true)
    (kCk : PySem.W.keepIn K (.ref fCk) = true)
    (aCo : PySem.W.nsIn K mainGlobals "_collected" = some (some (.ref fCo)))
    (lCo : K.lookup fCo = some ⟨ocCo, odCo, .func (PySem.W.fnOf "_collected" "_collected" (defArgs s_collected) (defBody s_collected) (defScope s_collected) .none kVCo dcCo pmCo anCo cdCo ctCo), slCo⟩)
    (cCo : PySem.W.codeIn K cdCo "_collected" = true)
    (kCo : PySem.W.keepIn K (.ref fCo) = true)
    (aWs : PySem.W.nsIn K mainGlobals "_without_sign" = some (some (.ref fWs)))
    (lWs : K.lookup fWs = some ⟨ocWs, odWs, .func (PySem.W.fnOf "_without_sign" "_without_sign" (defArgs s_without_sign) (defBody s_without_sign) (defScope s_without_sign) .none kVWs dcWs pmWs anWs cdWs ctWs), slWs⟩)
    (cWs : PySem.W.codeIn K cdWs "_without_sign" = true)
    (kWs : PySem.W.keepIn K (.ref fWs) = true)
    (aWf : PySem.W.nsIn K mainGlobals "_written_further" = some (some (.ref fWf)))
    (lWf : K.lookup fWf = some ⟨ocWf, odWf, .func (PySem.W.fnOf "_written_further" "_written_further" (defArgs s_written_further) (defBody s_written_further) (defScope s_written_further) .none kVWf dcWf pmWf anWf cdWf ctWf), slWf⟩)
    (cWf : PySem.W.codeIn K cdWf "_written_further" = true)
    (kWf : PySem.W.keepIn K (.ref fWf) = true)
    (aWt : PySem.W.nsIn K mainGlobals "_written_terms" = some (some (.ref fWt)))
    (lWt : K.lookup fWt = some ⟨ocWt, odWt, .func (PySem.W.fnOf "_written_terms" "_written_terms" (defArgs s_written_terms) (defBody s_written_terms) (defScope s_written_terms) .none kVWt dcWt pmWt anWt cdWt ctWt), slWt⟩)
    (cWt : PySem.W.codeIn K cdWt "_written_terms" = true)
    (kWt : PySem.W.keepIn K (.ref fWt) = true)
    (nS : PySem.W.nsIn K mainGlobals "Sum" = some (some (.ref CS)))
    (pgS : PySem.W.plainGet K CS Str.empty = true)
    (hdS : PySem.W.hasDictIn K CS = true)
    (poS : PySem.W.plainOver K CS = true)
    (saS : PySem.W.findIn K (.ref CS) "__setattr__" = some (some (.builtin "object.__setattr__")))
    (mkS : PySem.W.makesIn K CS = true)
    (kcS : PySem.W.keepIn K (.ref CS) = true)
    (haS : PySem.W.findIn K (.ref CS) "__class__" = some (some (.builtin "object.__class__")))
    (hmS : PySem.W.mroIn K CS (.type "object") = some true)
    (tyS : PySem.W.typeIn K (.ref CS) = some (.type "type"))
    (suS : PySem.W.subIn K (.ref CS) (.ref CS) = some true)
    (obS : PySem.W.subIn K (.ref CS) (.type "object") = some true)
    (noS0 : PySem.W.findIn K (.ref CS) "_terms" = some none)
    (hn : PySem.W.specialIn K (.builtin "object.__class__") "__get__" = some (some (.builtin "getset_descriptor.__get__")))
    (htk : PySem.W.takesIn K (.builtin "object.__class__") = some true)
    (neS : PySem.W.findIn K (.ref CS) "__ne__" = some (some (.builtin "object.__ne__")))
    (z_si : PySem.W.subIn K (.type "int") (.ref CS) = some false)
    (z_ft : PySem.W.notFirst K CS (.type "tuple") = true)
    (z_st : PySem.W.subIn K (.type "tuple") (.ref CS) = some false)
    (z_fx : PySem.W.notFirst K CS (.type "str") = true)
    (z_sx : PySem.W.subIn K (.type "str") (.ref CS) = some false)
    (z_fn : PySem.W.notFirst K CS (.type "NoneType") = true)
    (z_sn : PySem.W.subIn K (.type "NoneType") (.ref CS) = some false)
    (z_ci : PySem.W.subIn K (.ref CS) (.type "int") = some false)
    (aSi : PySem.W.findIn K (.ref CS) "__init__" = some (some (.ref fSi)))
    (iSi : PySem.W.isFn K (.ref fSi) = true)
    (lSi : K.lookup fSi = some ⟨ocSi, odSi, .func (PySem.W.fnOf "__init__" "Sum.__init__" (defArgs s_Sum___init__) (defBody s_Sum___init__) (defScope s_Sum___init__) (.ref tD) kVSi dcSi pmSi anSi cdSi ctSi), slSi⟩)
    (cSi : PySem.W.codeIn K cdSi "Sum.__init__" = true)
    (kSi : PySem.W.keepIn K (.ref fSi) = true)
    (lT : K.lookup tD = some ⟨.type "tuple", odT, .seq #[.ref t0] nT, slT⟩)
    (l0 : K.lookup t0 = some ⟨.type "tuple", od0, .seq #[] n0, sl0⟩)
    (aSl : PySem.W.findIn K (.ref CS) "__len__" = some (some (.ref fSl)))
    (iSl : PySem.W.isFn K (.ref fSl) = true)
    (lSl : K.lookup fSl = some ⟨ocSl, odSl, .func (PySem.W.fnOf "__len__" "Sum.__len__" (defArgs s_Sum___len__) (defBody s_Sum___len__) (defScope s_Sum___len__) .none kVSl dcSl pmSl anSl cdSl ctSl), slSl⟩)
    (cSl : PySem.W.codeIn K cdSl "Sum.__len__" = true)
    (kSl : PySem.W.keepIn K (.ref fSl) = true)
    (fiSl : PySem.W.fnIn K fSl = true)
    (aSb : PySem.W.findIn K (.ref CS) "__bool__" = some (some (.ref fSb)))
    (iSb : PySem.W.isFn K (.ref fSb) = true)
    (lSb : K.lookup fSb = some ⟨ocSb, odSb, .func (PySem.W.fnOf "__bool__" "Sum.__bool__" (defArgs s_Sum___bool__) (defBody s_Sum___bool__) (defScope s_Sum___bool__) .none kVSb dcSb pmSb anSb cdSb ctSb), slSb⟩)
    (cSb : PySem.W.codeIn K cdSb "Sum.__bool__" = true)
    (kSb : PySem.W.keepIn K (.ref fSb) = true)
    (fiSb : PySem.W.fnIn K fSb = true)
    (aSg : PySem.W.findIn K (.ref CS) "__getitem__" = some (some (.ref fSg)))
    (iSg : PySem.W.isFn K (.ref fSg) = true)
    (lSg : K.lookup fSg = some ⟨ocSg, odSg, .func (PySem.W.fnOf "__getitem__" "Sum.__getitem__" (defArgs s_Sum___getitem__) (defBody s_Sum___getitem__) (defScope s_Sum___getitem__) .none kVSg dcSg pmSg anSg cdSg ctSg), slSg⟩)
    (cSg : PySem.W.codeIn K cdSg "Sum.__getitem__" = true)
    (kSg : PySem.W.keepIn K (.ref fSg) = true)
    (fiSg : PySem.W.fnIn K fSg = true)
    (aSc : PySem.W.findIn K (.ref CS) "__contains__" = some (some (.ref fSc)))
    (iSc : PySem.W.isFn K (.ref fSc) = true)
    (lSc : K.lookup fSc = some ⟨ocSc, odSc, .func (PySem.W.fnOf "__contains__" "Sum.__contains__" (defArgs s_Sum___contains__) (defBody s_Sum___contains__) (defScope s_Sum___contains__) .none kVSc dcSc pmSc anSc cdSc ctSc), slSc⟩)
    (cSc : PySem.W.codeIn K cdSc "Sum.__contains__" = true)
    (kSc : PySem.W.keepIn K (.ref fSc) = true)
    (fiSc : PySem.W.fnIn K fSc = true)
    (aSs : PySem.W.findIn K (.ref CS) "__str__" = some (some (.ref fSs)))
    (iSs : PySem.W.isFn K (.ref fSs) = true)
    (lSs : K.lookup fSs = some ⟨ocSs, odSs, .func (PySem.W.fnOf "__str__" "Sum.__str__" (defArgs s_Sum___str__) (defBody s_Sum___str__) (defScope s_Sum___str__) .none kVSs dcSs pmSs anSs cdSs ctSs), slSs⟩)
    (cSs : PySem.W.codeIn K cdSs "Sum.__str__" = true)
    (kSs : PySem.W.keepIn K (.ref fSs) = true)
    (fiSs : PySem.W.fnIn K fSs = true)
    (aSq : PySem.W.findIn K (.ref CS) "__eq__" = some (some (.ref fSq)))
    (iSq : PySem.W.isFn K (.ref fSq) = true)
    (lSq : K.lookup fSq = some ⟨ocSq, odSq, .func (PySem.W.fnOf "__eq__" "Sum.__eq__" (defArgs s_Sum___eq__) (defBody s_Sum___eq__) (defScope s_Sum___eq__) .none kVSq dcSq pmSq anSq cdSq ctSq), slSq⟩)
    (cSq : PySem.W.codeIn K cdSq "Sum.__eq__" = true)
    (kSq : PySem.W.keepIn K (.ref fSq) = true)
    (fiSq : PySem.W.fnIn K fSq = true)
    (aSt : PySem.W.findIn K (.ref CS) "terms" = some (some (.ref pSt)))
    (gSt : PySem.W.specialIn K (.ref pSt) "__get__" = some (some (.builtin "property.__get__")))
    (tSt : PySem.W.takesIn K (.ref pSt) = some true)
    (rSt_ : PySem.W.recIn K pSt "property" = some (.ref fSt :: rSt))
    (lSt : K.lookup fSt = some ⟨ocSt, odSt, .func (PySem.W.fnOf "terms" "Sum.terms" (defArgs s_Sum_terms) (defBody s_Sum_terms) (defScope s_Sum_terms) .none kVSt dcSt pmSt anSt cdSt ctSt), slSt⟩)
    (cSt : PySem.W.codeIn K cdSt "Sum.terms" = true)
    (kSt : PySem.W.keepIn K (.ref fSt) = true)
    (aWe : PySem.W.nsIn K mainGlobals "_law_well" = some (some (.ref fWe)))
    (lWe : K.lookup fWe = some ⟨ocWe, odWe, .func (PySem.W.fnOf "_law_well" "_law_well" (defArgs s_well) (defBody s_well) (defScope s_well) .none kVWe dcWe pmWe anWe cdWe ctWe), slWe⟩)
    (cWe : PySem.W.codeIn K cdWe "_law_well" = true)
    (kWe : PySem.W.keepIn K (.ref fWe) = true)
    (aDi : PySem.W.nsIn K mainGlobals "_law_dip" = some (some (.ref fDi)))
    (lDi : K.lookup fDi = some ⟨ocDi, odDi, .func (PySem.W.fnOf "_law_dip" "_law_dip" (defArgs s_dip) (defBody s_dip) (defScope s_dip) .none kVDi dcDi pmDi anDi cdDi ctDi), slDi⟩)
    (cDi : PySem.W.codeIn K cdDi "_law_dip" = true)
    (kDi : PySem.W.keepIn K (.ref fDi) = true)
    (aNa : PySem.W.nsIn K mainGlobals "_law_name" = some (some (.ref fNa)))
    (lNa : K.lookup fNa = some ⟨ocNa, odNa, .func (PySem.W.fnOf "_law_name" "_law_name" (defArgs s_name) (defBody s_name) (defScope s_name) .none kVNa dcNa pmNa anNa cdNa ctNa), slNa⟩)
    (cNa : PySem.W.codeIn K cdNa "_law_name" = true)
    (kNa : PySem.W.keepIn K (.ref fNa) = true)
    (aFr : PySem.W.nsIn K mainGlobals "_law_fresh" = some (some (.ref fFr)))
    (lFr : K.lookup fFr = some ⟨ocFr, odFr, .func (PySem.W.fnOf "_law_fresh" "_law_fresh" (defArgs s_fresh) (defBody s_fresh) (defScope s_fresh) .none kVFr dcFr pmFr anFr cdFr ctFr), slFr⟩)
    (cFr : PySem.W.codeIn K cdFr "_law_fresh" = true)
    (kFr : PySem.W.keepIn K (.ref fFr) = true)
    (aNo : PySem.W.nsIn K mainGlobals "_law_number" = some (some (.ref fNo)))
    (lNo : K.lookup fNo = some ⟨ocNo, odNo, .func (PySem.W.fnOf "_law_number" "_law_number" (defArgs s_number) (defBody s_number) (defScope s_number) .none kVNo dcNo pmNo anNo cdNo ctNo), slNo⟩)
    (cNo : PySem.W.codeIn K cdNo "_law_number" = true)
    (kNo : PySem.W.keepIn K (.ref fNo) = true)
    (aPa : PySem.W.nsIn K mainGlobals "_law_pairs" = some (some (.ref fPa)))
    (lPa : K.lookup fPa = some ⟨ocPa, odPa, .func (PySem.W.fnOf "_law_pairs" "_law_pairs" (defArgs s_pairs) (defBody s_pairs) (defScope s_pairs) .none kVPa dcPa pmPa anPa cdPa ctPa), slPa⟩)
    (cPa : PySem.W.codeIn K cdPa "_law_pairs" = true)
    (kPa : PySem.W.keepIn K (.ref fPa) = true)
    (aMe : PySem.W.nsIn K mainGlobals "_law_merged" = some (some (.ref fMe)))
    (lMe : K.lookup fMe = some ⟨ocMe, odMe, .func (PySem.W.fnOf "_law_merged" "_law_merged" (defArgs s_merged) (defBody s_merged) (defScope s_merged) .none kVMe dcMe pmMe anMe cdMe ctMe), slMe⟩)
    (cMe : PySem.W.codeIn K cdMe "_law_merged" = true)
    (kMe : PySem.W.keepIn K (.ref fMe) = true)
    (b_zip : PySem.W.nsIn K mainGlobals "zip" = some none)
    (aDg : PySem.W.nsIn K mainGlobals "is_digits" = some (some (.ref fDg)))
    (lDg : K.lookup fDg = some ⟨ocDg, odDg, .func (PySem.W.fnOf "is_digits" "is_digits" (defArgs s_is_digits) (defBody s_is_digits) (defScope s_is_digits) .none kVDg dcDg pmDg anDg cdDg ctDg), slDg⟩)
    (cDg : PySem.W.codeIn K cdDg "is_digits" = true)
    (kDg : PySem.W.keepIn K (.ref fDg) = true)
    (aRn : PySem.W.nsIn K mainGlobals "read_number" = some (some (.ref fRn)))
    (lRn : K.lookup fRn = some ⟨ocRn, odRn, .func (PySem.W.fnOf "read_number" "read_number" (defArgs s_read_number) (defBody s_read_number) (defScope s_read_number) .none kVRn dcRn pmRn anRn cdRn ctRn), slRn⟩)
    (cRn : PySem.W.codeIn K cdRn "read_number" = true)
    (kRn : PySem.W.keepIn K (.ref fRn) = true)
    (aAp : PySem.W.nsIn K mainGlobals "_with_sign_apart" = some (some (.ref fAp)))
    (lAp : K.lookup fAp = some ⟨ocAp, odAp, .func (PySem.W.fnOf "_with_sign_apart" "_with_sign_apart" (defArgs s_with_sign_apart) (defBody s_with_sign_apart) (defScope s_with_sign_apart) .none kVAp dcAp pmAp anAp cdAp ctAp), slAp⟩)
    (cAp : PySem.W.codeIn K cdAp "_with_sign_apart" = true)
    (kAp : PySem.W.keepIn K (.ref fAp) = true)
    (aRt : PySem.W.nsIn K mainGlobals "_read_term" = some (some (.ref fRt)))
    (lRt : K.lookup fRt = some ⟨ocRt, odRt, .func (PySem.W.fnOf "_read_term" "_read_term" (defArgs s_read_term) (defBody s_read_term) (defScope s_read_term) .none kVRt dcRt pmRt anRt cdRt ctRt), slRt⟩)
    (cRt : PySem.W.codeIn K cdRt "_read_term" = true)
    (kRt : PySem.W.keepIn K (.ref fRt) = true)
    (aTi : PySem.W.nsIn K mainGlobals "_terms_in" = some (some (.ref fTi)))
    (lTi : K.lookup fTi = some ⟨ocTi, odTi, .func (PySem.W.fnOf "_terms_in" "_terms_in" (defArgs s_terms_in) (defBody s_terms_in) (defScope s_terms_in) .none kVTi dcTi pmTi anTi cdTi ctTi), slTi⟩)
    (cTi : PySem.W.codeIn K cdTi "_terms_in" = true)
    (kTi : PySem.W.keepIn K (.ref fTi) = true)
    (rdS : PySem.W.readsIn K CS (.type "type") = true)
    (gaS : PySem.W.specialIn K (.ref CS) "__getattribute__" = some (some (.builtin "type.__getattribute__")))
    (aSr : PySem.W.findCls K (.ref CS) (.type "type") "read" = some (.get (.builtin "classmethod.__get__") (.ref pSr) .none (.ref CS)))
    (rSr_ : PySem.W.recIn K pSr "classmethod" = some (.ref fSr :: rSr))
    (fiSr : PySem.W.fnIn K fSr = true)
    (lSr : K.lookup fSr = some ⟨ocSr, odSr, .func (PySem.W.fnOf "read" "Sum.read" (defArgs s_Sum_read) (defBody s_Sum_read) (defScope s_Sum_read) .none kVSr dcSr pmSr anSr cdSr ctSr), slSr⟩)
    (cSr : PySem.W.codeIn K cdSr "Sum.read" = true)
    (kSr : PySem.W.keepIn K (.ref fSr) = true)
    (sfS : PySem.W.selfFirst K CS = true)
    (hI : PySem.W.findIn K (.type "int") "__mul__" = some foI)
    (hJ : PySem.W.findIn K (.type "int") "__rmul__" = some roI)
    (aSad : PySem.W.findIn K (.ref CS) "__add__" = some (some (.ref fSad)))
    (iSad : PySem.W.isFn K (.ref fSad) = true)
    (lSad : K.lookup fSad = some ⟨ocSad, odSad, .func (PySem.W.fnOf "__add__" "Sum.__add__" (defArgs s_Sum___add__) (defBody s_Sum___add__) (defScope s_Sum___add__) .none kVSad dcSad pmSad anSad cdSad ctSad), slSad⟩)
    (cSad : PySem.W.codeIn K cdSad "Sum.__add__" = true)
    (kSad : PySem.W.keepIn K (.ref fSad) = true)
    (fiSad : PySem.W.fnIn K fSad = true)
    (aSmu : PySem.W.findIn K (.ref CS) "__mul__" = some (some (.ref fSmu)))
    (iSmu : PySem.W.isFn K (.ref fSmu) = true)
    (lSmu : K.lookup fSmu = some ⟨ocSmu, odSmu, .func (PySem.W.fnOf "__mul__" "Sum.__mul__" (defArgs s_Sum___mul__) (defBody s_Sum___mul__) (defScope s_Sum___mul__) .none kVSmu dcSmu pmSmu anSmu cdSmu ctSmu), slSmu⟩)
    (cSmu : PySem.W.codeIn K cdSmu "Sum.__mul__" = true)
    (kSmu : PySem.W.keepIn K (.ref fSmu) = true)
    (fiSmu : PySem.W.fnIn K fSmu = true)
    (aSrm : PySem.W.findIn K (.ref CS) "__rmul__" = some (some (.ref fSrm)))
    (iSrm : PySem.W.isFn K (.ref fSrm) = true)
    (lSrm : K.lookup fSrm = some ⟨ocSrm, odSrm, .func (PySem.W.fnOf "__rmul__" "Sum.__rmul__" (defArgs s_Sum___rmul__) (defBody s_Sum___rmul__) (defScope s_Sum___rmul__) .none kVSrm dcSrm pmSrm anSrm cdSrm ctSrm), slSrm⟩)
    (cSrm : PySem.W.codeIn K cdSrm "Sum.__rmul__" = true)
    (kSrm : PySem.W.keepIn K (.ref fSrm) = true)
    (fiSrm : PySem.W.fnIn K fSrm = true)
    (aSne : PySem.W.findIn K (.ref CS) "__neg__" = some (some (.ref fSne)))
    (iSne : PySem.W.isFn K (.ref fSne) = true)
    (lSne : K.lookup fSne = some ⟨ocSne, odSne, .func (PySem.W.fnOf "__neg__" "Sum.__neg__" (defArgs s_Sum___neg__) (defBody s_Sum___neg__) (defScope s_Sum___neg__) .none kVSne dcSne pmSne anSne cdSne ctSne), slSne⟩)
    (cSne : PySem.W.codeIn K cdSne "Sum.__neg__" = true)
    (kSne : PySem.W.keepIn K (.ref fSne) = true)
    (fiSne : PySem.W.fnIn K fSne = true)
    (aSsu : PySem.W.findIn K (.ref CS) "__sub__" = some (some (.ref fSsu)))
    (iSsu : PySem.W.isFn K (.ref fSsu) = true)
    (lSsu : K.lookup fSsu = some ⟨ocSsu, odSsu, .func (PySem.W.fnOf "__sub__" "Sum.__sub__" (defArgs s_Sum___sub__) (defBody s_Sum___sub__) (defScope s_Sum___sub__) .none kVSsu dcSsu pmSsu anSsu cdSsu ctSsu), slSsu⟩)
    (cSsu : PySem.W.codeIn K cdSsu "Sum.__sub__" = true)
    (kSsu : PySem.W.keepIn K (.ref fSsu) = true)
    (fiSsu : PySem.W.fnIn K fSsu = true)
    (b_list : PySem.W.nsIn K mainGlobals "list" = some none)
    (aTx : PySem.W.nsIn K mainGlobals "_law_sum_text" = some (some (.ref fTx)))
    (lTx : K.lookup fTx = some ⟨ocTx, odTx, .func (PySem.W.fnOf "_law_sum_text" "_law_sum_text" (defArgs s_sum_text) (defBody s_sum_text) (defScope s_sum_text) .none kVTx dcTx pmTx anTx cdTx ctTx), slTx⟩)
    (cTx : PySem.W.codeIn K cdTx "_law_sum_text" = true)
    (kTx : PySem.W.keepIn K (.ref fTx) = true)
    (aMu : PySem.W.nsIn K mainGlobals "_law_much" = some (some (.ref fMu)))
    (lMu : K.lookup fMu = some ⟨ocMu, odMu, .func (PySem.W.fnOf "_law_much" "_law_much" (defArgs s_much) (defBody s_much) (defScope s_much) .none kVMu dcMu pmMu anMu cdMu ctMu), slMu⟩)
    (cMu : PySem.W.codeIn K cdMu "_law_much" = true)
    (kMu : PySem.W.keepIn K (.ref fMu) = true)
    (aEp : PySem.W.nsIn K mainGlobals "_law_step" = some (some (.ref fEp)))
    (lEp : K.lookup fEp = some ⟨ocEp, odEp, .func (PySem.W.fnOf "_law_step" "_law_step" (defArgs s_step) (defBody s_step) (defScope s_step) .none kVEp dcEp pmEp anEp cdEp ctEp), slEp⟩)
    (cEp : PySem.W.codeIn K cdEp "_law_step" = true)
    (kEp : PySem.W.keepIn K (.ref fEp) = true)
    (aAl : PySem.W.nsIn K mainGlobals "_law_all_right" = some (some (.ref fAl)))
    (lAl : K.lookup fAl = some ⟨ocAl, odAl, .func (PySem.W.fnOf "_law_all_right" "_law_all_right" (defArgs s_all_right) (defBody s_all_right) (defScope s_all_right) .none kVAl dcAl pmAl anAl cdAl ctAl), slAl⟩)
    (cAl : PySem.W.codeIn K cdAl "_law_all_right" = true)
    (kAl : PySem.W.keepIn K (.ref fAl) = true)
    (aRo : PySem.W.nsIn K mainGlobals "_law_row_right" = some (some (.ref fRo)))
    (lRo : K.lookup fRo = some ⟨ocRo, odRo, .func (PySem.W.fnOf "_law_row_right" "_law_row_right" (defArgs s_row_right) (defBody s_row_right) (defScope s_row_right) .none kVRo dcRo pmRo anRo cdRo ctRo), slRo⟩)
    (cRo : PySem.W.codeIn K cdRo "_law_row_right" = true)
    (kRo : PySem.W.keepIn K (.ref fRo) = true)
    (aLa : PySem.W.nsIn K mainGlobals "law" = some (some (.ref fLa)))
    (lLa : K.lookup fLa = some ⟨ocLa, odLa, .func (PySem.W.fnOf "law" "law" (defArgs s_law) (defBody s_law) (defScope s_law) .none kVLa dcLa pmLa anLa cdLa ctLa), slLa⟩)
    (cLa : PySem.W.codeIn K cdLa "law" = true)
    (kLa : PySem.W.keepIn K (.ref fLa) = true)
    : ∃ fd : FuncData, (∀ (s : Shared) (v : Value), BindsTo s fd ⟨[v], []⟩ [("_law_cells", v)]) ∧ ∀ base : Heap, K.In base → base.Ns mainGlobals mg → FnG l.prog w K mg base 11 fa fd ["_law_cells"] (spLaw K) := by
  have e := hfa.symm.trans (PySem.W.mg_of X G aLa)
  cases e
  have T : Blt mg := ⟨PySem.W.mg_none_of X G b_len, PySem.W.mg_none_of X G b_int, PySem.W.mg_none_of X G b_abs, PySem.W.mg_none_of X G b_max, PySem.W.mg_none_of X G b_min, PySem.W.mg_none_of X G b_all, PySem.W.mg_none_of X G b_any, PySem.W.mg_none_of X G b_repr, PySem.W.mg_none_of X G b_range, PySem.W.mg_none_of X G b_divmod, PySem.W.mg_none_of X G b_isinstance, PySem.W.mg_none_of X G b_str⟩
  have T2 : Blt2 mg := ⟨PySem.W.mg_none_of X G b_sum, PySem.W.mg_none_of X G b_sorted, PySem.W.mg_none_of X G b_set, PySem.W.mg_none_of X G b_tuple, PySem.W.mg_none_of X G b_enumerate, PySem.W.mg_none_of X G b_bool⟩
  have Cs : Cst mg := ⟨⟨_, PySem.W.mg_of X G g__LETTERS, _, rfl⟩, ⟨_, PySem.W.mg_of X G g__DIGITS, _, rfl⟩, ⟨_, PySem.W.mg_of X G g__LONGEST_NAME, _, rfl⟩⟩
  have Cs2 : Cst2 mg := ⟨⟨_, PySem.W.mg_of X G g__PIECE_WORTH, _, rfl⟩, ⟨_, PySem.W.mg_of X G g__PIECE, _, rfl⟩⟩
  have FIn := fun_mk (st := s_is_name) lIn cIn kIn
  have bIn : Binds K _ ["value"] [] := FIn.binds (ps := ["value"]) fun _ _ _ _ _ _ us hl => match us, hl with | [_], _ => rfl
  have FNu := fun_mk (st := s_is_number) lNu cNu kNu
  have bNu : Binds K _ ["value"] [] := FNu.binds (ps := ["value"]) fun _ _ _ _ _ _ us hl => match us, hl with | [_], _ => rfl
  have FWn := fun_mk (st := s_written_number) lWn cWn kWn
  have bWn : Binds K _ ["number"] [] := FWn.binds (ps := ["number"]) fun _ _ _ _ _ _ us hl => match us, hl with | [_], _ => rfl
  have FIt := fun_mk (st := s_is_term) lIt cIt kIt
  have bIt : Binds K _ ["value"] [] := FIt.binds (ps := ["value"]) fun _ _ _ _ _ _ us hl => match us, hl with | [_], _ => rfl
  have FCk := fun_mk (st := s_check_terms) lCk cCk kCk
  have bCk : Binds K _ ["terms"] [] := FCk.binds (ps := ["terms"]) fun _ _ _ _ _ _ us hl => match us, hl with | [_], _ => rfl
  have FCo := fun_mk (st := s_collected) lCo cCo kCo
  have bCo : Binds K _ ["terms"] [] := FCo.binds (ps := ["terms"]) fun _ _ _ _ _ _ us hl => match us, hl with | [_], _ => rfl
  have FWs := fun_mk (st := s_without_sign) lWs cWs kWs
  have bWs : Binds K _ ["name", "number"] [] := FWs.binds (ps := ["name", "number"]) fun _ _ _ _ _ _ us hl => match us, hl with | [_, _], _ => rfl
  have FWf := fun_mk (st := s_written_further) lWf cWf kWf
  have bWf : Binds K _ ["name", "number"] [] := FWf.binds (ps := ["name", "number"]) fun _ _ _ _ _ _ us hl => match us, hl with | [_, _], _ => rfl
  have FWt := fun_mk (st := s_written_terms) lWt cWt kWt
  have bWt : Binds K _ ["terms"] [] := FWt.binds (ps := ["terms"]) fun _ _ _ _ _ _ us hl => match us, hl with | [_], _ => rfl
  have clS : Cls K CS := ⟨pgS, hdS, poS, saS⟩
  have SC : SClass K mg CS := ⟨⟨clS, haS, hn, htk, hmS⟩, PySem.W.mg_of X G nS, noS0, kit_self K CS⟩
  have SK : SKinds K CS := ⟨z_ci, nf_self _ _, z_ft, z_fx, z_fn, kit_sub hdS tyS suS z_st, kit_sub hdS tyS suS z_sx, kit_sub hdS tyS suS z_sn, kit_sub hdS tyS suS z_si⟩
  have FSi : FunD K "__init__" "Sum.__init__" (defArgs s_Sum___init__) (defBody s_Sum___init__) (defScope s_Sum___init__) [.ref t0] [] fSi _ := ⟨⟨_, _, _, _, _, _, _, _, _, _, rfl, lSi, cSi, .inr ⟨by simp, tD, _, [.ref t0], nT, rfl, lT, rfl, .cons rfl .nil⟩, .inl rfl⟩, kSi⟩
  have ht0 : ∀ H, SqT K H t0 [] := fun H => .inr ⟨_, #[], n0, l0, rfl, rfl, by decide, .nil⟩
  obtain ⟨dsA, vdA, bA⟩ := chainA FSi
  obtain ⟨dsB, vdB, bB⟩ := chainB FSi
  have MkS : Mk K CS fSi := ⟨mkS, aSi, iSi, kcS⟩
  have FSl := fun_mk (st := s_Sum___len__) lSl cSl kSl
  have bSl : Binds K _ ["self"] [] := FSl.binds (ps := ["self"]) fun _ _ _ _ _ _ us hl => match us, hl with | [_], _ => rfl
  have FSb := fun_mk (st := s_Sum___bool__) lSb cSb kSb
  have bSb : Binds K _ ["self"] [] := FSb.binds (ps := ["self"]) fun _ _ _ _ _ _ us hl => match us, hl with | [_], _ => rfl
  have FSg := fun_mk (st := s_Sum___getitem__) lSg cSg kSg
  have bSg : Binds K _ ["self", "at"] [] := FSg.binds (ps := ["self", "at"]) fun _ _ _ _ _ _ us hl => match us, hl with | [_, _], _ => rfl
  have FSc := fun_mk (st := s_Sum___contains__) lSc cSc kSc
  have bSc : Binds K _ ["self", "x"] [] := FSc.binds (ps := ["self", "x"]) fun _ _ _ _ _ _ us hl => match us, hl with | [_, _], _ => rfl
  have FSs := fun_mk (st := s_Sum___str__) lSs cSs kSs
  have bSs : Binds K _ ["self"] [] := FSs.binds (ps := ["self"]) fun _ _ _ _ _ _ us hl => match us, hl with | [_], _ => rfl
  have FSq := fun_mk (st := s_Sum___eq__) lSq cSq kSq
  have bSq : Binds K _ ["self", "other"] [] := FSq.binds (ps := ["self", "other"]) fun _ _ _ _ _ _ us hl => match us, hl with | [_, _], _ => rfl
  have FSt := fun_mk (st := s_Sum_terms) lSt cSt kSt
  have bSt : Binds K _ ["self"] [] := FSt.binds (ps := ["self"]) fun _ _ _ _ _ _ us hl => match us, hl with | [_], _ => rfl
  have FWe := fun_mk (st := s_well) lWe cWe kWe
  have bWe : Binds K _ ["_law_cells", "_law_k"] [] := FWe.binds (ps := ["_law_cells", "_law_k"]) fun _ _ _ _ _ _ us hl => match us, hl with | [_, _], _ => rfl
  have FDi := fun_mk (st := s_dip) lDi cDi kDi
  have bDi : Binds K _ ["_law_well_here", "_law_many"] [] := FDi.binds (ps := ["_law_well_here", "_law_many"]) fun _ _ _ _ _ _ us hl => match us, hl with | [_, _], _ => rfl
  have FNa := fun_mk (st := s_name) lNa cNa kNa
  have bNa : Binds K _ ["_law_well_here"] [] := FNa.binds (ps := ["_law_well_here"]) fun _ _ _ _ _ _ us hl => match us, hl with | [_], _ => rfl
  have FFr := fun_mk (st := s_fresh) lFr cFr kFr
  have bFr : Binds K _ ["_law_well_here", "_law_taken"] [] := FFr.binds (ps := ["_law_well_here", "_law_taken"]) fun _ _ _ _ _ _ us hl => match us, hl with | [_, _], _ => rfl
  have FNo := fun_mk (st := s_number) lNo cNo kNo
  have bNo : Binds K _ ["_law_well_here"] [] := FNo.binds (ps := ["_law_well_here"]) fun _ _ _ _ _ _ us hl => match us, hl with | [_], _ => rfl
  have FPa := fun_mk (st := s_pairs) lPa cPa kPa
  have bPa : Binds K _ ["_law_well_here", "_law_most"] [] := FPa.binds (ps := ["_law_well_here", "_law_most"]) fun _ _ _ _ _ _ us hl => match us, hl with | [_, _], _ => rfl
  have FMe := fun_mk (st := s_merged) lMe cMe kMe
  have bMe : Binds K _ ["_law_pairs_here"] [] := FMe.binds (ps := ["_law_pairs_here"]) fun _ _ _ _ _ _ us hl => match us, hl with | [_], _ => rfl
  have hz : mg "zip" = none := PySem.W.mg_none_of X G b_zip
  have FDg := fun_mk (st := s_is_digits) lDg cDg kDg
  have bDg : Binds K _ ["text"] [] := FDg.binds (ps := ["text"]) fun _ _ _ _ _ _ us hl => match us, hl with | [_], _ => rfl
  have FRn := fun_mk (st := s_read_number) lRn cRn kRn
  have bRn : Binds K _ ["digits"] [] := FRn.binds (ps := ["digits"]) fun _ _ _ _ _ _ us hl => match us, hl with | [_], _ => rfl
  have FAp := fun_mk (st := s_with_sign_apart) lAp cAp kAp
  have bAp : Binds K _ ["text"] [] := FAp.binds (ps := ["text"]) fun _ _ _ _ _ _ us hl => match us, hl with | [_], _ => rfl
  have FRt := fun_mk (st := s_read_term) lRt cRt kRt
  have bRt : Binds K _ ["sign", "word"] [] := FRt.binds (ps := ["sign", "word"]) fun _ _ _ _ _ _ us hl => match us, hl with | [_, _], _ => rfl
  have FTi := fun_mk (st := s_terms_in) lTi cTi kTi
  have bTi : Binds K _ ["text"] [] := FTi.binds (ps := ["text"]) fun _ _ _ _ _ _ us hl => match us, hl with | [_], _ => rfl
  have RS : ClX.CRead K CS (.type "type") := ⟨rdS, gaS⟩
  have FSr := fun_mk (st := s_Sum_read) lSr cSr kSr
  have bSr : Binds K _ ["cls", "text"] [] := FSr.binds (ps := ["cls", "text"]) fun _ _ _ _ _ _ us hl => match us, hl with | [_, _], _ => rfl
  have FSad := fun_mk (st := s_Sum___add__) lSad cSad kSad
  have bSad : Binds K _ ["self", "other"] [] := FSad.binds (ps := ["self", "other"]) fun _ _ _ _ _ _ us hl => match us, hl with | [_, _], _ => rfl
  have FSmu := fun_mk (st := s_Sum___mul__) lSmu cSmu kSmu
  have bSmu : Binds K _ ["self", "other"] [] := FSmu.binds (ps := ["self", "other"]) fun _ _ _ _ _ _ us hl => match us, hl with | [_, _], _ => rfl
  have FSrm := fun_mk (st := s_Sum___rmul__) lSrm cSrm kSrm
  have bSrm : Binds K _ ["self", "other"] [] := FSrm.binds (ps := ["self", "other"]) fun _ _ _ _ _ _ us hl => match us, hl with | [_, _], _ => rfl
  have FSne := fun_mk (st := s_Sum___neg__) lSne cSne kSne
  have bSne : Binds K _ ["self"] [] := FSne.binds (ps := ["self"]) fun _ _ _ _ _ _ us hl => match us, hl with | [_], _ => rfl
  have FSsu := fun_mk (st := s_Sum___sub__) lSsu cSsu kSsu
  have bSsu : Binds K _ ["self", "other"] [] := FSsu.binds (ps := ["self", "other"]) fun _ _ _ _ _ _ us hl => match us, hl with | [_, _], _ => rfl
  have hli : mg "list" = none := PySem.W.mg_none_of X G b_list
  have FTx := fun_mk (st := s_sum_text) lTx cTx kTx
  have bTx : Binds K _ ["_law_terms"] [] := FTx.binds (ps := ["_law_terms"]) fun _ _ _ _ _ _ us hl => match us, hl with | [_], _ => rfl
  have FMu := fun_mk (st := s_much) lMu cMu kMu
  have bMu : Binds K _ ["_law_pairs_here"] [] := FMu.binds (ps := ["_law_pairs_here"]) fun _ _ _ _ _ _ us hl => match us, hl with | [_], _ => rfl
  have FEp := fun_mk (st := s_step) lEp cEp kEp
  have bEp : Binds K _ ["_law_well_here", "_law_sums", "_law_models"] [] := FEp.binds (ps := ["_law_well_here", "_law_sums", "_law_models"]) fun _ _ _ _ _ _ us hl => match us, hl with | [_, _, _], _ => rfl
  have FAl := fun_mk (st := s_all_right) lAl cAl kAl
  have bAl : Binds K _ ["_law_sums", "_law_models"] [] := FAl.binds (ps := ["_law_sums", "_law_models"]) fun _ _ _ _ _ _ us hl => match us, hl with | [_, _], _ => rfl
  have FRo := fun_mk (st := s_row_right) lRo cRo kRo
  have bRo : Binds K _ ["_law_well_here"] [] := FRo.binds (ps := ["_law_well_here"]) fun _ _ _ _ _ _ us hl => match us, hl with | [_], _ => rfl
  refine ⟨PySem.W.fnOf "law" "law" (defArgs s_law) (defBody s_law) (defScope s_law) .none kVLa dcLa pmLa anLa cdLa ctLa, fun s v => .of_eq rfl, fun base _ _ => ?_⟩
  have GIn : Fn l.prog w K mg base "is_name" 1 ["value"] (sp_is_name K) := ⟨_, _, PySem.W.mg_of X G aIn, kIn, bIn, ok_is_name FIn T Cs⟩
  have GNu : Fn l.prog w K mg base "is_number" 1 ["value"] (sp_is_number K) := ⟨_, _, PySem.W.mg_of X G aNu, kNu, bNu, ok_is_number FNu T T2⟩
  have GWn : Fn l.prog w K mg base "written_number" 1 ["number"] (sp_written) := ⟨_, _, PySem.W.mg_of X G aWn, kWn, bWn, ok_written_number FWn T Cs2⟩
  have GIt : Fn l.prog w K mg base "_is_term" 2 ["value"] (sp_is_term K) := ⟨_, _, PySem.W.mg_of X G aIt, kIt, bIt, ok_is_term FIt T T2 GIn.irr GNu.irr⟩
  have GCk : Fn l.prog w K mg base "_check_terms" 3 ["terms"] (sp_check_terms K) := ⟨_, _, PySem.W.mg_of X G aCk, kCk, bCk, ok_check_terms FCk T T2 GIt.irr⟩
  have GCo : Fn l.prog w K mg base "_collected" 1 ["terms"] (sp_collected K) := ⟨_, _, PySem.W.mg_of X G aCo, kCo, bCo, ok_collected FCo T2⟩
  have GWs : Fn l.prog w K mg base "_without_sign" 2 ["name", "number"] (sp_without) := ⟨_, _, PySem.W.mg_of X G aWs, kWs, bWs, ok_without_sign FWs T GWn.irr⟩
  have GWf : Fn l.prog w K mg base "_written_further" 3 ["name", "number"] (sp_further) := ⟨_, _, PySem.W.mg_of X G aWf, kWf, bWf, ok_written_further FWf GWs.irr⟩
  have GWt : Fn l.prog w K mg base "_written_terms" 4 ["terms"] (sp_wterms K) := ⟨_, _, PySem.W.mg_of X G aWt, kWt, bWt, ok_written_terms FWt GWs.irr GWf.irr⟩
  have OSi : FnOk l.prog w K mg base CX0 4 fSi _ ["self", "terms"] (sp_Sum K CS) := ok_Sum_i FSi SC GCk.irr GCo.irr
  have S1 : Mkr l.prog w K mg base "Sum" CS 4 (sp_Sum K CS) [] := ⟨SC.k, _, _, _, dsB, MkS, bB, vdB, OSi⟩
  have S0 : Mkr l.prog w K mg base "Sum" CS 4 (sp_Sum K CS) [.ref t0] := ⟨SC.k, _, _, _, dsA, MkS, bA, vdA, OSi⟩
  have GSl : OwnM l.prog w K mg base CS "__len__" 1 (sp_len CS) := ⟨_, _, _, aSl, iSl, fiSl, bSl, ok_Sum_l FSl SC T⟩
  have GSb : OwnM l.prog w K mg base CS "__bool__" 1 (sp_yes) := ⟨_, _, _, aSb, iSb, fiSb, bSb, ok_Sum_b FSb ⟩
  have GSg : OwnM l.prog w K mg base CS "__getitem__" 2 (sp_get CS) := ⟨_, _, _, aSg, iSg, fiSg, bSg, ok_Sum_g FSg SC GIn.irr⟩
  have GSc : OwnM l.prog w K mg base CS "__contains__" 4 (sp_has CS) := ⟨_, _, _, aSc, iSc, fiSc, bSc, ok_Sum_c FSc GIn.irr GSg.irr⟩
  have GSs : OwnM l.prog w K mg base CS "__str__" 5 (sp_text CS) := ⟨_, _, _, aSs, iSs, fiSs, bSs, ok_Sum_s FSs SC GWt.irr⟩
  have GSq : OwnM l.prog w K mg base CS "__eq__" 1 (sp_eqS K CS) := ⟨_, _, _, aSq, iSq, fiSq, bSq, ok_Sum_q FSq SC T⟩
  have GSt : Prp l.prog w K mg base CS "terms" 1 (sp_terms CS) := ⟨clS, _, _, _, _, ⟨aSt, gSt, tSt, _, rSt_⟩, bSt, ok_Sum_t FSt SC⟩
  have qS : OwnEq l.prog w K mg base CS 1 (sp_eqS K CS) := ⟨⟨_, _, _, aSq, iSq, bSq, ok_Sum_q FSq SC T⟩, neS, obS⟩
  have GWe : Fn l.prog w K mg base "_law_well" 1 ["_law_cells", "_law_k"] (sp_well K) := ⟨_, _, PySem.W.mg_of X G aWe, kWe, bWe, ok_well FWe T⟩
  have GDi : Fn l.prog w K mg base "_law_dip" 1 ["_law_well_here", "_law_many"] (sp_dip) := ⟨_, _, PySem.W.mg_of X G aDi, kDi, bDi, ok_dip FDi T⟩
  have GNa : Fn l.prog w K mg base "_law_name" 2 ["_law_well_here"] (sp_name) := ⟨_, _, PySem.W.mg_of X G aNa, kNa, bNa, ok_name FNa T GDi⟩
  have GFr : Fn l.prog w K mg base "_law_fresh" 3 ["_law_well_here", "_law_taken"] (sp_fresh) := ⟨_, _, PySem.W.mg_of X G aFr, kFr, bFr, ok_fresh FFr T GDi GNa⟩
  have GNo : Fn l.prog w K mg base "_law_number" 2 ["_law_well_here"] (sp_number) := ⟨_, _, PySem.W.mg_of X G aNo, kNo, bNo, ok_number FNo GDi.irr⟩
  have GPa : Fn l.prog w K mg base "_law_pairs" 4 ["_law_well_here", "_law_most"] (sp_pairs) := ⟨_, _, PySem.W.mg_of X G aPa, kPa, bPa, ok_pairs FPa T T2 GDi.irr GFr.irr GNo.irr⟩
  have GMe : Fn l.prog w K mg base "_law_merged" 1 ["_law_pairs_here"] (sp_merged K) := ⟨_, _, PySem.W.mg_of X G aMe, kMe, bMe, ok_merged FMe T2⟩
  have GDg : Fn l.prog w K mg base "is_digits" 1 ["text"] (sp_digits) := ⟨_, _, PySem.W.mg_of X G aDg, kDg, bDg, ok_is_digits FDg ⟩
  have GRn : Fn l.prog w K mg base "read_number" 1 ["digits"] (sp_readnum) := ⟨_, _, PySem.W.mg_of X G aRn, kRn, bRn, ok_read_number FRn T Cs2⟩
  have GAp : Fn l.prog w K mg base "_with_sign_apart" 1 ["text"] (sp_apart) := ⟨_, _, PySem.W.mg_of X G aAp, kAp, bAp, ok_with_sign_apart FAp ⟩
  have GRt : Fn l.prog w K mg base "_read_term" 2 ["sign", "word"] (sp_rterm K) := ⟨_, _, PySem.W.mg_of X G aRt, kRt, bRt, ok_read_term FRt GIn.irr GDg.irr GRn.irr⟩
  have GTi : Fn l.prog w K mg base "_terms_in" 3 ["text"] (sp_termsin K) := ⟨_, _, PySem.W.mg_of X G aTi, kTi, bTi, ok_terms_in FTi hz T2 GAp.irr GRt.irr⟩
  have OSr := ok_Sum_r (P := l.prog) (w := w) (mg := mg) (base := base) FSr T S1.irr GTi.irr GSs.irr
  have GSr : ClsM l.prog w K mg base CS "read" 8 ["cls", "text"] (sp_read CS) := ⟨.type "type", pSr, fSr, _, RS, ⟨aSr, ⟨_, rSr_⟩, fiSr⟩, bSr, OSr⟩
  have GSad : OwnM l.prog w K mg base CS "__add__" 6 (sp_addS CS) := ⟨_, _, _, aSad, iSad, fiSad, bSad, ok_Sum_a FSad SC T S1.irr⟩
  have GSmu : OwnM l.prog w K mg base CS "__mul__" 6 (sp_mulS CS) := ⟨_, _, _, aSmu, iSmu, fiSmu, bSmu, ok_Sum_m FSmu SC T2 GNu.irr S1.irr⟩
  have GSrm : OwnM l.prog w K mg base CS "__rmul__" 7 (sp_mulS CS) := ⟨_, _, _, aSrm, iSrm, fiSrm, bSrm, ok_Sum_rm FSrm SC GSmu.irr sfS aSrm hI hJ z_si⟩
  have GSne : OwnM l.prog w K mg base CS "__neg__" 7 (sp_negS CS) := ⟨_, _, _, aSne, iSne, fiSne, bSne, ok_Sum_n FSne SC GSmu.irr sfS aSrm hI hJ z_si⟩
  have GSsu : OwnM l.prog w K mg base CS "__sub__" 8 (sp_subS CS) := ⟨_, _, _, aSsu, iSsu, fiSsu, bSsu, ok_Sum_sub FSsu SC T GSne.irr GSad.irr sfS⟩
  have GTx : Fn l.prog w K mg base "_law_sum_text" 1 ["_law_terms"] (sp_sumtext K) := ⟨_, _, PySem.W.mg_of X G aTx, kTx, bTx, ok_sum_text FTx T⟩
  have GMu : Fn l.prog w K mg base "_law_much" 1 ["_law_pairs_here"] (sp_much K) := ⟨_, _, PySem.W.mg_of X G aMu, kMu, bMu, ok_much FMu T⟩
  have GEp : Fn l.prog w K mg base "_law_step" 9 ["_law_well_here", "_law_sums", "_law_models"] (sp_turn K CS) := ⟨_, _, PySem.W.mg_of X G aEp, kEp, bEp, ok_step FEp T T2 SC GDi.irr GPa.irr GMu.irr GTx.irr S1.irr GSs.irr GSr.irr GSad.irr GSsu.irr GSmu.irr GSrm.irr GSne.irr sfS aSrm aSmu hI hJ z_si z_ci⟩
  have GAl : FnGd l.prog w K mg base "_law_all_right" 8 ["_law_sums", "_law_models"] (sp_allr K CS) := ⟨_, _, PySem.W.mg_of X G aAl, kAl, bAl, ok_all_right FAl T T2 SK GTx.irr GSt.irr GSs.irr qS⟩
  have GRo : FnGd l.prog w K mg base "_law_row_right" 10 ["_law_well_here"] (sp_row) := ⟨_, _, PySem.W.mg_of X G aRo, kRo, bRo, ok_row_right FRo T T2 hli GDi.irr GPa.irr GMe.irr S1.irr GEp.irr GAl.irr⟩
  exact ok_law (fun_mk (st := s_law) lLa cLa kLa) T GWe GRo
end RV
open PySem PySem.W PyProof.Rows in
set_option maxRecDepth 100000 in
set_option maxHeartbeats 0 in
theorem PySem.Challenge.cw_ringvotes_k07_whole_rows_of_sums_holds : PySem.Challenge.rw_ringvotes_k07_whole_rows_of_sums.Holds := by
  w_on; o_law; k_head; (case hw => w_witness2)
  k_fill
  refine RV.walkG 11 (l := PySem.Challenge.rw_ringvotes_k07_whole_rows_of_sums) ⟨rfl, by decide, by decide⟩ rfl rfl (fun w h Y => PySem.W.kIn_of Y) ?F
  case F =>
    intro w mg fa h KX G hmg
    refine' RV.all_mk KX G hmg ?b_len ?b_int ?b_abs ?b_max ?b_min ?b_all ?b_any ?b_repr ?b_range ?b_divmod ?b_isinstance ?b_str ?b_sum ?b_sorted ?b_set ?b_tuple ?b_enumerate ?b_bool ?g__LETTERS ?g__DIGITS ?g__LONGEST_NAME ?g__PIECE_WORTH ?g__PIECE ?aIn ?lIn ?cIn ?kIn ?aNu ?lNu ?cNu ?kNu ?aWn ?lWn ?cWn ?kWn ?aIt ?lIt ?cIt ?kIt ?aCk ?lCk ?cCk ?kCk ?aCo ?lCo ?cCo ?kCo ?aWs ?lWs ?cWs ?kWs ?aWf ?lWf ?cWf ?kWf ?aWt ?lWt ?cWt ?kWt ?nS ?pgS ?hdS ?poS ?saS ?mkS ?kcS ?haS ?hmS ?tyS ?suS ?obS ?noS0 ?hn ?htk ?neS ?z_si ?z_ft ?z_st ?z_fx ?z_sx ?z_fn ?z_sn ?z_ci ?aSi ?iSi ?lSi ?cSi ?kSi ?lT ?l0 ?aSl ?iSl ?lSl ?cSl ?kSl ?fiSl ?aSb ?iSb ?lSb ?cSb ?kSb ?fiSb ?aSg ?iSg ?lSg ?cSg ?kSg ?fiSg ?aSc ?iSc ?lSc ?cSc ?kSc ?fiSc ?aSs ?iSs ?lSs ?cSs ?kSs ?fiSs ?aSq ?iSq ?lSq ?cSq ?kSq ?fiSq ?aSt ?gSt ?tSt ?rSt_ ?lSt ?cSt ?kSt ?aWe ?lWe ?cWe ?kWe ?aDi ?lDi ?cDi ?kDi ?aNa ?lNa ?cNa ?kNa ?aFr ?lFr ?cFr ?kFr ?aNo ?lNo ?cNo ?kNo ?aPa ?lPa ?cPa ?kPa ?aMe ?lMe ?cMe ?kMe ?b_zip ?aDg ?lDg ?cDg ?kDg ?aRn ?lRn ?cRn ?kRn ?aAp ?lAp ?cAp ?kAp ?aRt ?lRt ?cRt ?kRt ?aTi ?lTi ?cTi ?kTi ?rdS ?gaS ?aSr ?rSr_ ?fiSr ?lSr ?cSr ?kSr ?sfS ?hI ?hJ ?aSad ?iSad ?lSad ?cSad ?kSad ?fiSad ?aSmu ?iSmu ?lSmu ?cSmu ?kSmu ?fiSmu ?aSrm ?iSrm ?lSrm ?cSrm ?kSrm ?fiSrm ?aSne ?iSne ?lSne ?cSne ?kSne ?fiSne ?aSsu ?iSsu ?lSsu ?cSsu ?kSsu ?fiSsu ?b_list ?aTx ?lTx ?cTx ?kTx ?aMu ?lMu ?cMu ?kMu ?aEp ?lEp ?cEp ?kEp ?aAl ?lAl ?cAl ?kAl ?aRo ?lRo ?cRo ?kRo ?aLa ?lLa ?cLa ?kLa
    (case b_len => k_is)
    (case b_int => k_is)
    (case b_abs => k_is)
    (case b_max => k_is)
    (case b_min => k_is)
    (case b_all => k_is)
    (case b_any => k_is)
    (case b_repr => k_is)
    (case b_range => k_is)
    (case b_divmod => k_is)
    (case b_isinstance => k_is)
    (case b_str => k_is)
    (case b_sum => k_is)
    (case b_sorted => k_is)
    (case b_set => k_is)
    (case b_tuple => k_is)
    (case b_enumerate => k_is)
    (case b_bool => k_is)
    (case g__LETTERS => k_is)
    (case g__DIGITS => k_is)
    (case g__LONGEST_NAME => k_is)
    (case g__PIECE_WORTH => k_is)
    (case g__PIECE => k_is)
    (case aIn => k_is)
    (case lIn => k_is)
    (case cIn => k_is)
    (case kIn => k_is)
    (case aNu => k_is)
    (case lNu => k_is)
    (case cNu => k_is)
    (case kNu => k_is)
    (case aWn => k_is)
    (case lWn => k_is)
    (case cWn => k_is)
    (case kWn => k_is)
    (case aIt => k_is)
    (case lIt => k_is)
    (case cIt => k_is)
    (case kIt => k_is)
    (case aCk => k_is)
    (case lCk => k_is)
    (case cCk => k_is)
    (case kCk => k_is)
    (case aCo => k_is)
    (case lCo => k_is)
    (case cCo => k_is)
    (case kCo => k_is)
    (case aWs => k_is)
    (case lWs => k_is)
    (case cWs => k_is)
    (case kWs => k_is)
    (case aWf => k_is)
    (case lWf => k_is)
    (case cWf => k_is)
    (case kWf => k_is)
    (case aWt => k_is)
    (case lWt => k_is)
    (case cWt => k_is)
    (case kWt => k_is)
    (case nS => k_is)
    (case pgS => k_is)
    (case hdS => k_is)
    (case poS => k_is)
    (case saS => k_is)
    (case mkS => k_is)
    (case kcS => k_is)
    (case haS => k_is)
    (case hmS => k_is)
    (case tyS => k_is)
    (case suS => k_is)
    (case obS => k_is)
    (case noS0 => k_is)
    (case hn => k_is)
    (case htk => k_is)
    (case neS => k_is)
    (case z_si => k_is)
    (case z_ft => k_is)
    (case z_st => k_is)
    (case z_fx => k_is)
    (case z_sx => k_is)
    (case z_fn => k_is)
    (case z_sn => k_is)
    (case z_ci => k_is)
    (case aSi => k_is)
    (case iSi => k_is)
    (case lSi => k_is)
    (case cSi => k_is)
    (case kSi => k_is)
    (case lT => k_is)
    (case l0 => k_is)
    (case aSl => k_is)
    (case iSl => k_is)
    (case lSl => k_is)
    (case cSl => k_is)
    (case kSl => k_is)
    (case fiSl => k_is)
    (case aSb => k_is)
    (case iSb => k_is)
    (case lSb => k_is)
    (case cSb => k_is)
    (case kSb => k_is)
    (case fiSb => k_is)
    (case aSg => k_is)
    (case iSg => k_is)
    (case lSg => k_is)
    (case cSg => k_is)
    (case kSg => k_is)
    (case fiSg => k_is)
    (case aSc => k_is)
    (case iSc => k_is)
    (case lSc => k_is)
    (case cSc => k_is)
    (case kSc => k_is)
    (case fiSc => k_is)
    (case aSs => k_is)
    (case iSs => k_is)
    (case lSs => k_is)
    (case cSs => k_is)
    (case kSs => k_is)
    (case fiSs => k_is)
    (case aSq => k_is)
    (case iSq => k_is)
    (case lSq => k_is)
    (case cSq => k_is)
    (case kSq => k_is)
    (case fiSq => k_is)
    (case aSt => k_is)
    (case gSt => k_is)
    (case tSt => k_is)
    (case rSt_ => k_is)
    (case lSt => k_is)
    (case cSt => k_is)
    (case kSt => k_is)
    (case aWe => k_is)
    (case lWe => k_is)
    (case cWe => k_is)
    (case kWe => k_is)
    (case aDi => k_is)
    (case lDi => k_is)
    (case cDi => k_is)
    (case kDi => k_is)
    (case aNa => k_is)
    (case lNa => k_is)
    (case cNa => k_is)
    (case kNa => k_is)
    (case aFr => k_is)
    (case lFr => k_is)
    (case cFr => k_is)
    (case kFr => k_is)
    (case aNo => k_is)
    (case lNo => k_is)
    (case cNo => k_is)
    (case kNo => k_is)
    (case aPa => k_is)
    (case lPa => k_is)
    (case cPa => k_is)
    (case kPa => k_is)
    (case aMe => k_is)
    (case lMe => k_is)
    (case cMe => k_is)
    (case kMe => k_is)
    (case b_zip => k_is)
    (case aDg => k_is)
    (case lDg => k_is)
    (case cDg => k_is)
    (case kDg => k_is)
    (case aRn => k_is)
    (case lRn => k_is)
    (case cRn => k_is)
    (case kRn => k_is)
    (case aAp => k_is)
    (case lAp => k_is)
    (case cAp => k_is)
    (case kAp => k_is)
    (case aRt => k_is)
    (case lRt => k_is)
    (case cRt => k_is)
    (case kRt => k_is)
    (case aTi => k_is)
    (case lTi => k_is)
    (case cTi => k_is)
    (case kTi => k_is)
    (case rdS => k_is)
    (case gaS => k_is)
    (case aSr => k_is)
    (case rSr_ => k_is)
    (case fiSr => k_is)
    (case lSr => k_is)
    (case cSr => k_is)
    (case kSr => k_is)
    (case sfS => k_is)
    (case hI => k_is)
    (case hJ => k_is)
    (case aSad => k_is)
    (case iSad => k_is)
    (case lSad => k_is)
    (case cSad => k_is)
    (case kSad => k_is)
    (case fiSad => k_is)
    (case aSmu => k_is)
    (case iSmu => k_is)
    (case lSmu => k_is)
    (case cSmu => k_is)
    (case kSmu => k_is)
    (case fiSmu => k_is)
    (case aSrm => k_is)
    (case iSrm => k_is)
    (case lSrm => k_is)
    (case cSrm => k_is)
    (case kSrm => k_is)
    (case fiSrm => k_is)
    (case aSne => k_is)
    (case iSne => k_is)
    (case lSne => k_is)
    (case cSne => k_is)
    (case kSne => k_is)
    (case fiSne => k_is)
    (case aSsu => k_is)
    (case iSsu => k_is)
    (case lSsu => k_is)
    (case cSsu => k_is)
    (case kSsu => k_is)
    (case fiSsu => k_is)
    (case b_list => k_is)
    (case aTx => k_is)
    (case lTx => k_is)
    (case cTx => k_is)
    (case kTx => k_is)
    (case aMu => k_is)
    (case lMu => k_is)
    (case cMu => k_is)
    (case kMu => k_is)
    (case aEp => k_is)
    (case lEp => k_is)
    (case cEp => k_is)
    (case kEp => k_is)
    (case aAl => k_is)
    (case lAl => k_is)
    (case cAl => k_is)
    (case kAl => k_is)
    (case aRo => k_is)
    (case lRo => k_is)
    (case cRo => k_is)
    (case kRo => k_is)
    (case aLa => k_is)
    (case lLa => k_is)
    (case cLa => k_is)
    (case kLa => k_is)
