import PyProof.Rows.All
import Wide.All
import OpenK.AllK
import Wide.FinOn
import HandS.ForMost
import HandS.WideBits
import HandS.Wide
import HandS.IsInst
import HandS.Property
import HandS.MakeKwOnly
import HandS.Defaults
import HandS.OwnEq
import HandS.Steps
import HandS.TupLe
import KE.GoesMore
import HandS.TupSets
import HandS.SetFor
import HandS.Strs
import PyProof.Rows.SortShellAny
import HandS.Words
import HandS.Style
import HandS.WordsDict
import HandS.More
import PyProof.Rows.RegStrFacts
import HandS.RaiseMore
import HandS.Text
import HandS.StrMore
import HandS.FStr
import KE.KCallOwn
import PyProof.EqKinds
import PyProof.Raises
import HandS.ClsMeth
import HandS.CallLocal
import HandS.Walk
import HandS.Iter
import KE.KOpsOwn
import PyProof.TwoTypes
import HandS.TupAny
import HandS.Star
import HandS.Zip
import KE.KTupSum
import HandS.SetBool
import KE.GoesNew
import HandS.DictComp
import HandS.ExcInit
import HandS.ExcIs
import HandS.ExcField
import HandS.TryMany
import HandS.WordsExc
import HandS.CallSlots
import KE.KExcIs
import KE.KExcInit
import KE.KExcLine
import PySem.Challenge.RW_ringvotes_k32_errors_of_strengths_in_ord
set_option Elab.async false
set_option maxRecDepth 100000
set_option maxHeartbeats 8000000
/-! What every law of this program shares: the well from which it draws, what is known of the heap, the end. -/
namespace RV
open PySem L2

/-! ### what is known of the heap -/
/-- a list of three ints from which numbers are drawn, at a; at most n draws so far -/
def WellAt (H : Hp) (a : Addr) (n : Nat) : Prop :=
  ∃ x y z : Int, H a = some (.lst [.int x, .int y, .int z]) ∧ (0 ≤ x ∧ x < 2147483629) ∧ 0 ≤ y ∧ (0 ≤ z ∧ z ≤ n)
/-- all but the well stands as it stood -/
def Grow (a : Addr) (H H' : Hp) : Prop := ∀ b o, b ≠ a → H b = some o → H' b = some o
theorem Grow.refl (a : Addr) (H : Hp) : Grow a H H := fun _ _ _ h => h
theorem Grow.trans {a : Addr} {H H1 H2 : Hp} (g : Grow a H H1) (k : Grow a H1 H2) : Grow a H H2 := fun b o n h => k b o n (g b o n h)
theorem Grow.new {a p : Addr} {H : Hp} {o : HO} (np : H p = none) : Grow a H (upd H p o) := fun b u _ h => by
  rw [upd_ne (ne_of_none h np)]
  exact h
/-- from the heap H0 on all but the well at a is kept; the well; things that stand elsewhere -/
structure Has (H0 : Hp) (a : Addr) (n : Nat) (L : List (Addr × HO)) (H : Hp) : Prop where
  gr : Grow a H0 H
  well : WellAt H a n
  here : ∀ p ∈ L, p.1 ≠ a ∧ H p.1 = some p.2
section
variable {a p : Addr} {n m : Nat} {L : List (Addr × HO)} {H0 H H' : Hp} {o : HO}
theorem Has.start (w : WellAt H a n) : Has H a n [] H := ⟨Grow.refl a H, w, fun _ hp => nomatch hp⟩
theorem Has.grow (h : Has H0 a n L H) (g : Grow a H H') (w : WellAt H' a m) : Has H0 a m L H' := ⟨h.gr.trans g, w, fun p hp => ⟨(h.here p hp).1, g _ _ (h.here p hp).1 (h.here p hp).2⟩⟩
theorem Has.new (h : Has H0 a n L H) (np : H p = none) : Has H0 a n ((p, o) :: L) (upd H p o) := by
  obtain ⟨g, ⟨x, y, z, e, r⟩, k⟩ := h
  refine ⟨g.trans (Grow.new np), ⟨x, y, z, by rw [upd_ne (ne_of_none e np)]; exact e, r⟩, fun q hq => ?_⟩
  rcases List.mem_cons.mp hq with rfl | hq
  · refine ⟨?_, upd_same⟩
    intro w
    have w' : p = a := w
    rw [w', e] at np
    cases np
  · exact ⟨(k q hq).1, by rw [upd_ne (ne_of_none (k q hq).2 np)]; exact (k q hq).2⟩
theorem Has.at (h : Has H0 a n L H) (hp : (p, o) ∈ L) : H p = some o := (h.here _ hp).2
theorem Has.sub {L' : List (Addr × HO)} (h : Has H0 a n L H) (s : ∀ p ∈ L', p ∈ L) : Has H0 a n L' H := ⟨h.gr, h.well, fun p hp => h.here p (s p hp)⟩
end

/-! ### the end -/
theorem mg_of' {K : PySem.W.Frag} {h : Heap} {mg : Str → Option Value} {x : Str} {v : Value} (X : K.In h) (G : h.Ns mainGlobals mg) (e : PySem.W.nsIn K mainGlobals x = some (some v)) : mg x = some v := PySem.W.mg_of X G e
def spLaw (K : PySem.W.Frag) : Sp := fun vs H Q _ => ∃ (a : Addr) (ns : List Int), vs = [.ref a] ∧ SqL K H a (ns.map V.int) ∧ ns.length ≤ 63 ∧ ∀ H', Q (.bl true) H'
theorem walk (k : Nat) {l : PySem.W.OpenLaw} {q : Program} {loose : List Str} {XP : (Str → Option Value) → Heap → Prop} {YP : World → Heap → Prop} {d : DefRec} {K : Params → PySem.W.Frag} (hr : Room k callerA) (hn : l.most = some 63) (hdf : d.params.defaults = [])
    (hY : ∀ (w : World) (h : Heap), YP w h → (K w.params).In h)
    (F : ∀ (w : World) (mg : Str → Option Value) (fa : Addr) (h : Heap), (K w.params).In h → h.Ns mainGlobals mg → mg d.name = some (.ref fa) →
      ∃ fd : FuncData, (∀ (s : Shared) (u : Value), BindsTo s fd ⟨[u], []⟩ [("_law_cells", u)]) ∧ ∀ base : Heap, (K w.params).In base → base.Ns mainGlobals mg → FnOk l.prog w (K w.params) mg base CX0 k fa fd ["_law_cells"] (spLaw (K w.params))) :
    PySem.W.WalkO q loose XP YP l.row.toRowW d [] (fun f vs => PySem.call f vs) :=
  L2.walk_of (n := 63) (k := k) (x := "_law_cells") (CX := fun _ => CX0) (sp := fun w => spLaw (K w.params)) hn (by decide) hdf hr hY F (fun _ _ a ns hl _ hS => ⟨a, ns, rfl, hS, hl, fun _ => rfl⟩) fun _ _ _ _ _ z => z
end RV
namespace RV
open PySem L2
section
variable {σ : L2.St} {H : Hp} {t : TT} {ta tb : TE} {Q : VK} {b : Bool}
/-- an int on either way: what follows is shown once -/
theorem tif_int (ht : Ans t σ H b) (ha : b = true → ∃ z : Int, Val ta σ H (.int z)) (hb : b = false → ∃ z : Int, Val tb σ H (.int z)) (k : ∀ z : Int, Q (.int z) H) : tIf t ta tb σ H Q := by
  refine ht _ ?_
  cases b with
  | true => exact iteT (let ⟨z, h⟩ := ha rfl; h _ (k z))
  | false => exact iteF (let ⟨z, h⟩ := hb rfl; h _ (k z))
end
/-- a function of the module, as its callers see it -/
def Fn (P : Program) (w : World) (K : PySem.W.Frag) (mg : Str → Option Value) (base : Heap) (x : Str) (k : Nat) (ps : List Str) (sp : Sp) : Prop :=
  ∃ f fd, mg x = some (.ref f) ∧ PySem.W.keepIn K (.ref f) = true ∧ Binds K fd ps [] ∧ FnOk P w K mg base CX0 k f fd ps sp
section
variable {X : Cx} {x : Str} {k : Nat} {ps : List Str} {sp : Sp} {e : Expr} {es : List Expr} {t : TA} {p pos : Pos}
theorem pe_fn (h : Fn X.prog X.w X.K X.mg X.base x k ps sp) (hr : Room k X.A) (ha : PA X (e :: es) t) (hg : Gl X x := by rfl) (hdb : (x == ("__debug__" : Str)) = false := by decide)
    (he : starEach (e :: es) X.env = (false, eval e X.env) :: starEach es X.env := by rfl) (hpl : (backTo pos (starEach es X.env)).any (·.1) = false := by rfl) :
    PE X (.Call (.Name x p) (e :: es) [] pos) (tCall sp [] E0 t) := by
  obtain ⟨f, fd, hm, hk, hb, F⟩ := h
  exact pe_call F hr hg hm hk hb .nil pass0 ha hdb he hpl
/-- a text, an int of the module's top -/
theorem pe_gS {z : Str} (h : ∃ u, X.mg x = some u ∧ RelV (.str z) u) (hg : Gl X x := by rfl) (hd : (x == ("__debug__" : Str)) = false := by decide) : PE X (.Name x pos) (tC (.str z)) := by
  obtain ⟨u, hm, r⟩ := h
  exact pe_glob hg hm r hd
theorem pe_gI {z : Int} (h : ∃ u, X.mg x = some u ∧ RelV (.int z) u) (hg : Gl X x := by rfl) (hd : (x == ("__debug__" : Str)) = false := by decide) : PE X (.Name x pos) (tC (.int z)) := by
  obtain ⟨u, hm, r⟩ := h
  exact pe_glob hg hm r hd
theorem pe_gC {C : Addr} (hm : X.mg x = some (.ref C)) (hg : Gl X x := by rfl) (hd : (x == ("__debug__" : Str)) = false := by decide) : PE X (.Name x pos) (tC (.ref C)) := pe_glob hg hm rfl hd
end
end RV
namespace RV
open PySem L2
/-! the same rules where the written part is a letter (within a comprehension's block) -/
section
variable {X : Cx} {K : PySem.W.Frag}
theorem op_inK (h : X.K = K := by rfl) : OpR X (compareOp .In) (rIn K false) := h ▸ op_in_seq
theorem op_notInK (h : X.K = K := by rfl) : OpR X (compareOp .NotIn) (rIn K true) := h ▸ op_notIn_seq
theorem ix_listK (h : X.K = K := by rfl) : IxR X (rIxL K) := h ▸ ix_list
theorem ix_tupK (h : X.K = K := by rfl) : IxR X (rIxT K) := h ▸ ix_tup
theorem op_eqDK (hu : X.A.units + 64 < cLine) (h : X.K = K := by rfl) : OpR X (compareOp .Eq) (rEqD K) := h ▸ op_eqD hu
theorem op_neDK (hu : X.A.units + 64 < cLine) (h : X.K = K := by rfl) : OpR X (compareOp .NotEq) (rNeD K) := h ▸ op_neD hu
theorem call_isiK (h : X.K = K := by rfl) : CallR X (.builtin "isinstance") (rIsi K) := h ▸ call_isi
def rLenQ (K : PySem.W.Frag) : List V → Hp → VK → Prop := fun xs H Q => ∃ p ys, xs = [.ref p] ∧ (SqL K H p ys ∨ SqT K H p ys) ∧ Q (.int ys.length) H
theorem call_lenK (h : X.K = K := by rfl) : CallR X (.builtin "len") (rLenQ K) := h ▸ call_len_seq
end
end RV
/-! Names: what they are, by their signs. -/
namespace RV
open PySem L2
def lowC (c : Nat) : Bool := decide (97 ≤ c) && decide (c ≤ 122)
def digC (c : Nat) : Bool := decide (48 ≤ c) && decide (c ≤ 57)
def tailC (c : Nat) : Bool := lowC c || digC c
/-- one to eight signs, letters and digits, a letter first -/
def isNm : List Nat → Bool
  | [] => false
  | c :: r => lowC c && r.all tailC && decide (r.length ≤ 7)
def IsNm (x : Str) : Prop := isNm x.cps.toList = true
abbrev cd (x : Str) : List Nat := x.cps.toList
theorem cd_inj {x y : Str} (h : cd x = cd y) : x = y := PyProof.Rows.ext_toList h
theorem cd_app (x y : Str) : cd (x ++ y) = cd x ++ cd y := by
  show (x ++ y).cps.toList = _
  exact Array.toList_append
theorem cd_len (x : Str) : x.length = (cd x).length := by
  show x.cps.size = x.cps.toList.length
  rw [Array.length_toList]
theorem cd_one (c : Nat) : cd ⟨#[c]⟩ = [c] := rfl
theorem isNm_iff {l : List Nat} : isNm l = true ↔ ∃ c r, l = c :: r ∧ lowC c = true ∧ r.all tailC = true ∧ r.length ≤ 7 := by
  cases l with
  | nil => simp [isNm]
  | cons c r =>
    constructor
    · intro h
      simp only [isNm, Bool.and_eq_true, decide_eq_true_eq] at h
      exact ⟨c, r, rfl, h.1.1, h.1.2, h.2⟩
    · rintro ⟨c', r', e, h1, h2, h3⟩
      cases e
      simp [isNm, h1, h2, h3]
theorem isNm_len {l : List Nat} (h : isNm l = true) : 1 ≤ l.length ∧ l.length ≤ 8 := by
  obtain ⟨c, r, rfl, _, _, h3⟩ := isNm_iff.mp h
  simp
  omega
theorem isNm_snoc {l : List Nat} {c : Nat} (h : isNm l = true) (hl : l.length ≤ 7) (hc : tailC c = true) : isNm (l ++ [c]) = true := by
  obtain ⟨d, r, rfl, h1, h2, _⟩ := isNm_iff.mp h
  refine isNm_iff.mpr ⟨d, r ++ [c], rfl, h1, ?_, ?_⟩
  · rw [List.all_append, h2]
    simp [hc]
  · simp at hl ⊢
    omega
theorem tail_of_low {c : Nat} (h : lowC c = true) : tailC c = true := by simp [tailC, h]
theorem isNm_all {l : List Nat} (h : isNm l = true) : l.all tailC = true := by
  obtain ⟨d, r, rfl, h1, h2, _⟩ := isNm_iff.mp h
  simp only [List.all_cons, tail_of_low h1, h2, Bool.and_self]
theorem all_take {l : List Nat} {k : Nat} (h : l.all tailC = true) : (l.take k).all tailC = true := by
  rw [List.all_eq_true] at h ⊢
  exact fun x hx => h x (List.mem_of_mem_take hx)
/-- the first signs of a name with more signs behind it -/
theorem isNm_cut {l m : List Nat} {k : Nat} (h : isNm l = true) (hm : m.all tailC = true) (h1 : 1 ≤ k) (h8 : k ≤ 8) : isNm ((l ++ m).take k) = true := by
  obtain ⟨d, r, rfl, a1, a2, _⟩ := isNm_iff.mp h
  obtain ⟨j, rfl⟩ : ∃ j, k = j + 1 := ⟨k - 1, by omega⟩
  refine isNm_iff.mpr ⟨d, (r ++ m).take j, by simp, a1, all_take ?_, ?_⟩
  · rw [List.all_append, a2, hm]
    rfl
  · rw [List.length_take]
    omega
theorem isNm_take {l : List Nat} {k : Nat} (h : isNm l = true) (h1 : 1 ≤ k) (h8 : k ≤ 8) : isNm (l.take k) = true := by
  have := isNm_cut (m := []) h rfl h1 h8
  rwa [List.append_nil] at this
def signs : Str := "abcdefghijklmnopqrstuvwxyz0123456789"
theorem cd_signs : cd signs = [97, 98, 99, 100, 101, 102, 103, 104, 105, 106, 107, 108, 109, 110, 111, 112, 113, 114, 115, 116, 117, 118, 119, 120, 121, 122, 48, 49, 50, 51, 52, 53, 54, 55, 56, 57] := by decide +kernel
theorem sign_low : ∀ i : Fin 26, ∃ c, (cd signs)[i.val]? = some c ∧ lowC c = true := by
  rw [cd_signs]
  intro i
  have h : ∀ i : Fin 26, (match ([97, 98, 99, 100, 101, 102, 103, 104, 105, 106, 107, 108, 109, 110, 111, 112, 113, 114, 115, 116, 117, 118, 119, 120, 121, 122, 48, 49, 50, 51, 52, 53, 54, 55, 56, 57] : List Nat)[i.val]? with | some c => lowC c | none => false) = true := by decide
  have hi := h i
  split at hi
  · rename_i c e
    exact ⟨c, e, hi⟩
  · cases hi
theorem sign_tail : ∀ i : Fin 36, ∃ c, (cd signs)[i.val]? = some c ∧ tailC c = true := by
  rw [cd_signs]
  intro i
  have h : ∀ i : Fin 36, (match ([97, 98, 99, 100, 101, 102, 103, 104, 105, 106, 107, 108, 109, 110, 111, 112, 113, 114, 115, 116, 117, 118, 119, 120, 121, 122, 48, 49, 50, 51, 52, 53, 54, 55, 56, 57] : List Nat)[i.val]? with | some c => tailC c | none => false) = true := by decide
  have hi := h i
  split at hi
  · rename_i c e
    exact ⟨c, e, hi⟩
  · cases hi
theorem at_low {r : Int} (h0 : 0 ≤ r) (h : r < 26) : ∃ c, atI (cd signs) r = some c ∧ lowC c = true := by
  obtain ⟨n, rfl⟩ := Int.eq_ofNat_of_zero_le h0
  obtain ⟨c, e, hc⟩ := sign_low ⟨n, by omega⟩
  exact ⟨c, atI_nat e, hc⟩
theorem at_tail {r : Int} (h0 : 0 ≤ r) (h : r < 36) : ∃ c, atI (cd signs) r = some c ∧ tailC c = true := by
  obtain ⟨n, rfl⟩ := Int.eq_ofNat_of_zero_le h0
  obtain ⟨c, e, hc⟩ := sign_tail ⟨n, by omega⟩
  exact ⟨c, atI_nat e, hc⟩
theorem at_of_list {α : Type} {l : List α} {P : α → Prop} (h : ∀ x ∈ l, P x) {r : Int} (h0 : 0 ≤ r) (h1 : r < l.length) : ∃ c, atI l r = some c ∧ P c ∧ c ∈ l := by
  obtain ⟨n, rfl⟩ := Int.eq_ofNat_of_zero_le h0
  have hn : n < l.length := by omega
  exact ⟨l[n], atI_nat (List.getElem?_eq_getElem hn), h _ (List.getElem_mem hn), List.getElem_mem hn⟩
/-! slices of texts -/
theorem cd_cutS (z : Str) (lo hi : Option Int) : cd (cutS z lo hi) = ((cd z).drop (HT.sIx z.length 0 lo)).take (HT.sIx z.length z.length hi - HT.sIx z.length 0 lo) := by
  show (((z.cps.toList.drop _).take _).toArray).toList = _
  rfl
theorem sIx_some (n d : Nat) (k : Nat) : HT.sIx n d (some (k : Int)) = min k n := by
  unfold HT.sIx
  simp
  omega
theorem sIx_none (n d : Nat) : HT.sIx n d none = d := rfl
theorem cd_pre (z : Str) (k : Nat) : cd (cutS z none (some (k : Int))) = (cd z).take k := by
  rw [cd_cutS, sIx_none, sIx_some, List.drop_zero, Nat.sub_zero, cd_len]
  rw [← List.take_take, List.take_length]
theorem inV_str (x : Str) (xs : List Str) : inV (.str x) (xs.map V.str) = decide (x ∈ xs) := by
  induction xs with
  | nil => rfl
  | cons y ys ih =>
    show (eqV (.str y) (.str x) || inV (.str x) (ys.map V.str)) = _
    rw [ih]
    show ((y == x) || decide (x ∈ ys)) = _
    by_cases e : y = x
    · subst e
      simp
    · have e' : ¬ x = y := fun h => e h.symm
      simp [e, e']
theorem flat_str (xs : List Str) : (xs.map V.str).all flatV = true := by
  rw [List.all_eq_true]
  intro v hv
  obtain ⟨x, _, rfl⟩ := List.mem_map.mp hv
  rfl
/-- of more different things than a list has one is not in it -/
theorem one_free {α : Type} [DecidableEq α] : ∀ {ys xs : List α}, ys.Nodup → xs.length < ys.length → ∃ y ∈ ys, y ∉ xs
  | [], xs, _, h => by simp at h
  | y :: ys, xs, hn, h => by
    by_cases hy : y ∈ xs
    · obtain ⟨hy', hn'⟩ := List.nodup_cons.mp hn
      have hl : (xs.erase y).length < ys.length := by
        rw [List.length_erase_of_mem hy]
        have : 0 < xs.length := List.length_pos_of_mem hy
        simp at h
        omega
      obtain ⟨z, hz, hzx⟩ := one_free hn' hl
      refine ⟨z, List.mem_cons_of_mem _ hz, fun q => hzx ?_⟩
      have hne : z ≠ y := fun e => hy' (e ▸ hz)
      exact (List.mem_erase_of_ne hne).mpr q
    · exact ⟨y, List.mem_cons_self, hy⟩
/-! walks over any thing that is walked in order -/
theorem lc_it {J : It} {n : Nat} {g : TG} {tt : TT} {te : TE} {vs : List Nat} {σ : L2.St} {H1 : Hp} {D : Addr} {Qd : Hp → Prop} (Pv : Nat → Hp → Prop)
    (hgo : ∀ i H, i < n → Pv i H → J.go i H) (hst : ∀ H, Pv n H → J.stop n H) (h0 : Pv 0 (upd H1 D (.lst [])))
    (hs : ∀ i x H H', i < n → Pv i H → J.yld i H x H' → g x (wipe σ vs) H' fun σ2 H2 => wipe σ2 vs = wipe σ vs ∧ tt σ2 H2 fun b H3 =>
      if b = true then te σ2 H3 fun y H4 => ∃ acc, H4 D = some (.lst acc) ∧ acc.length < sizeLine ∧ Pv (i + 1) (upd H4 D (.lst (acc ++ [y]))) else Pv (i + 1) H3) (hd : ∀ H, Pv n H → Qd H) :
    ∃ W : Nat → Nat → Hp → Prop, (∃ m, W 0 m (upd H1 D (.lst []))) ∧ ∀ i m H, W i m H →
      (J.stop i H ∧ Qd H) ∨ (J.go i H ∧ ∃ Nx : Hp → Prop, (∀ H', Nx H' → ∃ m', m' < m ∧ W (i + 1) m' H') ∧ ∀ x H', J.yld i H x H' → g x (wipe σ vs) H' fun σ2 H2 => wipe σ2 vs = wipe σ vs ∧ tt σ2 H2 fun b H3 =>
        if b = true then te σ2 H3 fun y H4 => ∃ acc, H4 D = some (.lst acc) ∧ acc.length < sizeLine ∧ Nx (upd H4 D (.lst (acc ++ [y]))) else Nx H3) := by
  refine ⟨fun i m H => m = n - i ∧ i ≤ n ∧ Pv i H, ⟨n, by simp, Nat.zero_le _, h0⟩, ?_⟩
  rintro i m H ⟨rfl, hi, p⟩
  by_cases hlt : i < n
  · refine .inr ⟨hgo i H hlt p, Pv (i + 1), fun H' p' => ⟨n - (i + 1), by omega, rfl, hlt, p'⟩, fun x H' y => ?_⟩
    exact hs i x H H' hlt p y
  · have e : i = n := by omega
    subst e
    exact .inl ⟨hst H p, hd H p⟩
theorem lc_str {z : Str} {g : TG} {tt : TT} {te : TE} {vs : List Nat} {σ : L2.St} {H1 : Hp} {D : Addr} {Qd : Hp → Prop} (Pv : Nat → Hp → Prop) (h0 : Pv 0 (upd H1 D (.lst [])))
    (hs : ∀ i c H, (cd z)[i]? = some c → Pv i H → g (.str ⟨#[c]⟩) (wipe σ vs) H fun σ2 H2 => wipe σ2 vs = wipe σ vs ∧ tt σ2 H2 fun b H3 =>
      if b = true then te σ2 H3 fun y H4 => ∃ acc, H4 D = some (.lst acc) ∧ acc.length < sizeLine ∧ Pv (i + 1) (upd H4 D (.lst (acc ++ [y]))) else Pv (i + 1) H3) (hd : ∀ H, Pv (cd z).length H → Qd H) :
    ∃ W : Nat → Nat → Hp → Prop, (∃ m, W 0 m (upd H1 D (.lst []))) ∧ ∀ i m H, W i m H →
      ((Its z).stop i H ∧ Qd H) ∨ ((Its z).go i H ∧ ∃ Nx : Hp → Prop, (∀ H', Nx H' → ∃ m', m' < m ∧ W (i + 1) m' H') ∧ ∀ x H', (Its z).yld i H x H' → g x (wipe σ vs) H' fun σ2 H2 => wipe σ2 vs = wipe σ vs ∧ tt σ2 H2 fun b H3 =>
        if b = true then te σ2 H3 fun y H4 => ∃ acc, H4 D = some (.lst acc) ∧ acc.length < sizeLine ∧ Nx (upd H4 D (.lst (acc ++ [y]))) else Nx H3) :=
  lc_it (J := Its z) (n := (cd z).length) Pv (fun i _ h _ => by
    show i < z.cps.size
    rwa [← Array.length_toList]) (fun _ _ => by
    show z.cps.size ≤ (cd z).length
    rw [← Array.length_toList]
    exact Nat.le_refl _) h0 (fun i x H H' hi p y => by
    obtain ⟨e, c, hc, ex⟩ := y
    subst e ex
    exact hs i c H' (by rw [← hc]; exact Array.getElem?_toList ..) p) hd
end RV
namespace RV
open PySem L2
/-- what follows a statement is shown once, from what the statement leaves -/
theorem seq_of {t R : TS} {D : Ends} {σ : L2.St} {H : Hp} (mid : L2.St → Hp → Prop) (h2 : ∀ σ' H', mid σ' H' → R D σ' H') (h1 : ∀ N : L2.St → Hp → Prop, (∀ σ' H', mid σ' H' → N σ' H') → t { D with nx := N } σ H) : tSeq t R D σ H := h1 (R D) h2
theorem val_of {te : TE} {σ : L2.St} {H : Hp} {Q : VK} (mid : V → Hp → Prop) (k : ∀ v H', mid v H' → Q v H') (h : ∀ Q' : VK, (∀ v H', mid v H' → Q' v H') → te σ H Q') : te σ H Q := h Q k
theorem tst_of {tt : TT} {σ : L2.St} {H : Hp} {Q : Bool → Hp → Prop} (mid : Bool → Hp → Prop) (k : ∀ v H', mid v H' → Q v H') (h : ∀ Q' : Bool → Hp → Prop, (∀ v H', mid v H' → Q' v H') → tt σ H Q') : tt σ H Q := h Q k
theorem szn {n : Nat} (h : n ≤ 1000) : n ≤ sizeLine := Nat.le_trans h (by decide)
/-- texts as data -/
theorem dps {K : PySem.W.Frag} {H : Hp} : ∀ xs : List Str, DpAll K H (xs.map V.str) (xs.map PyData.str)
  | [] => .nil
  | x :: xs => .cons (.str x) (dps xs)
theorem strOk_nm {x : Str} (h : IsNm x) : PyData.strOk x = true := by
  have h1 := List.all_eq_true.mp (isNm_all h)
  unfold PyData.strOk
  rw [← Array.all_toList, List.all_eq_true]
  intro c hc
  have q := h1 c hc
  simp only [tailC, lowC, digC, Bool.or_eq_true, Bool.and_eq_true, decide_eq_true_eq] at q
  exact decide_eq_true (by omega)
theorem shaped_strs {xs : List Str} (h : ∀ x ∈ xs, IsNm x) : SeqAt.shaped (.list (xs.map PyData.str)) = true := by
  have h1 : ∀ xs : List Str, (∀ x ∈ xs, IsNm x) → PyData.canLayAll0 (xs.map PyData.str) = true := by
    intro xs
    induction xs with
    | nil => intro _; simp [PyData.canLayAll0]
    | cons x xs ih =>
      intro h
      have a := strOk_nm (h x List.mem_cons_self)
      have b := ih fun y hy => h y (List.mem_cons_of_mem _ hy)
      simp [PyData.canLayAll0, PyData.canLay0, a, b]
  have h2 : ∀ xs : List Str, PyData.depthAll (xs.map PyData.str) = 0 := by
    intro xs
    induction xs with
    | nil => simp [PyData.depthAll]
    | cons x xs ih => simp [PyData.depthAll, PyData.depth, ih]
  simp [SeqAt.shaped, PyData.canLay0, PyData.depth, h1 xs h, h2]
theorem shaped_nil : SeqAt.shaped (.list []) = true := by simp [SeqAt.shaped, PyData.canLay0, PyData.canLayAll0, PyData.depth, PyData.depthAll]
theorem eqv_nil (xs : List Str) : PyData.eqv (.list (xs.map PyData.str)) (.list []) = xs.isEmpty := by
  cases xs <;> simp [PyData.eqv, PyData.eqvAll]
end RV
/-! Rules for own classes: ==, !=, truth; repr of data. -/
namespace PySem.W
open PySem PySem.Calls PyProof.Rows Builtin
section
variable {prog : Program} {w : World} {A : Around} {E : Value → Shared → Prop} {s : Shared} {K : Frag} {x C L f : Addr} {h₀ : Heap} {m : Str → Option Value} {ox : Obj} {od : Option Obj} {b tb : Value}
/-- the default !=, by the class's own == that gives a bool -/
theorem rv_ne_K {Q : Value → Shared → Prop} (hu : A.units + 1 < cLine) (F : Fr h₀ L s.heap m) (X₀ : K.In h₀) (I : InstAt s.heap x ox C od) (hb : Looks (model prog w) s.heap (typeOf b) tb) (hn : notFirst K C tb = true)
    (hs : findIn K (.ref C) "__eq__" = some (some (.ref f))) (hf : isFn K (.ref f) = true) (hne : findIn K (.ref C) "__ne__" = some (some (.builtin "object.__ne__"))) (hob : subIn K (.ref C) (.type "object") = some true)
    (h : wpAny (model prog w) A.in1 (call (.ref f) [.ref x, b]) (fun v s' => ∃ c, v = .bool c ∧ Q (.bool (!c)) s') E s) : wpAny (model prog w) A (richCompare .NotEq (.ref x) b) Q E s := by
  have X := X₀.keeps F.keep
  have entry : wpAny (model prog w) A.in1 (Builtin.«object.__ne__» ⟨[.ref x, b], []⟩) (fun fin s' => ∃ v, fin = .done (.ret v) ∧ ∃ c, v = .bool (!c) ∧ Q (.bool (!c)) s') E s := by
    unfold Builtin.«object.__ne__»
    refine wpAny_bind (m := slotArgs "__ne__" 1 _) (wpAny_pure ?_)
    refine wpAny_bind (wpAny_cRoomFor (show A.units + 1 < cLine from hu) ?_)
    refine wpAny_bind (m := callSpecialIfBound? (.ref x) (Str.ofString "__eq__") [b]) (ifBound_K X I hs hf (wpAny_mono h (fun v s' hv => ?_) fun _ _ e => e))
    obtain ⟨c, rfl, hq⟩ := hv
    refine wpAny_bind (m := truthy (.bool c)) (wpAny_truthy_bool ?_)
    exact wpAny_pure ⟨_, rfl, c, rfl, hq⟩
  have chk : wpAny (model prog w) A.in1 (checkBuiltinCall "object.__ne__" ⟨[.ref x, b], []⟩) (fun _ s1 => s1 = s) E s := by
    simp only [checkBuiltinCall, PySem.F.cmpKind_ne, PySem.F.cmpSplit_ne]
    refine wpAny_bind ?_
    unfold isInstance
    refine wpAny_bind (I.type.here ?_)
    refine (looks_subIn X hob).here ?_
    have ha : argsOk "object.__ne__" ⟨[.ref x, b], []⟩ := PySem.F.cmpArgs_ne _ _
    cases hsig : Manifest.signature? "object.__ne__" with
    | none => exact wpAny_pure rfl
    | some sig =>
      simp only [argsOk, hsig] at ha
      have h2 : Bind.checkArgs "object.__ne__" sig ⟨[.ref x, b], []⟩ = pure () := ha
      show wpAny _ A.in1 (Bind.checkArgs "object.__ne__" sig ⟨[.ref x, b], []⟩) _ E _
      rw [h2]
      exact wpAny_pure rfl
  have callne : wpAny (model prog w) A (call (.builtin "object.__ne__") [.ref x, b]) (fun v s' => ∃ c, v = .bool (!c) ∧ Q (.bool (!c)) s') E s := by
    refine wpAny_call (codeAny_call_builtin PySem.F.slot_object_ne.plain PySem.F.cmpEntry_ne (wpAny_mono chk (fun _ s1 e => ?_) fun _ _ e => e))
    subst e
    refine wpAny_mono entry (fun fin s' hq => ?_) fun _ _ e => e
    obtain ⟨v, rfl, c, rfl, q⟩ := hq
    exact ⟨c, rfl, q⟩
  have one : wpAny (model prog w) A (tryCompare (.ref x) "__ne__" b) (fun r s' => ∃ v, r = some v ∧ Q v s') E s := by
    unfold tryCompare
    refine wpAny_bind (m := callSpecialIfBound? (.ref x) (Str.ofString "__ne__") [b]) ?_
    simp only [callSpecialIfBound?, bindSpecialIfBound?]
    refine wpAny_holding (wpAny_bind (wpAny_bind (wpAny_bind (I.type.here ((looks_findIn X hne).here ?_)))))
    simp only [PySem.F.slot_object_ne.bind]
    refine wpAny_bind (wpAny_askSetting (wpAny_ite ?_))
    have fin : ∀ R : Option Value → Shared → Prop, (∀ (c : Bool) s', Q (.bool (!c)) s' → R (some (.bool (!c))) s') → wpAny (model prog w) A (call (.builtin "object.__ne__") ([.ref x] ++ [b]) >>= fun v => pure (some v)) R E s := by
      intro R hR
      refine wpAny_bind (wpAny_mono callne (fun v s' hq => ?_) fun _ _ e => e)
      obtain ⟨c, rfl, q⟩ := hq
      exact wpAny_pure (hR c s' q)
    split
    · exact wpAny_bind (wpAny_pure (wpAny_pure (fin _ fun c s' q => wpAny_pure ⟨_, rfl, q⟩)))
    · exact wpAny_tryCatch (wpAny_bind (wpAny_pure (wpAny_pure (fin _ fun c s' q => wpAny_pure ⟨_, rfl, q⟩))))
  unfold richCompare
  simp only [oneThing_ref]
  refine wpAny_holding (wpAny_bind (wpAny_cRoomFor (Nat.lt_of_succ_lt hu) ?_))
  rw [cmpInfo_NotEq]
  dsimp only
  refine wpAny_bind (I.type.here (wpAny_bind (hb.here ?_)))
  split
  · rename_i q
    have e : subIn K tb (.ref C) = some false := by
      rcases Bool.or_eq_true_iff.mp hn with e | e
      · rw [beq_iff_eq.mp e] at q; simp at q
      · exact beq_iff_eq.mp e
    refine wpAny_bind ((looks_subIn X e).here ?_)
    simp only [Bool.false_eq_true, if_false]
    refine wpAny_bind (wpAny_mono one (fun r s' z => ?_) fun _ _ e => e)
    obtain ⟨v, rfl, hq⟩ := z
    exact wpAny_pure hq
  · refine wpAny_bind (wpAny_pure ?_)
    simp only [Bool.false_eq_true, if_false]
    refine wpAny_bind (wpAny_mono one (fun r s' z => ?_) fun _ _ e => e)
    obtain ⟨v, rfl, hq⟩ := z
    exact wpAny_pure hq
end
end PySem.W

namespace RV
open PySem L2
/-- the kind of a value, for a comparison -/
inductive TyL (H : Hp) : V → Value → Prop where
  | non : TyL H .non (.type "NoneType")
  | bl (b : Bool) : TyL H (.bl b) (.type "bool")
  | int (i : Int) : TyL H (.int i) (.type "int")
  | str (x : Str) : TyL H (.str x) (.type "str")
  | lst {a : Addr} {xs : List V} (e : H a = some (.lst xs)) : TyL H (.ref a) (.type "list")
  | tup {a : Addr} {xs : List V} (e : H a = some (.tup xs)) : TyL H (.ref a) (.type "tuple")
  | dK {a : Addr} {kvs : List (Key × V)} (e : H a = some (.dK kvs)) : TyL H (.ref a) (.type "dict")
  | ins {a C dx : Addr} {fs : List (Str × V)} (e : H a = some (.ins C dx fs)) : TyL H (.ref a) (.ref C)
section
variable {X : Cx} {pins : List (Addr × Obj)} {σ : L2.St} {H : Hp} {s : Shared}
theorem looks_obj {M : Model} {h : Heap} {a : Addr} {o : Obj} {t : Value} (e : h.get? a = some o) (c : o.cls = t) : PySem.W.Looks M h (typeOf (.ref a)) t := by
  intro A Q E s k q
  exact wpAny_typeOf_ref (k _ _ e) (c ▸ q)
theorem TyL.looks (I : Inv X pins σ H s) {v : V} {u t : Value} (r : RelV v u) (ty : TyL H v t) : PySem.W.Looks (model X.prog X.w) s.heap (typeOf u) t := by
  cases ty with
  | non => cases r; exact PySem.W.Looks.of_pure rfl
  | bl b => cases r; exact PySem.W.Looks.of_pure rfl
  | int i => obtain ⟨_, rfl⟩ := r; exact PySem.W.Looks.of_pure rfl
  | str x => obtain ⟨_, rfl⟩ := r; exact PySem.W.Looks.of_pure rfl
  | lst e => cases r; obtain ⟨_, _, _, _, g⟩ := I.hok _ _ e; exact looks_obj g rfl
  | tup e => cases r; obtain ⟨_, _, _, o, g, c, _⟩ := I.hok _ _ e; exact looks_obj g c
  | dK e => cases r; obtain ⟨_, _, _, _, o, es, ep, g, c, _⟩ := I.hok _ _ e; exact looks_obj g c.1
  | ins e => cases r; obtain ⟨mA, J, _⟩ := ins_get I.hok e; obtain ⟨od, J, _⟩ := J.look; exact J.type

/-- the class C has an own == that promises sp, and no own != -/
structure OwnEq (P : Program) (w : World) (K : PySem.W.Frag) (mg : Str → Option Value) (base : Heap) (C : Addr) (k : Nat) (sp : Sp) : Prop where
  fn : ∃ f fd ps, PySem.W.findIn K (.ref C) "__eq__" = some (some (.ref f)) ∧ PySem.W.isFn K (.ref f) = true ∧ Binds K fd ps [] ∧ FnOk P w K mg base CX0 k f fd ps sp
  ne : PySem.W.findIn K (.ref C) "__ne__" = some (some (.builtin "object.__ne__"))
  ob : PySem.W.subIn K (.ref C) (.type "object") = some true
@[irreducible] def rEqO (neg : Bool) (K : PySem.W.Frag) (C : Addr) (sp : Sp) : R2 := fun x y H Q => ∃ a dx fs t, x = .ref a ∧ H a = some (.ins C dx fs) ∧ TyL H y t ∧ PySem.W.notFirst K C t = true ∧
  sp [x, y] H (fun v H' => ∃ b, v = .bl b ∧ Q (.bl (if neg then !b else b)) H') E0
variable {P : Program} {w : World} {K : PySem.W.Frag} {mg : Str → Option Value} {base : Heap} {C : Addr} {k : Nat} {sp : Sp}
theorem call_own {A : Around} {f : Addr} {fd : FuncData} {ps : List Str} {Q : VK} {x y : V} {u v : Value} (F : FnOk X.prog X.w X.K X.mg X.base CX0 k f fd ps sp) (hb : Binds X.K fd ps []) (hr : Room k A) (hf : A.frames = X.A.frames)
    (I : Inv X pins σ H s) (rx : RelV x u) (ry : RelV y v) (hsp : sp [x, y] H Q E0) : wpAny (model X.prog X.w) A (call (.ref f) [u, v]) (EP X pins σ Q) X.xe s := by
  have e0 : Env0 X.prog X.w X.K X.mg X.base A X.stack s H := by
    have e := I.env0
    exact ⟨by rw [hf]; exact e.frames, e.mod, e.bs, e.bsz, e.funs, e.frf, e.hok, e.bare⟩
  have hl := F.len _ _ _ _ hsp
  have r2 : Vals [x, y] [u, v] := .cons rx (.cons ry .nil)
  refine wpAny_call (codeAny_mono (F.run A X.stack s H ⟨[u, v], []⟩ [u, v] [x, y] _ E0 hr e0 (by
    have := hb s [u, v] I.kIn (by simpa using hl)
    simpa using this) r2 hsp) fun r s' hq => ?_)
  cases r with
  | error e => exact (hq : False).elim
  | ok fl =>
    cases fl with
    | ret w => exact I.after hq
    | next => exact False.elim hq
    | brk => exact False.elim hq
    | cont => exact False.elim hq
theorem op_eqO (h : OwnEq X.prog X.w X.K X.mg X.base C k sp) (hr : Room k X.A) : OpR X (compareOp .Eq) (rEqO false X.K C sp) := by
  intro pins s σ H x y v u Q I rx ry hq
  unfold rEqO at hq
  obtain ⟨a, dx, fs, t, rfl, ha, ty, hn, hsp⟩ := hq
  obtain ⟨f, fd, ps, hs, hf, hb, F⟩ := h.fn
  have rx' := rx
  cases rx
  have lb := ty.looks I ry
  obtain ⟨mA, J, _⟩ := ins_get I.hok ha
  obtain ⟨od, J, _⟩ := J.look
  obtain ⟨m, hF⟩ := I.fr
  show wpAny (model X.prog X.w) X.A (richCompare .Eq (.ref a) u) (EP X pins σ Q) X.xe s
  refine PySem.W.cmp_K (op := .Eq) (tb := t) hr.units0 hF I.ok.mod.kin J lb hn hs hf ?_
  refine wpAny_mono (call_own F hb hr rfl I rx' ry hsp) (fun r s' z => ?_) fun _ _ x => x
  obtain ⟨v, H', I', rv, b, ev, q⟩ := z
  subst ev
  cases rv
  exact ⟨.bl b, H', I', rfl, q⟩
theorem op_neO (h : OwnEq X.prog X.w X.K X.mg X.base C k sp) (hr : Room (k + 1) X.A) : OpR X (compareOp .NotEq) (rEqO true X.K C sp) := by
  intro pins s σ H x y v u Q I rx ry hq
  unfold rEqO at hq
  obtain ⟨a, dx, fs, t, rfl, ha, ty, hn, hsp⟩ := hq
  obtain ⟨f, fd, ps, hs, hf, hb, F⟩ := h.fn
  have rx' := rx
  cases rx
  have lb := ty.looks I ry
  obtain ⟨mA, J, _⟩ := ins_get I.hok ha
  obtain ⟨od, J, _⟩ := J.look
  obtain ⟨m, hF⟩ := I.fr
  show wpAny (model X.prog X.w) X.A (richCompare .NotEq (.ref a) u) (EP X pins σ Q) X.xe s
  refine PySem.W.rv_ne_K (tb := t) (by have := hr.units; omega) hF I.ok.mod.kin J lb hn hs hf h.ne h.ob ?_
  refine wpAny_mono (call_own F hb hr.in1 rfl I rx' ry hsp) (fun r s' z => ?_) fun _ _ x => x
  obtain ⟨v, H', I', rv, b, ev, q⟩ := z
  subst ev
  cases rv
  exact ⟨b, rfl, .bl (!b), H', I', rfl, q⟩
theorem op_eqOK (h : OwnEq P w K mg base C k sp) (hr : Room k X.A) (e : X.prog = P ∧ X.w = w ∧ X.K = K ∧ X.mg = mg ∧ X.base = base := by exact ⟨rfl, rfl, rfl, rfl, rfl⟩) : OpR X (compareOp .Eq) (rEqO false K C sp) := by
  obtain ⟨rfl, rfl, rfl, rfl, rfl⟩ := e
  exact op_eqO h hr
theorem op_neOK (h : OwnEq P w K mg base C k sp) (hr : Room (k + 1) X.A) (e : X.prog = P ∧ X.w = w ∧ X.K = K ∧ X.mg = mg ∧ X.base = base := by exact ⟨rfl, rfl, rfl, rfl, rfl⟩) : OpR X (compareOp .NotEq) (rEqO true K C sp) := by
  obtain ⟨rfl, rfl, rfl, rfl, rfl⟩ := e
  exact op_neO h hr
/-- an instance of a class without a truth or a length of its own is true -/
def rTrO (C : Addr) : V → Hp → (Bool → Hp → Prop) → Prop := fun x H Q => ∃ a dx fs, x = .ref a ∧ H a = some (.ins C dx fs) ∧ Q true H
theorem tru_obj (hb : PySem.W.findIn X.K (.ref C) "__bool__" = some none) (hl : PySem.W.findIn X.K (.ref C) "__len__" = some none) : TruR X (rTrO C) := by
  intro pins s σ H x v Q I rx h
  obtain ⟨a, dx, fs, rfl, ha, q⟩ := h
  cases rx
  obtain ⟨mA, J, _⟩ := ins_get I.hok ha
  obtain ⟨od, J, _⟩ := J.look
  obtain ⟨m, hF⟩ := I.fr
  exact PySem.W.truthy_K0 hF I.ok.mod.kin J hb hl ⟨H, I, q⟩
/-! ### repr -/
mutual
theorem Dp.noDict {K : PySem.W.Frag} {H : Hp} : ∀ {v : V} {d : PyData}, Dp K H v d → d.hasDict = false
  | _, _, .non => by simp [PyData.hasDict]
  | _, _, .bl _ => by simp [PyData.hasDict]
  | _, _, .int _ => by simp [PyData.hasDict]
  | _, _, .str _ => by simp [PyData.hasDict]
  | _, _, .lst _ h => by simp [PyData.hasDict, DpAll.noDict h]
  | _, _, .tup _ h => by simp [PyData.hasDict, DpAll.noDict h]
theorem DpAll.noDict {K : PySem.W.Frag} {H : Hp} : ∀ {vs : List V} {ds : List PyData}, DpAll K H vs ds → PyData.hasDictAll ds = false
  | _, _, .nil => by simp [PyData.hasDictAll]
  | _, _, .cons h t => by simp [PyData.hasDictAll, Dp.noDict h, DpAll.noDict t]
end
@[irreducible] def rRepr (K : PySem.W.Frag) : List V → Hp → VK → Prop := fun xs H Q => ∃ a d, xs = [.ref a] ∧ Dp K H (.ref a) d ∧ d.showable = true ∧ d.depth ≤ 60 ∧ d.shown.length ≤ sizeLine ∧ Q (.str d.shown) H
theorem call_reprD (hu : X.A.units + 64 < cLine) (hg : X.A.guards = some []) : CallR X (.builtin "repr") (rRepr X.K) := by
  intro pins s σ H xs us Q I r h
  unfold rRepr at h
  obtain ⟨a, d, rfl, hd, hs, hdp, hsz, q⟩ := h
  obtain ⟨as, rd⟩ := Dp.reads I d _ _ hd (rfl : RelV (.ref a) (.ref a))
  have eu : us = [.ref a] := by
    cases r with
    | cons r1 r2 => cases r2; cases r1; rfl
  subst eu
  have nod : d.hasDict = true → sysModules ∉ as := fun hh => by
    rw [Dp.noDict hd] at hh
    cases hh
  refine repr_of_reads' rd hs nod hg (by omega) (fun _ _ e => e) (fun h' u tk hk => ⟨.str d.shown, H, I.kept hk, ⟨u, rfl⟩, q⟩) hsz
end
end RV
/-! Defs that must not run within a repr: as FnOk, but only where no repr is under way. -/
namespace RV
open PySem L2 PyProof.Rows
section
variable {P : Program} {w : World} {K : PySem.W.Frag} {mg : Str → Option Value} {base : Heap}
structure FnG (P : Program) (w : World) (K : PySem.W.Frag) (mg : Str → Option Value) (base : Heap) (k : Nat) (f : Addr) (fd : FuncData) (ps : List Str) (sp : Sp) : Prop where
  len : ∀ vs H Q E, sp vs H Q E → vs.length = ps.length
  run : ∀ (A : Around) (outer : List Env) (s : Shared) (H : Hp) (args : Args) (us : List Value) (vs : List V) (Q : VK) (E : XK), A.guards = some [] → Room k A → Env0 P w K mg base A outer s H → BindsTo s fd args (ps.zip us) → Vals vs us → sp vs H Q E →
    codeAny (model P w) A (.call (.ref f) args) (CR CX0 outer P w H s Q E) s
theorem gFun {x qual : Str} {st : Stmt} {f : Addr} {fd : FuncData} {N ps : List Str} {k : Nat} {sp : Sp} (F : Fun K x qual st f fd) (S : FnScope N ps (defScope st)) (len : ∀ vs H Q E, sp vs H Q E → vs.length = ps.length)
    (hbody : ∀ (cdv : Value) (A : Around) (outer : List Env) (s : Shared) (H : Hp) (vs : List V) (Q : VK) (E : XK), (A.deeper (envOfC qual (defScope st) s.heap.objs.size f cdv)).guards = some [] → Room k (A.deeper (envOfC qual (defScope st) s.heap.objs.size f cdv)) → sp vs H Q E →
      ∃ t, PSs (cxOf CX0 P w K mg base N qual (defScope st) f cdv A outer s H E).nox (defBody st) t ∧ t { nx := fun _ H' => Q .non H', rt := Q } (start N vs) H) : FnG P w K mg base (k + 1) f fd ps sp := by
  refine ⟨len, fun A outer s H args us vs Q E gs hr e0 hb r hsp => ?_⟩


  obtain ⟨oc, od, kV, doc, pm, an, cdv, ct, osl, rfl, lk, hcd⟩ := F.ex
  have hl := len _ _ _ _ hsp
  have KX : K.In s.heap := e0.mod.kin.keeps fun b o e => (e0.bs b o e).1
  have lim := e0.mod.nolimit.keeps fun b o e => (e0.bs b o e).1
  refine codeAny_call_function hr.depth (KX _ _ lk) rfl S.co S.gen rfl (PySem.W.codeRec_of KX hcd) (hb _ _ _ _ ?_)
  refine wpAny_newFunctionEnv_cells S.kind (fun y hy => ?_) fun env he s1 x => ?_
  · have hin : y.1 ∈ ps := by
      obtain ⟨n, v⟩ := y
      exact (List.of_mem_zip hy).1
    exact (S.par _ hin).imp id fun q => ⟨q, PySem.W.cellsFrom_some _ _ _ (.inl q)⟩
  subst he
  refine ⟨lim.keeps x.toInCall.keep, codeAny_func ?_⟩
  obtain ⟨t, ht, hq⟩ := hbody cdv A outer s H vs Q E gs (hr.deeper _) hsp
  have I := inv_start (CX := CX0) (cd := cdv) (E := E) S hr.hd e0 hl r x
  refine wpAny_mono (ht.nox.run [] s1 (start N vs) H _ I hq) (fun fl s' hs => ?_) fun _ _ hs => hs
  match fl, hs with
  | .ret u, ⟨v, _, H', J, rv, q⟩ => exact ⟨v, H', J.os, J.bare, J.base, J.hok, rv, q⟩
  | .next, ⟨_, H', J, q⟩ => exact ⟨V.non, H', J.os, J.bare, J.base, J.hok, rfl, q⟩
  | .brk, ⟨_, _, _, q⟩ => exact q.elim
  | .cont, ⟨_, _, _, q⟩ => exact q.elim
/-- such a function of the module, as its callers see it -/
def FnGd (P : Program) (w : World) (K : PySem.W.Frag) (mg : Str → Option Value) (base : Heap) (x : Str) (k : Nat) (ps : List Str) (sp : Sp) : Prop :=
  ∃ f fd, mg x = some (.ref f) ∧ PySem.W.keepIn K (.ref f) = true ∧ Binds K fd ps [] ∧ FnG P w K mg base k f fd ps sp
end
section
variable {X : Cx} {x : Str} {k : Nat} {ps : List Str} {sp : Sp} {e : Expr} {es : List Expr} {t : TA} {p pos : Pos}
theorem pe_fnG (h : FnGd X.prog X.w X.K X.mg X.base x k ps sp) (gs : X.A.guards = some []) (hr : Room k X.A) (ha : PA X (e :: es) t) (hg : Gl X x := by rfl) (hdb : (x == ("__debug__" : Str)) = false := by decide)
    (he : starEach (e :: es) X.env = (false, eval e X.env) :: starEach es X.env := by rfl) (hpl : (backTo pos (starEach es X.env)).any (·.1) = false := by rfl) :
    PE X (.Call (.Name x p) (e :: es) [] pos) (tCall sp [] E0 t) := by
  obtain ⟨f, fd, hm, hk, hb, F⟩ := h
  refine ⟨fun pins s σ H Q I h => wpAny_Call_Name_kw (ld_glob I hg hm ?_ hdb)⟩
  refine PySem.W.callWith_K (h₀ := X.base) I.ok.mod.kin hk (thn (ha.run pos pins s σ H _ I h) fun us s1 ⟨vs, H1, I1, r, q⟩ => ⟨I1.kIn, ?_⟩) he hpl
  have q' : sp vs H1 Q E0 := by rw [← List.append_nil vs]; exact q
  have hl : us.length = ps.length := r.length ▸ F.len _ _ _ _ q'
  have hbb : BindsTo s1 fd ⟨us, []⟩ (ps.zip us) := by
    have z := hb s1 us I1.kIn (by rw [List.append_nil]; exact hl)
    rwa [List.append_nil] at z
  refine wpAny_call (codeAny_mono (F.run X.A X.stack s1 H1 ⟨us, []⟩ us vs Q E0 gs hr I1.env0 hbb r q') fun res s' hq => ?_)
  match res, hq with
  | .ok (.ret u), hq => exact I1.after hq
  | .ok .next, hq => exact False.elim hq
  | .ok .brk, hq => exact False.elim hq
  | .ok .cont, hq => exact False.elim hq
  | .error e, hq => exact False.elim hq
end
/-- the law's own call: nothing is tracked but the script -/
theorem callG {P : Program} {w : World} {K : PySem.W.Frag} {mg mb : Str → Option Value} {k : Nat} {fa a : Addr} {fd : FuncData} {x : Str} {sp : Sp} {s₁ : Shared} {vs : List Value} {ns : List Int}
    (KX : K.In s₁.heap) (hns : s₁.heap.Ns mainGlobals mg) (hb : s₁.heap.Ns builtinsNs mb) (hbb : ∀ x : Str, x ≠ "__name__" → mb x = bootBuiltins x) (hlim : s₁.heap.NoLimit) (hg : s₁.gens = #[])
    (ha : s₁.heap.get? a = some { cls := .type "list", data := .seq vs.toArray }) (hi : IntsAre vs ns) (hl : ns.length ≤ sizeLine) (hr : Room k callerA)
    (F : ∀ base : Heap, K.In base → base.Ns mainGlobals mg → FnG P w K mg base k fa fd [x] sp) (hbind : ∀ (s : Shared) (u : Value), BindsTo s fd ⟨[u], []⟩ [(x, u)])
    (hsp : ∀ H : Hp, SqL K H a (ns.map V.int) → sp [.ref a] H (fun v _ => v = .bl true) E0) :
    codeAny (model P w) callerA (.call (.ref fa) ⟨[.ref a], []⟩) (fun r s' => r = .ok (.ret (.bool true)) ∧ OldK s₁.heap s'.heap ∧ s'.os = s₁.os ∧ AllBare s'.gens) s₁ := by
  have rv := vals_ints hi
  let scr : Obj := { cls := .type "list", data := .seq vs.toArray }
  -- H tracks at most the script, locked
  have core : ∀ H : Hp, (∀ b u, H b = some u → b = a ∧ u = .frz scr (.lst (ns.map V.int)) ∧ K.lookup a = none) → SqL K H a (ns.map V.int) →
      codeAny (model P w) callerA (.call (.ref fa) ⟨[.ref a], []⟩) (fun r s' => r = .ok (.ret (.bool true)) ∧ OldK s₁.heap s'.heap ∧ s'.os = s₁.os ∧ AllBare s'.gens) s₁ := by
    intro H hO hS
    have hok : HOk P w H s₁.heap := fun b u e => by
      obtain ⟨rfl, rfl, _⟩ := hO b u e
      exact ⟨ha, by rw [List.length_map]; exact hl, vs, _, rv, ha⟩
    have other : ∀ {b : Addr} {o : Obj}, s₁.heap.get? b = some o → o ≠ scr → H b = none := fun {b o} e d => by
      cases q : H b with
      | none => rfl
      | some u =>
        obtain ⟨rfl, _, _⟩ := hO b u q
        rw [ha] at e
        exact absurd (Option.some.inj e).symm d
    have spaces : ∀ {b : Addr} {m : Str → Option Value}, s₁.heap.Ns b m → (hidT s₁.heap H).Ns b m := fun {b m} z => by
      obtain ⟨o, es, ep, e, d, r⟩ := z
      refine ⟨o, es, ep, hidT_get e (other e fun q => ?_), d, r⟩
      subst q
      obtain ⟨_, d'⟩ := d
    have kin : K.In (hidT s₁.heap H) := fun b o e => hidT_get (KX b o e) (by
      cases q : H b with
      | none => rfl
      | some u =>
        obtain ⟨rfl, _, z⟩ := hO b u q
        rw [z] at e
        cases e)
    obtain ⟨mc, l1, l2⟩ := hlim
    have e0 : Env0 P w K mg (hidT s₁.heap H) callerA [] s₁ H :=
      { frames := rfl, mod := ⟨kin, spaces hns, ⟨mb, spaces hb, hbb⟩, ⟨mc, spaces l1, l2⟩⟩, bs := fun _ _ e => of_hidT e, bsz := Nat.le_of_eq (hidT_size _ _), funs := trivial, frf := fun _ hb => (nomatch hb), hok := hok, bare := .of_eq hg }
    refine codeAny_mono ((F _ kin (spaces hns)).run callerA [] s₁ H ⟨[.ref a], []⟩ [.ref a] [.ref a] _ _ rfl hr e0 (hbind s₁ (.ref a)) (.cons rfl .nil) (hsp H hS)) fun res s' z => ?_
    match res, z with
    | .ok (.ret u), ⟨v, H', os, bare, un, hok', rel, ev⟩ =>
      have ev' : v = .bl true := ev
      subst ev'
      have eu : u = Value.bool true := rel
      subst eu
      refine ⟨rfl, OldK.of_keep fun b o e => ?_, os, bare⟩
      cases q : H b with
      | none => exact un.keep b o e q (fun z => nomatch z) (fun z => nomatch z)
      | some u =>
        obtain ⟨rfl, rfl, _⟩ := hO b u q
        have z1 := (hok' b _ (un.frzs b _ _ q)).1
        rw [ha] at e
        rw [← e]
        exact z1
    | .ok .next, z => exact False.elim z
    | .ok .brk, z => exact False.elim z
    | .ok .cont, z => exact False.elim z
    | .error e, z => exact False.elim z
  cases hk : K.lookup a with
  | some o =>
    have e := KX a o hk
    rw [ha] at e
    cases e
    exact core (fun _ => none) (fun _ _ z => nomatch z) (.inr ⟨_, vs.toArray, _, hk, rfl, rfl, rfl, by rw [List.size_toArray, hi.length]; exact hl, by simpa using rv⟩)
  | none =>
    refine core (fun b => if b = a then some (.frz scr (.lst (ns.map V.int))) else none) (fun b u z => ?_) (.inl (.inr ⟨scr, if_pos rfl⟩))
    by_cases hb : b = a
    · rw [if_pos hb] at z
      exact ⟨hb, (Option.some.inj z).symm, hk⟩
    · rw [if_neg hb] at z
      cases z
theorem walkG (k : Nat) {l : PySem.W.OpenLaw} {q : Program} {loose : List Str} {XP : (Str → Option Value) → Heap → Prop} {YP : World → Heap → Prop} {d : DefRec} {K : Params → PySem.W.Frag} (hr : Room k callerA) (hn : l.most = some 63) (hdf : d.params.defaults = [])
    (hY : ∀ (w : World) (h : Heap), YP w h → (K w.params).In h)
    (F : ∀ (w : World) (mg : Str → Option Value) (fa : Addr) (h : Heap), (K w.params).In h → h.Ns mainGlobals mg → mg d.name = some (.ref fa) →
      ∃ fd : FuncData, (∀ (s : Shared) (u : Value), BindsTo s fd ⟨[u], []⟩ [("_law_cells", u)]) ∧ ∀ base : Heap, (K w.params).In base → base.Ns mainGlobals mg → FnG l.prog w (K w.params) mg base k fa fd ["_law_cells"] (spLaw (K w.params))) :
    PySem.W.WalkO q loose XP YP l.row.toRowW d [] (fun f vs => PySem.call f vs) := by
  refine Att.attach_call hn hdf fun w s₀ s₁ mg mb fa o pm cd doc a vs ns G Y ho hd hcd hmg hobj hints hlen hg => ?_
  obtain ⟨fd, hb, hF⟩ := F w mg fa _ (hY w _ Y) G.T.g hmg
  exact callG (hY w _ Y) G.T.g G.T.b G.T.builtins G.T.nolimit hg hobj hints (Nat.le_trans hlen (by decide)) hr hF hb fun H hS => ⟨a, ns, rfl, hS, hlen, fun _ => rfl⟩
end RV
/-! Classes of the text, as their callers see them. -/
namespace RV
open PySem L2 PyProof.Rows
/-- the class x of the module stands at C; C(..) of positional values, the defaults dvs behind them -/
def Mkr (P : Program) (w : World) (K : PySem.W.Frag) (mg : Str → Option Value) (base : Heap) (x : Str) (C : Addr) (k : Nat) (sp : Sp) (dvs : List V) : Prop :=
  mg x = some (.ref C) ∧ ∃ f fd ps ds, Mk K C f ∧ Binds K fd ps ds ∧ Vals dvs ds ∧ FnOk P w K mg base CX0 k f fd ps sp
def MkrK (P : Program) (w : World) (K : PySem.W.Frag) (mg : Str → Option Value) (base : Heap) (x : Str) (C : Addr) (k n : Nat) (ks : List Str) (sp : Sp) (gV : List V → List V → List V) : Prop :=
  mg x = some (.ref C) ∧ ∃ f fd ps g, Mk K C f ∧ KBn K fd ps (n + 1) ks g gV ∧ FnOk P w K mg base CX0 k f fd ps sp
/-- what isinstance asks of a class of the text -/
structure ClsX (K : PySem.W.Frag) (C : Addr) : Prop where
  cl : Cls K C
  ha : PySem.W.findIn K (.ref C) "__class__" = some (some (.builtin "object.__class__"))
  hn : PySem.W.specialIn K (.builtin "object.__class__") "__get__" = some (some (.builtin "getset_descriptor.__get__"))
  htk : PySem.W.takesIn K (.builtin "object.__class__") = some true
  hm : PySem.W.mroIn K C (.type "object") = some true
theorem ClsX.ty {K : PySem.W.Frag} {C a dx : Addr} {H : Hp} {fs : List (Str × V)} (c : ClsX K C) (e : H a = some (.ins C dx fs)) : TyX K H (.ref a) (.ref C) := .base (.ins e c.cl c.ha c.hn c.htk c.hm)
/-- a property -/
def Prp (P : Program) (w : World) (K : PySem.W.Frag) (mg : Str → Option Value) (base : Heap) (C : Addr) (f : Str) (k : Nat) (sp : Sp) : Prop :=
  Cls K C ∧ ∃ p g fd ps, PropOf K C f p g ∧ Binds K fd ps [] ∧ FnOk P w K mg base CX0 k g fd ps sp
section
variable {X : Cx} {x f : Str} {C : Addr} {k n : Nat} {ks : List Str} {sp : Sp} {dvs : List V} {gV : List V → List V → List V} {e : Expr} {es : List Expr} {kws : List Keyword} {t tk : TA} {ta : TE} {p pos : Pos}
theorem pe_mk (h : Mkr X.prog X.w X.K X.mg X.base x C k sp dvs) (hr : Room (k + 1) X.A) (ha : PA X (e :: es) t) (hg : Gl X x := by rfl) (hdb : (x == ("__debug__" : Str)) = false := by decide)
    (he : starEach (e :: es) X.env = (false, eval e X.env) :: starEach es X.env := by rfl) (hpl : (backTo pos (starEach es X.env)).any (·.1) = false := by rfl) : PE X (.Call (.Name x p) (e :: es) [] pos) (tMake C sp dvs E0 t) := by
  obtain ⟨hm, f, fd, ps, ds, M, hb, hd, F⟩ := h
  exact pe_make M F hr hg hm hb hd pass0 ha hdb he hpl
theorem pe_mkK (h : MkrK X.prog X.w X.K X.mg X.base x C k n ks sp gV) (hr : Room (k + 1) X.A) (ha : PA X (e :: es) t) (hkw : PK X kws tk) (hg : Gl X x := by rfl)
    (hall : (backToKw pos (keywordEach kws X.env)).all (·.1.isSome) = true := by rfl) (hks : (backToKw pos (keywordEach kws X.env)).filterMap (·.1) = ks := by rfl) (hdb : (x == ("__debug__" : Str)) = false := by decide)
    (he : starEach (e :: es) X.env = (false, eval e X.env) :: starEach es X.env := by rfl) (hpl : ((backTo pos (starEach (e :: es) X.env)).any (·.1) || (backToKw pos (keywordEach kws X.env)).any (·.1.isNone)) = false := by rfl) :
    PE X (.Call (.Name x p) (e :: es) kws pos) (tMakeK C n ks.length sp gV E0 t tk) := by
  obtain ⟨hm, f, fd, ps, g, M, hb, F⟩ := h
  exact pe_makeK M F hr hg hm hb pass0 ha hkw hall hks hdb he hpl
theorem pe_mkK0 (h : MkrK X.prog X.w X.K X.mg X.base x C k 0 ks sp gV) (hr : Room (k + 1) X.A) (hkw : PK X kws tk) (hg : Gl X x := by rfl)
    (hall : (backToKw pos (keywordEach kws X.env)).all (·.1.isSome) = true := by rfl) (hks : (backToKw pos (keywordEach kws X.env)).filterMap (·.1) = ks := by rfl) (hdb : (x == ("__debug__" : Str)) = false := by decide)
    (hpl : ((backTo pos (starEach [] X.env)).any (·.1) || (backToKw pos (keywordEach kws X.env)).any (·.1.isNone)) = false := by rfl) :
    PE X (.Call (.Name x p) [] kws pos) (tMakeK C 0 ks.length sp gV E0 tNil tk) := by
  obtain ⟨hm, f, fd, ps, g, M, hb, F⟩ := h
  exact pe_makeK0 M F hr hg hm hb pass0 hkw hall hks hdb hpl
theorem pe_propN (h : Prp X.prog X.w X.K X.mg X.base C f k sp) (hr : Room (k + 1) X.A) (he : PE X e ta) (hab : attributeBase e f X.env (eval e X.env) = eval e X.env := by rfl) : PE X (.Attribute e f pos) (tProp C sp [] E0 ta) := by
  obtain ⟨c, q, g, fd, ps, hp, hb, F⟩ := h
  exact pe_prop he c hp F hr hb .nil pass0 hab
/-- a test that is an instance's truth -/
theorem pt_obj (hb : PySem.W.findIn X.K (.ref C) "__bool__" = some none) (hl : PySem.W.findIn X.K (.ref C) "__len__" = some none) (ha : PE X e ta) (he : ∀ whole, isTrue e X.env whole = (do let v ← whole; standAt e.pos; holding [v] (truthy v)) := by intro _; rfl) :
    PT X e (fun σ H Q => ta σ H fun x H' => rTrO C x H' Q) := by
  refine ⟨fun pins s σ H Q I h => ?_⟩
  exact isTrue_plain (thn (ha.run pins s σ H _ I h) fun v s1 ⟨x, H1, I1, r1, q1⟩ => tru_obj hb hl pins s1 σ H1 x v Q I1 r1 q1) (he _)
end
end RV
/-! What is known of the heap, step by step; repr of lists of short things. -/
namespace RV
open PySem L2 PyProof.Rows
/-- the built-in names that the text uses are still the built-ins -/
structure Blt (mg : Str → Option Value) : Prop where
  b_len : mg "len" = none
  b_int : mg "int" = none
  b_abs : mg "abs" = none
  b_max : mg "max" = none
  b_min : mg "min" = none
  b_all : mg "all" = none
  b_any : mg "any" = none
  b_repr : mg "repr" = none
  b_range : mg "range" = none
  b_divmod : mg "divmod" = none
  b_isinstance : mg "isinstance" = none
  b_str : mg "str" = none

/-! ### the well -/
def sp_well (K : PySem.W.Frag) : Sp := fun vs H Q _ => ∃ (c : Addr) (ns : List Int) (k : Nat), vs = [.ref c, .int k] ∧ SqL K H c (ns.map V.int) ∧ ns.length ≤ 63 ∧ k ≤ 100 ∧
  ∀ a H', H a = none → Same H H' → WellAt H' a 0 → Q (.ref a) H'
def sp_dip : Sp := fun vs H Q _ => ∃ (a : Addr) (m : Int) (n : Nat), vs = [.ref a, .int m] ∧ WellAt H a n ∧ n < 1000000 ∧ 0 < m ∧ m ≤ 10 ^ 60 ∧
  ∀ (r : Int) H', 0 ≤ r → r < m → Grow a H H' → WellAt H' a (n + 1) → Q (.int r) H'
theorem WellAt.mono {H : Hp} {a : Addr} {n m : Nat} (w : WellAt H a n) (h : n ≤ m) : WellAt H a m := by
  obtain ⟨x, y, z, e, hx, hy, hz⟩ := w
  exact ⟨x, y, z, e, hx, hy, by omega, by omega⟩
theorem WellAt.new {H : Hp} {a p : Addr} {n : Nat} {o : HO} (w : WellAt H a n) (np : H p = none) : WellAt (upd H p o) a n := by
  obtain ⟨x, y, z, e, hx, hy, hz⟩ := w
  exact ⟨x, y, z, by rw [upd_ne (ne_of_none e np)]; exact e, hx, hy, hz⟩
theorem WellAt.ne {H : Hp} {a p : Addr} {n : Nat} (w : WellAt H a n) (np : H p = none) : a ≠ p := by
  obtain ⟨x, y, z, e, _⟩ := w
  exact ne_of_none e np
def sp_name : Sp := fun vs H Q _ => ∃ (a : Addr) (n : Nat), vs = [.ref a] ∧ WellAt H a n ∧ n < 900000 ∧
  ∀ (x : Str) H', IsNm x → Grow a H H' → WellAt H' a (n + 10) → Q (.str x) H'
def sp_fresh : Sp := fun vs H Q _ => ∃ (a t : Addr) (n : Nat) (xs : List Str), vs = [.ref a, .ref t] ∧ WellAt H a n ∧ n < 800000 ∧ H t = some (.lst (xs.map V.str)) ∧ t ≠ a ∧ (∀ x ∈ xs, IsNm x) ∧ xs.length ≤ 35 ∧
  ∀ (x : Str) H', IsNm x → x ∉ xs → Grow a H H' → WellAt H' a (n + 13) → Q (.str x) H'
/-- the names that differ from x in their last sign alone -/
def cands (x : Str) : List Str := (cd signs).map fun c => cutS x none (some 7) ++ ⟨#[c]⟩
theorem cand_cd (x : Str) (c : Nat) : cd (cutS x none (some 7) ++ ⟨#[c]⟩) = (cd x).take 7 ++ [c] := by
  rw [cd_app, cd_one]
  exact congrArg (· ++ [c]) (cd_pre x 7)
theorem cands_nm {x : Str} (h : IsNm x) : ∀ y ∈ cands x, IsNm y := by
  intro y hy
  obtain ⟨c, hc, rfl⟩ := List.mem_map.mp hy
  have ht : tailC c = true := by
    have : ((cd signs).all tailC) = true := by rw [cd_signs]; decide
    exact List.all_eq_true.mp this c hc
  show isNm (cd _) = true
  rw [cand_cd]
  exact isNm_snoc (isNm_take h (by decide) (by decide)) (by rw [List.length_take]; omega) ht
theorem nodup_map {α β : Type} {f : α → β} (hf : ∀ a b, f a = f b → a = b) : ∀ {l : List α}, l.Nodup → (l.map f).Nodup
  | [], _ => List.nodup_nil
  | a :: l, h => by
    obtain ⟨h1, h2⟩ := List.nodup_cons.mp h
    rw [List.map_cons, List.nodup_cons]
    refine ⟨fun hm => ?_, nodup_map hf h2⟩
    obtain ⟨b, hb, e⟩ := List.mem_map.mp hm
    exact h1 (hf _ _ e ▸ hb)
theorem cands_nodup (x : Str) : (cands x).Nodup := by
  refine nodup_map (fun a b e => ?_) (by rw [cd_signs]; decide)
  have e2 := congrArg cd e
  rw [cand_cd, cand_cd] at e2
  have e3 := List.append_cancel_left e2
  exact (List.cons.inj e3).1
theorem cands_len (x : Str) : (cands x).length = 36 := by
  unfold cands
  rw [List.length_map, cd_signs]
  rfl
/-- what is_name says of any value whose kind is known -/
def sp_is_name (K : PySem.W.Frag) : Sp := fun vs H Q _ => ∃ v, vs = [v] ∧ ((∃ x : Str, v = .str x ∧ x.length ≤ sizeLine ∧ ∀ H', Same H H' → Q (.bl (isNm (cd x))) H') ∨
  (∃ t, TyX K H v t ∧ PySem.W.kitOne K t (.type "str") = some false ∧ Q (.bl false) H))
structure Cst (mg : Str → Option Value) : Prop where
  c__LETTERS : ∃ u, mg "_LETTERS" = some u ∧ RelV (.str "abcdefghijklmnopqrstuvwxyz") u
  c__DIGITS : ∃ u, mg "_DIGITS" = some u ∧ RelV (.str "0123456789") u
  c__LONGEST_NAME : ∃ u, mg "_LONGEST_NAME" = some u ∧ RelV (.int 8) u
theorem cd_letters : cd "abcdefghijklmnopqrstuvwxyz" = [97, 98, 99, 100, 101, 102, 103, 104, 105, 106, 107, 108, 109, 110, 111, 112, 113, 114, 115, 116, 117, 118, 119, 120, 121, 122] := by decide +kernel
theorem cd_digits : cd "0123456789" = [48, 49, 50, 51, 52, 53, 54, 55, 56, 57] := by decide +kernel
theorem low_in (c : Nat) : decide (c ∈ cd "abcdefghijklmnopqrstuvwxyz") = lowC c := by
  rw [cd_letters]
  simp only [lowC]
  by_cases h : 97 ≤ c ∧ c ≤ 122
  · have : c = 97 ∨ c = 98 ∨ c = 99 ∨ c = 100 ∨ c = 101 ∨ c = 102 ∨ c = 103 ∨ c = 104 ∨ c = 105 ∨ c = 106 ∨ c = 107 ∨ c = 108 ∨ c = 109 ∨ c = 110 ∨ c = 111 ∨ c = 112 ∨ c = 113 ∨ c = 114 ∨ c = 115 ∨ c = 116 ∨ c = 117 ∨ c = 118 ∨ c = 119 ∨ c = 120 ∨ c = 121 ∨ c = 122 := by omega
    rcases this with e | e | e | e | e | e | e | e | e | e | e | e | e | e | e | e | e | e | e | e | e | e | e | e | e | e <;> subst e <;> decide
  · have h1 : (decide (97 ≤ c) && decide (c ≤ 122)) = false := by
      simp only [Bool.and_eq_false_iff, decide_eq_false_iff_not]
      omega
    rw [h1]
    simp only [decide_eq_false_iff_not, List.mem_cons, List.not_mem_nil, or_false]
    omega
theorem tail_in (c : Nat) : decide (c ∈ cd (("abcdefghijklmnopqrstuvwxyz" : Str) ++ ("0123456789" : Str))) = tailC c := by
  rw [cd_app]
  have h2 : decide (c ∈ cd "0123456789") = digC c := by
    rw [cd_digits]
    simp only [digC]
    by_cases h : 48 ≤ c ∧ c ≤ 57
    · have : c = 48 ∨ c = 49 ∨ c = 50 ∨ c = 51 ∨ c = 52 ∨ c = 53 ∨ c = 54 ∨ c = 55 ∨ c = 56 ∨ c = 57 := by omega
      rcases this with e | e | e | e | e | e | e | e | e | e <;> subst e <;> decide
    · have h1 : (decide (48 ≤ c) && decide (c ≤ 57)) = false := by
        simp only [Bool.and_eq_false_iff, decide_eq_false_iff_not]
        omega
      rw [h1]
      simp only [decide_eq_false_iff_not, List.mem_cons, List.not_mem_nil, or_false]
      omega
  rw [tailC, ← low_in, ← h2]
  by_cases a : c ∈ cd "abcdefghijklmnopqrstuvwxyz" <;> by_cases b : c ∈ cd "0123456789" <;> simp [a, b]
/-- a promise that the unifier does not open -/
@[irreducible] def Irr (sp : Sp) : Sp := sp
theorem irr {sp : Sp} {vs : List V} {H : Hp} {Q : VK} {E : XK} (h : sp vs H Q E) : Irr sp vs H Q E := by unfold Irr; exact h
theorem irr_of {sp : Sp} {vs : List V} {H : Hp} {Q : VK} {E : XK} (h : Irr sp vs H Q E) : sp vs H Q E := by unfold Irr at h; exact h
theorem Fn.irr {P : Program} {w : World} {K : PySem.W.Frag} {mg : Str → Option Value} {base : Heap} {x : Str} {k : Nat} {ps : List Str} {sp : Sp} (h : Fn P w K mg base x k ps sp) : Fn P w K mg base x k ps (Irr sp) := by
  obtain ⟨f, fd, a, b, c, F⟩ := h
  exact ⟨f, fd, a, b, c, F.imp fun _ _ _ _ z => irr_of z⟩
theorem Mkr.irr {P : Program} {w : World} {K : PySem.W.Frag} {mg : Str → Option Value} {base : Heap} {x : Str} {C : Addr} {k : Nat} {sp : Sp} {dvs : List V} (h : Mkr P w K mg base x C k sp dvs) : Mkr P w K mg base x C k (Irr sp) dvs := by
  obtain ⟨m, f, fd, ps, ds, a, b, c, F⟩ := h
  exact ⟨m, f, fd, ps, ds, a, b, c, F.imp fun _ _ _ _ z => irr_of z⟩
theorem MkrK.irr {P : Program} {w : World} {K : PySem.W.Frag} {mg : Str → Option Value} {base : Heap} {x : Str} {C : Addr} {k n : Nat} {ks : List Str} {sp : Sp} {gV : List V → List V → List V} (h : MkrK P w K mg base x C k n ks sp gV) : MkrK P w K mg base x C k n ks (Irr sp) gV := by
  obtain ⟨m, f, fd, ps, g, a, b, F⟩ := h
  exact ⟨m, f, fd, ps, g, a, b, F.imp fun _ _ _ _ z => irr_of z⟩
section
variable {a p x : Addr} {n m : Nat} {L : List (Addr × HO)} {H0 H : Hp} {o : HO} {Q : VK} {E : XK}
theorem Has.ne (h : Has H0 a n L H) (np : H p = none) : p ≠ a := (h.well.ne np).symm
theorem Has.free (h : Has H0 a n L H) (np : H p = none) : ∀ q ∈ L, q.1 ≠ p := fun q hq => ne_of_none (h.here q hq).2 np
theorem Has.none0 (h : Has H0 a n L H) (np : H p = none) : H0 p = none := by
  cases e : H0 p with
  | none => rfl
  | some o =>
    rw [h.gr p o (h.ne np) e] at np
    cases np
/-- a thing that is not among them changes -/
theorem Has.put (h : Has H0 a n L H) (h0 : H0 p = none) (hp : ∀ q ∈ L, q.1 ≠ p) (pa : p ≠ a) : Has H0 a n L (upd H p o) := by
  obtain ⟨g, ⟨x, y, z, e, r⟩, k⟩ := h
  refine ⟨fun b u hb eb => ?_, ⟨x, y, z, by rw [upd_ne pa.symm]; exact e, r⟩, fun q hq => ⟨(k q hq).1, by rw [upd_ne (hp q hq)]; exact (k q hq).2⟩⟩
  rw [upd_ne (ne_of_none eb h0)]
  exact g b u hb eb
theorem Has.same (h : Has H0 a n L H) {H' : Hp} (g : Same H H') : Has H0 a n L H' := by
  obtain ⟨g0, ⟨x, y, z, e, r⟩, k⟩ := h
  exact ⟨fun b u hb eb => g _ _ (g0 b u hb eb), ⟨x, y, z, g _ _ e, r⟩, fun q hq => ⟨(k q hq).1, g _ _ (k q hq).2⟩⟩
theorem name_step (h : Has H0 a n L H) (hn : n < 900000) (k : ∀ x H', IsNm x → Has H0 a (n + 10) L H' → Q (.str x) H') : Irr sp_name [.ref a] H Q E :=
  irr ⟨a, n, rfl, h.well, hn, fun x H' hx g w => k x H' hx (h.grow g w)⟩
theorem dip_step {q : Int} (h : Has H0 a n L H) (hn : n < 1000000) (h0 : 0 < q) (h1 : q ≤ 10 ^ 60) (k : ∀ (r : Int) H', 0 ≤ r → r < q → Has H0 a (n + 1) L H' → Q (.int r) H') : Irr sp_dip [.ref a, .int q] H Q E :=
  irr ⟨a, q, n, rfl, h.well, hn, h0, h1, fun r H' r0 r1 g w => k r H' r0 r1 (h.grow g w)⟩
theorem fresh_step {t : Addr} {xs : List Str} (h : Has H0 a n L H) (hn : n < 800000) (ht : (t, HO.lst (xs.map V.str)) ∈ L) (hx : ∀ x ∈ xs, IsNm x) (hl : xs.length ≤ 35) (k : ∀ x H', IsNm x → x ∉ xs → Has H0 a (n + 13) L H' → Q (.str x) H') :
    Irr sp_fresh [.ref a, .ref t] H Q E :=
  irr ⟨a, t, n, xs, rfl, h.well, hn, h.at ht, (h.here _ ht).1, hx, hl, fun x H' hx hn g w => k x H' hx hn (h.grow g w)⟩
end
/-! ### short data -/
structure Short (d : PyData) : Prop where
  sh : d.showable = true
  dp : d.depth = 0
  ln : d.shown.length ≤ 100
theorem short_nm {x : Str} (h : IsNm x) : Short (.str x) := by
  refine ⟨by simp [PyData.showable], by simp [PyData.depth], ?_⟩
  have h1 := StrLaws.reprText_len x (fun c hc => by
    have q := List.all_eq_true.mp (isNm_all h) c hc
    simp only [tailC, lowC, digC, Bool.or_eq_true, Bool.and_eq_true, decide_eq_true_eq] at q
    omega)
  have h2 := isNm_len h
  rw [← cd_len] at h2
  have : (PyData.str x).shown = reprText x := by simp only [PyData.shown]
  rw [this]
  omega
theorem short_bl (b : Bool) : Short (.bool b) := by
  refine ⟨by simp [PyData.showable], by simp [PyData.depth], ?_⟩
  cases b <;> simp only [PyData.shown] <;> decide +kernel
theorem short_list {ds : List PyData} (h : ∀ d ∈ ds, Short d) (hl : ds.length ≤ 100) : (PyData.list ds).showable = true ∧ (PyData.list ds).depth ≤ 60 ∧ (PyData.list ds).shown.length ≤ sizeLine := by
  have h1 : ∀ ds : List PyData, (∀ d ∈ ds, Short d) → PyData.showableAll ds = true ∧ PyData.depthAll ds = 0 ∧ ((PyData.shownAll ds).map (·.length)).sum ≤ 100 * ds.length ∧ (PyData.shownAll ds).length = ds.length := by
    intro ds
    induction ds with
    | nil => intro _; simp [PyData.showableAll, PyData.depthAll, PyData.shownAll]
    | cons d ds ih =>
      intro h
      obtain ⟨a1, a2, a3⟩ := h d List.mem_cons_self
      obtain ⟨b1, b2, b3, b4⟩ := ih fun e he => h e (List.mem_cons_of_mem _ he)
      refine ⟨by simp [PyData.showableAll, a1, b1], by simp [PyData.depthAll, a2, b2], ?_, by simp [PyData.shownAll, b4]⟩
      simp only [PyData.shownAll, List.map_cons, List.sum_cons, List.length_cons]
      omega
  obtain ⟨a1, a2, a3, a4⟩ := h1 ds h
  refine ⟨by simp [PyData.showable, a1], by simp [PyData.depth, a2], ?_⟩
  have e : (PyData.list ds).shown = listText (PyData.shownAll ds) := by simp only [PyData.shown]
  rw [e]
  have := listText_len_le (PyData.shownAll ds)
  exact Nat.le_trans (show _ ≤ 20000 by omega) (by decide)
/-- repr of a list of short things that stands in the heap -/
theorem repr_step {K : PySem.W.Frag} {a : Addr} {vs : List V} {ds : List PyData} {H : Hp} {Q : VK} (h : H a = some (.lst vs)) (hd : DpAll K H vs ds) (hs : ∀ d ∈ ds, Short d) (hl : ds.length ≤ 100) (k : Q (.str (PyData.list ds).shown) H) : rRepr K [.ref a] H Q := by
  obtain ⟨h1, h2, h3⟩ := short_list hs hl
  unfold rRepr
  exact ⟨a, .list ds, rfl, .lst (SqL.of h) hd, h1, h2, h3, k⟩
end RV
/-! for i, x in enumerate(t), t a tuple. -/
namespace PySem
open AutoSeq1 (wpAny_loadPart')
set_option maxHeartbeats 4000000 in
theorem rv_meets_enum_tuple (l : Addr) (items : Array Value) (n : Nat) (dct : Option Addr) (sl : Array (Option Value)) :
    Meets (Builtin.«enumerate.__new__» ⟨[.type "enumerate", .ref l], []⟩) (fun _ R s => s.heap.get? l = some { cls := .type "tuple", dict := dct, data := .seq items n, slots := sl } ∧
      R (.ok (.ret (.ref (s.heap.push { cls := .type "tuple_iterator", data := .fields #[.ref l, .int 0 0] }).objs.size)))
        { s with heap := (s.heap.push { cls := .type "tuple_iterator", data := .fields #[.ref l, .int 0 0] }).push { cls := .type "enumerate", data := .fields #[.none, .bool false, .ref s.heap.objs.size, rawInt 0, .none, .none] } }) :=
  .of_wp fun prog w A R s h => by
    obtain ⟨hp, g, d, tk, os⟩ := s
    obtain ⟨hl, h⟩ := h
    have q := sub_enumerate
    have hT : Heap.IsTuple (Shared.heap ⟨hp, g, d, tk, os⟩) l items := ⟨_, hl, rfl, n, rfl⟩
    wp_walk using wpAny_loadPart' hl
    refine wpAny_stack_any fun st => wpAny_pure ?_
    split
    · rename_i c _ _ _ _ _
      cases (c == Value.type "enumerate") <;> (wp_walk using wpAny_loadPart' hl, wpAny_pyIter_tuple hT; exact ⟨_, rfl, h⟩)
    · wp_walk using wpAny_loadPart' hl, wpAny_pyIter_tuple hT
      exact ⟨_, rfl, h⟩
section
variable {prog : Program} {w : World} {A : Around} {E : Value → Shared → Prop} {s : Shared}
theorem rv_call_enum_tuple {l : Addr} {items : Array Value} {Q : Value → Shared → Prop} (hT : s.heap.IsTuple l items)
    (h : ∀ h', IsEnum h' (s.heap.objs.size + 1) s.heap.objs.size 0 .none → h'.IsTupleIter s.heap.objs.size l 0 → h'.objs.size = s.heap.objs.size + 2 → (∀ b o, s.heap.get? b = some o → h'.get? b = some o) → Q (.ref (s.heap.objs.size + 1)) { s with heap := h' }) :
    wpAny (model prog w) A (call (.type "enumerate") [.ref l]) Q E s := by
  obtain ⟨⟨c, dct, dt, sl⟩, hl, hc, n, hd⟩ := hT
  obtain rfl : c = .type "tuple" := hc
  obtain rfl : dt = .seq items n := hd
  refine callType_new F.called_enumerate (by decide) (F.typeCall_enumerate_1 _) (F.newCall_enumerate_1 _) (fun obj => F.args_object_init_2 obj _) F.entry_enumerate_new (rv_meets_enum_tuple l items n dct sl) ⟨hl, ?_⟩
  let h1 := s.heap.push { cls := .type "tuple_iterator", data := .fields #[.ref l, .int 0 0] }
  have z1 : h1.objs.size = s.heap.objs.size + 1 := Heap.size_push ..
  show _ ∧ _
  rw [show (s.heap.push { cls := .type "tuple_iterator", data := .fields #[.ref l, .int 0 0] }).objs.size = s.heap.objs.size + 1 from z1]
  have he : IsEnum (h1.push { cls := .type "enumerate", data := .fields #[.none, .bool false, .ref s.heap.objs.size, rawInt 0, .none, .none] }) (s.heap.objs.size + 1) s.heap.objs.size 0 .none := by
    have t := Heap.get?_push_size h1 (o := { cls := .type "enumerate", data := .fields #[.none, .bool false, .ref s.heap.objs.size, rawInt 0, .none, .none] }) rfl
    rw [z1] at t
    exact t
  exact ⟨⟨_, he, rfl⟩, h _ he ⟨_, Heap.get?_push_of_some _ (Heap.get?_push_size _ rfl), rfl, rfl⟩ (by rw [Heap.size_push, z1]) fun b o x => Heap.get?_push_of_some _ (Heap.get?_push_of_some _ x)⟩
end
end PySem
namespace RV
open PySem L2 PyProof.Rows
/-- the tuple at a, each item in a new pair with its number -/
def Iet (K : PySem.W.Frag) (a : Addr) : It :=
  ⟨fun i H => ∃ (xs : List V) (x : V), SqT K H a xs ∧ xs[i]? = some x, fun i H v H' => ∃ T x, v = .ref T ∧ H T = none ∧ H' = upd H T (.tup [.int (i : Nat), x]) ∧ ∀ xs, SqT K H a xs → xs[i]? = some x, fun i H => ∃ xs : List V, SqT K H a xs ∧ xs.length = i⟩
theorem turn_enumT {P : Program} {w : World} {K : PySem.W.Frag} {elts : List Expr} {kk : Nat} {tpos : Pos} (a e it : Addr) :
    Turn P w K (.Tuple elts kk tpos) (Iet K a) [e, it] e (fun i h => (∃ old, IsEnum h e it ((i : Nat) : Int) old) ∧ h.IsTupleIter it a i ∧ e ≠ it) where
  mem := List.Mem.head _
  obj := fun i h st b hb => by
    obtain ⟨⟨old, he⟩, ⟨o, ho, hc, hd⟩, _⟩ := st
    rcases (by simpa using hb : b = e ∨ b = it) with rfl | rfl
    · exact ⟨_, he, fun v q => nomatch q⟩
    · exact ⟨o, ho, fun v q => by rw [hd] at q; cases q⟩
  keep := fun i h h' st k => by
    obtain ⟨⟨old, he⟩, hi, hne⟩ := st
    exact ⟨⟨old, k e (List.Mem.head _) _ he⟩, hi.at fun o q => k it (.tail _ (.head _)) o q, hne⟩
  item := by
    intro X hP hw hK hc i pins s σ H E I hf st hg
    subst hP hw hK
    obtain ⟨⟨old, he⟩, hit, hne⟩ := st
    obtain ⟨xs, x, hq, hx⟩ := hg
    obtain ⟨its, rv, p, hz⟩ := I.tuple hq
    obtain ⟨u, hu, ru⟩ := rv.get hx
    have hel : e < s.heap.objs.size := Heap.lt_size he
    have hil : it < s.heap.objs.size := by obtain ⟨_, q, _⟩ := hit; exact Heap.lt_size q
    have pt : s.heap.IsTuple a its.toArray := p
    have ait : a ≠ it := fun z => by
      obtain ⟨o, ho, hc, _⟩ := hit
      obtain ⟨o', ho', hc', _⟩ := pt
      rw [z, ho] at ho'
      cases ho'
      rw [hc] at hc'
      injection hc' with q
      exact absurd q (by decide)
    have ae : a ≠ e := fun z => by
      obtain ⟨o', ho', hc', _⟩ := pt
      rw [z, he] at ho'
      cases ho'
      injection hc' with q
      exact absurd q (by decide)
    have lt : i < its.toArray.size := by
      have := (List.getElem?_eq_some_iff.mp hu).1
      simpa using this
    refine wpAny_pyNext_enum_itemD (Draws.tuple (A := X.A.in1) (I.ok.hd hc) it a ait its.toArray) he ⟨hit, pt⟩ lt hne (by simp [hne, ae.symm]) fun y h' tk hy ho hst hT hsz hk => ?_
    have ey : y = u := by
      have e1 : its.toArray[i]? = some u := by simpa using hu
      rw [e1] at hy
      exact (Option.some.inj hy).symm
    subst ey
    refine ⟨_, rfl, wpAny_letOwnedTupleGo_enum (s := { s with heap := h', toks := tk + 1 }) ho fun h'' he' sb => ?_⟩
    have hT2 : h''.get? s.heap.objs.size = some { cls := .type "tuple", data := .seq #[.int i tk, y] } := (sb.2 _ (Nat.ne_of_gt hel)).trans hT
    have new : ObjOk X.prog X.w (upd H s.heap.objs.size (.tup [.int (i : Nat), x])) h'' s.heap.objs.size (.tup [.int (i : Nat), x]) :=
      ⟨by show 2 ≤ sizeLine; decide, [.int i tk, y], .cons ⟨_, rfl⟩ (.cons ru .nil), ⟨_, hT2, rfl, _, rfl⟩⟩
    have I1 : Inv X pins σ (upd H s.heap.objs.size (.tup [.int (i : Nat), x])) { s with heap := h'', toks := tk + 1 } :=
      I.turnedNew (ch := [e, it]) (fun b ob hb q => (sb.2 b (fun z => hb (by simp [z]))).trans (hk b ob (fun z => hb (by simp [z])) (fun z => hb (by simp [z])) q)) hf (Nat.le_refl _) new
    refine ⟨.ref s.heap.objs.size, _, I1, rfl, ⟨_, x, rfl, I.hok.fresh (Nat.le_refl _), rfl, fun ys hy => by rw [I.tuple_inj hy hq]; exact hx⟩, ⟨⟨y, ?_⟩, hst.1.at fun o q => (sb.2 it (Ne.symm hne)).trans q, hne⟩, fun b hb => ?_⟩
    · rw [show ((i + 1 : Nat) : Int) = (i : Int) + 1 by omega]
      exact he'
    · have hb' : b < s.heap.objs.size := by
        rcases (by simpa using hb : b = e ∨ b = it) with rfl | rfl
        · exact hel
        · exact hil
      rw [upd_ne (Nat.ne_of_lt hb')]
      exact (hf b hb).1
  done := by
    intro X hP hw hK hc i pins s σ H E I hf st hg
    subst hP hw hK
    obtain ⟨⟨old, he⟩, hit, hne⟩ := st
    obtain ⟨xs, hq, hx⟩ := hg
    obtain ⟨its, rv, p, hz⟩ := I.tuple hq
    obtain ⟨f0, f1, f2, f3, f4, f5⟩ := hf it (by simp)
    have pt : s.heap.IsTuple a its.toArray := p
    have ait : a ≠ it := fun z => by
      obtain ⟨o, ho, hc, _⟩ := hit
      obtain ⟨o', ho', hc', _⟩ := pt
      rw [z, ho] at ho'
      cases ho'
      rw [hc] at hc'
      injection hc' with q
      exact absurd q (by decide)
    have en : i = its.toArray.size := by
      rw [List.size_toArray, ← rv.length]
      exact hx.symm
    subst en
    exact wpAny_pyNext_enum_endD (Draws.tuple (A := X.A.in1) (I.ok.hd hc) it a ait its.toArray) he ⟨hit, pt⟩ fun h' eb => ⟨rfl, I.turned (t' := s.toks) (fun b o hb q => eb b o hb q) f0 f1 f3 f4 f5⟩
  self := fun A i s Q E st h => let ⟨⟨_, he⟩, _⟩ := st; wpAny_pyIter_enum he h
def iEnumT (K : PySem.W.Frag) (ta : TA) : TI := fun σ H R => ta σ H fun vs H1 => ∃ a xs, vs = [.ref a] ∧ SqT K H1 a xs ∧ R (Iet K a) H1
theorem pi_enumT {X : Cx} {e : Expr} {ta : TA} {p pos tpos : Pos} {elts : List Expr} {kk : Nat} (hg : Gl X "enumerate") (hm : X.mg "enumerate" = none) (ha : PA X [e] ta) (hs : starEach [e] X.env = [(false, eval e X.env)] := by rfl) :
    PI X (.Tuple elts kk tpos) (.Call (.Name "enumerate" p) [e] [] pos) (iEnumT X.K ta) := by
  refine ⟨fun pins s σ H R I h => ?_⟩
  refine Call_ (ld_blt I hg hm boot_enumerate (PyProof.Rows.callWith_type1 (thn (ha.run pos pins s σ H _ I h) fun us s1 ⟨vs, H1, I1, r1, q1⟩ => ?_) hs rfl))
  obtain ⟨a, xs, ex, hq, q⟩ := q1
  subst ex
  have eu : us = [.ref a] := by
    cases r1 with
    | cons r2 r3 => cases r3; cases r2; rfl
  subst eu
  obtain ⟨its, rv, p', hz⟩ := I1.tuple hq
  refine rv_call_enum_tuple (show s1.heap.IsTuple a its.toArray from p') fun h' he hit hsz hk => wpAny_pyIter_enum he ?_
  have I2 : Inv X pins σ H1 { s1 with heap := h' } := I1.kept (t' := s1.toks) hk
  refine ⟨s1.heap.objs.size + 1, [s1.heap.objs.size + 1, s1.heap.objs.size], _, _, H1, rfl, I2, turn_enumT a (s1.heap.objs.size + 1) s1.heap.objs.size, ⟨⟨.none, he⟩, hit, Nat.succ_ne_self _⟩, fun b hb => ?_, q⟩
  have hle : s1.heap.objs.size ≤ b := by
    rcases (by simpa using hb : b = s1.heap.objs.size + 1 ∨ b = s1.heap.objs.size) with rfl | rfl
    · exact Nat.le_succ _
    · exact Nat.le_refl _
  exact I1.fpOk hle (I1.hok.fresh hle)
/-- a loop over the numbered items of a tuple that stands still -/
theorem for_enumT {K : PySem.W.Frag} {a : Addr} {xs : List V} {g : TG} {tb : TS} {D : Ends} {σ : L2.St} {H : Hp} (Pv : Nat → L2.St → Hp → Prop) (h0 : Pv 0 σ H) (hl : ∀ i σ H, i ≤ xs.length → Pv i σ H → SqT K H a xs)
    (hs : ∀ i x σ H T, xs[i]? = some x → Pv i σ H → H T = none → g (.ref T) σ (upd H T (.tup [.int (i : Nat), x])) fun σ2 H2 => tb { D with nx := Pv (i + 1), ct := Pv (i + 1), bk := D.nx } σ2 H2) (hd : ∀ σ H, Pv xs.length σ H → D.nx σ H) :
    ∃ W : Nat → Nat → L2.St → Hp → Prop, (∃ m, W 0 m σ H) ∧ ∀ i m σ H, W i m σ H →
      ((Iet K a).stop i H ∧ D.nx σ H) ∨ ((Iet K a).go i H ∧ ∃ N : L2.St → Hp → Prop, (∀ σ' H', N σ' H' → ∃ m', m' < m ∧ W (i + 1) m' σ' H') ∧ ∀ x H', (Iet K a).yld i H x H' → g x σ H' fun σ2 H2 => tb { D with nx := N, ct := N, bk := D.nx } σ2 H2) := by
  refine ⟨fun i m σ H => m = xs.length - i ∧ i ≤ xs.length ∧ Pv i σ H, ⟨xs.length, by simp, Nat.zero_le _, h0⟩, ?_⟩
  rintro i m σ H ⟨rfl, hi, p⟩
  have q := hl i σ H hi p
  by_cases hlt : i < xs.length
  · refine .inr ⟨⟨xs, xs[i], q, List.getElem?_eq_getElem hlt⟩, Pv (i + 1), fun σ' H' p' => ⟨xs.length - (i + 1), by omega, rfl, hlt, p'⟩, fun x H' y => ?_⟩
    obtain ⟨T, y, rfl, hT, rfl, hy⟩ := y
    exact hs i y σ H T (hy xs q) p hT
  · have e : i = xs.length := by omega
    subst e
    exact .inl ⟨⟨xs, q, rfl⟩, hd σ H p⟩
end RV
set_option linter.all false
/-! Sets of keys of one kind that can be walked and sorted: set(list of texts), sorted(set of texts). -/
namespace RV
open PySem L2 PySem.Spec PyProof.Rows
section
variable {P : Program} {w : World} {κ : Type} [DecidableEq κ] {knd : KeyKind P w κ}
/-- no two of them are the same key -/
def Apart (knd : KeyKind P w κ) (l : List (Int × Value)) : Prop := l.Pairwise fun e f => ∀ k, ¬ (knd.is k e.2 = true ∧ knd.is k f.2 = true)
/-- a set at a with the members S, n of them, whose table rises -/
def SetX (knd : KeyKind P w κ) (h : Heap) (a : Addr) (S : κ → Bool) (n : Nat) : Prop :=
  ∃ o es ep t, (h.get? a = some o ∧ o.ExactSet ∧ o.data = .set es ep t) ∧ (ElemsOf knd es.toList ∧ Apart knd es.toList ∧ ∀ k, S k = true ↔ ∃ e ∈ es.toList, knd.is k e.2 = true) ∧
    es.size < scanBound ∧ t.fits es.size = true ∧ es.size = n ∧ Ris t.place.toList ∧ (w.params.followText "set-order" = true ∨ t.led = true)
theorem Apart.perm {l l' : List (Int × Value)} (h : Apart knd l) (p : l'.Perm l) : Apart knd l' :=
  (p.pairwise_iff (fun {_ _} z k q => z k ⟨q.2, q.1⟩)).mpr h
theorem SetX.at {h h' : Heap} {a : Addr} {S : κ → Bool} {n : Nat} (R : SetX knd h a S n) (k : ∀ o, h.get? a = some o → h'.get? a = some o) : SetX knd h' a S n := by
  obtain ⟨o, es, ep, t, ⟨ho, r1⟩, r⟩ := R
  exact ⟨o, es, ep, t, ⟨k o ho, r1⟩, r⟩
theorem SetX.congr {h : Heap} {a : Addr} {S S' : κ → Bool} {n : Nat} (R : SetX knd h a S n) (e : ∀ k, S' k = S k) : SetX knd h a S' n := by
  rw [show S' = S from funext e]
  exact R
theorem SetX.fresh {h : Heap} {a : Addr} (ho : h.get? a = some { cls := .type "set", dict := none, data := .set #[] 0 (.fresh 0 0 (!w.params.followText "set-order")) }) : SetX knd h a (fun _ => false) 0 := by
  refine ⟨_, #[], 0, _, ⟨ho, ⟨rfl, rfl, rfl⟩, rfl⟩, ⟨fun e he => (by simp at he), List.Pairwise.nil, fun k => (by simp)⟩, by decide, rfl, rfl, List.Pairwise.nil, ?_⟩
  show _ ∨ (!w.params.followText "set-order") = true
  cases w.params.followText "set-order" <;> simp
variable {A : Around} {E : Value → Shared → Prop} {s : Shared} {a : Addr}
/-- what is stored once the new entry has its place -/
theorem setX_store {g : Bool → Sem Unit} (hg : ∀ (b : Bool) (s₁ : Shared) (Q' : Unit → Shared → Prop), Q' () s₁ → wpAny (model P w) A (g b) Q' E s₁)
    {o : Obj} {es es1 : Array (Int × Value)} {ep : Nat} {t t1 : SetTable} {S' : κ → Bool} (ho : s.heap.get? a = some o ∧ o.ExactSet ∧ o.data = .set es ep t)
    (hm : ElemsOf knd es1.toList ∧ Apart knd es1.toList ∧ ∀ k, S' k = true ↔ ∃ e ∈ es1.toList, knd.is k e.2 = true) (hb : es1.size < scanBound) (hf : t1.fits es1.size = true)
    (hr : Ris t1.place.toList) (hl : w.params.followText "set-order" = true ∨ t1.led = true) {wasDummy : Bool} {R : Option Bool → Shared → Prop}
    (hR : ∀ h', Heap.SameBut a s.heap h' → SetX knd h' a S' es1.size → R (some true) { s with heap := h' }) :
    wpAny (model P w) A (do
        storeSet a es1 t1
        if (!wasDummy && t1.tooFull) = true then do
            g (relayAll t1 es1 (SetTable.grown es1.size)).2.2
            storeSet a (relayAll t1 es1 (SetTable.grown es1.size)).1 (relayAll t1 es1 (SetTable.grown es1.size)).2.1
            pure (some true)
          else pure (some true)) R E s := by
  obtain ⟨ho, hex, hd⟩ := ho
  obtain ⟨hel, hap, hmem⟩ := hm
  have same := Heap.SameBut.update s.heap a (Obj.putSet es1 t1)
  have o1 := store_at (es' := es1) (t' := t1) ho hd
  refine wpAny_bind (wpAny_storeSet_of ho hd ?_ (fits_of_scanBound hb))
  split
  · obtain ⟨p, f, r, l⟩ := (⟨relayAll_perm t1 es1 (SetTable.grown es1.size), relayAll_fits t1 es1 (SetTable.grown es1.size), relayAll_ris t1 es1 (SetTable.grown es1.size), relayAll_led t1 es1 (SetTable.grown es1.size)⟩ : _ ∧ _ ∧ _ ∧ _)
    generalize relayAll t1 es1 (SetTable.grown es1.size) = Z at p f r l ⊢
    obtain ⟨es2, t2, gv⟩ := Z
    dsimp only at p f r l ⊢
    have sz : es2.size = es1.size := by rw [← Array.length_toList, p.length_eq, Array.length_toList]
    have hb2 : es2.size < scanBound := by omega
    refine wpAny_bind (hg _ _ _ (wpAny_bind (wpAny_storeSet_of o1 rfl ?_ (fits_of_scanBound hb2))))
    refine wpAny_pure (hR _ (same.trans (Heap.SameBut.update _ a _)) ⟨_, es2, _, t2, ⟨store_at o1 rfl, hex, rfl⟩, ⟨hel.perm p, hap.perm p, fun k => (hmem k).trans ?_⟩, hb2, f, sz, r, hl.imp id fun z => by rw [l]; exact z⟩)
    exact ⟨fun ⟨e, he, q⟩ => ⟨e, p.mem_iff.mpr he, q⟩, fun ⟨e, he, q⟩ => ⟨e, p.mem_iff.mp he, q⟩⟩
  · exact wpAny_pure (hR _ same ⟨_, es1, _, t1, ⟨o1, hex, rfl⟩, ⟨hel, hap, hmem⟩, hb, hf, rfl, hr, hl⟩)
theorem setX_add {S : κ → Bool} {n : Nat} {k : κ} {x : Value} {Q : Bool → Shared → Prop} (hk : knd.is k x = true) (hs : x.scannable = true) (R : SetX knd s.heap a S n) (room : n + 1 < scanBound)
    (hQ : ∀ h', Heap.SameBut a s.heap h' → SetX knd h' a (fun j => S j || decide (j = k)) (if S k = true then n else n + 1) → Q (!S k) { s with heap := h' }) :
    wpAny (model P w) A (setAddHashed a x (knd.hash k)) Q E s := by
  obtain ⟨o, es, ep, t, ⟨ho, hex, hd⟩, ⟨hel, hap, hmem⟩, hb, hf, hn, hr, hl⟩ := R
  unfold setAddHashed setAddHashedIn
  refine wpAny_holding (wpAny_bind (wpAny_setState_of ho hd hf ?_))
  dsimp only
  rw [byScan_of hs hb hel]
  simp only [↓reduceIte]
  unfold setAddByScan
  refine wpAny_bind (wpAny_bind (wpAny_rule (wpAny_bind (wpAny_setScan_of hk ho hd hf hel ?_))))
  cases hfi : List.findIdx? (fun e => knd.is k e.2) es.toList with
  | some j =>
    dsimp only
    obtain ⟨hj, pj, _⟩ := List.findIdx?_eq_some_iff_getElem.mp hfi
    have hSk : S k = true := (hmem k).2 ⟨_, List.getElem_mem hj, pj⟩
    have q := hQ s.heap (Heap.SameBut.refl a s.heap)
    rw [if_pos hSk, hSk] at q
    refine wpAny_pure (wpAny_pure (q ⟨o, es, ep, t, ⟨ho, hex, hd⟩, ⟨hel, hap, fun i => ?_⟩, hb, hf, hn, hr, hl⟩))
    rw [← hmem i, Bool.or_eq_true, decide_eq_true_eq]
    exact ⟨fun z => z.elim id fun e => e ▸ hSk, .inl⟩
  | none =>
    dsimp only
    have out : ∀ e ∈ es.toList, knd.is k e.2 = false := fun e he => by
      have := List.findIdx?_eq_none_iff.mp hfi e he
      simpa using this
    have hSk : S k = false := by
      cases q : S k with
      | false => rfl
      | true =>
        obtain ⟨e, he, z⟩ := (hmem k).1 q
        rw [out e he] at z
        cases z
    have gw : ∀ (b : Bool) {s₁ : Shared} {Q' : Unit → Shared → Prop}, Q' () s₁ → wpAny (model P w) A (match b with | true => rule "set.scan.the-table-gave-way" | false => pure ()) Q' E s₁ := fun b _ _ q => by
      cases b <;> first | exact wpAny_pure q | exact wpAny_rule q
    obtain ⟨p, f, r, l⟩ := (⟨layNew_perm t es (knd.hash k) x, layNew_fits t es (knd.hash k) x, layNew_ris t es (knd.hash k) x hr, layNew_led t es (knd.hash k) x⟩ : _ ∧ _ ∧ _ ∧ _)
    generalize layNew t es (knd.hash k) x = Z at p f r l ⊢
    obtain ⟨es1, t1, wasDummy, gv⟩ := Z
    dsimp only at p f r l ⊢
    rw [Array.toList_push] at p
    have pc : es1.toList.Perm ((knd.hash k, x) :: es.toList) := p.trans (List.perm_append_singleton _ _)
    have hm1 : ElemsOf knd es1.toList ∧ Apart knd es1.toList ∧ ∀ i, (S i || decide (i = k)) = true ↔ ∃ e ∈ es1.toList, knd.is i e.2 = true := by
      refine ⟨(hel.push hk hs).perm p, Apart.perm (List.pairwise_cons.mpr ⟨fun e he i z => ?_, hap⟩) pc, mem_push_iff hk hmem p⟩
      have ei : i = k := knd.inj x i k z.1 hk
      have q := z.2
      rw [ei, out e he] at q
      cases q
    have sz : es1.size = n + 1 := by rw [← Array.length_toList, pc.length_eq, List.length_cons, Array.length_toList, hn]
    have fin : ∀ h', Heap.SameBut a s.heap h' → SetX knd h' a (fun j => S j || decide (j = k)) es1.size → Q true { s with heap := h' } := fun h' sb r => by
      have q := hQ h' sb
      rw [hSk, if_neg (by decide)] at q
      exact q (sz ▸ r)
    have hl1 : w.params.followText "set-order" = true ∨ t1.led = true := hl.imp id fun z => by rw [l]; exact z
    refine wpAny_bind (gw _ ?_)
    split
    · refine wpAny_bind ?_
      rw [hashByValue_scannable 8 hs]
      refine wpAny_pure (setX_store (fun b s₁ Q' q => ?_) ⟨ho, hex, hd⟩ hm1 (by omega) ?_ ?_ ?_ fun h' sb r => ?_)
      · cases b <;> first | exact wpAny_pure q | exact wpAny_rule q
      · first | (split <;> first | exact f | exact SetTable.fits_plain_off f) | exact f
      · first | (split <;> exact r) | exact r
      · first | (split <;> exact hl1) | exact hl1
      · dsimp only
        exact wpAny_pure (fin h' sb r)
    · refine wpAny_bind (wpAny_pure ?_)
      simp only [↓reduceIte]
      refine setX_store (fun b s₁ Q' q => ?_) ⟨ho, hex, hd⟩ hm1 (by omega) f r hl1 fun h' sb r => ?_
      · cases b <;> first | exact wpAny_pure q | exact wpAny_rule q
      · dsimp only
        exact wpAny_pure (fin h' sb r)
end
end RV
set_option linter.all false
/-! set(list of texts), sorted(set of texts). -/
namespace RV
open PySem L2 PySem.Spec PyProof.Rows
section
variable {P : Program} {w : World} {A : Around} {E : Value → Shared → Prop} {s : Shared}
abbrev SetS (P : Program) (w : World) (h : Heap) (a : Addr) (S : Str → Bool) (n : Nat) : Prop := SetX (PySem.strKind P w) h a S n
theorem fill_loop {I : Addr} {fp wr : List Addr} {G : Array GenState → Array GenState → Prop} {n : Nat} {Pv : Nat → Value → Prop} {St : Nat → Shared → Prop} {R : Result → Shared → Prop}
    (W : WalksS P w A.in1 I fp wr G n Pv St) (S : Addr) (off : S ∉ fp) (xs : List Str) (hn : n = xs.length) (room : xs.length + 1 < scanBound) (hval : ∀ i v, Pv i v → ∃ x t, xs[i]? = some x ∧ v = .str x t) :
    ∀ (k i : Nat) (s : Shared), n - i = k → i ≤ n → St i s → (∃ c, c ≤ i ∧ SetS P w s.heap S (fun x => decide (x ∈ xs.take i)) c) →
      (∀ s' c, Moved (S :: wr) G s s' → c ≤ n → SetS P w s'.heap S (fun x => decide (x ∈ xs)) c → R (.ok (.ret .none)) s') →
      codeAny (model P w) A (.builtin "set.update.loop" ⟨[.ref S, .ref I], []⟩) R s := by
  have offw : S ∉ wr := fun z => off (W.sub _ z)
  have more : ∀ b ∈ wr, b ∈ S :: wr := fun b hb => List.mem_cons_of_mem _ hb
  intro k
  induction k with
  | zero =>
    rintro i s hk hi st ⟨c, hc, x⟩ hR
    obtain rfl : i = n := by omega
    refine codeAny_builtin F.entry_set_update_loop ?_
    rw [Around.under_plainId F.plain_set_update_loop _]
    show wpAny _ A.in1 (pyNext (.ref I) >>= _) _ _ s
    refine wpAny_bind (W.done s _ _ st fun s' m => ?_)
    show wpAny _ A.in1 (ret Value.none) _ _ s'
    rw [List.take_of_length_le (by omega)] at x
    exact wpAny_pure (hR s' c (m.mono more) hc (x.at fun o e => m.heap S o offw e))
  | succ k ih =>
    rintro i s hk hi st ⟨c, hc, x⟩ hR
    have hlt : i < n := by omega
    refine codeAny_builtin F.entry_set_update_loop ?_
    rw [Around.under_plainId F.plain_set_update_loop _]
    show wpAny _ A.in1 (pyNext (.ref I) >>= _) _ _ s
    refine wpAny_bind (W.item i s _ _ hlt st fun v s' pv st' m => ?_)
    obtain ⟨y, t, hy, rfl⟩ := hval i v pv
    have x' := x.at (h' := s'.heap) fun o e => m.heap S o offw e
    show wpAny _ A.in1 (holding [Value.str y t] (setAdd S (.str y t)) >>= _) _ _ s'
    refine wpAny_bind (wpAny_holding ?_)
    unfold setAdd
    refine wpAny_holding (wpAny_bind ((PySem.strKind P w).pyHash (k := y) (strKind_is _ _ _ _) ?_))
    refine setX_add (knd := PySem.strKind P w) (s := { s' with toks := s'.toks + 1 }) (strKind_is _ _ _ _) rfl x' (by omega) fun h' sb x2 => ?_
    refine wpAny_pure ⟨plainId_quiet F.plain_set_update_loop _, ih (i + 1) _ (by omega) hlt (W.frame _ s' _ _ st' (Nat.le_succ _) fun b hb o e => ?_) ⟨_, ?_, x2.congr fun j => ?_⟩ fun s2 c2 m2 hc2 x3 => ?_⟩
    · rw [sb.2 b (fun z => off (z ▸ hb))]
      exact e
    · split <;> omega
    · rw [List.take_add_one, hy]
      simp [List.mem_append]
    · refine hR s2 c2 (Moved.trans W.gtrans ((m.mono more).then_heap (Nat.le_succ _) fun b o hb e => ?_) m2) hc2 x3
      rw [sb.2 b (fun z => hb (by rw [z]; exact List.mem_cons_self))]
      exact e
abbrev emptySet (w : World) : Obj := { cls := .type "set", dict := none, data := .set #[] 0 (.fresh 0 0 (!w.params.followText "set-order")) }
set_option maxHeartbeats 8000000 in
/-- set(xs), xs a list of texts -/
theorem set_of_strs {l : Addr} {items : Array Value} (xs : List Str) {Q : Value → Shared → Prop} (hh : A.handled = none) (hl : s.heap.IsList l items) (hit : StrsAre items.toList xs) (room : xs.length + 1 < scanBound)
    (h : ∀ (h' : Heap) (tk c : Nat), SetS P w h' s.heap.objs.size (fun x => decide (x ∈ xs)) c → c ≤ xs.length → (∀ b o, s.heap.get? b = some o → h'.get? b = some o) → Q (.ref s.heap.objs.size) { s with heap := h', toks := tk }) :
    wpAny (model P w) A (call (.type "set") [.ref l]) Q E s := by
  have hlen : items.size = xs.length := by rw [← Array.length_toList]; exact hit.len_eq
  obtain ⟨c, tl, hmro⟩ := F.called_set.mro
  have hmade := F.called_set.made
  have hsub := F.called_set.sub
  refine wpAny_call (codeAny_of_tree ?_)
  show wpAny _ _ (callAny (.type "set") _) _ _ _
  refine wpAny_pure ⟨Code.quiet_builtin _ (by decide +kernel), codeAny_builtin F.entry_type_call ?_⟩
  rw [Around.under_plain (weight_type_call_type "set" [.ref l] []) rfl]
  have n1 := F.called_set.notType
  have n2 := F.called_set.canCreate
  have n3 := F.typeCall_set_1 (.ref l)
  repeat (any_goals (first | assumption | wp_step))
  refine codeAny_mono (code_set_led1 (.ref l) (E := E) (Q₁ := fun obj s₁ => obj = .ref s.heap.objs.size ∧ s₁ = { s with heap := s.heap.push (emptySet w) }) ⟨rfl, rfl⟩) fun r s₁ hr => ?_
  cases r with
  | error e => exact hr
  | ok fl =>
    cases fl with
    | ret obj =>
      obtain ⟨rfl, rfl⟩ := hr
      have hS : (s.heap.push (emptySet w)).get? s.heap.objs.size = some (emptySet w) := Heap.get?_push_size _ rfl
      have hT : Shared.TypeIs { s with heap := s.heap.push (emptySet w) } (.ref s.heap.objs.size) "set" := ⟨_, hS, rfl⟩
      have hli := F.called_set.init.lookup
      have hbi := F.called_set.init.bind (.ref s.heap.objs.size)
      repeat (any_goals (first | assumption | wp_step))
      refine codeAny_mono (codeAny_call_builtin (R := wants (fun r s₂ => r = .none ∧ ∃ h' tk c, s₂ = { s with heap := h', toks := tk } ∧ SetS P w h' s.heap.objs.size (fun x => decide (x ∈ xs)) c ∧ c ≤ xs.length ∧
          (∀ b o, s.heap.get? b = some o → h'.get? b = some o)) E) F.called_set.init.plain F.entry_set_init (check_set_init_1 hT ?_)) fun r₂ s₂ hr₂ => ?_
      · obtain ⟨ol, hol, hcl, nl, hdl⟩ := hl
        obtain ⟨ocls, odict, odata, oslots⟩ := ol
        simp only at hcl hdl
        subst hcl; subst hdl
        have hol' : (s.heap.push (emptySet w)).get? l = some { cls := .type "list", dict := odict, data := .seq items nl, slots := oslots } := Heap.get?_push_of_some _ hol
        have u1 := F.sub_list_set
        have u2 := F.sub_list_frozenset
        have u3 : (Value.type "list" == Value.type "dict") = false := by decide
        have hl1 : (s.heap.push (emptySet w)).IsList l items := ⟨_, hol', rfl, nl, rfl⟩
        unfold Builtin.«set.__init__» noKeywords Builtin.Frozenset.updateFrom
        generalize hPI : pyIter = PI
        wp_walk
        subst hPI
        refine wpAny_pyIter_list hl1 (wpAny_bind (wpAny_runValue ?_))
        have hlS : l < s.heap.objs.size := Heap.lt_size hol
        have off : s.heap.objs.size ∉ [(s.heap.push (emptySet w)).objs.size, l] := by
          rw [Heap.size_push]
          simp only [List.mem_cons, List.mem_singleton, List.not_mem_nil, or_false, not_or]
          exact ⟨Nat.ne_of_lt (Nat.lt_succ_self _), Nat.ne_of_gt hlS⟩
        have nI : l ≠ (s.heap.push (emptySet w)).objs.size := by
          rw [Heap.size_push]
          exact Nat.ne_of_lt (Nat.lt_succ_of_lt hlS)
        have h3 : A.in1.in1.in1.handled = none := by simp [hh]
        refine fill_loop ((Walks.list h3 _ l nI items).toS) s.heap.objs.size off xs hlen room (fun i v hv => ?_) (items.size - 0) 0 _ (by omega) (Nat.zero_le _)
          ⟨⟨_, Heap.get?_push_size _ rfl, rfl, rfl⟩, (hl1.push _)⟩ ⟨0, Nat.le_refl _, ?_⟩ fun s' c m hc x => ?_
        · have q : items.toList[i]? = some v := by rw [Array.getElem?_toList]; exact hv
          obtain ⟨t, e⟩ := SS.strs_at hit i v q
          have hi : i < xs.length := by
            have := (List.getElem?_eq_some_iff.mp q).1
            rw [hit.len_eq] at this
            exact this
          refine ⟨_, t, List.getElem?_eq_getElem hi, ?_⟩
          rw [e, List.getD_eq_getElem?_getD, List.getElem?_eq_getElem hi]
          rfl
        · refine (SetX.fresh (knd := PySem.strKind P w) ?_).congr fun k => by simp
          exact Heap.get?_push_of_some _ hS
        · obtain ⟨h', g2, d', tk', os'⟩ := s'
          obtain rfl : g2 = s.gens := m.gens
          obtain rfl : d' = s.drawn := m.drawn
          obtain rfl : os' = s.os := m.os
          show wpAny _ _ _ _ _ _
          refine wpAny_pure ?_
          show wpAny _ _ (ret Value.none) _ _ _
          refine wpAny_pure ⟨rfl, h', tk', c, rfl, x, by omega, fun b o e => ?_⟩
          have hb : b < s.heap.objs.size := Heap.lt_size e
          refine m.heap b o ?_ (Heap.get?_push_of_some _ (Heap.get?_push_of_some _ e))
          rw [Heap.size_push]
          simp only [List.mem_cons, List.mem_singleton, List.not_mem_nil, or_false, not_or]
          exact ⟨Nat.ne_of_lt hb, Nat.ne_of_lt (Nat.lt_succ_of_lt hb)⟩
      · cases r₂ with
        | error e => exact hr₂
        | ok fl₂ =>
          cases fl₂ with
          | ret r =>
            obtain ⟨rfl, h', tk, c, rfl, x, hc, hk⟩ := hr₂
            repeat (any_goals (first | assumption | wp_step))
            exact h _ _ _ x hc hk
          | _ => exact hr₂.elim
    | _ => exact hr.elim
end
end RV
set_option linter.all false
/-! the rules: set(list of texts), sorted(set of texts) -/
namespace RV
open PySem L2 PySem.Spec PyProof.Rows
section
variable {P : Program} {w : World} {A : Around} {E : Value → Shared → Prop} {s : Shared}
theorem str_of_is {k : Str} {v : Value} (h : (PySem.strKind P w).is k v = true) : ∃ t, v = .str k t := by
  cases v <;> simp [PySem.strKind, Value.isStrOf] at h
  subst h
  exact ⟨_, rfl⟩
theorem strsAre_of : ∀ {vs : List Value}, (∀ v ∈ vs, ∃ k t, v = Value.str k t) → ∃ xs, StrsAre vs xs
  | [], _ => ⟨[], .nil⟩
  | v :: vs, h => by
    obtain ⟨k, t, rfl⟩ := h v List.mem_cons_self
    obtain ⟨xs, r⟩ := strsAre_of fun u hu => h u (List.mem_cons_of_mem _ hu)
    exact ⟨k :: xs, .cons k t r⟩
theorem strsAre_mem : ∀ {vs : List Value} {xs : List Str}, StrsAre vs xs → ∀ x, x ∈ xs ↔ ∃ t, Value.str x t ∈ vs
  | _, _, .nil, x => by simp
  | _, _, .cons k t r, x => by
    rw [List.mem_cons, strsAre_mem r x]
    constructor
    · rintro (rfl | ⟨t', h⟩)
      · exact ⟨t, List.mem_cons_self⟩
      · exact ⟨t', List.mem_cons_of_mem _ h⟩
    · rintro ⟨t', h⟩
      rcases List.mem_cons.mp h with e | h
      · injection e with e1 e2
        exact .inl e1
      · exact .inr ⟨t', h⟩
theorem strsAre_nodup : ∀ {vs : List Value} {xs : List Str}, StrsAre vs xs → vs.Pairwise (fun u v => ∀ k t t', ¬ (u = Value.str k t ∧ v = Value.str k t')) → xs.Nodup
  | _, _, .nil, _ => List.nodup_nil
  | _, _, .cons k t r, h => by
    obtain ⟨h1, h2⟩ := List.pairwise_cons.mp h
    refine List.nodup_cons.mpr ⟨fun hm => ?_, strsAre_nodup r h2⟩
    obtain ⟨t', ht⟩ := (strsAre_mem r k).mp hm
    exact h1 _ ht k t t' ⟨rfl, rfl⟩
theorem sorted_of_set {a : Addr} {S : Str → Bool} {n : Nat} {Q : Value → Shared → Prop} (R : SetS P w s.heap a S n) (hh : A.handled = none)
    (hQ : ∀ s' p (out : Array Value) (c : Nat) (xs : List Str), (∀ b o, s.heap.get? b = some o → s'.heap.get? b = some o) → s'.gens = s.gens → s'.os = s.os → s.heap.objs.size ≤ p →
      s'.heap.get? p = some (seqObj "list" out c) → StrsAre out.toList xs → sortedS xs = true → xs.Nodup → (∀ k, k ∈ xs ↔ S k = true) → xs.length = n → Q (.ref p) s') :
    wpAny (model P w) A (call (.builtin "sorted") [.ref a]) Q E s := by
  obtain ⟨o, es, ep, t, ⟨ho, hex, hd⟩, ⟨hel, hap, hmem⟩, hb, hf, hn, hr, hl⟩ := R
  refine Calls.call_function_entry kind_sorted plain_sorted entry_sorted (args_sorted1 _) ?_
  unfold Builtin.«sorted»
  refine wpAny_bind (m := checkCount "sorted" 1 1 _) (wpAny_pure ?_)
  refine wpAny_bind (collect_set (A := A.in1) hh ⟨o, ho, hex.1, hd⟩ hf hb hr hl fun s1 vs k1 hz g1 o1 pm => ?_)
  have hvl : vs.length = n := by rw [pm.length_eq, List.length_map, Array.length_toList]; exact hn
  have hsz : vs.length ≤ sizeLine := by rw [hvl, ← hn]; exact fits_of_scanBound hb
  obtain ⟨xs, hS⟩ := strsAre_of (vs := vs) fun v hv => by
    obtain ⟨e, he, q⟩ := List.mem_map.mp (pm.mem_iff.mp hv)
    obtain ⟨⟨k, hk, _⟩, _⟩ := hel e he
    obtain ⟨tk, ek⟩ := str_of_is hk
    exact ⟨k, tk, by rw [← q]; exact ek⟩
  have hnd : xs.Nodup := by
    refine strsAre_nodup hS ((pm.pairwise_iff (fun {_ _} z k t t' q => z k t' t ⟨q.2, q.1⟩)).mpr ?_)
    rw [List.pairwise_map]
    refine hap.imp fun z k t t' q => z k ?_
    rw [q.1, q.2]
    exact ⟨strKind_is _ _ _ _, strKind_is _ _ _ _⟩
  have hin : ∀ k, k ∈ xs ↔ S k = true := fun k => by
    rw [strsAre_mem hS k, hmem k]
    constructor
    · rintro ⟨t', h⟩
      obtain ⟨e, he, q⟩ := List.mem_map.mp (pm.mem_iff.mp h)
      exact ⟨e, he, by rw [q]; exact strKind_is _ _ _ _⟩
    · rintro ⟨e, he, q⟩
      obtain ⟨t', et⟩ := str_of_is q
      exact ⟨t', pm.mem_iff.mpr (List.mem_map.mpr ⟨e, he, et⟩)⟩
  refine wpAny_bind (wpAny_newList ?_ hsz)
  have hoL : (s1.heap.push (seqObj "list" vs.toArray 0)).get? s1.heap.objs.size = some (seqObj "list" vs.toArray 0) := Heap.get?_push_size _ rfl
  refine wpAny_bind (wpAny_holding (wpAny_call_entry slot_list_sort ⟨_, hoL, rfl⟩ entry_list_sort (list_sort_treeKAny PyProof.Rows.strKind_oneLt hoL hS.keysOf (fun v₁ v₂ rest e => keyKind_strs (by rw [← e]; exact hS)) hsz fun st' hp hs => ⟨_, rfl, ?_⟩) (args_list_sort _)))
  obtain ⟨ys, q1, q2, q3⟩ := sorted_out_str hS hp hs
  obtain ⟨c, hc⟩ := sortedHeap_at (vs := vs) (out := (arrOf st').map (·.2)) hoL
  refine wpAny_pure ⟨_, rfl, hQ _ s1.heap.objs.size _ c ys (fun b u e => ?_) g1 o1 hz hc q1 q3 (q2.nodup_iff.mpr hnd) (fun k => q2.mem_iff.trans (hin k)) ?_⟩
  · have q := k1 b u e
    have hlt := Heap.lt_size q
    show (sortedHeap (s1.heap.push (seqObj "list" vs.toArray 0)) s1.heap.objs.size vs _).get? b = some u
    rw [sortedHeap_old (Nat.ne_of_lt hlt) (by rw [size_push']; exact Nat.lt_succ_of_lt hlt)]
    exact Heap.get?_push_of_some _ q
  · rw [q2.length_eq, ← hS.len_eq]
    exact hvl
end
/-- a set of texts in the ledger -/
def SetT (P : Program) (w : World) (a : Addr) (S : Str → Bool) (n : Nat) : HO := .ext fun h => SetS P w h a S n
section
variable {X : Cx}
theorem setT_new {w : World} {P : Program} {H : Hp} {h : Heap} {a : Addr} {S : Str → Bool} {n : Nat} (R : SetS P w h a S n) : ObjOk P w H h a (SetT P w a S n) := by
  obtain ⟨o, es, ep, t, ⟨ho, _⟩, _⟩ := id R
  exact ⟨R, ⟨o, ho⟩, fun h1 h2 p k => p.at k⟩
theorem vals_strsAre : ∀ {xs : List Str} {us : List Value}, StrsAre us xs → Vals (xs.map V.str) us
  | _, _, .nil => .nil
  | _, _, .cons k t r => .cons ⟨t, rfl⟩ (vals_strsAre r)
theorem strsAre_vals : ∀ {xs : List Str} {us : List Value}, Vals (xs.map V.str) us → StrsAre us xs
  | [], _, .nil => .nil
  | x :: xs, _, .cons r q => by
    obtain ⟨t, rfl⟩ := r
    exact .cons x t (strsAre_vals q)
def rSetS (K : PySem.W.Frag) (P : Program) (w : World) : List V → Hp → VK → Prop := fun vs H Q => ∃ (l : Addr) (xs : List Str), vs = [V.ref l] ∧ SqL K H l (xs.map V.str) ∧ xs.length < 4000 ∧
  ∀ a n, H a = none → n ≤ xs.length → Q (.ref a) (upd H a (SetT P w a (fun x => decide (x ∈ xs)) n))
theorem cr_setS (hc : X.calm = true) : CallR X (.type "set") (rSetS X.K X.prog X.w) := by
  intro pins s σ H vs us Q I r h
  obtain ⟨l, xs, rfl, hl, hf, q⟩ := h
  rw [Vals.ref1 r]
  obtain ⟨its, rv, pl, hz⟩ := I.list hl
  have hn : H s.heap.objs.size = none := I.hok.fresh (Nat.le_refl _)
  refine set_of_strs (P := X.prog) (w := X.w) xs (I.ok.hd hc) pl.isList (by simpa using strsAre_vals rv) (by unfold scanBound; omega) fun h' tk c R hcl k => ?_
  exact ⟨.ref s.heap.objs.size, upd H s.heap.objs.size (SetT X.prog X.w s.heap.objs.size _ c), I.laid (t' := tk) k (Nat.le_refl _) (setT_new R), rfl, q _ c hn hcl⟩
def rSortS (P : Program) (w : World) : List V → Hp → VK → Prop := fun vs H Q => ∃ (a : Addr) (S : Str → Bool) (n : Nat), vs = [V.ref a] ∧ H a = some (SetT P w a S n) ∧
  ∀ (xs : List Str) (p : Addr), sortedS xs = true → xs.Nodup → (∀ k, k ∈ xs ↔ S k = true) → xs.length = n → H p = none → Q (.ref p) (upd H p (.lst (xs.map V.str)))
theorem cr_sortS (hc : X.calm = true) : CallR X (.builtin "sorted") (rSortS X.prog X.w) := by
  intro pins s σ H vs us Q I r h
  obtain ⟨a, S, n, rfl, ha, q⟩ := h
  have R : SetS X.prog X.w s.heap a S n := (I.hok a _ ha).1
  rw [Vals.ref1 r]
  have hb : n ≤ sizeLine := by
    obtain ⟨o, es, ep, t, _, _, hb, _, hn, _⟩ := id R
    rw [← hn]
    exact fits_of_scanBound hb
  refine sorted_of_set R (I.ok.hd hc) fun s' p out c xs k g o hp hg hS h1 h2 h3 h4 => ?_
  have hn : H p = none := I.hok.fresh hp
  have J : Inv X pins σ (upd H p (.lst (xs.map V.str))) { s with heap := s'.heap, gens := s'.gens, drawn := s'.drawn, toks := s'.toks } :=
    I.call (ch := []) (Un.laid k hp hn) (I.hok.laid k hp ⟨by rw [List.length_map, h4]; exact hb, out.toList, c, vals_strsAre hS, hg⟩) (by rw [g]; exact I.bare) (fun _ z => nomatch z)
  have e : s' = { s with heap := s'.heap, gens := s'.gens, drawn := s'.drawn, toks := s'.toks } := by
    cases s'
    cases s
    cases o
    rfl
  rw [e]
  exact ⟨.ref p, _, J, rfl, q xs p h1 h2 h3 h4 hn⟩
end
end RV
/-! promises of the laws about sums; pairs of a name and an integer -/
namespace RV
open PySem L2
structure Blt2 (mg : Str → Option Value) : Prop where
  b_sum : mg "sum" = none
  b_sorted : mg "sorted" = none
  b_set : mg "set" = none
  b_tuple : mg "tuple" = none
  b_enumerate : mg "enumerate" = none
  b_bool : mg "bool" = none
def big : Int := 10 ^ 30
def sp_number : Sp := fun vs H Q _ => ∃ (a : Addr) (n : Nat), vs = [.ref a] ∧ WellAt H a n ∧ n < 900000 ∧
  ∀ (z : Int) H', -big < z → z < big → Grow a H H' → WellAt H' a (n + 5) → Q (.int z) H'
theorem number_step {H0 H : Hp} {a : Addr} {n : Nat} {L : List (Addr × HO)} {Q : VK} {E : XK} (h : Has H0 a n L H) (hn : n < 900000) (k : ∀ z H', -big < z → z < big → Has H0 a (n + 5) L H' → Q (.int z) H') : Irr sp_number [.ref a] H Q E :=
  irr ⟨a, n, rfl, h.well, hn, fun z H' h0 h1 g w => k z H' h0 h1 (h.grow g w)⟩
theorem pg_tupK {X : Cx} {K : PySem.W.Frag} {es : List Expr} {k : Nat} {t : TGs} {n : Nat} {pos : Pos} (hc : X.calm = true) (h : PGs X es t)
    (hn : (assignEach es X.env).length = n := by rfl) (hst : (assignEach es X.env).findIdx? (·.1) = none := by rfl) (hK : X.K = K := by rfl) : PG X (.Tuple es k pos) (gTup K n t) := hK ▸ pg_tup hc h hn hst
/-! ### lists of pairs of a text and an integer, each at its address -/
abbrev TP := Addr × Str × Int
def vP (us : List TP) : List V := us.map fun u => .ref u.1
def prs (us : List TP) : List (Str × Int) := us.map (·.2)
def oP (q : Str × Int) : HO := .tup [.str q.1, .int q.2]
def lP (us : List TP) : List (Addr × HO) := us.map fun u => (u.1, oP u.2)
def TPs (K : PySem.W.Frag) (H : Hp) (us : List TP) : Prop := ∀ u ∈ us, SqT K H u.1 [.str u.2.1, .int u.2.2]
theorem TPs.ext {K : PySem.W.Frag} {H H' : Hp} {us : List TP} (h : TPs K H us) (e : Same H H') : TPs K H' us := fun u hu => (h u hu).ext e
theorem TPs.of {K : PySem.W.Frag} {H0 H : Hp} {a : Addr} {n : Nat} {L : List (Addr × HO)} {us : List TP} (h : Has H0 a n L H) (hL : ∀ p ∈ lP us, p ∈ L) : TPs K H us := fun u hu =>
  SqT.of (h.at (hL _ (List.mem_map.mpr ⟨u, hu, rfl⟩)))
theorem vP_app (us vs : List TP) : vP (us ++ vs) = vP us ++ vP vs := List.map_append
theorem prs_app (us vs : List TP) : prs (us ++ vs) = prs us ++ prs vs := List.map_append
theorem lP_app (us vs : List TP) : lP (us ++ vs) = lP us ++ lP vs := List.map_append
theorem vP_len (us : List TP) : (vP us).length = us.length := List.length_map _
theorem prs_len (us : List TP) : (prs us).length = us.length := List.length_map _
abbrev gPr (K : PySem.W.Frag) (i j : Nat) : TG := gTup K 2 (gCons (gName i) (gCons (gName j) gNil))
theorem gPr_at {K : PySem.W.Frag} {i j : Nat} {u : TP} {σ : L2.St} {H : Hp} {R : L2.St → Hp → Prop} (ht : SqT K H u.1 [.str u.2.1, .int u.2.2]) (h : R ((σ.set i (some (.str u.2.1))).set j (some (.int u.2.2))) H) : gPr K i j (.ref u.1) σ H R :=
  ⟨u.1, _, rfl, ht, rfl, _, _, rfl, _, _, rfl, ⟨rfl, h⟩⟩
/-- [f(x, z) for x, z in xs if p(x, z)]: neither p nor f makes a thing -/
theorem lc_pairs {K : PySem.W.Frag} {a : Addr} {us : List TP} {i j : Nat} {tt : TT} {te : TE} {vs : List Nat} {σ : L2.St} {H1 : Hp} {D : Addr} {Qd : Hp → Prop} (p : Str × Int → Bool) (f : Str × Int → V)
    (hl : SqL K H1 a (vP us)) (ht : TPs K H1 us) (nD : H1 D = none) (len : us.length ≤ 1000) (hw : ∀ x y, wipe (((wipe σ vs).set i x).set j y) vs = wipe σ vs)
    (h : ∀ q ∈ prs us, ∀ H2, Same H1 H2 → (∀ R : Bool → Hp → Prop, R (p q) H2 → tt (((wipe σ vs).set i (some (.str q.1))).set j (some (.int q.2))) H2 R) ∧
      (p q = true → ∀ R : VK, R (f q) H2 → te (((wipe σ vs).set i (some (.str q.1))).set j (some (.int q.2))) H2 R))
    (k : ∀ H', Same H1 H' → H' D = some (.lst (((prs us).filter p).map f)) → Qd H') :
    ∃ W : Nat → Nat → Hp → Prop, (∃ m, W 0 m (upd H1 D (.lst []))) ∧ ∀ i' m H, W i' m H →
      ((Itl K a).stop i' H ∧ Qd H) ∨ ((Itl K a).go i' H ∧ ∃ Nx : Hp → Prop, (∀ H', Nx H' → ∃ m', m' < m ∧ W (i' + 1) m' H') ∧ ∀ x H', (Itl K a).yld i' H x H' → gPr K i j x (wipe σ vs) H' fun σ2 H2 => wipe σ2 vs = wipe σ vs ∧ tt σ2 H2 fun b H3 =>
        if b = true then te σ2 H3 fun y H4 => ∃ acc, H4 D = some (.lst acc) ∧ acc.length < sizeLine ∧ Nx (upd H4 D (.lst (acc ++ [y]))) else Nx H3) := by
  refine lc_list (xs := vP us) (fun i' H => Same H1 H ∧ H D = some (.lst ((((prs us).take i').filter p).map f))) ⟨fun b o e => by rw [upd_ne (ne_of_none e nD)]; exact e, upd_same⟩ (fun _ H _ z => hl.ext z.1) ?_ ?_
  · rintro i' x H hx ⟨sm, hD⟩
    rw [vP, List.getElem?_map] at hx
    cases hu : us[i']? with
    | none => rw [hu] at hx; cases hx
    | some u =>
      rw [hu] at hx
      obtain rfl : V.ref u.1 = x := Option.some.inj hx
      have hm : u ∈ us := List.mem_of_getElem? hu
      obtain ⟨h1, h2⟩ := h u.2 (List.mem_map.mpr ⟨u, hm, rfl⟩) H sm
      have et : (prs us).take (i' + 1) = (prs us).take i' ++ [u.2] := by
        rw [List.take_add_one, prs, List.getElem?_map, hu]
        rfl
      refine gPr_at ((ht u hm).ext sm) ⟨hw _ _, h1 _ ?_⟩
      rw [et, List.filter_append]
      cases hp : p u.2 with
      | false =>
        refine iteF ⟨sm, ?_⟩
        rw [hD, List.filter_cons_of_neg (by rw [hp]; decide), List.filter_nil, List.append_nil]
      | true =>
        refine iteT (h2 hp _ ⟨_, hD, ?_, fun b o e => by rw [upd_ne (ne_of_none e nD)]; exact sm b o e, ?_⟩)
        · have l1 := List.length_filter_le p ((prs us).take i')
          have l2 := List.length_take_le i' (prs us)
          have l3 := List.length_take_le' i' (prs us)
          rw [prs_len] at l3
          rw [List.length_map]
          exact Nat.lt_of_le_of_lt (Nat.le_trans l1 l3) (Nat.lt_of_le_of_lt len (by decide))
        · rw [upd_same, List.filter_cons_of_pos hp, List.filter_nil, List.map_append]
          rfl
  · rintro H ⟨sm, hD⟩
    rw [vP_len, ← prs_len, List.take_length] at hD
    exact k H sm hD
/-! ### how great they are -/
def tot (qs : List (Str × Int)) : Nat := (qs.map fun q => q.2.natAbs).sum
theorem tot_app (a b : List (Str × Int)) : tot (a ++ b) = tot a + tot b := by simp [tot]
theorem tot_mem {q : Str × Int} : ∀ {qs : List (Str × Int)}, q ∈ qs → q.2.natAbs ≤ tot qs
  | r :: qs, h => by
    have e : tot (r :: qs) = r.2.natAbs + tot qs := rfl
    rcases List.mem_cons.mp h with rfl | h
    · omega
    · have := tot_mem h
      omega
theorem sum_le (p : Str × Int → Bool) : ∀ qs : List (Str × Int), (((qs.filter p).map (fun q : Str × Int => q.2)).sum).natAbs ≤ tot qs
  | [] => Nat.le_refl 0
  | q :: qs => by
    have ih := sum_le p qs
    have e : tot (q :: qs) = q.2.natAbs + tot qs := rfl
    by_cases h : p q = true
    · rw [List.filter_cons_of_pos h, List.map_cons, List.sum_cons]
      omega
    · rw [List.filter_cons_of_neg h]
      omega
end RV
/-! drawn pairs -/
namespace RV
open PySem L2
structure Pairs (us : List TP) (m : Nat) : Prop where
  nm : ∀ q ∈ prs us, IsNm q.1
  gr : (tot (prs us) : Int) ≤ big * 2 ^ m
  ln : us.length ≤ m
/-- drawn pairs; at most ten -/
def sp_pairs : Sp := fun vs H Q _ => ∃ (a : Addr) (n m : Nat), vs = [.ref a, .int m] ∧ WellAt H a n ∧ n < 700000 ∧ m ≤ 20 ∧
  ∀ (us : List TP) (l : Addr) H', Pairs us m → (∀ p ∈ (l, HO.lst (vP us)) :: lP us, p.1 ≠ a ∧ H' p.1 = some p.2) → H l = none → Grow a H H' → WellAt H' a (n + 1000) → Q (.ref l) H'
theorem pairs_step {H0 H : Hp} {a : Addr} {n m : Nat} {L : List (Addr × HO)} {Q : VK} {E : XK} (h : Has H0 a n L H) (hn : n < 700000) (hm : m ≤ 20)
    (k : ∀ (us : List TP) (l : Addr) H', Pairs us m → H l = none → Has H0 a (n + 1000) ((l, HO.lst (vP us)) :: lP us ++ L) H' → Q (.ref l) H') : Irr sp_pairs [.ref a, .int m] H Q E :=
  irr ⟨a, n, m, rfl, h.well, hn, hm, fun us l H' p c nl g w => k us l H' p nl ⟨h.gr.trans g, w, fun q hq => (List.mem_append.mp hq).elim (c q) (fun z => ((h.grow g w).here q z))⟩⟩
end RV
namespace RV
open PySem L2
/-- a thing of the ledger changes -/
theorem Has.reset {H0 H : Hp} {a p : Addr} {n : Nat} {o o' : HO} {L : List (Addr × HO)} (h : Has H0 a n ((p, o) :: L) H) (h0 : H0 p = none) (hp : ∀ q ∈ L, q.1 ≠ p) : Has H0 a n ((p, o') :: L) (upd H p o') := by
  have pa : p ≠ a := (h.here (p, o) List.mem_cons_self).1
  have h1 := (h.sub (L' := L) fun q hq => List.mem_cons_of_mem _ hq).put (o := o') h0 hp pa
  refine ⟨h1.gr, h1.well, fun q hq => ?_⟩
  rcases List.mem_cons.mp hq with rfl | hq
  · exact ⟨pa, upd_same⟩
  · exact h1.here q hq
theorem Has.apart {H0 H : Hp} {a : Addr} {n : Nat} {L : List (Addr × HO)} (h : Has H0 a n L H) {p q : Addr} {o o' : HO} (hp : (p, o) ∈ L) (hq : (q, o') ∈ L) (d : o ≠ o') : p ≠ q := fun e => by
  have h1 := h.at hp
  have h2 := h.at hq
  rw [e, h2] at h1
  exact d (Option.some.inj h1).symm
theorem p2_pos : ∀ j : Nat, (1 : Int) ≤ 2 ^ j
  | 0 => by decide
  | j + 1 => by
    rw [Int.pow_succ]
    have := p2_pos j
    omega
theorem p2_le {a b : Nat} (h : a ≤ b) : (2 : Int) ^ a ≤ 2 ^ b := by
  induction h with
  | refl => exact Int.le_refl _
  | step h ih =>
    rename_i m
    rw [Int.pow_succ]
    have := p2_pos m
    omega
end RV
/-! the order of texts; sums as ascending pairs; things made by a function that keeps all that stood -/
namespace RV
open PySem L2
open PySem.Spec (ltCps)
open PyProof.Rows (sortedS risingS)
theorem lt_irr : ∀ a : List Nat, ltCps a a = false
  | [] => rfl
  | c :: r => by simp [ltCps, lt_irr r]
theorem lt_tr : ∀ {a b c : List Nat}, ltCps a b = true → ltCps b c = true → ltCps a c = true
  | [], [], _, h, _ => by simp [ltCps] at h
  | [], _ :: _, [], _, h => by simp [ltCps] at h
  | [], _ :: _, _ :: _, _, _ => rfl
  | _ :: _, [], _, h, _ => by simp [ltCps] at h
  | _ :: _, _ :: _, [], _, h => by simp [ltCps] at h
  | x :: a, y :: b, z :: c, h, k => by
    simp only [ltCps, Bool.or_eq_true, decide_eq_true_eq, Bool.and_eq_true, beq_iff_eq] at h k ⊢
    rcases h with h | ⟨h, h'⟩ <;> rcases k with k | ⟨k, k'⟩
    · exact .inl (by omega)
    · exact .inl (by omega)
    · exact .inl (by omega)
    · exact .inr ⟨by omega, lt_tr h' k'⟩
theorem lt_tri : ∀ {a b : List Nat}, ltCps a b = false → ltCps b a = false → a = b
  | [], [], _, _ => rfl
  | [], _ :: _, h, _ => by simp [ltCps] at h
  | _ :: _, [], _, h => by simp [ltCps] at h
  | x :: a, y :: b, h, k => by
    simp only [ltCps, Bool.or_eq_false_iff, decide_eq_false_iff_not, Bool.and_eq_false_iff, beq_eq_false_iff_ne] at h k
    have e : x = y := by omega
    subst e
    rw [lt_tri (h.2.resolve_left fun z => z rfl) (k.2.resolve_left fun z => z rfl)]
def Lt (a b : Str) : Prop := ltCps (cd a) (cd b) = true
theorem Lt.irr (a : Str) : ¬ Lt a a := fun h => by rw [Lt, lt_irr] at h; cases h
theorem Lt.tr {a b c : Str} (h : Lt a b) (k : Lt b c) : Lt a c := lt_tr h k
theorem asc_of : ∀ {xs : List Str}, sortedS xs = true → xs.Nodup → xs.Pairwise Lt
  | [], _, _ => .nil
  | [x], _, _ => List.pairwise_cons.mpr ⟨fun _ h => (nomatch h), .nil⟩
  | x :: y :: r, h, d => by
    have h' : (!ltCps (cd y) (cd x) && risingS y r) = true := h
    rw [Bool.and_eq_true] at h'
    obtain ⟨d1, d2⟩ := List.nodup_cons.mp d
    have ih := asc_of (xs := y :: r) h'.2 d2
    have lt : Lt x y := by
      cases e : ltCps (cd x) (cd y) with
      | true => exact e
      | false =>
        have e2 : ltCps (cd y) (cd x) = false := by simpa using h'.1
        exact absurd (cd_inj (lt_tri e e2) ▸ List.mem_cons_self) d1
    refine List.pairwise_cons.mpr ⟨fun z hz => ?_, ih⟩
    rcases List.mem_cons.mp hz with rfl | hz
    · exact lt
    · exact lt.tr ((List.pairwise_cons.mp ih).1 z hz)
theorem asc_uniq {α : Type} {R : α → α → Prop} (irr : ∀ a, ¬ R a a) (tr : ∀ {a b c}, R a b → R b c → R a c) : ∀ {l m : List α}, l.Pairwise R → m.Pairwise R → (∀ x, x ∈ l ↔ x ∈ m) → l = m
  | [], [], _, _, _ => rfl
  | [], y :: m, _, _, h => nomatch (h y).2 List.mem_cons_self
  | x :: l, [], _, _, h => nomatch (h x).1 List.mem_cons_self
  | x :: l, y :: m, hl, hm, h => by
    obtain ⟨a1, a2⟩ := List.pairwise_cons.mp hl
    obtain ⟨b1, b2⟩ := List.pairwise_cons.mp hm
    have e : x = y := by
      rcases List.mem_cons.mp ((h x).1 List.mem_cons_self) with e | hx
      · exact e
      rcases List.mem_cons.mp ((h y).2 List.mem_cons_self) with e | hy
      · exact e.symm
      exact absurd (tr (a1 y hy) (b1 x hx)) (irr x)
    subst e
    have : l = m := asc_uniq irr tr a2 b2 fun z => by
      constructor
      · intro hz
        rcases List.mem_cons.mp ((h z).1 (List.mem_cons_of_mem _ hz)) with e | h'
        · exact absurd (e ▸ a1 z hz) (irr x)
        · exact h'
      · intro hz
        rcases List.mem_cons.mp ((h z).2 (List.mem_cons_of_mem _ hz)) with e | h'
        · exact absurd (e ▸ b1 z hz) (irr x)
        · exact h'
    rw [this]
/-! ### the coefficient of a name -/
def co (qs : List (Str × Int)) (x : Str) : Int := ((qs.filter fun q => decide (q.1 = x)).map fun q => q.2).sum
theorem co_nil (x : Str) : co [] x = 0 := rfl
theorem co_cons (q : Str × Int) (qs : List (Str × Int)) (x : Str) : co (q :: qs) x = (if q.1 = x then q.2 else 0) + co qs x := by
  unfold co
  by_cases h : q.1 = x <;> simp [List.filter_cons, h]
theorem co_app (a b : List (Str × Int)) (x : Str) : co (a ++ b) x = co a x + co b x := by
  unfold co
  rw [List.filter_append, List.map_append, List.sum_append]
theorem co_none {qs : List (Str × Int)} {x : Str} (h : ∀ q ∈ qs, q.1 ≠ x) : co qs x = 0 := by
  unfold co
  rw [List.filter_eq_nil_iff.mpr fun q hq => by simpa using h q hq]
  rfl
theorem co_le (qs : List (Str × Int)) (x : Str) : (co qs x).natAbs ≤ tot qs := sum_le (fun q => decide (q.1 = x)) qs
/-- ascending pairs, none with 0 -/
structure Nrm (rs : List (Str × Int)) : Prop where
  asc : (rs.map (·.1)).Pairwise Lt
  no0 : ∀ q ∈ rs, q.2 ≠ 0
theorem Nrm.nil : Nrm [] := ⟨.nil, fun _ h => nomatch h⟩
theorem co_asc {q : Str × Int} : ∀ {rs : List (Str × Int)}, (rs.map (·.1)).Pairwise Lt → q ∈ rs → co rs q.1 = q.2
  | [], _, hq => nomatch hq
  | r :: rs, ha, hq => by
    rw [List.map_cons, List.pairwise_cons] at ha
    rw [co_cons]
    rcases List.mem_cons.mp hq with e | hq
    · subst e
      rw [if_pos rfl, co_none (fun r hr e => ?_), Int.add_zero]
      have := ha.1 r.1 (List.mem_map.mpr ⟨r, hr, rfl⟩)
      rw [e] at this
      exact Lt.irr _ this
    · rw [if_neg (fun e => ?_), co_asc ha.2 hq, Int.zero_add]
      have := ha.1 q.1 (List.mem_map.mpr ⟨q, hq, rfl⟩)
      rw [e] at this
      exact Lt.irr _ this
theorem Nrm.co {rs : List (Str × Int)} (h : Nrm rs) {q : Str × Int} (hq : q ∈ rs) : co rs q.1 = q.2 := co_asc h.asc hq
theorem Nrm.mem {rs : List (Str × Int)} (h : Nrm rs) (x : Str) : x ∈ rs.map (·.1) ↔ RV.co rs x ≠ 0 := by
  constructor
  · intro hx
    obtain ⟨q, hq, rfl⟩ := List.mem_map.mp hx
    rw [h.co hq]
    exact h.no0 q hq
  · intro hx
    refine Classical.byContradiction fun hn => hx (co_none fun q hq e => hn (List.mem_map.mpr ⟨q, hq, e⟩))
theorem Nrm.uniq {rs ss : List (Str × Int)} (h : Nrm rs) (k : Nrm ss) (e : ∀ x, RV.co rs x = RV.co ss x) : rs = ss := by
  have e1 : rs.map (·.1) = ss.map (·.1) := asc_uniq Lt.irr Lt.tr h.asc k.asc fun x => by rw [h.mem, k.mem, e]
  have back : ∀ {ts : List (Str × Int)}, Nrm ts → ts = (ts.map (·.1)).map fun x => (x, RV.co ts x) := fun {ts} n => by
    rw [List.map_map]
    refine (List.map_id ts).symm.trans (List.map_congr_left fun q hq => ?_)
    show q = (q.1, RV.co ts q.1)
    rw [n.co hq]
  rw [back h, back k, e1]
  exact List.map_congr_left fun x _ => by rw [e]
theorem nrm_of {xs : List Str} {c : Str → Int} (ha : xs.Pairwise Lt) : Nrm ((xs.map fun x => (x, c x)).filter fun q => !decide (q.2 = 0)) := by
  refine ⟨?_, fun q hq => by simpa using (List.mem_filter.mp hq).2⟩
  refine List.Pairwise.sublist ((List.filter_sublist).map _) ?_
  rw [List.map_map]
  have : xs.map ((fun q : Str × Int => q.1) ∘ fun x => (x, c x)) = xs := (List.map_congr_left fun _ _ => rfl).trans (List.map_id xs)
  rw [this]
  exact ha
theorem nrm_co {xs : List Str} {c : Str → Int} (ha : xs.Pairwise Lt) (hc : ∀ x, x ∉ xs → c x = 0) (x : Str) : RV.co ((xs.map fun x => (x, c x)).filter fun q => !decide (q.2 = 0)) x = c x := by
  have n := nrm_of (c := c) ha
  by_cases h : x ∈ xs ∧ c x ≠ 0
  · exact n.co (q := (x, c x)) (List.mem_filter.mpr ⟨List.mem_map.mpr ⟨x, h.1, rfl⟩, by simpa using h.2⟩)
  · have c0 : c x = 0 := by
      by_cases hx : x ∈ xs
      · exact Classical.byContradiction fun k => h ⟨hx, k⟩
      · exact hc x hx
    rw [c0]
    refine co_none fun q hq e => ?_
    obtain ⟨h1, h2⟩ := List.mem_filter.mp hq
    obtain ⟨y, _, rfl⟩ := List.mem_map.mp h1
    have e' : y = x := e
    subst e'
    simp [c0] at h2
/-! ### what a function that keeps all that stood leaves -/
structure Kp (H0 : Hp) (L : List (Addr × HO)) (H : Hp) : Prop where
  sm : Same H0 H
  nw : ∀ p ∈ L, H0 p.1 = none ∧ H p.1 = some p.2
section
variable {H0 H H' : Hp} {L L' : List (Addr × HO)} {p q a : Addr} {o o' : HO} {n : Nat}
theorem Kp.start (H : Hp) : Kp H [] H := ⟨fun _ _ e => e, fun _ h => nomatch h⟩
theorem Kp.next (h : Kp H0 L H) (g : Same H H') : Kp H0 L H' := ⟨fun b o e => g b o (h.sm b o e), fun p hp => ⟨(h.nw p hp).1, g _ _ (h.nw p hp).2⟩⟩
theorem Kp.none0 (h : Kp H0 L H) (np : H p = none) : H0 p = none := by
  cases e : H0 p with
  | none => rfl
  | some o => rw [h.sm p o e] at np; cases np
theorem Kp.new (h : Kp H0 L H) (np : H p = none) : Kp H0 ((p, o) :: L) (upd H p o) := by
  have g : Same H (upd H p o) := fun b u e => by rw [upd_ne (ne_of_none e np)]; exact e
  refine ⟨fun b u e => g b u (h.sm b u e), fun r hr => ?_⟩
  rcases List.mem_cons.mp hr with rfl | hr
  · exact ⟨h.none0 np, upd_same⟩
  · exact ⟨(h.nw r hr).1, g _ _ (h.nw r hr).2⟩
theorem Kp.sub (h : Kp H0 L H) (s : ∀ p ∈ L', p ∈ L) : Kp H0 L' H := ⟨h.sm, fun p hp => h.nw p (s p hp)⟩
theorem Kp.at (h : Kp H0 L H) (hp : (p, o) ∈ L) : H p = some o := (h.nw _ hp).2
theorem Kp.apart (h : Kp H0 L H) (hp : (p, o) ∈ L) (hq : (q, o') ∈ L) (d : o ≠ o') : p ≠ q := fun e => by
  have h1 := h.at hp
  rw [e, h.at hq] at h1
  exact d (Option.some.inj h1).symm
theorem Kp.reset (h : Kp H0 ((p, o) :: L) H) (hp : ∀ q ∈ L, q.1 ≠ p) : Kp H0 ((p, o') :: L) (upd H p o') := by
  have p0 := (h.nw (p, o) List.mem_cons_self).1
  refine ⟨fun b u e => by rw [upd_ne (ne_of_none e p0)]; exact h.sm b u e, fun r hr => ?_⟩
  rcases List.mem_cons.mp hr with rfl | hr
  · exact ⟨p0, upd_same⟩
  · exact ⟨(h.nw r (List.mem_cons_of_mem _ hr)).1, by rw [upd_ne (hp r hr)]; exact (h.nw r (List.mem_cons_of_mem _ hr)).2⟩
theorem Kp.trans {H1 : Hp} (h : Kp H0 L H1) (k : Kp H1 L' H) : Kp H0 (L' ++ L) H := ⟨fun b o e => k.sm b o (h.sm b o e), fun p hp => (List.mem_append.mp hp).elim (fun z => ⟨h.none0 (k.nw p z).1, (k.nw p z).2⟩) fun z => (h.next k.sm).nw p z⟩
theorem Has.kp (h : Has H0 a n L H) (k : Kp H L' H') : Has H0 a n (L' ++ L) H' := by
  have h1 := h.same k.sm
  exact ⟨h1.gr, h1.well, fun q hq => (List.mem_append.mp hq).elim (fun z => ⟨h.ne (k.nw q z).1, (k.nw q z).2⟩) fun z => h1.here q z⟩
end
/-! ### merged -/
def sp_merged (K : PySem.W.Frag) : Sp := fun vs H Q _ => ∃ (l : Addr) (us : List TP), vs = [.ref l] ∧ SqL K H l (vP us) ∧ TPs K H us ∧ us.length ≤ 120 ∧
  ∀ (ds : List TP) (m : Addr) H', Nrm (prs ds) → (∀ x, co (prs ds) x = co (prs us) x) → (∀ q ∈ prs ds, q.1 ∈ (prs us).map (·.1)) → ds.length ≤ us.length → Kp H ((m, .lst (vP ds)) :: lP ds) H' → Q (.ref m) H'
end RV
/-! numbers, terms, what a sum makes of its terms -/
namespace RV
open PySem L2
theorem tyx_tup {K : PySem.W.Frag} {H : Hp} {a : Addr} {xs : List V} (h : SqT K H a xs) : TyX K H (.ref a) (.type "tuple") := by
  rcases h with (h | ⟨o, h⟩) | ⟨o, its, n, h, hc, _⟩
  · exact .base (.tup h)
  · exact .fTuple h
  · exact .kTuple h hc
def sp_is_number (K : PySem.W.Frag) : Sp := fun vs H Q _ => ∃ v, vs = [v] ∧ ((∃ z : Int, v = .int z ∧ Q (.bl true) H) ∨ (∃ b : Bool, v = .bl b ∧ Q (.bl false) H) ∨
  (∃ t, TyX K H v t ∧ PySem.W.kitOne K t (.type "int") = some false ∧ Q (.bl false) H))
/-- a pair of a name and an integer -/
def sp_is_term (K : PySem.W.Frag) : Sp := fun vs H Q _ => ∃ (t : Addr) (x : Str) (z : Int), vs = [.ref t] ∧ SqT K H t [.str x, .int z] ∧ IsNm x ∧ ∀ H', Same H H' → Q (.bl true) H'
/-- a tuple of such pairs -/
def sp_check_terms (K : PySem.W.Frag) : Sp := fun vs H Q _ => ∃ (t : Addr) (us : List TP), vs = [.ref t] ∧ SqT K H t (vP us) ∧ TPs K H us ∧ (∀ q ∈ prs us, IsNm q.1) ∧ us.length ≤ 120 ∧ ∀ H', Same H H' → Q .non H'
/-- at most 120, with at most 60 different names -/
def Few (qs : List (Str × Int)) : Prop := qs.length ≤ 120 ∧ ∃ pool : List Str, pool.length ≤ 60 ∧ ∀ q ∈ qs, q.1 ∈ pool
theorem Few.of {qs : List (Str × Int)} (h : qs.length ≤ 60) : Few qs := ⟨Nat.le_trans h (by decide), qs.map (·.1), by rw [List.length_map]; exact h, fun q hq => List.mem_map.mpr ⟨q, hq, rfl⟩⟩
theorem nodup_len : ∀ {xs ys : List Str}, xs.Nodup → (∀ x ∈ xs, x ∈ ys) → xs.length ≤ ys.length
  | [], _, _, _ => Nat.zero_le _
  | x :: xs, ys, h, s => by
    rw [List.nodup_cons] at h
    have hx := s x List.mem_cons_self
    have := nodup_len (ys := ys.erase x) h.2 fun y hy => (List.mem_erase_of_ne (fun e => h.1 (by rw [← e]; exact hy))).mpr (s y (List.mem_cons_of_mem _ hy))
    rw [List.length_erase_of_mem hx] at this
    have := List.length_pos_of_mem hx
    rw [List.length_cons]
    omega
def sp_collected (K : PySem.W.Frag) : Sp := fun vs H Q _ => ∃ (t : Addr) (us : List TP), vs = [.ref t] ∧ SqT K H t (vP us) ∧ TPs K H us ∧ Few (prs us) ∧
  ∀ (ds : List TP) (m : Addr) H', Nrm (prs ds) → (∀ x, co (prs ds) x = co (prs us) x) → (∀ q ∈ prs ds, q.1 ∈ (prs us).map (·.1)) → ds.length ≤ us.length → Kp H ((m, .tup (vP ds)) :: lP ds) H' → Q (.ref m) H'
end RV
/-! a dict that counts -/
namespace RV
open PySem L2
structure Dct (kvs : List (Key × V)) (qs : List (Str × Int)) (ks : List Str) : Prop where
  keys : kvs.map (·.1) = ks.map Sum.inr
  nd : ks.Nodup
  mem : ∀ x, x ∈ ks ↔ x ∈ qs.map (·.1)
  val : ∀ x, valV kvs (.inr x) = if x ∈ ks then some (.int (co qs x)) else none
  ln : ks.length ≤ qs.length
theorem Dct.nil : Dct [] [] [] := ⟨rfl, .nil, fun _ => Iff.rfl, fun _ => rfl, Nat.le_refl _⟩
theorem putK_keys {κ : Type} [DecidableEq κ] {kvs : List (κ × V)} {k : κ} {v : V} (h : (valV kvs k).isSome = true) : (putK kvs k v).map (·.1) = kvs.map (·.1) := by
  unfold putK
  rw [valV_any, if_pos h, List.map_map]
  refine List.map_congr_left fun kv _ => ?_
  show (if kv.1 = k then (kv.1, v) else kv).1 = kv.1
  split <;> rfl
theorem Dct.get {kvs : List (Key × V)} {qs : List (Str × Int)} {ks : List Str} (h : Dct kvs qs ks) (x : Str) : (valV kvs (.inr x)).getD (.int 0) = .int (co qs x) := by
  rw [h.val]
  split
  · rfl
  · rename_i hn
    rw [co_none fun q hq e => hn ((h.mem x).2 (List.mem_map.mpr ⟨q, hq, e⟩))]
    rfl
theorem Dct.put {kvs : List (Key × V)} {qs : List (Str × Int)} {ks : List Str} (h : Dct kvs qs ks) (x : Str) (z : Int) : ∃ ks', Dct (putK kvs (.inr x) (.int (co qs x + z))) (qs ++ [(x, z)]) ks' := by
  have cx : ∀ y, co (qs ++ [(x, z)]) y = co qs y + if x = y then z else 0 := fun y => by
    rw [co_app, co_cons, co_nil, Int.add_zero]
  by_cases hx : x ∈ ks
  · have hs : valV kvs (.inr x) = some (.int (co qs x)) := by rw [h.val, if_pos hx]
    refine ⟨ks, ⟨by rw [putK_keys (by rw [hs]; rfl)]; exact h.keys, h.nd, fun y => ?_, fun y => ?_, by rw [List.length_append]; exact Nat.le_succ_of_le h.ln⟩⟩
    · rw [h.mem, List.map_append, List.mem_append]
      refine ⟨.inl, fun z => z.elim id fun e => ?_⟩
      rw [List.mem_singleton.mp e]
      exact (h.mem x).1 hx
    · rw [valV_put, h.val, cx]
      by_cases e : y = x
      · subst e
        simp [hx]
      · have e' : ¬ x = y := fun z => e z.symm
        simp [e, e']
  · have hs : valV kvs (.inr x) = none := by rw [h.val, if_neg hx]
    refine ⟨ks ++ [x], ⟨?_, ?_, fun y => ?_, fun y => ?_, by rw [List.length_append, List.length_append]; exact Nat.succ_le_succ h.ln⟩⟩
    · rw [putK_new _ hs, List.map_append, List.map_append, h.keys]
      rfl
    · rw [List.nodup_append]
      refine ⟨h.nd, by simp, fun a ha b hb e => ?_⟩
      rw [List.mem_singleton.mp hb] at e
      exact hx (e ▸ ha)
    · rw [List.mem_append, h.mem, List.map_append, List.mem_append]
      rfl
    · rw [valV_put, h.val, cx]
      by_cases e : y = x
      · subst e
        simp
      · have e' : ¬ x = y := fun z => e z.symm
        simp [e, e']
end RV
/-! what an own class says of len, x in o, o[x], truth -/
namespace RV
open PySem L2 PyProof.Rows
/-- the class C has an own method m that promises sp -/
def OwnM (P : Program) (w : World) (K : PySem.W.Frag) (mg : Str → Option Value) (base : Heap) (C : Addr) (m : String) (k : Nat) (sp : Sp) : Prop :=
  ∃ f fd ps, PySem.W.findIn K (.ref C) m = some (some (.ref f)) ∧ PySem.W.isFn K (.ref f) = true ∧ PySem.W.fnIn K f = true ∧ Binds K fd ps [] ∧ FnOk P w K mg base CX0 k f fd ps sp
section
variable {X : Cx} {pins : List (Addr × Obj)} {σ : L2.St} {H : Hp} {s : Shared} {C : Addr} {k : Nat} {sp : Sp}
theorem call_owns {A : Around} {f : Addr} {fd : FuncData} {ps : List Str} {Q : VK} {xs : List V} {us : List Value} (F : FnOk X.prog X.w X.K X.mg X.base CX0 k f fd ps sp) (hb : Binds X.K fd ps []) (hr : Room k A) (hf : A.frames = X.A.frames)
    (I : Inv X pins σ H s) (rx : Vals xs us) (hsp : sp xs H Q E0) : wpAny (model X.prog X.w) A (call (.ref f) us) (EP X pins σ Q) X.xe s := by
  have e0 : Env0 X.prog X.w X.K X.mg X.base A X.stack s H := by
    have e := I.env0
    exact ⟨by rw [hf]; exact e.frames, e.mod, e.bs, e.bsz, e.funs, e.frf, e.hok, e.bare⟩
  have hl := F.len _ _ _ _ hsp
  refine wpAny_call (codeAny_mono (F.run A X.stack s H ⟨us, []⟩ us xs _ E0 hr e0 (by
    have := hb s us I.kIn (by rw [List.append_nil, ← rx.length]; exact hl)
    simpa using this) rx hsp) fun r s' hq => ?_)
  cases r with
  | error e => exact (hq : False).elim
  | ok fl =>
    cases fl with
    | ret w => exact I.after hq
    | next => exact False.elim hq
    | brk => exact False.elim hq
    | cont => exact False.elim hq
def rLenO (C : Addr) (sp : Sp) : List V → Hp → VK → Prop := fun xs H Q => ∃ a dx fs, xs = [.ref a] ∧ H a = some (.ins C dx fs) ∧ sp [.ref a] H (fun v H' => ∃ n : Nat, v = .int n ∧ n < 100000 ∧ Q (.int n) H') E0
theorem call_lenO (h : OwnM X.prog X.w X.K X.mg X.base C "__len__" k sp) (hr : Room (k + 1) X.A) : CallR X (.builtin "len") (rLenO C sp) := by
  intro pins s σ H xs us Q I rx hq
  obtain ⟨a, dx, fs, rfl, ha, hsp⟩ := hq
  obtain ⟨f, fd, ps, hs, hf, _, hb, F⟩ := h
  obtain rfl : us = [.ref a] := Vals.ref1 rx
  obtain ⟨mA, J, _⟩ := ins_get I.hok ha
  obtain ⟨od, J, _⟩ := J.look
  obtain ⟨m, hF⟩ := I.fr
  refine PySem.W.len_K hF I.ok.mod.kin J hs hf (wpAny_mono (call_owns (A := X.A.in1) F hb hr.in1 rfl I rx hsp) (fun r s' z => ?_) fun _ _ x => x)
  obtain ⟨v, H', I', rv, n, rfl, hn, q⟩ := z
  obtain ⟨t, rfl⟩ := rv
  exact ⟨⟨by omega, by omega⟩, .int n, H', I'.tok _, ⟨_, rfl⟩, q⟩
def rInO (neg : Bool) (C : Addr) (sp : Sp) : R2 := fun x y H Q => ∃ a dx fs, y = .ref a ∧ H a = some (.ins C dx fs) ∧ sp [.ref a, x] H (fun v H' => ∃ b, v = .bl b ∧ Q (.bl (if neg then !b else b)) H') E0
theorem op_inO (h : OwnM X.prog X.w X.K X.mg X.base C "__contains__" k sp) (hr : Room k X.A) : OpR X (compareOp .In) (rInO false C sp) := by
  intro pins s σ H x y v u Q I rx ry hq
  obtain ⟨a, dx, fs, rfl, ha, hsp⟩ := hq
  obtain ⟨f, fd, ps, hs, hf, _, hb, F⟩ := h
  have ry' := ry
  cases ry
  obtain ⟨mA, J, _⟩ := ins_get I.hok ha
  obtain ⟨od, J, _⟩ := J.look
  obtain ⟨m, hF⟩ := I.fr
  refine PySem.W.in_K hF I.ok.mod.kin J hs hf (wpAny_mono (call_owns F hb hr rfl I (.cons ry' (.cons rx .nil)) hsp) (fun r s' z => ?_) fun _ _ x => x)
  obtain ⟨v, H', I', rv, b, rfl, q⟩ := z
  cases rv
  exact wpAny_truthy_bool ⟨.bl b, H', I', rfl, q⟩
theorem op_notInO (h : OwnM X.prog X.w X.K X.mg X.base C "__contains__" k sp) (hr : Room k X.A) : OpR X (compareOp .NotIn) (rInO true C sp) := by
  intro pins s σ H x y v u Q I rx ry hq
  obtain ⟨a, dx, fs, rfl, ha, hsp⟩ := hq
  obtain ⟨f, fd, ps, hs, hf, _, hb, F⟩ := h
  have ry' := ry
  cases ry
  obtain ⟨mA, J, _⟩ := ins_get I.hok ha
  obtain ⟨od, J, _⟩ := J.look
  obtain ⟨m, hF⟩ := I.fr
  refine PySem.W.notIn_K hF I.ok.mod.kin J hs hf (wpAny_mono (call_owns F hb hr rfl I (.cons ry' (.cons rx .nil)) hsp) (fun r s' z => ?_) fun _ _ x => x)
  obtain ⟨v, H', I', rv, b, rfl, q⟩ := z
  cases rv
  exact wpAny_truthy_bool ⟨.bl (!b), H', I', rfl, q⟩
/-- truth by the class's own __bool__ -/
def rTrM (C : Addr) (sp : Sp) : V → Hp → (Bool → Hp → Prop) → Prop := fun x H Q => ∃ a dx fs, x = .ref a ∧ H a = some (.ins C dx fs) ∧ sp [.ref a] H (fun v H' => ∃ b, v = .bl b ∧ Q b H') E0
theorem tru_own (h : OwnM X.prog X.w X.K X.mg X.base C "__bool__" k sp) (hr : Room k X.A) : TruR X (rTrM C sp) := by
  intro pins s σ H x v Q I rx hq
  obtain ⟨a, dx, fs, rfl, ha, hsp⟩ := hq
  obtain ⟨f, fd, ps, hs, hf, _, hb, F⟩ := h
  have rx' := rx
  cases rx
  obtain ⟨mA, J, _⟩ := ins_get I.hok ha
  obtain ⟨od, J, _⟩ := J.look
  obtain ⟨m, hF⟩ := I.fr
  refine PySem.W.truthy_K hF I.ok.mod.kin J hs hf (wpAny_mono (call_owns F hb hr rfl I (.cons rx' .nil) hsp) (fun r s' z => ?_) fun _ _ x => x)
  obtain ⟨v, H', I', rv, b, rfl, q⟩ := z
  cases rv
  exact ⟨H', I', q⟩
def rIxO (C : Addr) (sp : Sp) : R2 := fun x y H Q => ∃ a dx fs, x = .ref a ∧ H a = some (.ins C dx fs) ∧ sp [.ref a, y] H Q E0
/-- o[i], o of an own class with its own __getitem__ -/
theorem pe_ixO {a b : Expr} {ta tb : TE} {pos : Pos} (h : OwnM X.prog X.w X.K X.mg X.base C "__getitem__" k sp) (hr : Room (k + 1) X.A) (ha : PE X a ta) (hb : PE X b tb)
    (hsl : ∀ v u, subscripted b true v u = runValue (.builtin "lifetime.subscript" ⟨[v, u], []⟩) := by intro _ _; with_unfolding_all rfl) : PE X (.Subscript a b pos) (tOp (rIxO C sp) ta tb) := by
  refine ⟨fun pins s σ H Q I h' => ?_⟩
  refine Subscript_ (binT ha hb I h' fun v u s2 x y H2 I2 rx ry q => ?_)
  obtain ⟨o, dx, fs, rfl, ho, hsp⟩ := q
  obtain ⟨f, fd, ps, hs, hf, hfn, hb', F⟩ := h
  have rx' := rx
  cases rx
  obtain ⟨mA, J, _⟩ := ins_get I2.hok ho
  obtain ⟨od, J, _⟩ := J.look
  obtain ⟨m, hF⟩ := I2.fr
  exact PySem.W.sub_K hF I2.ok.mod.kin J hs hfn hf (call_owns (A := X.A.in1) F hb' hr.in1 rfl I2 (.cons rx' (.cons ry .nil)) hsp) (hsl _ _)
end
end RV
/-! sums as they stand in the heap, and what their methods promise -/
namespace RV
open PySem L2
/-- the things of a sum at a whose terms are the tuple at t -/
def lS (C a dx t : Addr) (us : List TP) : List (Addr × HO) := (a, .ins C dx [("_terms", .ref t)]) :: (t, .tup (vP us)) :: lP us
def SumR (C : Addr) (H : Hp) (a : Addr) (qs : List (Str × Int)) : Prop := ∃ dx t us, prs us = qs ∧ ∀ p ∈ lS C a dx t us, H p.1 = some p.2
theorem SumR.ext {C a : Addr} {H H' : Hp} {qs : List (Str × Int)} (h : SumR C H a qs) (g : Same H H') : SumR C H' a qs := by
  obtain ⟨dx, t, us, e, k⟩ := h
  exact ⟨dx, t, us, e, fun p hp => g _ _ (k p hp)⟩
structure SClass (K : PySem.W.Frag) (mg : Str → Option Value) (C : Addr) : Prop where
  x : ClsX K C
  k : mg "Sum" = some (.ref C)
  n1 : NoAttr K C "_terms"
  me : PySem.W.kitOne K (.ref C) (.ref C) = some true
/-- terms that may be given -/
structure Trm (K : PySem.W.Frag) (H : Hp) (t : Addr) (us : List TP) : Prop where
  tp : SqT K H t (vP us)
  ps : TPs K H us
  nm : ∀ q ∈ prs us, IsNm q.1
  ln : us.length ≤ 60
structure TrmF (K : PySem.W.Frag) (H : Hp) (t : Addr) (us : List TP) : Prop where
  tp : SqT K H t (vP us)
  ps : TPs K H us
  nm : ∀ q ∈ prs us, IsNm q.1
  ln : Few (prs us)
theorem Trm.few {K : PySem.W.Frag} {H : Hp} {t : Addr} {us : List TP} (h : Trm K H t us) : TrmF K H t us := ⟨h.tp, h.ps, h.nm, Few.of (by rw [prs_len]; exact h.ln)⟩
/-- what a sum of these terms is -/
structure Mad (qs rs : List (Str × Int)) : Prop where
  nr : Nrm rs
  co : ∀ x, co rs x = co qs x
  nm : ∀ q ∈ rs, q.1 ∈ qs.map (·.1)
  ln : rs.length ≤ qs.length
def sp_Sum (K : PySem.W.Frag) (C : Addr) : Sp := fun vs H Q _ => ∃ (x dx t : Addr) (us : List TP), vs = [.ref x, .ref t] ∧ H x = some (.ins C dx []) ∧ TrmF K H t us ∧
  ∀ (ds : List TP) (m dx' : Addr) H', Mad (prs us) (prs ds) → (∀ b o, b ≠ x → H b = some o → H' b = some o) → (∀ p ∈ (m, HO.tup (vP ds)) :: lP ds, H p.1 = none) → (∀ p ∈ lS C x dx' m ds, H' p.1 = some p.2) → Q .non H'
def sp_len (C : Addr) : Sp := fun vs H Q _ => ∃ (a : Addr) (qs : List (Str × Int)), vs = [.ref a] ∧ SumR C H a qs ∧ Q (.int (qs.length : Nat)) H
def sp_yes : Sp := fun vs H Q _ => ∃ (a : Addr), vs = [.ref a] ∧ Q (.bl true) H
def sp_terms (C : Addr) : Sp := fun vs H Q _ => ∃ (a dx t : Addr) (us : List TP), vs = [.ref a] ∧ (∀ p ∈ lS C a dx t us, H p.1 = some p.2) ∧ Q (.ref t) H
def sp_get (C : Addr) : Sp := fun vs H Q _ => ∃ (a : Addr) (x : Str) (qs : List (Str × Int)), vs = [.ref a, .str x] ∧ IsNm x ∧ SumR C H a qs ∧ Nrm qs ∧ ∀ H', Same H H' → Q (.int (co qs x)) H'
def sp_has (C : Addr) : Sp := fun vs H Q _ => ∃ (a : Addr) (x : Str) (qs : List (Str × Int)), vs = [.ref a, .str x] ∧ IsNm x ∧ SumR C H a qs ∧ Nrm qs ∧ ∀ H', Same H H' → Q (.bl (!decide (co qs x = 0))) H'
end RV
/-! pairs as data -/
namespace RV
open PySem L2
def dq (q : Str × Int) : PyData := .tuple [.str q.1, .int q.2]
def dQ (qs : List (Str × Int)) : PyData := .tuple (qs.map dq)
theorem shaped_pairs {qs : List (Str × Int)} (h : ∀ q ∈ qs, IsNm q.1) : SeqAt.shaped (dQ qs) = true := by
  have h1 : ∀ qs : List (Str × Int), (∀ q ∈ qs, IsNm q.1) → PyData.canLayAll0 (qs.map dq) = true ∧ PyData.depthAll (qs.map dq) ≤ 1 := by
    intro qs
    induction qs with
    | nil => intro _; simp [PyData.canLayAll0, PyData.depthAll]
    | cons q qs ih =>
      intro h
      obtain ⟨a, b⟩ := ih fun r hr => h r (List.mem_cons_of_mem _ hr)
      have c := strOk_nm (h q List.mem_cons_self)
      refine ⟨by simp [PyData.canLayAll0, PyData.canLay0, dq, a, c], ?_⟩
      simp only [List.map_cons, PyData.depthAll, dq, PyData.depth]
      omega
  obtain ⟨a, b⟩ := h1 qs h
  simp only [SeqAt.shaped, dQ, PyData.canLay0, PyData.depth, a, Bool.true_and, decide_eq_true_eq]
  omega
theorem eqv_dq (q r : Str × Int) : PyData.eqv (dq q) (dq r) = decide (q = r) := by
  obtain ⟨x, i⟩ := q
  obtain ⟨y, j⟩ := r
  simp only [dq, PyData.eqv, PyData.eqvAll, Bool.and_true]
  by_cases h1 : x = y <;> by_cases h2 : i = j <;> simp [h1, h2]
theorem eqv_pairs (qs rs : List (Str × Int)) : PyData.eqv (dQ qs) (dQ rs) = decide (qs = rs) := by
  have h : ∀ qs rs : List (Str × Int), PyData.eqvAll (qs.map dq) (rs.map dq) = decide (qs = rs) := by
    intro qs
    induction qs with
    | nil => intro rs; cases rs <;> simp [PyData.eqvAll]
    | cons q qs ih =>
      intro rs
      cases rs with
      | nil => simp [PyData.eqvAll]
      | cons r rs =>
        simp only [List.map_cons, PyData.eqvAll, eqv_dq, ih]
        by_cases h1 : q = r <;> by_cases h2 : qs = rs <;> simp [h1, h2]
  simp only [dQ, PyData.eqv]
  exact h qs rs
theorem dpAll_pairs {K : PySem.W.Frag} {H : Hp} : ∀ {us : List TP}, TPs K H us → DpAll K H (vP us) ((prs us).map dq)
  | [], _ => .nil
  | u :: us, h => .cons (.tup (h u List.mem_cons_self) (.cons (.str _) (.cons (.int _) .nil))) (dpAll_pairs fun r hr => h r (List.mem_cons_of_mem _ hr))
theorem dp_pairs {K : PySem.W.Frag} {H : Hp} {t : Addr} {us : List TP} (ht : SqT K H t (vP us)) (h : TPs K H us) : Dp K H (.ref t) (dQ (prs us)) := .tup ht (dpAll_pairs h)
def sp_eqS (K : PySem.W.Frag) (C : Addr) : Sp := fun vs H Q _ => ∃ (a : Addr) (y : V) (qs : List (Str × Int)), vs = [.ref a, y] ∧ SumR C H a qs ∧ (∀ q ∈ qs, IsNm q.1) ∧
  ((∃ b rs, y = .ref b ∧ SumR C H b rs ∧ (∀ q ∈ rs, IsNm q.1) ∧ Q (.bl (decide (qs = rs))) H) ∨ (∃ t, TyX K H y t ∧ PySem.W.kitOne K t (.ref C) = some false ∧ Q (.bl false) H))
end RV
/-! the same pairs in another order, some in two parts -/
namespace RV
open PySem L2
theorem cutV_pre (us : List TP) (k : Nat) : cutV (vP us) none (some (k : Int)) = vP (us.take k) := by
  unfold cutV
  rw [sIx_none, sIx_some, List.drop_zero, Nat.sub_zero, vP_len, vP, vP, List.map_take]
  rw [List.take_eq_take_iff]
  simp only [List.length_map]
  omega
theorem cutV_suf (us : List TP) (k : Nat) : cutV (vP us) (some (k : Int)) none = vP (us.drop k) := by
  unfold cutV
  rw [sIx_none, sIx_some, vP_len, List.take_of_length_le (by rw [List.length_drop, vP_len]; omega), vP, vP, List.map_drop]
  by_cases h : k ≤ us.length
  · rw [Nat.min_eq_left h]
  · rw [List.drop_eq_nil_of_le (by rw [List.length_map]; omega), List.drop_eq_nil_of_le (by rw [List.length_map]; omega)]
structure Oth (us vs : List TP) : Prop where
  co : ∀ x, co (prs vs) x = co (prs us) x
  nm : ∀ q ∈ prs vs, q.1 ∈ (prs us).map (·.1)
  ln : vs.length ≤ 2 * us.length
def sp_parted : Sp := fun vs H Q _ => ∃ (a l : Addr) (n : Nat) (us : List TP), vs = [.ref a, .ref l] ∧ WellAt H a n ∧ n < 600000 ∧ us.length ≤ 20 ∧ (∀ p ∈ (l, HO.lst (vP us)) :: lP us, p.1 ≠ a ∧ H p.1 = some p.2) ∧
  ∀ (vs : List TP) (m : Addr) H', Oth us vs → H m = none → Has H a (n + 1000) ((m, .lst (vP vs)) :: lP vs) H' → Q (.ref m) H'
end RV
/-! texts of pairs -/
namespace RV
open PySem L2 PyProof.Rows
theorem log_small {z : Int} (h : z.natAbs ≤ 10 ^ 45) : z.natAbs.log2 < 1920 := by
  have q := PySem.Flt.log2_lt_of (n := z.natAbs) (k := 200) (by decide) (by omega)
  omega
/-- truth of an own object with an own __bool__, as a test -/
theorem pt_own {X : Cx} {C : Addr} {k : Nat} {sp : Sp} {e : Expr} {ta : TE} (h : OwnM X.prog X.w X.K X.mg X.base C "__bool__" k sp) (hr : Room k X.A) (ha : PE X e ta) (he : ∀ whole, isTrue e X.env whole = (do let v ← whole; standAt e.pos; holding [v] (truthy v)) := by intro _; rfl) :
    PT X e (fun σ H Q => ta σ H fun x H' => rTrM C sp x H' Q) := by
  refine ⟨fun pins s σ H Q I h' => ?_⟩
  exact isTrue_plain (thn (ha.run pins s σ H _ I h') fun v s1 ⟨x, H1, I1, r1, q1⟩ => tru_own h hr pins s1 σ H1 x v Q I1 r1 q1) (he _)
theorem short_str {x : Str} (h : IsNm x) : (PyData.str x).shown.length ≤ 100 := (short_nm h).ln
theorem shown_pair {q : Str × Int} (h : IsNm q.1) (hz : q.2.natAbs ≤ 10 ^ 45) : (dq q).showable = true ∧ (dq q).depth ≤ 1 ∧ (dq q).shown.length ≤ 2100 := by
  have hl := log_small hz
  refine ⟨by simp [dq, PyData.showable, PyData.showableAll, hl], by simp [dq, PyData.depth, PyData.depthAll], ?_⟩
  have e : (dq q).shown = tupleText [(PyData.str q.1).shown, (PyData.int q.2).shown] := by simp only [dq, PyData.shown, PyData.shownAll]
  rw [e]
  have h1 := tupleText_len_le [(PyData.str q.1).shown, (PyData.int q.2).shown]
  have h2 := short_str h
  have h3 : (PyData.int q.2).shown.length ≤ 1921 := by
    have := int_text_len_1921 hl
    simp only [PyData.shown]
    exact this
  simp only [List.map_cons, List.map_nil, List.sum_cons, List.sum_nil, List.length_cons, List.length_nil] at h1
  omega
theorem show_pairs {qs : List (Str × Int)} (hn : ∀ q ∈ qs, IsNm q.1) (ht : tot qs ≤ 10 ^ 45) (hl : qs.length ≤ 100) : (dQ qs).showable = true ∧ (dQ qs).depth ≤ 60 ∧ (dQ qs).shown.length ≤ sizeLine := by
  have h1 : ∀ qs : List (Str × Int), (∀ q ∈ qs, IsNm q.1 ∧ q.2.natAbs ≤ 10 ^ 45) → PyData.showableAll (qs.map dq) = true ∧ PyData.depthAll (qs.map dq) ≤ 1 ∧ ((PyData.shownAll (qs.map dq)).map (·.length)).sum ≤ 2100 * qs.length ∧ (PyData.shownAll (qs.map dq)).length = qs.length := by
    intro qs
    induction qs with
    | nil => intro _; simp [PyData.showableAll, PyData.depthAll, PyData.shownAll]
    | cons q qs ih =>
      intro h
      obtain ⟨a1, a2, a3⟩ := shown_pair (h q List.mem_cons_self).1 (h q List.mem_cons_self).2
      obtain ⟨b1, b2, b3, b4⟩ := ih fun r hr => h r (List.mem_cons_of_mem _ hr)
      refine ⟨by simp [PyData.showableAll, a1, b1], ?_, ?_, by simp [PyData.shownAll, b4]⟩
      · simp only [List.map_cons, PyData.depthAll]
        omega
      · simp only [List.map_cons, PyData.shownAll, List.sum_cons, List.length_cons]
        omega
  obtain ⟨a1, a2, a3, a4⟩ := h1 qs fun q hq => ⟨hn q hq, Nat.le_trans (tot_mem hq) ht⟩
  refine ⟨by simp only [dQ, PyData.showable, a1], by simp only [dQ, PyData.depth]; omega, ?_⟩
  have e : (dQ qs).shown = tupleText (PyData.shownAll (qs.map dq)) := by simp only [dQ, PyData.shown]
  rw [e]
  have := tupleText_len_le (PyData.shownAll (qs.map dq))
  exact Nat.le_trans (show _ ≤ 300000 by omega) (by decide)
theorem repr_pairs {K : PySem.W.Frag} {t : Addr} {us : List TP} {H : Hp} {Q : VK} (ht : SqT K H t (vP us)) (hp : TPs K H us) (hn : ∀ q ∈ prs us, IsNm q.1) (hz : tot (prs us) ≤ 10 ^ 45) (hl : us.length ≤ 100) (k : Q (.str (dQ (prs us)).shown) H) : rRepr K [.ref t] H Q := by
  obtain ⟨h1, h2, h3⟩ := show_pairs hn hz (by rw [prs_len]; exact hl)
  unfold rRepr
  exact ⟨t, dQ (prs us), rfl, dp_pairs ht hp, h1, h2, h3, k⟩
/-- a sum shows these pairs, a list of them -/
def sp_shows (K : PySem.W.Frag) (C : Addr) : Sp := fun vs H Q _ => ∃ (a l : Addr) (ds : List TP), vs = [.ref a, .ref l] ∧ SumR C H a (prs ds) ∧ SqL K H l (vP ds) ∧ TPs K H ds ∧ Nrm (prs ds) ∧ (∀ q ∈ prs ds, IsNm q.1) ∧ tot (prs ds) ≤ 10 ^ 45 ∧ ds.length ≤ 60 ∧
  ∀ H', Same H H' → Q (.bl true) H'
/-- [y for y in xs if p(y)], xs a list of texts -/
theorem lc_sub {K : PySem.W.Frag} {a : Addr} {xs : List Str} {i : Nat} {tt : TT} {te : TE} {vs : List Nat} {σ : L2.St} {H1 : Hp} {D : Addr} {Qd : Hp → Prop} (p : Str → Bool)
    (hl : SqL K H1 a (xs.map V.str)) (nD : H1 D = none) (len : xs.length ≤ 1000) (hw : ∀ x, wipe ((wipe σ vs).set i x) vs = wipe σ vs)
    (h : ∀ y ∈ xs, ∀ H2, Same H1 H2 → (∀ R : Bool → Hp → Prop, R (p y) H2 → tt ((wipe σ vs).set i (some (.str y))) H2 R) ∧ (p y = true → ∀ R : VK, R (.str y) H2 → te ((wipe σ vs).set i (some (.str y))) H2 R))
    (k : ∀ H', Same H1 H' → H' D = some (.lst ((xs.filter p).map V.str)) → Qd H') :
    ∃ W : Nat → Nat → Hp → Prop, (∃ m, W 0 m (upd H1 D (.lst []))) ∧ ∀ i' m H, W i' m H →
      ((Itl K a).stop i' H ∧ Qd H) ∨ ((Itl K a).go i' H ∧ ∃ Nx : Hp → Prop, (∀ H', Nx H' → ∃ m', m' < m ∧ W (i' + 1) m' H') ∧ ∀ x H', (Itl K a).yld i' H x H' → gName i x (wipe σ vs) H' fun σ2 H2 => wipe σ2 vs = wipe σ vs ∧ tt σ2 H2 fun b H3 =>
        if b = true then te σ2 H3 fun y H4 => ∃ acc, H4 D = some (.lst acc) ∧ acc.length < sizeLine ∧ Nx (upd H4 D (.lst (acc ++ [y]))) else Nx H3) := by
  refine lc_list (xs := xs.map V.str) (fun i' H => Same H1 H ∧ H D = some (.lst (((xs.take i').filter p).map V.str))) ⟨fun b o e => by rw [upd_ne (ne_of_none e nD)]; exact e, upd_same⟩ (fun _ H _ z => hl.ext z.1) ?_ ?_
  · rintro i' x H hx ⟨sm, hD⟩
    rw [List.getElem?_map] at hx
    cases hu : xs[i']? with
    | none => rw [hu] at hx; cases hx
    | some u =>
      rw [hu] at hx
      obtain rfl : V.str u = x := Option.some.inj hx
      obtain ⟨h1, h2⟩ := h u (List.mem_of_getElem? hu) H sm
      have et : xs.take (i' + 1) = xs.take i' ++ [u] := by rw [List.take_add_one, hu]; rfl
      refine ⟨hw _, h1 _ ?_⟩
      rw [et, List.filter_append]
      cases hp : p u with
      | false =>
        refine iteF ⟨sm, ?_⟩
        rw [hD, List.filter_cons_of_neg (by rw [hp]; decide), List.filter_nil, List.append_nil]
      | true =>
        refine iteT (h2 hp _ ⟨_, hD, ?_, fun b o e => by rw [upd_ne (ne_of_none e nD)]; exact sm b o e, ?_⟩)
        · have l1 := List.length_filter_le p (xs.take i')
          have l3 := List.length_take_le' i' xs
          rw [List.length_map]
          exact Nat.lt_of_le_of_lt (Nat.le_trans l1 l3) (Nat.lt_of_le_of_lt len (by decide))
        · rw [upd_same, List.filter_cons_of_pos hp, List.filter_nil, List.map_append]
          rfl
  · rintro H ⟨sm, hD⟩
    rw [List.length_map, List.take_length] at hD
    exact k H sm hD
/-- names that are much like a name -/
def nearL (x : Str) : List Str := [cutS x none (some (-1)), cutS (x ++ "a") none (some 8), cutS (x ++ "0") none (some 8), ("z" : Str) ++ cutS x (some 1) none]
theorem cd_butlast (x : Str) : cd (cutS x none (some (-1))) = (cd x).take ((cd x).length - 1) := by
  rw [cd_cutS, sIx_none, List.drop_zero, Nat.sub_zero]
  have : HT.sIx x.length x.length (some (-1)) = (cd x).length - 1 := by
    unfold HT.sIx
    rw [cd_len]
    show (if (-1 : Int) < 0 then _ else _) = _
    rw [if_pos (by decide)]
    omega
  rw [this]
theorem cd_rest (x : Str) : cd (cutS x (some 1) none) = (cd x).drop 1 := by
  rw [cd_cutS, sIx_none, show (some (1 : Int)) = some ((1 : Nat) : Int) from rfl, sIx_some, cd_len]
  by_cases h : 1 ≤ (cd x).length
  · rw [Nat.min_eq_left h]
    exact List.take_of_length_le (by rw [List.length_drop]; omega)
  · have e : cd x = [] := List.eq_nil_of_length_eq_zero (by omega)
    rw [e]
    rfl
theorem near_nm {x : Str} (h : IsNm x) : ∀ y ∈ nearL x, y ≠ "" → IsNm y := by
  have lx : 1 ≤ (cd x).length ∧ (cd x).length ≤ 8 := isNm_len h
  intro y hy ne
  simp only [nearL, List.mem_cons, List.not_mem_nil, or_false] at hy
  rcases hy with rfl | rfl | rfl | rfl
  · show isNm (cd _) = true
    rw [cd_butlast]
    refine isNm_take h ?_ (by have := lx.2; omega)
    refine Nat.one_le_iff_ne_zero.mpr fun e => ne (cd_inj ?_)
    rw [cd_butlast, e]
    rfl
  · show isNm (cd _) = true
    rw [show cutS (x ++ ("a" : Str)) none (some 8) = cutS (x ++ ("a" : Str)) none (some ((8 : Nat) : Int)) from rfl, cd_pre, cd_app]
    exact isNm_cut h (by decide +kernel) (by decide) (by decide)
  · show isNm (cd _) = true
    rw [show cutS (x ++ ("0" : Str)) none (some 8) = cutS (x ++ ("0" : Str)) none (some ((8 : Nat) : Int)) from rfl, cd_pre, cd_app]
    exact isNm_cut h (by decide +kernel) (by decide) (by decide)
  · show isNm (cd _) = true
    rw [cd_app, cd_rest]
    refine isNm_iff.mpr ⟨122, (cd x).drop 1, rfl, by decide, ?_, by rw [List.length_drop]; have := lx.2; omega⟩
    exact List.all_eq_true.mpr fun c hc => List.all_eq_true.mp (isNm_all h) c (List.mem_of_mem_drop hc)
theorem and_if (c d : Bool) : (c && d) = if c = true then d else false := by cases c <;> rfl
end RV
/-! written numbers and terms -/
namespace RV
open PySem L2
structure Cst2 (mg : Str → Option Value) : Prop where
  worth : ∃ u, mg "_PIECE_WORTH" = some u ∧ RelV (.int (10 ^ 64)) u
  piece : ∃ u, mg "_PIECE" = some u ∧ RelV (.int 64) u
def num (z : Int) : Str := Str.ofString (toString z)
/-- a written number of at most 64 digits -/
def sp_written : Sp := fun vs H Q _ => ∃ z : Int, vs = [.int z] ∧ 0 ≤ z ∧ z < 10 ^ 64 ∧ ∀ H', Same H H' → Q (.str (num z)) H'
theorem join_one (a x : Str) : Txt.join a [x] = x := by
  first | rfl | simp [Txt.join] | (unfold Txt.join; rfl)
def ab (z : Int) : Int := if z < 0 then -z else z
/-- a term without its sign -/
def wo (x : Str) (z : Int) : Str := if ab z = 1 then x else ((Str.empty ++ num (ab z)) ++ ("*" : Str)) ++ x
/-- a term that is not the first -/
def fu (q : Str × Int) : Str := (((Str.empty ++ (" " : Str)) ++ (if q.2 < 0 then ("-" : Str) else "+")) ++ (" " : Str)) ++ wo q.1 q.2
def fi (q : Str × Int) : Str := (if q.2 < 0 then ("-" : Str) else "") ++ wo q.1 q.2
def pieces : List (Str × Int) → List Str
  | [] => ["0"]
  | q :: qs => fi q :: qs.map fu
/-- the text of a sum -/
def txt (qs : List (Str × Int)) : Str := Txt.join "" (pieces qs)
theorem sl_app (a b : Str) : (a ++ b).length = a.length + b.length := by rw [cd_len, cd_app, List.length_append, ← cd_len, ← cd_len]
theorem ab_lt {z : Int} (h : z.natAbs < 10 ^ 64) : 0 ≤ ab z ∧ ab z < 10 ^ 64 := by
  unfold ab
  split <;> omega
theorem num_len {z : Int} (h : 0 ≤ z ∧ z < 10 ^ 64) : (num z).length ≤ 1921 := by
  refine PyProof.Rows.int_text_len_1921 ?_
  have q := PySem.Flt.log2_lt_of (n := z.natAbs) (k := 300) (by decide) (by omega)
  omega
theorem wo_len {x : Str} {z : Int} (hx : IsNm x) (hz : z.natAbs < 10 ^ 64) : (wo x z).length ≤ 2000 := by
  have lx : 1 ≤ (cd x).length ∧ (cd x).length ≤ 8 := isNm_len hx
  rw [← cd_len] at lx
  unfold wo
  split
  · omega
  · have h1 := num_len (ab_lt hz)
    have h2 : Str.length "*" = 1 := by decide +kernel
    have h3 : Str.length Str.empty = 0 := by decide +kernel
    rw [sl_app, sl_app, sl_app, h2, h3]
    omega
theorem sg_len (z : Int) : (if z < 0 then ("-" : Str) else "+").length ≤ 1 ∧ (if z < 0 then ("-" : Str) else "").length ≤ 1 := by
  have h1 : Str.length "-" = 1 := by decide +kernel
  have h2 : Str.length "+" = 1 := by decide +kernel
  have h3 : Str.length "" = 0 := by decide +kernel
  constructor <;> split <;> omega
theorem fu_len {q : Str × Int} (hx : IsNm q.1) (hz : q.2.natAbs < 10 ^ 64) : (fu q).length ≤ 2010 := by
  have h1 := wo_len hx hz
  have h2 : Str.length " " = 1 := by decide +kernel
  have h3 : Str.length Str.empty = 0 := by decide +kernel
  have h4 := (sg_len q.2).1
  unfold fu
  rw [sl_app, sl_app, sl_app, sl_app, h2, h3]
  omega
def sp_without : Sp := fun vs H Q _ => ∃ (x : Str) (z : Int), vs = [.str x, .int z] ∧ IsNm x ∧ z.natAbs < 10 ^ 64 ∧ ∀ H', Same H H' → Q (.str (wo x z)) H'
def sp_further : Sp := fun vs H Q _ => ∃ (q : Str × Int), vs = [.str q.1, .int q.2] ∧ IsNm q.1 ∧ q.2.natAbs < 10 ^ 64 ∧ ∀ H', Same H H' → Q (.str (fu q)) H'
def sp_wterms (K : PySem.W.Frag) : Sp := fun vs H Q _ => ∃ (t : Addr) (us : List TP), vs = [.ref t] ∧ SqT K H t (vP us) ∧ TPs K H us ∧ (∀ q ∈ prs us, IsNm q.1 ∧ q.2.natAbs < 10 ^ 64) ∧ us.length ≤ 100 ∧
  ∀ m H', Kp H [(m, .lst ((pieces (prs us)).map V.str))] H' → Q (.ref m) H'
def sp_text (C : Addr) : Sp := fun vs H Q _ => ∃ (a : Addr) (qs : List (Str × Int)), vs = [.ref a] ∧ SumR C H a qs ∧ (∀ q ∈ qs, IsNm q.1 ∧ q.2.natAbs < 10 ^ 64) ∧ qs.length ≤ 100 ∧ ∀ H', Same H H' → Q (.str (txt qs)) H'
/-- [f(x, z) for x, z in t], t a tuple of pairs; f may make things -/
theorem lc_pairsT {K : PySem.W.Frag} {a : Addr} {us : List TP} {i j : Nat} {te : TE} {vs : List Nat} {σ : L2.St} {H1 : Hp} {D : Addr} {Qd : Hp → Prop} (f : Str × Int → V)
    (hl : SqT K H1 a (vP us)) (ht : TPs K H1 us) (nD : H1 D = none) (len : us.length ≤ 1000) (hw : ∀ x y, wipe (((wipe σ vs).set i x).set j y) vs = wipe σ vs)
    (h : ∀ q ∈ prs us, ∀ H2, Same H1 H2 → ∀ R : VK, (∀ H3, Same H2 H3 → R (f q) H3) → te (((wipe σ vs).set i (some (.str q.1))).set j (some (.int q.2))) H2 R)
    (k : ∀ H', Same H1 H' → H' D = some (.lst ((prs us).map f)) → Qd H') :
    ∃ W : Nat → Nat → Hp → Prop, (∃ m, W 0 m (upd H1 D (.lst []))) ∧ ∀ i' m H, W i' m H →
      ((Itt K a).stop i' H ∧ Qd H) ∨ ((Itt K a).go i' H ∧ ∃ Nx : Hp → Prop, (∀ H', Nx H' → ∃ m', m' < m ∧ W (i' + 1) m' H') ∧ ∀ x H', (Itt K a).yld i' H x H' → gPr K i j x (wipe σ vs) H' fun σ2 H2 => wipe σ2 vs = wipe σ vs ∧ tYes σ2 H2 fun b H3 =>
        if b = true then te σ2 H3 fun y H4 => ∃ acc, H4 D = some (.lst acc) ∧ acc.length < sizeLine ∧ Nx (upd H4 D (.lst (acc ++ [y]))) else Nx H3) := by
  refine lc_tup (xs := vP us) (fun i' H => Same H1 H ∧ H D = some (.lst (((prs us).take i').map f))) ⟨fun b o e => by rw [upd_ne (ne_of_none e nD)]; exact e, upd_same⟩ (fun _ H _ z => hl.ext z.1) ?_ ?_
  · rintro i' x H hx ⟨sm, hD⟩
    rw [vP, List.getElem?_map] at hx
    cases hu : us[i']? with
    | none => rw [hu] at hx; cases hx
    | some u =>
      rw [hu] at hx
      obtain rfl : V.ref u.1 = x := Option.some.inj hx
      have hm : u ∈ us := List.mem_of_getElem? hu
      have et : (prs us).take (i' + 1) = (prs us).take i' ++ [u.2] := by
        rw [List.take_add_one, prs, List.getElem?_map, hu]
        rfl
      refine gPr_at ((ht u hm).ext sm) ⟨hw _ _, ?_⟩
      have e0 : ∀ (σ : L2.St) (H : Hp) (R : Bool → Hp → Prop), R true H → tYes σ H R := fun _ _ _ r => r
      refine e0 _ _ _ ?_
      simp only [↓reduceIte]
      refine h u.2 (List.mem_map.mpr ⟨u, hm, rfl⟩) H sm _ fun H3 s3 => ⟨_, s3 _ _ hD, ?_, fun b o e => ?_, ?_⟩
      · have l3 := List.length_take_le' i' (prs us)
        rw [prs_len] at l3
        rw [List.length_map]
        exact Nat.lt_of_le_of_lt l3 (Nat.lt_of_le_of_lt len (by decide))
      · rw [upd_ne (ne_of_none e nD)]
        exact s3 b o (sm b o e)
      · rw [upd_same, et, List.map_append]
        rfl
  · rintro H ⟨sm, hD⟩
    rw [vP_len, ← prs_len, List.take_length] at hD
    exact k H sm hD
end RV
/-! str(o) of an own class -/
namespace RV
open PySem L2 PyProof.Rows
section
variable {X : Cx} {C : Addr} {k : Nat} {sp : Sp}
def rStrO (C : Addr) (sp : Sp) : List V → Hp → VK → Prop := fun xs H Q => ∃ a dx fs, xs = [.ref a] ∧ H a = some (.ins C dx fs) ∧ sp [.ref a] H (fun v H' => ∃ y : Str, v = .str y ∧ Q (.str y) H') E0
theorem call_strO (h : OwnM X.prog X.w X.K X.mg X.base C "__str__" k sp) (hr : Room (k + 2) X.A) : CallR X (.type "str") (rStrO C sp) := by
  intro pins s σ H xs us Q I rx hq
  obtain ⟨a, dx, fs, rfl, ha, hsp⟩ := hq
  obtain ⟨f, fd, ps, hs, hf, _, hb, F⟩ := h
  obtain rfl : us = [.ref a] := Vals.ref1 rx
  obtain ⟨mA, J, _⟩ := ins_get I.hok ha
  obtain ⟨od, J, _⟩ := J.look
  refine PySem.W.kso_call (hr.in1.in1.units0) I.kIn J hs hf (wpAny_mono (call_owns (A := X.A.in1.in1) F hb hr.in1.in1 rfl I rx hsp) (fun r s' z => ?_) fun _ _ x => x)
  obtain ⟨v, H', I', rv, y, rfl, q⟩ := z
  obtain ⟨t, rfl⟩ := rv
  exact ⟨.str y, H', I', ⟨_, rfl⟩, q⟩
end
theorem pieces_sum {qs : List (Str × Int)} (h : ∀ q ∈ qs, IsNm q.1 ∧ q.2.natAbs < 10 ^ 64) : ((pieces qs).map (·.length)).sum ≤ 2010 * (qs.length + 1) := by
  have h1 : ∀ qs : List (Str × Int), (∀ q ∈ qs, IsNm q.1 ∧ q.2.natAbs < 10 ^ 64) → ((qs.map fu).map (·.length)).sum ≤ 2010 * qs.length := by
    intro qs
    induction qs with
    | nil => intro _; exact Nat.le_refl _
    | cons q qs ih =>
      intro h
      have a := fu_len (h q List.mem_cons_self).1 (h q List.mem_cons_self).2
      have b := ih fun r hr => h r (List.mem_cons_of_mem _ hr)
      simp only [List.map_cons, List.sum_cons, List.length_cons]
      omega
  cases qs with
  | nil => decide +kernel
  | cons q qs =>
    have a := wo_len (h q List.mem_cons_self).1 (h q List.mem_cons_self).2
    have b := h1 qs fun r hr => h r (List.mem_cons_of_mem _ hr)
    have c := (sg_len q.2).2
    simp only [pieces, List.map_cons, List.sum_cons, List.length_cons, fi, sl_app]
    omega
theorem pieces_length (qs : List (Str × Int)) : (pieces qs).length ≤ qs.length + 1 := by
  cases qs <;> simp [pieces]
end RV
/-! sums made -/
namespace RV
open PySem L2
theorem sum_make {K : PySem.W.Frag} {C x dx t : Addr} {us : List TP} {H1 : Hp} {Q : VK} {E : XK} (ht : TrmF K H1 t us) (nx : H1 x = none) (nd : H1 dx = none) (_ne : dx ≠ x)
    (k : ∀ (ds : List TP) (m dx' : Addr) H2, Mad (prs us) (prs ds) → Kp H1 (lS C x dx' m ds) H2 → Q (.ref x) H2) :
    Irr (sp_Sum K C) [.ref x, .ref t] (upd (upd H1 dx (.own x)) x (.ins C dx [])) (fun v H2 => v = .non ∧ Q (.ref x) H2) E := by
  have sm : Same H1 (upd (upd H1 dx (.own x)) x (.ins C dx [])) := fun b o e => by
    rw [upd_ne (ne_of_none e nx), upd_ne (ne_of_none e nd)]
    exact e
  refine irr ⟨x, dx, t, us, rfl, upd_same, ⟨ht.tp.ext sm, ht.ps.ext sm, ht.nm, ht.ln⟩, fun ds m dx' H2 md keep new here => ⟨rfl, k ds m dx' H2 md ⟨fun b o e => keep b o (ne_of_none e nx) (sm b o e), fun p hp => ⟨?_, here p hp⟩⟩⟩⟩
  rcases List.mem_cons.mp hp with rfl | hp
  · exact nx
  · have q := new p hp
    have h1 : p.1 ≠ x := fun e => by rw [e, upd_same] at q; cases q
    rw [upd_ne h1] at q
    have h2 : p.1 ≠ dx := fun e => by rw [e, upd_same] at q; cases q
    rwa [upd_ne h2] at q
theorem SumR.of {C x dx t : Addr} {us : List TP} {H : Hp} (h : ∀ p ∈ lS C x dx t us, H p.1 = some p.2) : SumR C H x (prs us) := ⟨dx, t, us, rfl, h⟩
/-- of two sums of terms with the same coefficients the pairs are the same -/
theorem Mad.same {qs qs' rs rs' : List (Str × Int)} (h : Mad qs rs) (h' : Mad qs' rs') (e : ∀ x, RV.co qs x = RV.co qs' x) : rs = rs' := h.nr.uniq h'.nr fun x => by rw [h.co, h'.co, e]
theorem Mad.tot {qs rs : List (Str × Int)} (h : Mad qs rs) {b : Nat} (hb : RV.tot qs ≤ b) : RV.tot rs ≤ 60 * b ∨ 60 < rs.length := by
  by_cases hl : rs.length ≤ 60
  · left
    have h1 : ∀ ts : List (Str × Int), (∀ q ∈ ts, q.2.natAbs ≤ b) → RV.tot ts ≤ ts.length * b := by
      intro ts
      induction ts with
      | nil => intro _; exact Nat.zero_le _
      | cons t ts ih =>
        intro h
        have a := h t List.mem_cons_self
        have c := ih fun r hr => h r (List.mem_cons_of_mem _ hr)
        have e : RV.tot (t :: ts) = t.2.natAbs + RV.tot ts := rfl
        rw [e, List.length_cons, Nat.succ_mul]
        omega
    refine Nat.le_trans (h1 rs fun q hq => ?_) (Nat.mul_le_mul_right b hl)
    have := h.nr.co hq
    rw [← this, h.co]
    exact Nat.le_trans (co_le qs q.1) hb
  · right
    omega
end RV
/-! an int == an own object: the class's own == answers -/
namespace PySem
open AutoSeq1 (wpAny_loadPart')
set_option maxHeartbeats 4000000 in
theorem rv_int_eq_inst (b : Int) (u : Tok) (l C dx : Addr) :
    Meets (Builtin.«int.__eq__» ⟨[.int b u, .ref l], []⟩) (fun _ R s => s.heap.get? l = some (PySem.W.instObj C dx) ∧ R (.ok (.ret .notImplemented)) s) :=
  .of_wp fun prog w A R s h => by
    obtain ⟨hp, g, d, tk, os⟩ := s
    obtain ⟨hl, h⟩ := h
    unfold PySem.W.instObj at hl
    wp_walk using wpAny_loadPart' hl, wpAny_load hl
    exact ⟨_, rfl, h⟩
end PySem
namespace RV
open PySem L2 PyProof.Rows
section
variable {prog : Program} {w : World} {A : Around} {E : Value → Shared → Prop} {s : Shared} {K : PySem.W.Frag} {x C dx L f : Addr} {h₀ : Heap} {m : Str → Option Value} {od : Option Obj} {i : Int} {t : Tok}
open PySem.W in
theorem rv_eqI_K {Q : Value → Shared → Prop} (hu : A.units < cLine) (F : Fr h₀ L s.heap m) (X₀ : K.In h₀) (I : InstAt s.heap x (PySem.W.instObj C dx) C od) (hC : subIn K (.ref C) (.type "int") = some false)
    (hs : findIn K (.ref C) "__eq__" = some (some (.ref f))) (hf : isFn K (.ref f) = true) (h : wpAny (model prog w) A (call (.ref f) [.ref x, .int i t]) (PySem.W.CmpBack Q) E s) : wpAny (model prog w) A (richCompare .Eq (.int i t) (.ref x)) Q E s := by
  have X := X₀.keeps F.keep
  have one : wpAny (model prog w) A (tryCompare (.ref x) (cmpInfo .Eq).2.2 (.int i t)) (fun r s' => ∃ v, r = some v ∧ Q v s') E s := by
    unfold tryCompare
    refine wpAny_bind (ifBound_K X I hs hf (wpAny_mono h (fun v s' hv => ?_) fun _ _ e => e))
    cases v <;> first | exact hv.elim | exact wpAny_pure ⟨_, rfl, hv⟩
  have decl : wpAny (model prog w) A (tryCompare (.int i t) (cmpInfo .Eq).2.1 (.ref x)) (fun r s' => r = none ∧ s' = s) E s :=
    wpAny_tryCompare_declines (Q := fun r s' => r = none ∧ s' = s) (typeIs_int _ _ _) PySem.F.slot_int_eq (call_meets PySem.F.slot_int_eq (typeIs_int _ _ _) PySem.F.entry_int_eq (PySem.F.args_int_eq_2 _ _) (PySem.rv_int_eq_inst i t x C dx) ⟨I.at_, rfl, rfl, rfl⟩)
  unfold richCompare
  refine wpAny_holding (wpAny_bind (wpAny_cRoomFor hu ?_))
  have o1 : oneThing? .Eq (.int i t) (.ref x) = none := rfl
  simp only [o1]
  refine wpAny_bind (wpAny_typeOf (typeIs_int _ _ _) (wpAny_bind (I.type.here ?_)))
  rw [if_pos (show (Value.type "int" != Value.ref C) = true from rfl)]
  refine wpAny_bind ((looks_subIn X hC).here ?_)
  simp only [Bool.false_eq_true, if_false]
  refine wpAny_bind (wpAny_mono decl (fun r s' z => ?_) fun _ _ e => e)
  obtain ⟨rfl, rfl⟩ := z
  simp only [Bool.not_false, if_true]
  refine wpAny_bind (wpAny_mono one (fun r s' z => ?_) fun _ _ e => e)
  obtain ⟨v, rfl, hq⟩ := z
  exact wpAny_pure hq
end
section
variable {X : Cx} {C : Addr} {k : Nat} {sp : Sp}
/-- i == o -/
def rEqI (C : Addr) (sp : Sp) : R2 := fun x y H Q => ∃ (i : Int) (a dx : Addr) (fs : List (Str × V)), x = .int i ∧ y = .ref a ∧ H a = some (.ins C dx fs) ∧ sp [.ref a, .int i] H (fun v H' => ∃ b, v = .bl b ∧ Q (.bl b) H') E0
theorem op_eqI (h : OwnM X.prog X.w X.K X.mg X.base C "__eq__" k sp) (hC : PySem.W.subIn X.K (.ref C) (.type "int") = some false) (hr : Room k X.A) : OpR X (compareOp .Eq) (rEqI C sp) := by
  intro pins s σ H x y v u Q I rx ry hq
  obtain ⟨i, a, dx, fs, rfl, rfl, ha, hsp⟩ := hq
  obtain ⟨f, fd, ps, hs, hf, _, hb, F⟩ := h
  have rx' := rx
  have ry' := ry
  cases ry
  obtain ⟨t, rfl⟩ := rx
  obtain ⟨mA, J, _⟩ := ins_get I.hok ha
  obtain ⟨od, J, _⟩ := J.look
  obtain ⟨m, hF⟩ := I.fr
  show wpAny (model X.prog X.w) X.A (richCompare .Eq (.int i t) (.ref a)) (EP X pins σ Q) X.xe s
  refine rv_eqI_K hr.units0 hF I.ok.mod.kin J hC hs hf (wpAny_mono (call_owns F hb hr rfl I (.cons ry' (.cons rx' .nil)) hsp) (fun r s' z => ?_) fun _ _ x => x)
  obtain ⟨v, H', I', rv, b, rfl, q⟩ := z
  cases rv
  exact ⟨.bl b, H', I', rfl, q⟩
end
end RV
namespace RV
open PySem L2
def sp_rightS : Sp := fun vs H Q _ => ∃ (a : Addr) (n : Nat), vs = [.ref a] ∧ WellAt H a n ∧ n < 500000 ∧ ∀ H', Grow a H H' → WellAt H' a (n + 3000) → Q (.bl true) H'
def gS (vs zs : List V) : List V := match vs, zs with
  | [x], [t] => [x, t]
  | _, _ => []
/-- what sums and other values are to each other -/
structure SKinds (K : PySem.W.Frag) (C : Addr) : Prop where
  sI : PySem.W.subIn K (.ref C) (.type "int") = some false
  nS : PySem.W.notFirst K C (.ref C) = true
  nT : PySem.W.notFirst K C (.type "tuple") = true
  nX : PySem.W.notFirst K C (.type "str") = true
  nN : PySem.W.notFirst K C (.type "NoneType") = true
  kT : PySem.W.kitOne K (.type "tuple") (.ref C) = some false
  kX : PySem.W.kitOne K (.type "str") (.ref C) = some false
  kN : PySem.W.kitOne K (.type "NoneType") (.ref C) = some false
  kI : PySem.W.kitOne K (.type "int") (.ref C) = some false
section
variable {K : PySem.W.Frag} {C a : Addr} {H : Hp} {Q : VK} {neg : Bool} {qs rs : List (Str × Int)} {y : V} {t : Value}
theorem SumR.ins (h : SumR C H a qs) : ∃ dx fs, H a = some (.ins C dx fs) := by
  obtain ⟨dx, t, us, _, k⟩ := h
  exact ⟨dx, _, k _ List.mem_cons_self⟩
/-- == and != of two sums -/
theorem eqS_sum {b : Addr} (ha : SumR C H a qs) (hb : SumR C H b rs) (na : ∀ q ∈ qs, IsNm q.1) (nb : ∀ q ∈ rs, IsNm q.1) (SK : SKinds K C) (r : Bool) (hr : decide (qs = rs) = r) (q : Q (.bl (if neg then !r else r)) H) : rEqO neg K C (sp_eqS K C) (.ref a) (.ref b) H Q := by
  obtain ⟨dx, fs, ea⟩ := ha.ins
  obtain ⟨dy, gs, eb⟩ := hb.ins
  unfold rEqO
  exact ⟨a, dx, fs, .ref C, rfl, ea, .ins eb, SK.nS, a, .ref b, qs, rfl, ha, na, .inl ⟨b, rs, rfl, hb, nb, _, rfl, by rw [hr]; exact q⟩⟩
/-- of a sum and a value of another kind -/
theorem eqS_other (ha : SumR C H a qs) (na : ∀ q ∈ qs, IsNm q.1) (ty : TyL H y t) (tx : TyX K H y t) (nf : PySem.W.notFirst K C t = true) (kt : PySem.W.kitOne K t (.ref C) = some false) (q : Q (.bl neg) H) : rEqO neg K C (sp_eqS K C) (.ref a) y H Q := by
  obtain ⟨dx, fs, ea⟩ := ha.ins
  unfold rEqO
  refine ⟨a, dx, fs, t, rfl, ea, ty, nf, a, y, qs, rfl, ha, na, .inr ⟨t, tx, kt, false, rfl, ?_⟩⟩
  cases neg <;> exact q
end
end RV
/-! a ledger in parts; steps of the sums' own methods over it -/
namespace RV
open PySem L2
abbrev lT (l : Addr) (us : List TP) : List (Addr × HO) := (l, .lst (vP us)) :: lP us
/-- pairs that a sum shows -/
structure Due (qs : List (Str × Int)) : Prop where
  nr : Nrm qs
  nm : ∀ q ∈ qs, IsNm q.1
  tt : tot qs ≤ 10 ^ 45
  ln : qs.length ≤ 60
section
variable {K : PySem.W.Frag} {C a l x dx m t : Addr} {n n' : Nat} {L L' L2 : List (Addr × HO)} {H0 H H' : Hp} {us ds : List TP} {Q : VK} {E : XK}
theorem Has.lft (h : Has H0 a n (L ++ L') H) : Has H0 a n L H := h.sub fun _ hp => List.mem_append_left _ hp
theorem Has.rgt (h : Has H0 a n (L ++ L') H) : Has H0 a n L' H := h.sub fun _ hp => List.mem_append_right _ hp
theorem Has.sL (h : Has H0 a n (lT l us) H) : SqL K H l (vP us) := SqL.of (h.at List.mem_cons_self)
theorem Has.sP (h : Has H0 a n (lT l us) H) : TPs K H us := TPs.of h fun _ hp => List.mem_cons_of_mem _ hp
theorem Has.sS (h : Has H0 a n (lS C x dx t ds) H) : SumR C H x (prs ds) := SumR.of fun _ hp => h.at hp
theorem Has.thn (h : Has H0 a n L H) (h' : Has H a n' L2 H') : Has H0 a n' (L2 ++ L) H' :=
  ⟨h.gr.trans h'.gr, h'.well, fun p hp => (List.mem_append.mp hp).elim (h'.here p) fun z => (h.grow h'.gr h'.well).here p z⟩
theorem Has.tup (h : Has H0 a n L H) {xs : List V} (np : H m = none) : Has H0 a n L (upd H m (.tup xs)) := (h.new np).sub fun _ hp => List.mem_cons_of_mem _ hp
theorem Sum_step {R : Hp → Prop} (h : Has H0 a n L H) (ht : Trm K H t us) (nx : H x = none) (nd : H dx = none) (ne : dx ≠ x)
    (k : ∀ (ds : List TP) (m dx' : Addr) H2, Mad (prs us) (prs ds) → Has H0 a n (lS C x dx' m ds ++ L) H2 → R H2) :
    Irr (sp_Sum K C) [.ref x, .ref t] (upd (upd H dx (.own x)) x (.ins C dx [])) (fun v H2 => v = .non ∧ R H2) E :=
  sum_make (Q := fun _ => R) ht.few nx nd ne fun ds m dx' H2 md kp => k ds m dx' H2 md (h.kp kp)
theorem Sum_kp {R : Hp → Prop} (ht : Trm K H t us) (nx : H x = none) (nd : H dx = none) (ne : dx ≠ x)
    (k : ∀ (ds : List TP) (m dx' : Addr) H2, Mad (prs us) (prs ds) → Kp H (lS C x dx' m ds) H2 → R H2) :
    Irr (sp_Sum K C) [.ref x, .ref t] (upd (upd H dx (.own x)) x (.ins C dx [])) (fun v H2 => v = .non ∧ R H2) E := sum_make (Q := fun _ => R) ht.few nx nd ne k
theorem Sum_kpF {R : Hp → Prop} (ht : TrmF K H t us) (nx : H x = none) (nd : H dx = none) (ne : dx ≠ x)
    (k : ∀ (ds : List TP) (m dx' : Addr) H2, Mad (prs us) (prs ds) → Kp H (lS C x dx' m ds) H2 → R H2) :
    Irr (sp_Sum K C) [.ref x, .ref t] (upd (upd H dx (.own x)) x (.ins C dx [])) (fun v H2 => v = .non ∧ R H2) E := sum_make (Q := fun _ => R) ht nx nd ne k
theorem merged_step (h : Has H0 a n L H) (hl : SqL K H l (vP us)) (ht : TPs K H us) (hn : us.length ≤ 120)
    (k : ∀ (ds : List TP) (m : Addr) H', Mad (prs us) (prs ds) → Has H0 a n (lT m ds ++ L) H' → Q (.ref m) H') : Irr (sp_merged K) [.ref l] H Q E :=
  irr ⟨l, us, rfl, hl, ht, hn, fun ds m H' n1 n2 n3 n4 kp => k ds m H' ⟨n1, n2, n3, by rw [prs_len, prs_len]; exact n4⟩ (h.kp kp)⟩
theorem parted_step (h : Has H0 a n L H) (hn : n < 600000) (hl : ∀ p ∈ lT l us, p ∈ L) (hlen : us.length ≤ 20)
    (k : ∀ (vs : List TP) (m : Addr) H', Oth us vs → Has H0 a (n + 1000) (lT m vs ++ L) H' → Q (.ref m) H') : Irr sp_parted [.ref a, .ref l] H Q E :=
  irr ⟨a, l, n, us, rfl, h.well, hn, hlen, fun p hp => h.here p (hl p hp), fun vs m H' o _ h' => k vs m H' o (h.thn h')⟩
theorem shows_step (h : Has H0 a n L H) (hs : SumR C H x (prs ds)) (hl : SqL K H l (vP ds)) (ht : TPs K H ds) (d : Due (prs ds)) (k : ∀ H', Has H0 a n L H' → Q (.bl true) H') : Irr (sp_shows K C) [.ref x, .ref l] H Q E :=
  irr ⟨x, l, ds, rfl, hs, hl, ht, d.nr, d.nm, d.tt, by rw [← prs_len]; exact d.ln, fun H' s => k H' (h.same s)⟩
theorem text_step {qs : List (Str × Int)} (h : Has H0 a n L H) (hs : SumR C H x qs) (d : Due qs) (k : ∀ H', Has H0 a n L H' → Q (.str (txt qs)) H') : Irr (sp_text C) [.ref x] H Q E :=
  irr ⟨x, qs, rfl, hs, fun q hq => ⟨d.nm q hq, Nat.lt_of_le_of_lt (tot_mem hq) (Nat.lt_of_le_of_lt d.tt (by decide))⟩, Nat.le_trans d.ln (by decide), fun H' s => k H' (h.same s)⟩
theorem Mad.due {qs rs : List (Str × Int)} (h : Mad qs rs) (hn : ∀ q ∈ qs, IsNm q.1) (hl : qs.length ≤ 60) (ht : RV.tot qs ≤ 10 ^ 42) : Due rs := by
  refine ⟨h.nr, fun q hq => ?_, ?_, Nat.le_trans h.ln hl⟩
  · obtain ⟨r, hr, e⟩ := List.mem_map.mp (h.nm q hq)
    exact e ▸ hn r hr
  · rcases h.tot ht with z | z
    · exact Nat.le_trans z (by decide)
    · exact absurd (Nat.le_trans h.ln hl) (by omega)
end
theorem big_tot {qs : List (Str × Int)} {m : Nat} (h : (tot qs : Int) ≤ big * 2 ^ m) (hm : m ≤ 20) : tot qs ≤ 10 ^ 41 := by
  have h1 : big * 2 ^ m ≤ big * 2 ^ 20 := Int.mul_le_mul_of_nonneg_left (p2_le hm) (by decide)
  have h2 : big * 2 ^ 20 ≤ 10 ^ 41 := by decide
  omega
theorem shaped_pairsL {qs : List (Str × Int)} (h : ∀ q ∈ qs, IsNm q.1) : SeqAt.shaped (.list (qs.map dq)) = true := by
  have := shaped_pairs h
  simpa [SeqAt.shaped, dQ, PyData.canLay0, PyData.depth] using this
theorem eqv_nilL (qs : List (Str × Int)) : PyData.eqv (.list (qs.map dq)) (.list []) = decide (qs = []) := by
  cases qs <;> simp [PyData.eqv, PyData.eqvAll]
/-- the i-th of the pairs -/
theorem at_pair {us : List TP} {r : Int} (r0 : 0 ≤ r) (r1 : r < us.length) : ∃ u ∈ us, atI (vP us) r = some (V.ref u.1) := by
  obtain ⟨i, rfl⟩ := Int.eq_ofNat_of_zero_le r0
  have hi : i < us.length := by omega
  exact ⟨us[i], List.getElem_mem hi, atI_nat (by rw [vP, List.getElem?_map, List.getElem?_eq_getElem hi]; rfl)⟩
/-- C() without arguments -/
theorem pe_mkZ {X : Cx} {x : Str} {C : Addr} {k : Nat} {sp : Sp} {dvs : List V} {p pos : Pos} (h : Mkr X.prog X.w X.K X.mg X.base x C k sp dvs) (hr : Room (k + 1) X.A) (hg : Gl X x := by rfl) (hdb : (x == ("__debug__" : Str)) = false := by decide) : PE X (.Call (.Name x p) [] [] pos) (tMake C sp dvs E0 tNil) := by
  obtain ⟨hm, f, fd, ps, ds, M, hb, hd, F⟩ := h
  exact pe_make0 M F hr hg hm hb hd pass0 hdb
theorem FnG.imp {P : Program} {w : World} {K : PySem.W.Frag} {mg : Str → Option Value} {base : Heap} {k : Nat} {f : Addr} {fd : FuncData} {ps : List Str} {sp sp' : Sp} (F : FnG P w K mg base k f fd ps sp) (h : ∀ vs H Q E, sp' vs H Q E → sp vs H Q E) : FnG P w K mg base k f fd ps sp' :=
  ⟨fun vs H Q E z => F.len vs H Q E (h _ _ _ _ z), fun A o s H args us vs Q E gs hr e0 hb r z => F.run A o s H args us vs Q E gs hr e0 hb r (h _ _ _ _ z)⟩
theorem FnGd.irr {P : Program} {w : World} {K : PySem.W.Frag} {mg : Str → Option Value} {base : Heap} {x : Str} {k : Nat} {ps : List Str} {sp : Sp} (h : FnGd P w K mg base x k ps sp) : FnGd P w K mg base x k ps (Irr sp) := by
  obtain ⟨f, fd, a, b, c, F⟩ := h
  exact ⟨f, fd, a, b, c, F.imp fun _ _ _ _ z => irr_of z⟩
theorem OwnM.irr {P : Program} {w : World} {K : PySem.W.Frag} {mg : Str → Option Value} {base : Heap} {C : Addr} {m : String} {k : Nat} {sp : Sp} (h : OwnM P w K mg base C m k sp) : OwnM P w K mg base C m k (Irr sp) := by
  obtain ⟨f, fd, ps, a, b, c, d, F⟩ := h
  exact ⟨f, fd, ps, a, b, c, d, F.imp fun _ _ _ _ z => irr_of z⟩
theorem Prp.irr {P : Program} {w : World} {K : PySem.W.Frag} {mg : Str → Option Value} {base : Heap} {C : Addr} {m : Str} {k : Nat} {sp : Sp} (h : Prp P w K mg base C m k sp) : Prp P w K mg base C m k (Irr sp) := by
  obtain ⟨c, p, g, fd, ps, a, b, F⟩ := h
  exact ⟨c, p, g, fd, ps, a, b, F.imp fun _ _ _ _ z => irr_of z⟩
theorem nf_self (K : PySem.W.Frag) (C : Addr) : PySem.W.notFirst K C (.ref C) = true := by simp [PySem.W.notFirst]
theorem kit_self (K : PySem.W.Frag) (C : Addr) : PySem.W.kitOne K (.ref C) (.ref C) = some true := by
  unfold PySem.W.kitOne
  rw [if_pos (by simp)]
theorem kit_sub {K : PySem.W.Frag} {C : Addr} {t : Value} (hd : PySem.W.hasDictIn K C = true) (ty : PySem.W.typeIn K (.ref C) = some (.type "type")) (self : PySem.W.subIn K (.ref C) (.ref C) = some true) (hs : PySem.W.subIn K t (.ref C) = some false) : PySem.W.kitOne K t (.ref C) = some false := by
  obtain ⟨cd, hc, _⟩ := PySem.W.any_some hd
  have hne : ¬ (t == Value.ref C) = true := fun e => by
    rw [beq_iff_eq.mp e, self] at hs
    cases hs
  unfold PySem.W.kitOne
  rw [if_neg hne]
  show (if ((PySem.W.clsIn K C).isSome && PySem.W.typeIn K (Value.ref C) == some (Value.type "type")) = true then PySem.W.subIn K t (Value.ref C) else none) = some false
  rw [if_pos (by rw [hc, ty]; simp)]
  exact hs
end RV
/-! rpartition; xs[i::2]; a class in a slot, called; class methods -/
namespace RV
open PySem L2 PyProof.Rows Builtin TL
section
variable {X : Cx} {pins : List (Addr × Obj)} {σ : L2.St} {H : Hp} {s : Shared}
theorem mt_rpartition : MtR X "str.rpartition" (fun x xs H Q => ∃ a b, x = .str a ∧ xs = [.str b] ∧ (b.length == 0) = false ∧ a.length ≤ sizeLine ∧
    ∀ p, H p = none → Q (.ref p) (upd H p (.tup [.str (Txt.rpartition a b).1, .str (Txt.rpartition a b).2.1, .str (Txt.rpartition a b).2.2]))) := by
  intro pins s σ H x xs v us Q I rx rs h
  obtain ⟨a, b, rfl, rfl, hb, hz, h⟩ := h
  obtain ⟨t, rfl⟩ := rx
  cases rs with
  | cons r1 rs =>
    cases rs
    obtain ⟨u, rfl⟩ := r1
    refine call_meets PySem.F.slot_str_rpartition (typeIs_str _ _ _) PySem.F.entry_str_rpartition (PySem.F.args_str_rpartition_2 _ _) (meets_str_rpartition a b t u hb hz) ?_
    unfold Txt.rpartition at h
    revert h
    cases Builtin.Str.lastOccurrence a b 0 a.length with
    | none => intro h; exact laid_parts I h
    | some i => intro h; exact laid_parts I h
theorem pe_rpartition {o e : Expr} {to te : TE} {apos pos : Pos} (ho : PE X o to) (he : PE X e te) (hs : starEach [e] X.env = [(false, eval e X.env)] := by rfl) (hbase : attributeBase o "rpartition" X.env (eval o X.env) = eval o X.env := by rfl) (hline : (apos.endLine == pos.line) = true := by rfl) :
    PE X (.Call (.Attribute o "rpartition" apos) [e] [] pos) (tM1 (fun x xs H Q => ∃ a b, x = .str a ∧ xs = [.str b] ∧ (b.length == 0) = false ∧ a.length ≤ sizeLine ∧
      ∀ p, H p = none → Q (.ref p) (upd H p (.tup [.str (Txt.rpartition a b).1, .str (Txt.rpartition a b).2.1, .str (Txt.rpartition a b).2.2]))) to te) :=
  pe_m1 PySem.F.slot_str_rpartition PySem.F.type_str_rpartition mt_rpartition ho he hs hbase hline
theorem cd_tl (x : Str) : cd x = tl x := rfl
/-- a text cut at its last separator -/
theorem rpart_app {y : Str} {s : Nat} (ey : tl y = [s]) {a b : Str} (h : s ∉ tl b) : Txt.rpartition (a ++ y ++ b) y = (a, y, b) := by
  have hy : tl y ≠ [] := by rw [ey]; simp
  have el : y.length = 1 := by rw [len_tl, ey]; rfl
  have ex : tl (a ++ y ++ b) = tl a ++ (s :: tl b) := by rw [tl_append, tl_append, ey, List.append_assoc]; rfl
  have xl : (a ++ y ++ b).length = (tl a).length + (1 + (tl b).length) := by rw [len_tl, ex, List.length_append, List.length_cons]; omega
  have atA : StrLaws.At (a ++ y ++ b) y (a ++ y ++ b).length (tl a).length := (at_iff hy _).mpr (by
    rw [ex, List.drop_left, ey]
    simp [pre])
  have notB : ∀ k, (tl a).length < k → ¬ StrLaws.At (a ++ y ++ b) y (a ++ y ++ b).length k := fun k hk z => by
    have q := (at_iff hy k).mp z
    obtain ⟨j, rfl⟩ : ∃ j, k = (tl a).length + (j + 1) := ⟨k - (tl a).length - 1, by omega⟩
    rw [ex, List.drop_append, List.drop_eq_nil_of_le (by omega), List.nil_append, show (tl a).length + (j + 1) - (tl a).length = j + 1 by omega, List.drop_succ_cons, ey] at q
    cases e : (tl b).drop j with
    | nil => rw [e] at q; simp [pre] at q
    | cons c r =>
      rw [e] at q
      simp only [pre] at q
      have hc : c = s := by simpa using q
      subst hc
      exact h (List.mem_of_mem_drop (i := j) (by rw [e]; exact List.mem_cons_self))
  rcases StrLaws.last_spec (a ++ y ++ b) y with ⟨_, n⟩ | ⟨i, e, h1, h2⟩
  · exact absurd atA (n _)
  · have hi : i = (tl a).length := by
      rcases Nat.lt_trichotomy i (tl a).length with q | q | q
      · exact absurd atA (h2 _ q)
      · exact q
      · exact absurd h1 (notB _ q)
    subst hi
    unfold Txt.rpartition
    rw [e]
    dsimp only
    refine Prod.ext (cd_inj ?_) (Prod.ext rfl (cd_inj ?_))
    · show tl (Builtin.Str.strSub _ _ _) = tl a
      rw [tl_strSub, ex, List.drop_zero, Nat.sub_zero, List.take_left]
    · show tl (Builtin.Str.strSub _ _ _) = tl b
      rw [tl_strSub_end, ex, el, List.drop_append, List.drop_eq_nil_of_le (by omega), List.nil_append, show (tl a).length + 1 - (tl a).length = 1 by omega, List.drop_succ_cons, List.drop_zero]
theorem rpart_none {y : Str} {s : Nat} (ey : tl y = [s]) {a : Str} (h : s ∉ tl a) : Txt.rpartition a y = (Str.empty, Str.empty, a) := by
  have hy : tl y ≠ [] := by rw [ey]; simp
  rcases StrLaws.last_spec a y with ⟨e, _⟩ | ⟨i, e, h1, _⟩
  · unfold Txt.rpartition
    rw [e]
  · have q := (at_iff hy i).mp h1
    rw [ey] at q
    cases e2 : (tl a).drop i with
    | nil => rw [e2] at q; simp [pre] at q
    | cons c r =>
      rw [e2] at q
      simp only [pre] at q
      have hc : c = s := by simpa using q
      subst hc
      exact absurd (List.mem_of_mem_drop (i := i) (by rw [e2]; exact List.mem_cons_self)) h
end
/-! ### every other item of a list -/
def step2 {α : Type} (i : Nat) (xs : List α) : List α := (sliceRange (min i xs.length : Nat) xs.length 2).filterMap (xs[·]?)
theorem vals_at : ∀ {xs : List V} {us : List Value}, Vals xs us → ∀ j : Nat, (xs[j]? = none ∧ us[j]? = none) ∨ ∃ x u, xs[j]? = some x ∧ us[j]? = some u ∧ RelV x u
  | _, _, .nil, j => .inl ⟨rfl, rfl⟩
  | _, _, .cons a r, 0 => .inr ⟨_, _, rfl, rfl, a⟩
  | _, _, .cons a r, j + 1 => by simpa using vals_at r j
theorem vals_pick {xs : List V} {us : List Value} (r : Vals xs us) : ∀ js : List Nat, Vals (js.filterMap (xs[·]?)) (js.filterMap (us[·]?))
  | [] => .nil
  | j :: js => by
    rcases vals_at r j with ⟨e1, e2⟩ | ⟨x, u, e1, e2, a⟩
    · rw [List.filterMap_cons_none e1, List.filterMap_cons_none e2]
      exact vals_pick r js
    · rw [List.filterMap_cons_some e1, List.filterMap_cons_some e2]
      exact .cons a (vals_pick r js)
def tSl2 (K : PySem.W.Frag) (i : Nat) (te : TE) : TE := fun σ H Q => te σ H fun x H1 => ∃ a xs, x = .ref a ∧ SqL K H1 a xs ∧ ∀ p, H1 p = none → Q (.ref p) (upd H1 p (.lst (step2 i xs)))
theorem pe_sl2 {X : Cx} {e : Expr} {te : TE} {i k1 k2 : Nat} {p1 p2 p3 pos : Pos} (he : PE X e te) : PE X (.Subscript e (.Slice (some (.Constant (.int (i : Nat)) k1 p1)) none (some (.Constant (.int 2) k2 p2)) p3) pos) (tSl2 X.K i te) := by
  refine ⟨fun pins s σ H Q I h => ?_⟩
  refine Subscript_ (thn (he.run pins s σ H _ I h) fun v s1 ⟨x, H1, I1, r1, q1⟩ => ?_)
  obtain ⟨a, xs, ex, hx, q⟩ := q1
  subst ex
  cases r1
  have hlo : PO X (some (.Constant (.int (i : Nat)) k1 p1)) (tPart (tC (.int (i : Nat)))) := po_some pe_int
  have hst : PO X (some (.Constant (.int 2) k2 p2)) (tPart (tC (.int 2))) := po_some pe_int
  refine wpAny_Slice (thn (hlo.run pins s1 σ H1 (fun o H2 => o = some (i : Int) ∧ H2 = H1) I1 ⟨_, rfl, rfl, rfl⟩) fun vl s2 ⟨l, H2, I2, pl, el, e2⟩ => ?_)
  subst el e2
  refine thn (po_none.run pins s2 σ H2 (fun o H3 => o = none ∧ H3 = H2) I2 ⟨rfl, rfl⟩) fun vu s3 ⟨u, H3, I3, pu, eu, e3⟩ => ?_
  subst eu e3
  refine thn (hst.run pins s3 σ H3 (fun o H4 => o = some 2 ∧ H4 = H3) I3 ⟨_, rfl, rfl, rfl⟩) fun vs s4 ⟨o, H4, I4, ps, eo, e4⟩ => ?_
  subst eo e4
  have I5 : Inv X pins σ H4 { s4 with heap := s4.heap.push { cls := .type "slice", data := .fields #[vl, vu, vs] } } := I4.kept (t' := s4.toks) fun b ob q => Heap.get?_push_of_some _ q
  obtain ⟨its, r, ht, hz⟩ := I5.list hx
  have hlen := r.length
  show wpAny (model X.prog X.w) X.A (subscriptTail e (.Slice (some (.Constant (.int (i : Nat)) k1 p1)) none (some (.Constant (.int 2) k2 p2)) p3) (.ref a) (.ref s4.heap.objs.size)) (EP X pins σ Q) X.xe { s4 with heap := s4.heap.push { cls := .type "slice", data := .fields #[vl, vu, vs] } }
  refine tail_any (ops := [.ref a, .ref s4.heap.objs.size]) ht.isList.typeIs (PySem.slot_list_getitem.lookup) ?_ (by with_unfolding_all rfl)
  refine wpAny_getItem_list_slice ht.isList (Heap.IsSliceOf.new _ vl vu vs) pl pu ps (by decide) ?_ (by rw [List.size_toArray]; omega)
  have e : slicePick its.toArray (some (i : Int)) none (some 2) = (step2 i its).toArray := by
    unfold slicePick step2
    have b : sliceBounds (some (i : Int)) none (some 2) its.toArray.size = (((min i its.length : Nat) : Int), (its.length : Int), 2) := by
      simp only [sliceBounds, Option.getD_some, List.size_toArray]
      have h0 : ¬ (i : Int) < 0 := by omega
      simp only [h0, if_false, show (2 : Int) > 0 by decide, if_true]
      congr 1
      omega
    rw [b]
    simp
  rw [e]
  have hl2 : (step2 i xs).length ≤ sizeLine := by
    refine Nat.le_trans (List.length_filterMap_le _ _) ?_
    unfold sliceRange
    rw [List.length_map, List.length_range]
    simp only [show (2 : Int) > 0 by decide, if_true]
    split <;> omega
  refine ⟨.ref _, _, I5.laid (t' := s4.toks) (o := .lst (step2 i xs)) (fun b ob q => Heap.get?_push_of_some _ q) (Nat.le_refl _) ?_, rfl, q _ (I5.hok.fresh (Nat.le_refl _))⟩
  refine ⟨hl2, _, 0, ?_, Heap.get?_push_size _ rfl⟩
  unfold step2
  rw [hlen]
  exact vals_pick r _
/-! ### a class in a slot -/
theorem pe_mkL {X : Cx} {C : Addr} {k i : Nat} {sp : Sp} {dvs : List V} {x y : Str} {p pos : Pos} {e : Expr} {es : List Expr} {t : TA} (h : Mkr X.prog X.w X.K X.mg X.base y C k sp dvs) (hr : Room (k + 1) X.A) (hN : X.N[i]? = some x) (hv : Vis X.env.scope x) (ha : PA X (e :: es) t)
    (hdb : (x == ("__debug__" : Str)) = false := by decide) (hcd : (x == ("__classdict__" : Str)) = false := by decide)
    (he : starEach (e :: es) X.env = (false, eval e X.env) :: starEach es X.env := by rfl) (hpl : (backTo pos (starEach es X.env)).any (·.1) = false := by rfl) : PE X (.Call (.Name x p) (e :: es) [] pos) (fun σ H Q => σ[i]? = some (some (.ref C)) ∧ tMake C sp dvs E0 t σ H Q) := by
  obtain ⟨_, f, fd, ps, ds, M, hb, hd, F⟩ := h
  refine ⟨fun pins s σ H Q I h => ?_⟩
  obtain ⟨hs, ht⟩ := h
  refine wpAny_Call_Name_kw (thn ((pe_var (pos := p) hN hv hdb hcd).run pins s σ H (fun v H1 => v = .ref C ∧ H1 = H) I ⟨.ref C, hs, rfl, rfl⟩) fun u s1 ⟨v, H1, I1, r1, q1⟩ => ?_)
  obtain ⟨rfl, rfl⟩ := q1
  cases r1
  refine PySem.W.callWith_K (h₀ := X.base) I.ok.mod.kin M.kp (thn (ha.run pos pins s1 σ _ _ I1 ht) fun us s2 ⟨vs, H2, I2, r, q⟩ => ⟨I2.kIn, ?_⟩) he hpl
  exact run_make M F hr hb hd pass0 I2 r q
end RV
/-! class methods; repr of a text; texts of sums, cut again -/
namespace RV
open PySem L2 PyProof.Rows ClX
/-- the class C has a class method m that promises sp -/
def ClsM (P : Program) (w : World) (K : PySem.W.Frag) (mg : Str → Option Value) (base : Heap) (C : Addr) (m : Str) (k : Nat) (ps : List Str) (sp : Sp) : Prop :=
  ∃ mc p g fd, CRead K C mc ∧ CMet K C mc m p g ∧ Binds K fd ps [] ∧ FnOk P w K mg base CX0 k g fd ps sp
/-- .. called by keywords -/
def ClsMK (P : Program) (w : World) (K : PySem.W.Frag) (mg : Str → Option Value) (base : Heap) (C : Addr) (m : Str) (k : Nat) (ks : List Str) (sp : Sp) (gV : List V → List V → List V) : Prop :=
  ∃ mc p g fd ps gg, CRead K C mc ∧ CMet K C mc m p g ∧ KBn K fd ps 1 ks gg gV ∧ FnOk P w K mg base CX0 k g fd ps sp
theorem ClsM.irr {P : Program} {w : World} {K : PySem.W.Frag} {mg : Str → Option Value} {base : Heap} {C : Addr} {m : Str} {k : Nat} {ps : List Str} {sp : Sp} (h : ClsM P w K mg base C m k ps sp) : ClsM P w K mg base C m k ps (Irr sp) := by
  obtain ⟨mc, p, g, fd, a, b, c, F⟩ := h
  exact ⟨mc, p, g, fd, a, b, c, F.imp fun _ _ _ _ z => irr_of z⟩
theorem ClsMK.irr {P : Program} {w : World} {K : PySem.W.Frag} {mg : Str → Option Value} {base : Heap} {C : Addr} {m : Str} {k : Nat} {ks : List Str} {sp : Sp} {gV : List V → List V → List V} (h : ClsMK P w K mg base C m k ks sp gV) : ClsMK P w K mg base C m k ks (Irr sp) gV := by
  obtain ⟨mc, p, g, fd, ps, gg, a, b, c, F⟩ := h
  exact ⟨mc, p, g, fd, ps, gg, a, b, c, F.imp fun _ _ _ _ z => irr_of z⟩
section
variable {X : Cx} {C : Addr} {k : Nat} {m : Str} {ps ks : List Str} {sp : Sp} {gV : List V → List V → List V} {o e : Expr} {es : List Expr} {kws : List Keyword} {t tk : TA} {ta : TE} {pos apos : Pos} {pl : Sem Bool}
theorem pe_cm (h : ClsM X.prog X.w X.K X.mg X.base C m k ps sp) (hr : Room k X.A) (he : PE X o ta) (ha : PA X (e :: es) t)
    (hst : starEach (e :: es) X.env = (false, eval e X.env) :: starEach es X.env := by rfl) (hpl : (backTo pos (starEach es X.env)).any (·.1) = false := by rfl)
    (ht : eval (.Call (.Attribute o m apos) (e :: es) [] pos) X.env = (do
      let ov ← eval o X.env
      standAt apos.atName
      let (f, first) ← holding [ov] (getMethod ov m pl)
      callWith pos f first (backTo pos (starEach (e :: es) X.env)) (backToKw pos (keywordEach [] X.env))) := by rfl) :
    PE X (.Call (.Attribute o m apos) (e :: es) [] pos) (tCMeth C sp E0 ta t) := by
  obtain ⟨mc, p, g, fd, r, c, hb, F⟩ := h
  exact pe_cmeth he r c ((FnOk.raw F hb .nil).imp fun vs H Q E z => by rw [List.append_nil]; exact z) hr pass0 ha hst hpl ht
def tCMethK (C : Addr) (n : Nat) (sp : Sp) (gV : List V → List V → List V) (ta : TE) (tk : TA) : TE := fun σ H Q => ta σ H fun x H1 => x = .ref C ∧ tk σ H1 fun zs H2 => zs.length = n ∧ sp (gV [.ref C] zs) H2 Q E0
theorem pe_cmK (h : ClsMK X.prog X.w X.K X.mg X.base C m k ks sp gV) (hr : Room k X.A) (he : PE X o ta) (hkw : PK X kws tk)
    (hall : (backToKw pos (keywordEach kws X.env)).all (·.1.isSome) = true := by rfl) (hks : (backToKw pos (keywordEach kws X.env)).filterMap (·.1) = ks := by rfl)
    (hpl : ((backTo pos (starEach [] X.env)).any (·.1) || (backToKw pos (keywordEach kws X.env)).any (·.1.isNone)) = false := by rfl)
    (ht : eval (.Call (.Attribute o m apos) [] kws pos) X.env = (do
      let ov ← eval o X.env
      standAt apos.atName
      let (f, first) ← holding [ov] (getMethod ov m pl)
      callWith pos f first (backTo pos (starEach [] X.env)) (backToKw pos (keywordEach kws X.env))) := by rfl) :
    PE X (.Call (.Attribute o m apos) [] kws pos) (tCMethK C ks.length sp gV ta tk) := by
  obtain ⟨mc, p, g, fd, ps, gg, r, c, hb, F⟩ := h
  refine ⟨fun pins s σ H Q I h => ?_⟩
  refine PySem.W.methodCall_KW (pl := pl) (thn (he.run pins s σ H _ I h) fun u s1 ⟨x, H1, I1, rx, ex, q⟩ => ?_) ht
  subst ex
  obtain rfl : u = Value.ref C := rx
  refine getmethcm_ok I1 r c fun s2 I2 => ?_
  refine PySem.W.callWith_of (P := PySem.W.MethP X.K s1.heap.objs.size g (.ref C)) hpl (PySem.W.keeps_M c.fi) (evalArgs_kw2_nil hall (thn (hkw.run pos _ s2 σ H1 _ I2 q) fun ws s3 ⟨zs, H2, I3, rz, l2, q2⟩ => ⟨⟨pin_at I3, I3.kIn⟩, ?_⟩))
  rw [hks]
  have r2 : Vals (gV [.ref C] zs) (gg [.ref C] ws) := hb.rel (.cons rfl .nil) rz
  have z : wpAny (model X.prog X.w) X.A (call (.ref s1.heap.objs.size) [] (ks.zip ws)) (EP X ((s1.heap.objs.size, PySem.W.methodObj (.ref g) (.ref C)) :: pins) σ Q) X.xe s3 :=
    wpAny_call (PySem.W.method_call (pin_at I3) (codeAny_mono (F.run X.A X.stack s3 H2 ⟨[.ref C], ks.zip ws⟩ (gg [.ref C] ws) (gV [.ref C] zs) Q E0 hr I3.env0 (hb.to s3 [.ref C] ws I3.kIn rfl (rz.length.symm.trans l2)) r2 q2) fun r s' hq => ?_))
  · exact thn z fun _ _ y => unpinE y
  · cases r with
    | error e => exact pass0 _ σ H2 s3 e s' I3 hq
    | ok fl =>
      cases fl with
      | ret u => exact I3.after hq
      | next => exact False.elim hq
      | brk => exact False.elim hq
      | cont => exact False.elim hq
@[irreducible] def rReprS : List V → Hp → VK → Prop := fun xs H Q => ∃ x : Str, xs = [.str x] ∧ (reprText x).length ≤ sizeLine ∧ Q (.str (reprText x)) H
theorem call_repr_str : CallR X (.builtin "repr") rReprS := by
  intro pins s σ H xs us Q I rx h
  unfold rReprS at h
  obtain ⟨x, rfl, hl, q⟩ := h
  cases rx with
  | cons r1 r2 =>
    cases r2
    obtain ⟨t, rfl⟩ := r1
    exact PySem.P.repr_of_str ⟨.str (reprText x), H, I.tok _, ⟨_, rfl⟩, q⟩ hl
end
end RV
/-! the text of a sum, cut into its words -/
namespace RV
open PySem L2 PyProof.Rows TL
def sgn (q : Str × Int) : Str := if q.2 < 0 then "-" else "+"
def parts (qs : List (Str × Int)) : List Str := qs.flatMap fun q => [sgn q, wo q.1 q.2]
def partsZ (qs : List (Str × Int)) : List Str := if qs = [] then ["+", "0"] else parts qs
def apart (z : Str) : Str := if Txt.startswith z "-" then ("- " : Str) ++ cutS z (some 1) none else ("+ " : Str) ++ z
theorem cd_em : cd Str.empty = [] := by decide +kernel
theorem cd_sp : cd " " = [32] := by decide +kernel
theorem cd_mi : cd "-" = [45] := by decide +kernel
theorem cd_pl : cd "+" = [43] := by decide +kernel
theorem cd_st : cd "*" = [42] := by decide +kernel
theorem cd_no : cd "" = [] := by decide +kernel
theorem cd_ze : cd "0" = [48] := by decide +kernel
theorem joinL_nil : ∀ l : List (List Nat), joinL [] l = l.flatten
  | [] => rfl
  | [p] => by simp [joinL]
  | p :: q :: r => by
    show p ++ ([] ++ joinL [] (q :: r)) = _
    rw [joinL_nil (q :: r), List.nil_append]
    rfl
theorem cd_fu (q : Str × Int) : cd (fu q) = 32 :: (cd (sgn q) ++ (32 :: cd (wo q.1 q.2))) := by
  unfold fu sgn
  rw [cd_app, cd_app, cd_app, cd_app, cd_em, cd_sp]
  simp
theorem cd_txt (q : Str × Int) (qs : List (Str × Int)) : cd (txt (q :: qs)) = cd (fi q) ++ (qs.map fun r => cd (fu r)).flatten := by
  unfold txt
  rw [join_eq]
  show tl _ = _
  rw [tl_join, show tl "" = [] from cd_no, joinL_nil]
  show ((fi q :: qs.map fu).map tl).flatten = _
  rw [List.map_cons, List.flatten_cons, List.map_map]
  rfl
theorem join_parts : ∀ (q : Str × Int) (qs : List (Str × Int)), joinL [32] ((parts (q :: qs)).map tl) = cd (sgn q) ++ (32 :: (cd (wo q.1 q.2) ++ (qs.map fun r => cd (fu r)).flatten))
  | q, [] => by simp [parts, joinL]
  | q, r :: qs => by
    have ih := join_parts r qs
    show tl (sgn q) ++ ([32] ++ (tl (wo q.1 q.2) ++ ([32] ++ joinL [32] ((parts (r :: qs)).map tl)))) = _
    rw [ih, List.map_cons, List.flatten_cons, cd_fu]
    simp
/-! the signs of words -/
def okC (c : Nat) : Bool := tailC c || c == 42
theorem okC_of {c : Nat} (h : tailC c = true) : okC c = true := by unfold okC; rw [h]; rfl
theorem num_cd {z : Int} (h : 0 ≤ z) : cd (num z) = numL z.toNat := by
  have := tl_num z.toNat
  rwa [Int.toNat_of_nonneg h] at this
theorem num_dig {z : Int} (h : 0 ≤ z) : ∀ c ∈ cd (num z), digC c = true := by
  rw [num_cd h]
  intro c hc
  have := numL_digits z.toNat c hc
  simp only [digC, Bool.and_eq_true, decide_eq_true_eq]
  omega
theorem ab_nn (z : Int) : 0 ≤ ab z := by unfold ab; split <;> omega
theorem wo_ok {x : Str} {z : Int} (hx : IsNm x) : ∀ c ∈ cd (wo x z), okC c = true := by
  have h1 : ∀ c ∈ cd x, okC c = true := fun c hc => okC_of (List.all_eq_true.mp (isNm_all hx) c hc)
  unfold wo
  split
  · exact h1
  · intro c hc
    rw [cd_app, cd_app, cd_app, cd_em, cd_st, List.nil_append] at hc
    rcases List.mem_append.mp hc with hc | hc
    · rcases List.mem_append.mp hc with hc | hc
      · exact okC_of (by rw [tailC, num_dig (ab_nn z) c hc, Bool.or_true])
      · rw [List.mem_singleton.mp hc]
        rfl
    · exact h1 c hc
theorem okC_32 {c : Nat} (h : okC c = true) : c ≠ 32 ∧ c ≠ 45 ∧ c < 127 ∧ 42 ≤ c := by
  simp only [okC, tailC, lowC, digC, Bool.or_eq_true, Bool.and_eq_true, decide_eq_true_eq, beq_iff_eq] at h
  omega
theorem wo_ne {x : Str} {z : Int} (hx : IsNm x) : ∃ c r, cd (wo x z) = c :: r := by
  cases e : cd (wo x z) with
  | cons c r => exact ⟨c, r, rfl⟩
  | nil =>
    exfalso
    unfold wo at e
    split at e
    · have := (isNm_len hx).1
      rw [show x.cps.toList = [] from e] at this
      exact absurd this (by decide)
    · rw [cd_app, cd_app, cd_st] at e
      simp at e
theorem pre_one (s c : Nat) (r : List Nat) : pre [s] (c :: r) = (c == s) := by simp [pre]
theorem sw_cons {z : Str} {c : Nat} {r : List Nat} (h : cd z = c :: r) : Txt.startswith z "-" = (c == 45) := by
  have hy : tl "-" ≠ [] := by rw [show tl "-" = [45] from cd_mi]; simp
  have i := at_iff (x := z) hy 0
  rw [List.drop_zero, show tl z = c :: r from h, show tl "-" = [45] from cd_mi, pre_one] at i
  have e : Txt.startswith z "-" = true ↔ StrLaws.At z "-" z.length 0 := by
    unfold Txt.startswith StrLaws.At
    rw [Bool.and_eq_true, decide_eq_true_eq]
  cases hb : (c == 45) with
  | true => exact e.mpr (i.mpr hb)
  | false =>
    cases hs : Txt.startswith z "-" with
    | false => rfl
    | true => rw [i.mp (e.mp hs)] at hb; cases hb
theorem apart_txt {qs : List (Str × Int)} (h : ∀ q ∈ qs, IsNm q.1) : apart (txt qs) = Txt.join " " (partsZ qs) := by
  refine cd_inj ?_
  rw [join_eq]
  show _ = tl _
  rw [tl_join, show tl " " = [32] from cd_sp]
  cases qs with
  | nil => decide +kernel
  | cons q qs =>
    have e : partsZ (q :: qs) = parts (q :: qs) := if_neg (by simp)
    rw [e, join_parts]
    obtain ⟨c, r, hc⟩ := wo_ne (z := q.2) (h q List.mem_cons_self)
    have c45 := (okC_32 (wo_ok (z := q.2) (h q List.mem_cons_self) c (by rw [hc]; exact List.mem_cons_self))).2.1
    have ct := cd_txt q qs
    unfold apart sgn
    unfold fi at ct
    by_cases hz : q.2 < 0
    · rw [if_pos hz, cd_app, cd_mi] at ct
      rw [if_pos hz, sw_cons (c := 45) (by rw [ct]; rfl), if_pos (by rfl), cd_app, cd_rest, ct, cd_mi]
      have : cd ("- " : Str) = [45, 32] := by decide +kernel
      rw [this]
      simp
    · rw [if_neg hz, cd_app, cd_no, List.nil_append] at ct
      rw [if_neg hz, sw_cons (c := c) (by rw [ct, hc]; rfl), if_neg (by simp [c45]), cd_app, ct, cd_pl]
      have : cd ("+ " : Str) = [43, 32] := by decide +kernel
      rw [this]
      simp
theorem parts_free {qs : List (Str × Int)} (h : ∀ q ∈ qs, IsNm q.1) : ∀ p ∈ partsZ qs, 32 ∉ tl p := by
  unfold partsZ
  split
  · decide +kernel
  · intro p hp
    obtain ⟨q, hq, hp⟩ := List.mem_flatMap.mp hp
    simp only [List.mem_cons, List.not_mem_nil, or_false] at hp
    rcases hp with rfl | rfl
    · unfold sgn
      split <;> decide +kernel
    · intro hc
      exact (okC_32 (wo_ok (h q hq) 32 hc)).1 rfl
theorem split_apart {qs : List (Str × Int)} (h : ∀ q ∈ qs, IsNm q.1) : Txt.split (Txt.join " " (partsZ qs)) " " = partsZ qs := by
  refine split_join (s := 32) (S := []) cd_sp (by decide +kernel) (fun e => ?_) (parts_free h)
  unfold partsZ at e
  split at e
  · cases e
  · rename_i hn
    cases qs with
    | nil => exact hn rfl
    | cons q qs => simp [parts] at e
/-! a word, cut at its star -/
theorem star_one {x : Str} {z : Int} (hx : IsNm x) (h1 : ab z = 1) : Txt.rpartition (wo x z) "*" = (Str.empty, Str.empty, x) := by
  unfold wo
  rw [if_pos h1]
  refine rpart_none (s := 42) cd_st fun hc => ?_
  have := List.all_eq_true.mp (isNm_all hx) 42 hc
  exact absurd this (by decide)
theorem star_two {x : Str} {z : Int} (hx : IsNm x) (h1 : ¬ ab z = 1) : Txt.rpartition (wo x z) "*" = (num (ab z), ("*" : Str), x) := by
  unfold wo
  rw [if_neg h1]
  have e : Str.empty ++ num (ab z) = num (ab z) := cd_inj (by rw [cd_app, cd_em, List.nil_append])
  rw [e]
  refine rpart_app (s := 42) cd_st fun hc => ?_
  have := List.all_eq_true.mp (isNm_all hx) 42 hc
  exact absurd this (by decide)
theorem star_zero : Txt.rpartition "0" "*" = (Str.empty, Str.empty, ("0" : Str)) := rpart_none (s := 42) (a := "0") cd_st (by decide +kernel)
/-! every other of the words -/
theorem range_map {α β : Type} (f : α → β) (l : List α) : (List.range l.length).filterMap (fun j => (l[j]?).map f) = l.map f := by
  induction l with
  | nil => rfl
  | cons a l ih =>
    rw [List.length_cons, List.range_succ_eq_map]
    have e : (List.filterMap (fun j => ((a :: l)[j]?).map f) (0 :: (List.range l.length).map Nat.succ)) = f a :: List.filterMap (fun j => ((a :: l)[j]?).map f) ((List.range l.length).map Nat.succ) := List.filterMap_cons_some rfl
    rw [e, List.filterMap_map, List.map_cons, ← ih]
    rfl
theorem flat_even {α : Type} (f g : α → V) : ∀ (l : List α) (j : Nat), (l.flatMap fun q => [f q, g q])[2 * j]? = (l[j]?).map f ∧ (l.flatMap fun q => [f q, g q])[2 * j + 1]? = (l[j]?).map g
  | [], j => by simp
  | q :: l, 0 => by simp
  | q :: l, j + 1 => by
    obtain ⟨a, b⟩ := flat_even f g l j
    have e : (q :: l).flatMap (fun q => [f q, g q]) = f q :: g q :: l.flatMap fun q => [f q, g q] := rfl
    rw [e, show 2 * (j + 1) = 2 * j + 1 + 1 by omega, show 2 * j + 1 + 1 + 1 = (2 * j + 1) + 1 + 1 by omega]
    simp only [List.getElem?_cons_succ]
    exact ⟨a, b⟩
theorem flat_len {α : Type} (f g : α → V) (l : List α) : (l.flatMap fun q => [f q, g q]).length = 2 * l.length := by
  induction l with
  | nil => rfl
  | cons q l ih =>
    show (f q :: g q :: l.flatMap fun q => [f q, g q]).length = _
    rw [List.length_cons, List.length_cons, ih, List.length_cons]
    omega
theorem step2_even {α : Type} (f g : α → V) (l : List α) : step2 0 (l.flatMap fun q => [f q, g q]) = l.map f := by
  unfold step2
  rw [flat_len, Nat.zero_min, ← range_map f l]
  unfold sliceRange
  have hc : (if (2 : Int) > 0 then (if ((0 : Nat) : Int) < ((2 * l.length : Nat) : Int) then (((2 * l.length : Nat) : Int) - ((0 : Nat) : Int) + 2 - 1) / 2 else 0) else (if ((0 : Nat) : Int) > ((2 * l.length : Nat) : Int) then (((0 : Nat) : Int) - ((2 * l.length : Nat) : Int) - 2 - 1) / (-2) else 0)).toNat = l.length := by
    simp only [show (2 : Int) > 0 by decide, if_true]
    split <;> omega
  simp only [hc]
  rw [List.filterMap_map]
  congr 1
  funext j
  show (l.flatMap fun q => [f q, g q])[(((0 : Nat) : Int) + 2 * (j : Int)).toNat]? = _
  rw [show (((0 : Nat) : Int) + 2 * (j : Int)).toNat = 2 * j by omega]
  exact (flat_even f g l j).1
theorem step2_odd {α : Type} (f g : α → V) (l : List α) : step2 1 (l.flatMap fun q => [f q, g q]) = l.map g := by
  cases l with
  | nil => rfl
  | cons q0 l0 =>
    generalize hl : q0 :: l0 = l
    have h1 : 1 ≤ l.length := by rw [← hl, List.length_cons]; omega
    unfold step2
    rw [flat_len, Nat.min_eq_left (by omega), ← range_map g l]
    unfold sliceRange
    have hc : (if (2 : Int) > 0 then (if ((1 : Nat) : Int) < ((2 * l.length : Nat) : Int) then (((2 * l.length : Nat) : Int) - ((1 : Nat) : Int) + 2 - 1) / 2 else 0) else (if ((1 : Nat) : Int) > ((2 * l.length : Nat) : Int) then (((1 : Nat) : Int) - ((2 * l.length : Nat) : Int) - 2 - 1) / (-2) else 0)).toNat = l.length := by
      simp only [show (2 : Int) > 0 by decide, if_true]
      split <;> omega
    simp only [hc]
    rw [List.filterMap_map]
    congr 1
    funext j
    show (l.flatMap fun q => [f q, g q])[(((1 : Nat) : Int) + 2 * (j : Int)).toNat]? = _
    rw [show (((1 : Nat) : Int) + 2 * (j : Int)).toNat = 2 * j + 1 by omega]
    exact (flat_even f g l j).2
end RV
/-! what reading a text promises -/
namespace RV
open PySem L2 PyProof.Rows TL
def sp_digits : Sp := fun vs H Q _ => ∃ z : Int, vs = [.str (num z)] ∧ 0 ≤ z ∧ Q (.bl true) H
def sp_readnum : Sp := fun vs H Q _ => ∃ z : Int, vs = [.str (num z)] ∧ 0 ≤ z ∧ z < 10 ^ 60 ∧ Q (.int z) H
def sp_apart : Sp := fun vs H Q _ => ∃ z : Str, vs = [.str z] ∧ z.length ≤ 1000000 ∧ Q (.str (apart z)) H
/-- a word of a sum's text -/
def sp_rterm (_K : PySem.W.Frag) : Sp := fun vs H Q _ => (∃ q : Str × Int, vs = [.str (sgn q), .str (wo q.1 q.2)] ∧ IsNm q.1 ∧ q.2.natAbs < 10 ^ 60 ∧ ∀ t H', Kp H [(t, oP q)] H' → Q (.ref t) H') ∨
  (vs = [.str "+", .str "0"] ∧ ∀ H', Same H H' → Q .non H')
def sp_termsin (_K : PySem.W.Frag) : Sp := fun vs H Q _ => ∃ qs : List (Str × Int), vs = [.str (txt qs)] ∧ Due qs ∧ ∀ (us : List TP) (m : Addr) H', prs us = qs → Kp H ((m, .tup (vP us)) :: lP us) H' → Q (.ref m) H'
def sp_read (C : Addr) : Sp := fun vs H Q _ => ∃ qs : List (Str × Int), vs = [.ref C, .str (txt qs)] ∧ Due qs ∧ ∀ (x dx m : Addr) (us : List TP) H', prs us = qs → Kp H (lS C x dx m us) H' → Q (.ref x) H'
theorem all_cps {p : Nat → Bool} {x : Str} (h : ∀ c ∈ cd x, p c = true) : x.cps.all p = true := by
  rw [← Array.all_toList]
  exact List.all_eq_true.mpr h
theorem num_ascii {z : Int} (h : 0 ≤ z) : Txt.isascii (num z) = true := all_cps fun c hc => by
  have := num_dig h c hc
  simp only [digC, Bool.and_eq_true, decide_eq_true_eq] at this ⊢
  omega
theorem dig_uni {c : Nat} (h : digC c = true) : Unicode.isDigit c = true := by
  simp only [digC, Bool.and_eq_true, decide_eq_true_eq] at h
  have : c = 48 ∨ c = 49 ∨ c = 50 ∨ c = 51 ∨ c = 52 ∨ c = 53 ∨ c = 54 ∨ c = 55 ∨ c = 56 ∨ c = 57 := by omega
  rcases this with e | e | e | e | e | e | e | e | e | e <;> subst e <;> decide +kernel
theorem num_len0 {z : Int} (h : 0 ≤ z) : 1 ≤ (num z).length := by
  rw [cd_len, num_cd h]
  exact List.length_pos_iff.mpr (numL_ne _)
theorem num_digit {z : Int} (h : 0 ≤ z) : Txt.isdigit (num z) = true := by
  unfold Txt.isdigit
  rw [Bool.and_eq_true, decide_eq_true_eq]
  exact ⟨num_len0 h, all_cps fun c hc => dig_uni (num_dig h c hc)⟩
theorem num_len60 {z : Int} (h : 0 ≤ z) (h1 : z < 10 ^ 60) : (num z).length ≤ 60 := by
  rw [cd_len, num_cd h]
  refine numL_len (by decide) ?_
  have : ((z.toNat : Nat) : Int) < ((10 ^ 60 : Nat) : Int) := by
    rw [Int.toNat_of_nonneg h]
    exact h1
  exact Int.ofNat_lt.mp this
/-- int of a 0 and the digits -/
theorem int_back {z : Int} (h : 0 ≤ z) (h1 : z < 10 ^ 60) : intText? (("0" : Str) ++ num z) = some z := by
  have e : cd (("0" : Str) ++ num z) = 48 :: numL z.toNat := by rw [cd_app, cd_ze, num_cd h]; rfl
  have l := num_len60 h h1
  rw [cd_len, num_cd h] at l
  have r := intText_digits (x := ("0" : Str) ++ num z) (by
    rw [show (("0" : Str) ++ num z).cps.toList = 48 :: numL z.toNat from e]
    intro c hc
    rcases List.mem_cons.mp hc with rfl | hc
    · decide
    · exact numL_digits _ c hc) (by rw [show (("0" : Str) ++ num z).cps.toList = 48 :: numL z.toNat from e]; simp) (by
    rw [cd_len, e, List.length_cons]
    omega)
  rw [r, show (("0" : Str) ++ num z).cps.toList = 48 :: numL z.toNat from e]
  have v : NumText.digitsVal (48 :: numL z.toNat) = NumText.digitsVal (numL z.toNat) := rfl
  rw [v, numL_val, Int.toNat_of_nonneg h]
theorem txt_len {qs : List (Str × Int)} (d : Due qs) : (txt qs).length ≤ 200000 := by
  have h : ∀ q ∈ qs, IsNm q.1 ∧ q.2.natAbs < 10 ^ 64 := fun q hq => ⟨d.nm q hq, Nat.lt_of_le_of_lt (tot_mem hq) (Nat.lt_of_le_of_lt d.tt (by decide))⟩
  have e : (txt qs).length = ((pieces qs).map (·.length)).sum := by
    unfold txt
    rw [join_eq, len_tl, tl_join, show tl "" = [] from cd_no, joinL_nil, List.length_flatten, List.map_map]
    exact congrArg List.sum (List.map_congr_left fun x _ => (len_tl x).symm)
  have h1 := pieces_sum h
  have h2 := d.ln
  rw [e]
  omega
theorem Kp.thn {H0 H H' : Hp} {L L' : List (Addr × HO)} (h : Kp H0 L H) (k : Kp H L' H') : Kp H0 (L' ++ L) H' := ⟨fun b o e => k.sm b o (h.sm b o e), fun p hp => (List.mem_append.mp hp).elim (fun z => ⟨h.none0 (k.nw p z).1, (k.nw p z).2⟩) fun z => ⟨(h.nw p z).1, k.sm _ _ (h.nw p z).2⟩⟩
theorem Kp.put {H0 H : Hp} {L : List (Addr × HO)} {D : Addr} {o : HO} (h : Kp H0 L H) (h0 : H0 D = none) (hp : ∀ p ∈ L, p.1 ≠ D) : Kp H0 L (upd H D o) :=
  ⟨fun b u e => by rw [upd_ne (ne_of_none e h0)]; exact h.sm b u e, fun p hq => ⟨(h.nw p hq).1, by rw [upd_ne (hp p hq)]; exact (h.nw p hq).2⟩⟩
theorem Kp.off {H0 H : Hp} {us : List TP} {D : Addr} {xs : List V} (h : Kp H0 (lP us) H) (e : H D = some (.lst xs)) : ∀ p ∈ lP us, p.1 ≠ D := fun p hp z => by
  have q := (h.nw p hp).2
  rw [z, e] at q
  obtain ⟨u, _, rfl⟩ := List.mem_map.mp hp
  cases Option.some.inj q
/-- [f(s, w) for s, w in zip(xs, ys)]: f may make things -/
theorem cutS_all (z : Str) (k : Nat) (h : z.length ≤ k) : cutS z none (some (k : Int)) = z := cd_inj (by rw [cd_pre, List.take_of_length_le (by rw [← cd_len]; exact h)])
end RV
/-! the text of a sum, term by term -/
namespace RV
open PySem L2 PyProof.Rows TL
/-- the line behind some terms -/
def line (qs : List (Str × Int)) : Str := if qs = [] then "" else txt qs
theorem line_ne {q : Str × Int} {qs : List (Str × Int)} (h : IsNm q.1) : ¬ line (q :: qs) = "" := fun e => by
  have e2 := congrArg cd e
  rw [line, if_neg (by simp), cd_txt, cd_no] at e2
  obtain ⟨c, r, hc⟩ := wo_ne (z := q.2) h
  unfold fi at e2
  rw [cd_app, hc] at e2
  simp at e2
theorem wo_law (x : Str) (z : Int) (h : ¬ ab z = 1) : (num (ab z) ++ ("*" : Str)) ++ x = wo x z := cd_inj (by
  unfold wo
  rw [if_neg h, cd_app, cd_app, cd_app, cd_app, cd_app, cd_em, List.nil_append])
theorem line_one (q : Str × Int) : (if q.2 < 0 then ("-" : Str) ++ wo q.1 q.2 else wo q.1 q.2) = line [q] := cd_inj (by
  rw [show line [q] = txt [q] from if_neg (by simp), cd_txt]
  unfold fi
  split
  · rw [cd_app]; simp
  · rw [cd_app, cd_no]; simp)
theorem line_more (q r : Str × Int) (qs : List (Str × Int)) : (line (q :: qs) ++ (if r.2 < 0 then (" - " : Str) else " + ")) ++ wo r.1 r.2 = line (q :: qs ++ [r]) := cd_inj (by
  rw [show line (q :: qs ++ [r]) = txt (q :: (qs ++ [r])) from if_neg (by simp), show line (q :: qs) = txt (q :: qs) from if_neg (by simp), cd_txt, List.map_append, List.flatten_append, cd_app, cd_app, cd_txt]
  have e : (List.map (fun r => cd (fu r)) [r]).flatten = cd (fu r) := by simp
  rw [e, cd_fu]
  have h1 : cd " - " = [32, 45, 32] := by decide +kernel
  have h2 : cd " + " = [32, 43, 32] := by decide +kernel
  unfold sgn
  split
  · rw [h1, cd_mi]; simp
  · rw [h2, cd_pl]; simp)
theorem line_txt (qs : List (Str × Int)) : (if line qs = "" then ("0" : Str) else line qs) = txt qs ∨ ∃ q r, qs = q :: r := by
  cases qs with
  | nil => left; decide +kernel
  | cons q r => exact .inr ⟨q, r, rfl⟩
theorem line_len {qs : List (Str × Int)} (h : ∀ q ∈ qs, IsNm q.1 ∧ q.2.natAbs < 10 ^ 64) (hl : qs.length ≤ 60) : (line qs).length ≤ 200000 := by
  unfold line
  split
  · decide +kernel
  · have e : (txt qs).length = ((pieces qs).map (·.length)).sum := by
      unfold txt
      rw [join_eq, len_tl, tl_join, show tl "" = [] from cd_no, joinL_nil, List.length_flatten, List.map_map]
      exact congrArg List.sum (List.map_congr_left fun x _ => (len_tl x).symm)
    have h1 := pieces_sum h
    rw [e]
    omega
def sp_sumtext (K : PySem.W.Frag) : Sp := fun vs H Q _ => ∃ (l : Addr) (ds : List TP), vs = [.ref l] ∧ SqL K H l (vP ds) ∧ TPs K H ds ∧ Due (prs ds) ∧ Q (.str (txt (prs ds))) H
end RV
/-! steps over a ledger: sums read, texts shown -/
namespace RV
open PySem L2 PyProof.Rows TL
def gR (vs zs : List V) : List V := match vs, zs with
  | [x], [t] => [x, t]
  | _, _ => []
theorem txt_ch {qs : List (Str × Int)} (h : ∀ q ∈ qs, IsNm q.1) : ∀ c ∈ cd (txt qs), c < 127 := by
  cases qs with
  | nil => decide +kernel
  | cons q qs =>
    have hw : ∀ r ∈ q :: qs, ∀ c ∈ cd (wo r.1 r.2), c < 127 := fun r hr c hc => (okC_32 (wo_ok (h r hr) c hc)).2.2.1
    intro c hc
    rw [cd_txt] at hc
    rcases List.mem_append.mp hc with hc | hc
    · unfold fi at hc
      rw [cd_app] at hc
      rcases List.mem_append.mp hc with hc | hc
      · split at hc
        · rw [cd_mi] at hc
          rw [List.mem_singleton.mp hc]
          decide
        · rw [cd_no] at hc
          cases hc
      · exact hw q List.mem_cons_self c hc
    · obtain ⟨l, hl, hc⟩ := List.mem_flatten.mp hc
      obtain ⟨r, hr, rfl⟩ := List.mem_map.mp hl
      rw [cd_fu] at hc
      rcases List.mem_cons.mp hc with rfl | hc
      · decide
      rcases List.mem_append.mp hc with hc | hc
      · unfold sgn at hc
        split at hc
        · rw [cd_mi] at hc
          rw [List.mem_singleton.mp hc]
          decide
        · rw [cd_pl] at hc
          rw [List.mem_singleton.mp hc]
          decide
      · rcases List.mem_cons.mp hc with rfl | hc
        · decide
        · exact hw r (List.mem_cons_of_mem _ hr) c hc
theorem reprS_txt {qs : List (Str × Int)} {H : Hp} {Q : VK} (d : Due qs) (k : Q (.str (reprText (txt qs))) H) : rReprS [.str (txt qs)] H Q := by
  unfold rReprS
  refine ⟨_, rfl, ?_, k⟩
  have h1 := StrLaws.reprText_len (txt qs) fun c hc => Nat.lt_of_lt_of_le (txt_ch d.nm c hc) (by decide)
  have h2 := txt_len d
  exact Nat.le_trans (show _ ≤ 2000002 by omega) (by decide)
theorem tot_mul {b : Nat} : ∀ {qs : List (Str × Int)}, (∀ q ∈ qs, q.2.natAbs ≤ b) → tot qs ≤ qs.length * b
  | [], _ => Nat.zero_le _
  | q :: qs, h => by
    have a := h q List.mem_cons_self
    have c := tot_mul fun r hr => h r (List.mem_cons_of_mem q hr)
    have e : tot (q :: qs) = q.2.natAbs + tot qs := rfl
    rw [e, List.length_cons, Nat.succ_mul]
    omega
section
variable {K : PySem.W.Frag} {C a l x : Addr} {n : Nat} {L : List (Addr × HO)} {H0 H : Hp} {us ds : List TP} {Q : VK} {E : XK} {qs : List (Str × Int)}
theorem read_step (h : Has H0 a n L H) (d : Due qs) (k : ∀ (x dx m : Addr) (us : List TP) H', prs us = qs → Has H0 a n (lS C x dx m us ++ L) H' → Q (.ref x) H') : Irr (sp_read C) [.ref C, .str (txt qs)] H Q E :=
  irr ⟨qs, rfl, d, fun x dx m us H' e kp => k x dx m us H' e (h.kp kp)⟩
theorem sumtext_step (hl : SqL K H l (vP ds)) (ht : TPs K H ds) (d : Due (prs ds)) (k : Q (.str (txt (prs ds))) H) : Irr (sp_sumtext K) [.ref l] H Q E := irr ⟨l, ds, rfl, hl, ht, d, k⟩
/-- what a call of tuple(l) makes -/
theorem tuple_step {R : V → Hp → Prop} {xs : List V} (h : Has H0 a n L H) (hl : SqL K H l xs) (k : ∀ m, Has H0 a n L (upd H m (.tup xs)) → H m = none → R (.ref m) (upd H m (.tup xs))) :
    ∃ p ys, [V.ref l] = [V.ref p] ∧ ((SqL K H p ys ∧ ∀ m, H m = none → R (.ref m) (upd H m (.tup ys))) ∨ (SqT K H p ys ∧ R (.ref p) H)) := ⟨l, xs, rfl, .inl ⟨hl, fun m nm => k m (h.tup nm) nm⟩⟩
end
end RV
/-! -o, o + p, o - p, o * n, n * o of own classes -/
namespace PySem
open AutoSeq1 (wpAny_loadPart')
set_option maxHeartbeats 4000000 in
theorem rv_int_mul_inst (b : Int) (u : Tok) (l C dx : Addr) :
    Meets (Builtin.«int.__mul__» ⟨[.int b u, .ref l], []⟩) (fun _ R s => s.heap.get? l = some (PySem.W.instObj C dx) ∧ R (.ok (.ret .notImplemented)) s) :=
  .of_wp fun prog w A R s h => by
    obtain ⟨hp, g, d, tk, os⟩ := s
    obtain ⟨hl, h⟩ := h
    unfold PySem.W.instObj at hl
    wp_walk using wpAny_loadPart' hl, wpAny_load hl
    exact ⟨_, rfl, h⟩
end PySem
namespace PySem.W
open PySem PySem.Calls PyProof.Rows
section
variable {prog : Program} {w : World} {A : Around} {E : Value → Shared → Prop} {s : Shared} {K : Frag} {x C dx L f g : Addr} {h₀ : Heap} {m : Str → Option Value} {od : Option Obj} {i : Int} {t : Tok} {fo ro : Option Value}
theorem rv_mulI {Q : Value → Shared → Prop} (F : Fr h₀ L s.heap m) (X₀ : K.In h₀) (I : InstAt s.heap x (instObj C dx) C od) (hc : selfFirst K C = true)
    (hs : findIn K (.ref C) (PySem.dunder "mul") = some (some (.ref f))) (hr : findIn K (.ref C) (dunderR "mul") = some (some (.ref g))) (hg : isFn K (.ref g) = true)
    (h1 : findIn K (.type "int") (PySem.dunder "mul") = some fo) (h2 : findIn K (.type "int") (dunderR "mul") = some ro) (hsub : subIn K (.ref C) (.type "int") = some false)
    (h : wpAny (model prog w) A (call (.ref g) [.ref x, .int i t]) (CmpBack Q) E s) : wpAny (model prog w) A (binaryOp .Mult (.int i t) (.ref x)) Q E s := by
  have X := X₀.keeps F.keep
  obtain ⟨cd, rest, hcd, hm⟩ := ksp_first hc
  have one := ksp_try X I hr hg h
  have decl : wpAny (model prog w) A (tryMethod (.int i t) (PySem.dunder "mul") (.ref x)) (fun r s' => r = none ∧ s' = s) E s :=
    wpAny_tryMethod_declines (Q := fun r s' => r = none ∧ s' = s) (typeIs_int _ _ _) PySem.F.slot_int_mul (call_meets PySem.F.slot_int_mul (typeIs_int _ _ _) PySem.F.entry_int_mul (PySem.F.args_int_mul_2 _ _) (PySem.rv_int_mul_inst i t x C dx) ⟨I.at_, rfl, rfl, rfl⟩)
  obtain ⟨hh, g', d, tt, os⟩ := s
  have L1 : Looks (model prog w) hh (typeOf (.int i t)) (.type "int") := Looks.of_pure rfl
  have L2 : Looks (model prog w) hh (typeOf (.ref x)) (.ref C) := I.type
  have L3 : Looks (model prog w) hh (fillsNumberSlot (.ref C) "mul") true := fills_K X hcd hm hs
  have L4 : Looks (model prog w) hh (fillsNumberSlot (.type "int") "mul") ((fo.isSome && !isSeqSlot fo) || (ro.isSome && !isSeqSlot ro)) := ksp_fillsT X h1 h2
  have L5 : Looks (model prog w) hh (isSubtype (.ref C) (.type "int")) false := looks_subIn X hsub
  have L7 : Looks (model prog w) hh (numberSlotInPython (.type "int") "mul") false := Looks.of_pure rfl
  generalize ((fo.isSome && !isSeqSlot fo) || (ro.isSome && !isSeqSlot ro)) = left at L4
  have hne : (Value.type "int" == Value.ref C) = false := Bool.eq_false_iff.mpr fun q => by cases beq_iff_eq.mp q
  simp only [binaryOp, show Operator.info .Mult = ("*", "mul") from rfl]
  refine wpAny_holding (wpAny_bind ?_)
  unfold binaryOp1
  refine wpAny_bind (L1.at (wpAny_bind (L2.at (wpAny_bind (L4.at ?_)))))
  simp only [hne, Bool.false_eq_true, if_false]
  cases left with
  | false =>
    ksp_lk
    refine wpAny_mono one (fun r s' hr' => ?_) fun _ _ e => e
    obtain ⟨v, rfl, hq⟩ := hr'
    ksp_lk
    exact hq
  | true =>
    ksp_lk
    refine wpAny_mono decl (fun r s' hd => ?_) fun _ _ e => e
    obtain ⟨rfl, rfl⟩ := hd
    ksp_lk
    refine wpAny_mono one (fun r s' hr' => ?_) fun _ _ e => e
    obtain ⟨v, rfl, hq⟩ := hr'
    ksp_lk
    exact hq
end
end PySem.W
namespace RV
open PySem L2 PyProof.Rows
section
variable {X : Cx} {C : Addr} {k : Nat} {sp : Sp}
@[irreducible] def rBinO (C : Addr) (sp : Sp) : R2 := fun x y H Q => ∃ a b dx fs dy gs, x = .ref a ∧ y = .ref b ∧ H a = some (.ins C dx fs) ∧ H b = some (.ins C dy gs) ∧ sp [.ref a, .ref b] H (fun v H' => ∃ p, v = .ref p ∧ Q (.ref p) H') E0
@[irreducible] def rMulO (C : Addr) (sp : Sp) : R2 := fun x y H Q => ∃ (a : Addr) (i : Int) (dx : Addr) (fs : List (Str × V)), x = .ref a ∧ y = .int i ∧ H a = some (.ins C dx fs) ∧ sp [.ref a, .int i] H (fun v H' => ∃ p, v = .ref p ∧ Q (.ref p) H') E0
@[irreducible] def rMulI (C : Addr) (sp : Sp) : R2 := fun x y H Q => ∃ (a : Addr) (i : Int) (dx : Addr) (fs : List (Str × V)), x = .int i ∧ y = .ref a ∧ H a = some (.ins C dx fs) ∧ sp [.ref a, .int i] H (fun v H' => ∃ p, v = .ref p ∧ Q (.ref p) H') E0
@[irreducible] def rNegO (C : Addr) (sp : Sp) : V → Hp → VK → Prop := fun x H Q => ∃ a dx fs, x = .ref a ∧ H a = some (.ins C dx fs) ∧ sp [.ref a] H Q E0
/-- o op p -/
theorem op_binO {op : Operator} {m : String} (h : OwnM X.prog X.w X.K X.mg X.base C m k sp) (hm : PySem.dunder op.info.2 = Str.ofString m) (hc : PySem.W.selfFirst X.K C = true) (hr : Room k X.A) : OpR X (binaryOp op) (rBinO C sp) := by
  intro pins s σ H x y v u Q I rx ry hq
  unfold rBinO at hq
  obtain ⟨a, b, dx, fs, dy, gs, rfl, rfl, ha, hb2, hsp⟩ := hq
  obtain ⟨f, fd, ps, hs, hf, _, hb, F⟩ := h
  have rx' := rx
  have ry' := ry
  cases rx
  cases ry
  obtain ⟨mA, J, _⟩ := ins_get I.hok ha
  obtain ⟨od, J, _⟩ := J.look
  obtain ⟨m, hF⟩ := I.fr
  refine PySem.W.binop_K hF I.ok.mod.kin J ((TyL.ins hb2).looks I ry') hc (by rw [hm]; exact hs) hf (wpAny_mono (call_owns F hb hr rfl I (.cons rx' (.cons ry' .nil)) hsp) (fun r s' z => ?_) fun _ _ x => x)
  obtain ⟨v, H', I', rv, p, rfl, q⟩ := z
  cases rv
  exact ⟨.ref p, H', I', rfl, q⟩
/-- o * i -/
theorem op_mulO (h : OwnM X.prog X.w X.K X.mg X.base C "__mul__" k sp) (hc : PySem.W.selfFirst X.K C = true) {fr : Addr} {fo ro : Option Value} (hR : PySem.W.findIn X.K (.ref C) (dunderR "mul") = some (some (.ref fr)))
    (h1 : PySem.W.findIn X.K (.type "int") (PySem.dunder "mul") = some fo) (h2 : PySem.W.findIn X.K (.type "int") (dunderR "mul") = some ro) (hsub : PySem.W.subIn X.K (.type "int") (.ref C) = some false) (hr : Room k X.A) : OpR X (binaryOp .Mult) (rMulO C sp) := by
  intro pins s σ H x y v u Q I rx ry hq
  unfold rMulO at hq
  obtain ⟨a, i, dx, fs, rfl, rfl, ha, hsp⟩ := hq
  obtain ⟨f, fd, ps, hs, hf, _, hb, F⟩ := h
  have rx' := rx
  have ry' := ry
  cases rx
  obtain ⟨t, rfl⟩ := ry
  obtain ⟨mA, J, _⟩ := ins_get I.hok ha
  obtain ⟨od, J, _⟩ := J.look
  obtain ⟨m, hF⟩ := I.fr
  refine PySem.W.ksp_binT (op := .Mult) (T := "int") hF I.ok.mod.kin J rfl hc hs hf hR (.inr ⟨fr, rfl⟩) h1 h2 hsub (wpAny_mono (call_owns F hb hr rfl I (.cons rx' (.cons ry' .nil)) hsp) (fun r s' z => ?_) fun _ _ x => x)
  obtain ⟨v, H', I', rv, p, rfl, q⟩ := z
  cases rv
  exact ⟨.ref p, H', I', rfl, q⟩
/-- i * o -/
theorem op_mulI (h : OwnM X.prog X.w X.K X.mg X.base C "__rmul__" k sp) (hc : PySem.W.selfFirst X.K C = true) {fm : Addr} {fo ro : Option Value} (hM : PySem.W.findIn X.K (.ref C) (PySem.dunder "mul") = some (some (.ref fm)))
    (h1 : PySem.W.findIn X.K (.type "int") (PySem.dunder "mul") = some fo) (h2 : PySem.W.findIn X.K (.type "int") (dunderR "mul") = some ro) (hsub : PySem.W.subIn X.K (.ref C) (.type "int") = some false) (hr : Room k X.A) : OpR X (binaryOp .Mult) (rMulI C sp) := by
  intro pins s σ H x y v u Q I rx ry hq
  unfold rMulI at hq
  obtain ⟨a, i, dx, fs, rfl, rfl, ha, hsp⟩ := hq
  obtain ⟨f, fd, ps, hs, hf, _, hb, F⟩ := h
  have rx' := rx
  have ry' := ry
  cases ry
  obtain ⟨t, rfl⟩ := rx
  obtain ⟨mA, J, _⟩ := ins_get I.hok ha
  obtain ⟨od, J, _⟩ := J.look
  obtain ⟨m, hF⟩ := I.fr
  refine PySem.W.rv_mulI hF I.ok.mod.kin J hc hM hs hf h1 h2 hsub (wpAny_mono (call_owns F hb hr rfl I (.cons ry' (.cons rx' .nil)) hsp) (fun r s' z => ?_) fun _ _ x => x)
  obtain ⟨v, H', I', rv, p, rfl, q⟩ := z
  cases rv
  exact ⟨.ref p, H', I', rfl, q⟩
/-- -o -/
theorem un_negO (h : OwnM X.prog X.w X.K X.mg X.base C "__neg__" k sp) (hr : Room k X.A) : UnR X (unaryOp .USub) (rNegO C sp) := by
  intro pins s σ H x v Q I rx hq
  unfold rNegO at hq
  obtain ⟨a, dx, fs, rfl, ha, hsp⟩ := hq
  obtain ⟨f, fd, ps, hs, hf, _, hb, F⟩ := h
  have rx' := rx
  cases rx
  obtain ⟨mA, J, _⟩ := ins_get I.hok ha
  obtain ⟨od, J, _⟩ := J.look
  obtain ⟨m, hF⟩ := I.fr
  exact PySem.W.ksp_neg hF I.ok.mod.kin J hs hf (call_owns F hb hr rfl I (.cons rx' .nil) hsp)
end
end RV
/-! sums by operators -/
namespace RV
open PySem L2 PyProof.Rows TL
def scl (i : Int) (qs : List (Str × Int)) : List (Str × Int) := qs.map fun q => (q.1, i * q.2)
theorem scl_co (i : Int) (qs : List (Str × Int)) (x : Str) : co (scl i qs) x = i * co qs x := by
  induction qs with
  | nil => simp [scl, co_nil]
  | cons q qs ih =>
    show co ((q.1, i * q.2) :: scl i qs) x = _
    rw [co_cons, co_cons, ih, Int.mul_add]
    dsimp only
    split <;> simp
theorem scl_nm (i : Int) (qs : List (Str × Int)) : (scl i qs).map (·.1) = qs.map (·.1) := by
  rw [scl, List.map_map]
  rfl
theorem scl_isNm {i : Int} {qs : List (Str × Int)} (h : ∀ q ∈ qs, IsNm q.1) : ∀ q ∈ scl i qs, IsNm q.1 := fun q hq => by
  obtain ⟨r, hr, rfl⟩ := List.mem_map.mp hq
  exact h r hr
theorem scl_tot (i : Int) (qs : List (Str × Int)) : tot (scl i qs) = i.natAbs * tot qs := by
  induction qs with
  | nil => simp [scl, tot]
  | cons q qs ih =>
    have e1 : tot (scl i (q :: qs)) = (i * q.2).natAbs + tot (scl i qs) := rfl
    have e2 : tot (q :: qs) = q.2.natAbs + tot qs := rfl
    rw [e1, e2, ih, Int.natAbs_mul, Nat.mul_add]
theorem scl_len (i : Int) (qs : List (Str × Int)) : (scl i qs).length = qs.length := List.length_map _
theorem scl_app (i : Int) (qs rs : List (Str × Int)) : scl i (qs ++ rs) = scl i qs ++ scl i rs := List.map_append
/-- bits for a product -/
theorem mulW {i j : Int} (hi : i.natAbs < 10 ^ 60) (hj : j.natAbs < 10 ^ 60) : CMulW i j := wide_mul (a := 200) (b := 200) (by omega) (by omega) (by decide) (by decide) (by decide)
/-- numbers small enough -/
structure Lit (qs : List (Str × Int)) : Prop where
  nm : ∀ q ∈ qs, IsNm q.1
  sm : ∀ q ∈ qs, q.2.natAbs < 10 ^ 60
  ln : qs.length ≤ 60
theorem Lit.of {qs : List (Str × Int)} (h : ∀ q ∈ qs, IsNm q.1) (ht : tot qs ≤ 10 ^ 59) (hl : qs.length ≤ 60) : Lit qs :=
  ⟨h, fun _ hq => Nat.lt_of_le_of_lt (tot_mem hq) (Nat.lt_of_le_of_lt ht (by decide)), hl⟩
section
variable {K : PySem.W.Frag} {a D : Addr} {us : List TP} {i j : Nat} {te : TE} {vs : List Nat} {σ : L2.St} {H1 : Hp} {Qd : Hp → Prop}
/-- [(x, f(z)) for x, z in xs]: each turn makes a pair -/
theorem lc_mk (g : Str × Int → Str × Int) (J : It) (GG : Hp → Prop) (wk : Walk J us.length GG (YAt (vP us))) (ht : TPs K H1 us) (nD : H1 D = none) (len : us.length ≤ 1000) (hG : ∀ H', Same H1 H' → GG H') (hw : ∀ x y, wipe (((wipe σ vs).set i x).set j y) vs = wipe σ vs)
    (h : ∀ q ∈ prs us, ∀ H2, Same H1 H2 → ∀ R : VK, (∀ t, H2 t = none → R (.ref t) (upd H2 t (oP (g q)))) → te (((wipe σ vs).set i (some (.str q.1))).set j (some (.int q.2))) H2 R)
    (k : ∀ (ws : List TP) H', prs ws = (prs us).map g → Kp H1 (lP ws) H' → H' D = some (.lst (vP ws)) → Qd H') :
    ∃ W : Nat → Nat → Hp → Prop, (∃ m, W 0 m (upd H1 D (.lst []))) ∧ ∀ i' m H, W i' m H →
      (J.stop i' H ∧ Qd H) ∨ (J.go i' H ∧ ∃ Nx : Hp → Prop, (∀ H', Nx H' → ∃ m', m' < m ∧ W (i' + 1) m' H') ∧ ∀ x H', J.yld i' H x H' → gPr K i j x (wipe σ vs) H' fun σ2 H2 => wipe σ2 vs = wipe σ vs ∧ tYes σ2 H2 fun b H3 =>
        if b = true then te σ2 H3 fun y H4 => ∃ acc, H4 D = some (.lst acc) ∧ acc.length < sizeLine ∧ Nx (upd H4 D (.lst (acc ++ [y]))) else Nx H3) := by
  refine L2.lc_it wk (fun i' H' => ∃ ws : List TP, prs ws = ((prs us).take i').map g ∧ Kp H1 (lP ws) H' ∧ H' D = some (.lst (vP ws)))
    ⟨[], by simp [prs], (Kp.start H1).put nD fun _ hp => (nomatch hp), upd_same⟩ (fun i' H' _ z => ?_) (fun i' x Ha Hb hi hv y => ?_) (fun H' hv => ?_)
  · obtain ⟨_, _, kp, _⟩ := z
    exact hG _ kp.sm
  · obtain ⟨ws, hw1, kp, eD⟩ := hv
    obtain ⟨rfl, hx⟩ := y
    rw [vP, List.getElem?_map, List.getElem?_eq_getElem hi] at hx
    obtain rfl : V.ref us[i'].1 = x := Option.some.inj hx
    have hm : us[i'] ∈ us := List.getElem_mem hi
    have et : (prs us).take (i' + 1) = (prs us).take i' ++ [us[i'].2] := by
      rw [List.take_add_one, prs, List.getElem?_map, List.getElem?_eq_getElem hi]
      rfl
    have wl : ws.length = i' := by
      have := congrArg List.length hw1
      rw [prs_len, List.length_map, List.length_take, prs_len] at this
      omega
    have e0 : ∀ (σ : L2.St) (H : Hp) (R : Bool → Hp → Prop), R true H → tYes σ H R := fun _ _ _ r => r
    refine gPr_at ((ht _ hm).ext kp.sm) ⟨hw _ _, e0 _ _ _ ?_⟩
    simp only [↓reduceIte]
    refine h us[i'].2 (List.mem_map.mpr ⟨us[i'], hm, rfl⟩) Hb kp.sm _ fun t nt => ?_
    have eT : upd Hb t (oP (g us[i'].2)) D = some (.lst (vP ws)) := by rw [upd_ne (ne_of_none eD nt)]; exact eD
    have kT : Kp H1 (lP (ws ++ [(t, g us[i'].2)])) (upd Hb t (oP (g us[i'].2))) := (kp.new (o := oP (g us[i'].2)) nt).sub fun p hp => by
      rw [lP_app] at hp
      rcases List.mem_append.mp hp with hp | hp
      · exact List.mem_cons_of_mem _ hp
      · rw [List.mem_singleton.mp hp]
        exact List.mem_cons_self
    refine ⟨_, eT, ?_, ws ++ [(t, g us[i'].2)], ?_, kT.put nD (Kp.off kT eT), ?_⟩
    · rw [vP_len, wl]
      exact Nat.lt_of_lt_of_le (show i' < 1001 by omega) (by decide)
    · rw [prs_app, hw1, et, List.map_append]
      rfl
    · rw [upd_same, vP_app]
      rfl
  · obtain ⟨ws, hw1, kp, eD⟩ := hv
    rw [← prs_len, List.take_length] at hw1
    exact k ws H' hw1 kp eD
theorem walkL {l : Addr} : Walk (Itl K l) us.length (fun H => SqL K H l (vP us)) (YAt (vP us)) := by
  have := walk_list (K := K) (a := l) (xs := vP us)
  rwa [vP_len] at this
theorem walkT {l : Addr} : Walk (Itt K l) us.length (fun H => SqT K H l (vP us)) (YAt (vP us)) := by
  have := walk_tup (K := K) (a := l) (xs := vP us)
  rwa [vP_len] at this
end
/-- [(x, n * z) for x, z in xs] -/
def sp_times (K : PySem.W.Frag) : Sp := fun vs H Q _ => ∃ (l : Addr) (us : List TP) (i : Int), vs = [.ref l, .int i] ∧ SqL K H l (vP us) ∧ TPs K H us ∧ (∀ q ∈ prs us, q.2.natAbs < 10 ^ 60) ∧ us.length ≤ 60 ∧ i.natAbs < 10 ^ 60 ∧
  ∀ (ws : List TP) (m : Addr) H', prs ws = scl i (prs us) → Kp H (lT m ws) H' → Q (.ref m) H'
def sp_mulS (C : Addr) : Sp := fun vs H Q _ => ∃ (a : Addr) (qs : List (Str × Int)) (i : Int), vs = [.ref a, .int i] ∧ SumR C H a qs ∧ Lit qs ∧ i.natAbs < 10 ^ 60 ∧
  ∀ (x dx m : Addr) (ds : List TP) H', Mad (scl i qs) (prs ds) → Kp H (lS C x dx m ds) H' → Q (.ref x) H'
def sp_negS (C : Addr) : Sp := fun vs H Q _ => ∃ (a : Addr) (qs : List (Str × Int)), vs = [.ref a] ∧ SumR C H a qs ∧ Lit qs ∧
  ∀ (x dx m : Addr) (ds : List TP) H', Mad (scl (-1) qs) (prs ds) → Kp H (lS C x dx m ds) H' → Q (.ref x) H'
def sp_addS (C : Addr) : Sp := fun vs H Q _ => ∃ (a b : Addr) (qs rs : List (Str × Int)), vs = [.ref a, .ref b] ∧ SumR C H a qs ∧ SumR C H b rs ∧ (∀ q ∈ qs ++ rs, IsNm q.1) ∧ Few (qs ++ rs) ∧
  ∀ (x dx m : Addr) (ds : List TP) H', Mad (qs ++ rs) (prs ds) → Kp H (lS C x dx m ds) H' → Q (.ref x) H'
def sp_subS (C : Addr) : Sp := fun vs H Q _ => ∃ (a b : Addr) (qs rs : List (Str × Int)), vs = [.ref a, .ref b] ∧ SumR C H a qs ∧ SumR C H b rs ∧ (∀ q ∈ qs, IsNm q.1) ∧ Lit rs ∧ Few (qs ++ rs) ∧
  ∀ (x dx m : Addr) (ds : List TP) H', Mad (qs ++ scl (-1) rs) (prs ds) → Kp H (lS C x dx m ds) H' → Q (.ref x) H'
/-- a sum is the one of these pairs -/
def sp_is (K : PySem.W.Frag) (C : Addr) : Sp := fun vs H Q _ => ∃ (x l : Addr) (qs : List (Str × Int)) (us : List TP), vs = [.ref x, .ref l] ∧ SumR C H x qs ∧ Nrm qs ∧ SqL K H l (vP us) ∧ TPs K H us ∧ (∀ q ∈ prs us, IsNm q.1) ∧ us.length ≤ 60 ∧ tot (prs us) ≤ 10 ^ 42 ∧ (∀ y, co qs y = co (prs us) y) ∧
  ∀ H', Same H H' → Q (.bl true) H'
theorem Mad.app {qs rs rs' ds : List (Str × Int)} (h : Mad rs rs') (k : Mad (qs ++ rs') ds) : Mad (qs ++ rs) ds := by
  refine ⟨k.nr, fun x => ?_, fun q hq => ?_, ?_⟩
  · rw [k.co, co_app, co_app, h.co]
  · have := k.nm q hq
    rw [List.map_append, List.mem_append] at this ⊢
    refine this.imp id fun z => ?_
    obtain ⟨r, hr, e⟩ := List.mem_map.mp z
    exact e ▸ h.nm r hr
  · have h1 := k.ln
    have h2 := h.ln
    rw [List.length_append] at h1 ⊢
    omega
end RV
/-! sums of names -/
namespace RV
open PySem L2 PyProof.Rows ClX
def ones (ns : List Str) : List (Str × Int) := ns.map fun x => (x, 1)
def sp_ofB (K : PySem.W.Frag) (C : Addr) : Sp := fun vs H Q _ => ∃ (p : Addr) (ns : List Str), vs = [.ref C, .ref p] ∧ SqT K H p (ns.map V.str) ∧ (∀ x ∈ ns, IsNm x) ∧ ns.length ≤ 60 ∧
  ∀ (x dx m : Addr) (ds : List TP) H', Mad (ones ns) (prs ds) → Kp H (lS C x dx m ds) H' → Q (.ref x) H'
def sp_of (C : Addr) : Sp := fun vs H Q _ => ∃ ns : List Str, vs = .ref C :: ns.map V.str ∧ (∀ x ∈ ns, IsNm x) ∧ ns.length ≤ 60 ∧
  ∀ (x dx m : Addr) (ds : List TP) H', Mad (ones ns) (prs ds) → Kp H (lS C x dx m ds) H' → Q (.ref x) H'
/-- a class method that takes any number of values -/
def ClsR (P : Program) (w : World) (K : PySem.W.Frag) (mg : Str → Option Value) (base : Heap) (C : Addr) (m : Str) (k : Nat) (sp : Sp) : Prop :=
  ∃ mc p g, CRead K C mc ∧ CMet K C mc m p g ∧ FnR P w K mg base CX0 k g sp
theorem ClsR.irr {P : Program} {w : World} {K : PySem.W.Frag} {mg : Str → Option Value} {base : Heap} {C : Addr} {m : Str} {k : Nat} {sp : Sp} (h : ClsR P w K mg base C m k sp) : ClsR P w K mg base C m k (Irr sp) := by
  obtain ⟨mc, p, g, a, b, F⟩ := h
  exact ⟨mc, p, g, a, b, F.imp fun _ _ _ _ z => irr_of z⟩
theorem pe_cmR {X : Cx} {C : Addr} {k : Nat} {m : Str} {sp : Sp} {o e : Expr} {es : List Expr} {t : TA} {ta : TE} {pos apos : Pos} {pl : Sem Bool} (h : ClsR X.prog X.w X.K X.mg X.base C m k sp) (hr : Room k X.A) (he : PE X o ta) (ha : PA X (e :: es) t)
    (hst : starEach (e :: es) X.env = (false, eval e X.env) :: starEach es X.env := by rfl) (hpl : (backTo pos (starEach es X.env)).any (·.1) = false := by rfl)
    (ht : eval (.Call (.Attribute o m apos) (e :: es) [] pos) X.env = (do
      let ov ← eval o X.env
      standAt apos.atName
      let (f, first) ← holding [ov] (getMethod ov m pl)
      callWith pos f first (backTo pos (starEach (e :: es) X.env)) (backToKw pos (keywordEach [] X.env))) := by rfl) :
    PE X (.Call (.Attribute o m apos) (e :: es) [] pos) (tCMeth C sp E0 ta t) := by
  obtain ⟨mc, p, g, r, c, F⟩ := h
  exact pe_cmeth he r c F hr pass0 ha hst hpl ht
end RV
/-! steps with sums over a heap that only grows -/
namespace RV
open PySem L2 PyProof.Rows TL
/-- pairs of names, so many, so great in all -/
structure Raw (qs : List (Str × Int)) (n b : Nat) : Prop where
  nm : ∀ q ∈ qs, IsNm q.1
  ln : qs.length ≤ n
  tt : tot qs ≤ b
theorem Raw.app {qs rs : List (Str × Int)} {n b m c : Nat} (h : Raw qs n b) (k : Raw rs m c) : Raw (qs ++ rs) (n + m) (b + c) :=
  ⟨fun q hq => (List.mem_append.mp hq).elim (h.nm q) (k.nm q), by rw [List.length_append]; exact Nat.add_le_add h.ln k.ln, by rw [tot_app]; exact Nat.add_le_add h.tt k.tt⟩
theorem Raw.scl {qs : List (Str × Int)} {n b : Nat} {i : Int} {j : Nat} (h : Raw qs n b) (hi : i.natAbs ≤ j) : Raw (RV.scl i qs) n (j * b) :=
  ⟨scl_isNm h.nm, by rw [scl_len]; exact h.ln, by rw [scl_tot]; exact Nat.mul_le_mul hi h.tt⟩
theorem Raw.mono {qs : List (Str × Int)} {n b m c : Nat} (h : Raw qs n b) (hn : n ≤ m) (hb : b ≤ c) : Raw qs m c := ⟨h.nm, Nat.le_trans h.ln hn, Nat.le_trans h.tt hb⟩
theorem Raw.nil (n b : Nat) : Raw [] n b := ⟨fun _ hq => (nomatch hq), Nat.zero_le _, Nat.zero_le _⟩
theorem Mad.of {qs rs ds : List (Str × Int)} (h : Mad rs ds) (hc : ∀ x, RV.co rs x = RV.co qs x) (hn : ∀ q ∈ rs, q.1 ∈ qs.map (·.1)) (hl : rs.length ≤ qs.length) : Mad qs ds := by
  refine ⟨h.nr, fun x => (h.co x).trans (hc x), fun q hq => ?_, Nat.le_trans h.ln hl⟩
  obtain ⟨r, hr, e⟩ := List.mem_map.mp (h.nm q hq)
  exact e ▸ hn r hr
theorem Mad.app2 {qs qs' rs rs' ds : List (Str × Int)} (h : Mad qs qs') (h2 : Mad rs rs') (k : Mad (qs' ++ rs') ds) : Mad (qs ++ rs) ds := by
  refine k.of (fun x => by rw [co_app, co_app, h.co, h2.co]) (fun q hq => ?_) (by rw [List.length_append, List.length_append]; exact Nat.add_le_add h.ln h2.ln)
  rw [List.map_append, List.mem_append]
  exact (List.mem_append.mp hq).imp (h.nm q) (h2.nm q)
theorem Mad.scl {qs rs : List (Str × Int)} (h : Mad qs rs) (i : Int) : ∀ q ∈ RV.scl i rs, q.1 ∈ (RV.scl i qs).map (·.1) := fun q hq => by
  rw [scl_nm]
  obtain ⟨r, hr, rfl⟩ := List.mem_map.mp hq
  exact h.nm r hr
theorem Mad.mul {qs rs ds : List (Str × Int)} {i : Int} (h : Mad qs rs) (k : Mad (RV.scl i rs) ds) : Mad (RV.scl i qs) ds :=
  k.of (fun x => by rw [scl_co, scl_co, h.co]) (h.scl i) (by rw [scl_len, scl_len]; exact h.ln)
/-- a sum of these pairs, as they were given -/
def Own (C : Addr) (H : Hp) (x : Addr) (qs : List (Str × Int)) : Prop := ∃ rs, SumR C H x rs ∧ Mad qs rs
section
variable {K : PySem.W.Frag} {C a b l x : Addr} {H H' : Hp} {qs rs : List (Str × Int)} {n m c d : Nat} {Q : VK} {E : XK} {us : List TP}
theorem Own.ext (h : Own C H x qs) (s : Same H H') : Own C H' x qs := by
  obtain ⟨rs, hs, md⟩ := h
  exact ⟨rs, hs.ext s, md⟩
theorem Raw.due (r : Raw qs n d) (md : Mad qs rs) (hn : n ≤ 60) (hd : d ≤ 10 ^ 42) : Due rs := md.due r.nm (Nat.le_trans r.ln hn) (Nat.le_trans r.tt hd)
theorem Due.lit (h : Due qs) : Lit qs := ⟨h.nm, fun _ hq => Nat.lt_of_le_of_lt (tot_mem hq) (Nat.lt_of_le_of_lt h.tt (by decide)), h.ln⟩
theorem add_step (ha : Own C H a qs) (hb : Own C H b rs) (r1 : Raw qs n c) (r2 : Raw rs m d) (hn : n + m ≤ 60) (hc : c ≤ 10 ^ 42) (hd : d ≤ 10 ^ 42)
    (k : ∀ x H', Own C H' x (qs ++ rs) → Same H H' → Q (.ref x) H') : rBinO C (Irr (sp_addS C)) (.ref a) (.ref b) H Q := by
  unfold rBinO
  obtain ⟨qs', ha, m1⟩ := ha
  obtain ⟨rs', hb, m2⟩ := hb
  have d1 := r1.due m1 (by omega) hc
  have d2 := r2.due m2 (by omega) hd
  obtain ⟨dx, t, us, e, q⟩ := id ha
  obtain ⟨dy, t2, us2, e2, q2⟩ := id hb
  refine ⟨a, b, dx, _, dy, _, rfl, rfl, q _ List.mem_cons_self, q2 _ List.mem_cons_self, irr ⟨a, b, qs', rs', rfl, ha, hb, fun q hq => (List.mem_append.mp hq).elim (d1.nm q) (d2.nm q), ?_, fun x dx' t' ds H' md kp => ⟨x, rfl, k x H' ⟨_, SumR.of fun p hp => kp.at hp, m1.app2 m2 md⟩ kp.sm⟩⟩⟩
  refine Few.of ?_
  have := m1.ln
  have := m2.ln
  have := r1.ln
  have := r2.ln
  rw [List.length_append]
  omega
theorem sub_step (ha : Own C H a qs) (hb : Own C H b rs) (r1 : Raw qs n c) (r2 : Raw rs m d) (hn : n + m ≤ 60) (hc : c ≤ 10 ^ 42) (hd : d ≤ 10 ^ 42)
    (k : ∀ x H', Own C H' x (qs ++ scl (-1) rs) → Same H H' → Q (.ref x) H') : rBinO C (Irr (sp_subS C)) (.ref a) (.ref b) H Q := by
  unfold rBinO
  obtain ⟨qs', ha, m1⟩ := ha
  obtain ⟨rs', hb, m2⟩ := hb
  have d1 := r1.due m1 (by omega) hc
  have d2 := r2.due m2 (by omega) hd
  obtain ⟨dx, t, us, e, q⟩ := id ha
  obtain ⟨dy, t2, us2, e2, q2⟩ := id hb
  refine ⟨a, b, dx, _, dy, _, rfl, rfl, q _ List.mem_cons_self, q2 _ List.mem_cons_self, irr ⟨a, b, qs', rs', rfl, ha, hb, d1.nm, d2.lit, ?_, fun x dx' t' ds H' md kp => ⟨x, rfl, k x H' ⟨_, SumR.of fun p hp => kp.at hp, ?_⟩ kp.sm⟩⟩⟩
  · refine Few.of ?_
    have := m1.ln
    have := m2.ln
    have := r1.ln
    have := r2.ln
    rw [List.length_append]
    omega
  · refine md.of (fun x => by rw [co_app, co_app, scl_co, scl_co, m1.co, m2.co]) (fun q hq => ?_) (by rw [List.length_append, List.length_append, scl_len, scl_len]; exact Nat.add_le_add m1.ln m2.ln)
    rw [List.map_append, List.mem_append]
    exact (List.mem_append.mp hq).imp (m1.nm q) (m2.scl (-1) q)
theorem mulO_step {i : Int} (ha : Own C H a qs) (r1 : Raw qs n c) (hn : n ≤ 60) (hc : c ≤ 10 ^ 42) (hi : i.natAbs < 10 ^ 60)
    (k : ∀ x H', Own C H' x (scl i qs) → Same H H' → Q (.ref x) H') : rMulO C (Irr (sp_mulS C)) (.ref a) (.int i) H Q := by
  unfold rMulO
  obtain ⟨qs', ha, m1⟩ := ha
  have d1 := r1.due m1 hn hc
  obtain ⟨dx, t, us, e, q⟩ := id ha
  exact ⟨a, i, dx, _, rfl, rfl, q _ List.mem_cons_self, irr ⟨a, qs', i, rfl, ha, d1.lit, hi, fun x dx' t' ds H' md kp => ⟨x, rfl, k x H' ⟨_, SumR.of fun p hp => kp.at hp, m1.mul md⟩ kp.sm⟩⟩⟩
theorem mulI_step {i : Int} (ha : Own C H a qs) (r1 : Raw qs n c) (hn : n ≤ 60) (hc : c ≤ 10 ^ 42) (hi : i.natAbs < 10 ^ 60)
    (k : ∀ x H', Own C H' x (scl i qs) → Same H H' → Q (.ref x) H') : rMulI C (Irr (sp_mulS C)) (.int i) (.ref a) H Q := by
  unfold rMulI
  obtain ⟨qs', ha, m1⟩ := ha
  have d1 := r1.due m1 hn hc
  obtain ⟨dx, t, us, e, q⟩ := id ha
  exact ⟨a, i, dx, _, rfl, rfl, q _ List.mem_cons_self, irr ⟨a, qs', i, rfl, ha, d1.lit, hi, fun x dx' t' ds H' md kp => ⟨x, rfl, k x H' ⟨_, SumR.of fun p hp => kp.at hp, m1.mul md⟩ kp.sm⟩⟩⟩
theorem neg_step (ha : Own C H a qs) (r1 : Raw qs n c) (hn : n ≤ 60) (hc : c ≤ 10 ^ 42)
    (k : ∀ x H', Own C H' x (scl (-1) qs) → Same H H' → Q (.ref x) H') : rNegO C (Irr (sp_negS C)) (.ref a) H Q := by
  unfold rNegO
  obtain ⟨qs', ha, m1⟩ := ha
  have d1 := r1.due m1 hn hc
  obtain ⟨dx, t, us, e, q⟩ := id ha
  exact ⟨a, dx, _, rfl, q _ List.mem_cons_self, irr ⟨a, qs', rfl, ha, d1.lit, fun x dx' t' ds H' md kp => k x H' ⟨_, SumR.of fun p hp => kp.at hp, m1.mul md⟩ kp.sm⟩⟩
/-- a list of pairs -/
structure Lsp (K : PySem.W.Frag) (H : Hp) (l : Addr) (us : List TP) : Prop where
  hd : H l = some (.lst (vP us))
  ps : TPs K H us
theorem Lsp.ext (h : Lsp K H l us) (s : Same H H') : Lsp K H' l us := ⟨s _ _ h.hd, h.ps.ext s⟩
theorem Lsp.sL (h : Lsp K H l us) : SqL K H l (vP us) := SqL.of h.hd
theorem Has.lsp {H0 : Hp} {a : Addr} {n : Nat} (h : Has H0 a n (lT l us) H) : Lsp K H l us := ⟨h.at List.mem_cons_self, h.sP⟩
theorem times_step {i : Int} (hl : Lsp K H l us) (r : Raw (prs us) n c) (hn : n ≤ 60) (hc : c ≤ 10 ^ 42) (hi : i.natAbs < 10 ^ 60)
    (k : ∀ (ws : List TP) (m : Addr) H', prs ws = scl i (prs us) → Lsp K H' m ws → Same H H' → Q (.ref m) H') : Irr (sp_times K) [.ref l, .int i] H Q E :=
  irr ⟨l, us, i, rfl, hl.sL, hl.ps, fun _ hq => Nat.lt_of_le_of_lt (tot_mem hq) (Nat.lt_of_le_of_lt (Nat.le_trans r.tt hc) (by decide)), by rw [← prs_len]; exact Nat.le_trans r.ln hn, hi,
    fun ws m H' e kp => k ws m H' e ⟨kp.at List.mem_cons_self, fun u hu => SqT.of (kp.at (List.mem_cons_of_mem _ (List.mem_map.mpr ⟨u, hu, rfl⟩)))⟩ kp.sm⟩
theorem is_step (hx : Own C H x qs) (hl : Lsp K H l us) (r : Raw (prs us) n c) (hn : n ≤ 60) (hc : c ≤ 10 ^ 42) (he : ∀ y, co qs y = co (prs us) y) (k : ∀ H', Same H H' → Q (.bl true) H') : Irr (sp_is K C) [.ref x, .ref l] H Q E := by
  obtain ⟨rs, hs, md⟩ := hx
  exact irr ⟨x, l, rs, us, rfl, hs, md.nr, hl.sL, hl.ps, r.nm, by rw [← prs_len]; exact Nat.le_trans r.ln hn, Nat.le_trans r.tt hc, fun y => (md.co y).trans (he y), k⟩
/-- xs + ys -/
theorem cat_step {l1 l2 : Addr} {vs : List TP} (h1 : Lsp K H l1 us) (h2 : Lsp K H l2 vs) (hn : us.length + vs.length ≤ 1000)
    (k : ∀ lo H', Lsp K H' lo (us ++ vs) → Same H H' → Q (.ref lo) H') : rCat (.ref l1) (.ref l2) H Q :=
  ⟨l1, l2, _, _, rfl, rfl, h1.hd, h2.hd, by rw [vP_len, vP_len]; exact Nat.le_trans hn (by decide), fun lo nlo => by
    have s : Same H (upd H lo (.lst (vP us ++ vP vs))) := fun b o e => by rw [upd_ne (ne_of_none e nlo)]; exact e
    exact k lo _ ⟨by rw [vP_app]; exact upd_same, fun u hu => (List.mem_append.mp hu).elim (h1.ps.ext s u) (h2.ps.ext s u)⟩ s⟩
end
/-- C() with the written part's empty tuple, C(tuple(xs)) -/
theorem made_step {K : PySem.W.Frag} {C x dx t : Addr} {H : Hp} {us : List TP} {E : XK} {R : Hp → Prop} {n c : Nat} (ht : SqT K H t (vP us)) (hp : TPs K H us) (r : Raw (prs us) n c) (hn : n ≤ 60) (nx : H x = none) (nd : H dx = none) (ne : dx ≠ x)
    (k : ∀ H2, Own C H2 x (prs us) → Same H H2 → R H2) : Irr (sp_Sum K C) [.ref x, .ref t] (upd (upd H dx (.own x)) x (.ins C dx [])) (fun v H2 => v = .non ∧ R H2) E :=
  Sum_kp ⟨ht, hp, r.nm, by rw [← prs_len]; exact Nat.le_trans r.ln hn⟩ nx nd ne fun ds m dx' H2 md kp => k H2 ⟨_, SumR.of fun p hp => kp.at hp, md⟩ kp.sm
/-- tuple(l) -/
theorem tup_step {K : PySem.W.Frag} {H : Hp} {l : Addr} {xs : List V} {R : V → Hp → Prop} (hl : SqL K H l xs) (k : ∀ m H', SqT K H' m xs → Same H H' → R (.ref m) H') :
    ∃ p ys, [V.ref l] = [V.ref p] ∧ ((SqL K H p ys ∧ ∀ m, H m = none → R (.ref m) (upd H m (.tup ys))) ∨ (SqT K H p ys ∧ R (.ref p) H)) :=
  ⟨l, xs, rfl, .inl ⟨hl, fun m nm => k m _ (SqT.of upd_same) fun b o e => by rw [upd_ne (ne_of_none e nm)]; exact e⟩⟩
def sp_mults : Sp := fun vs H Q _ => ∃ (a : Addr) (n : Nat), vs = [.ref a] ∧ WellAt H a n ∧ n < 800000 ∧ ∀ H', Grow a H H' → WellAt H' a (n + 100) → Q (.bl true) H'
theorem Has.wm {H0 H : Hp} {a : Addr} {n m : Nat} {L : List (Addr × HO)} (h : Has H0 a n L H) (e : n ≤ m) : Has H0 a m L H := ⟨h.gr, h.well.mono e, h.here⟩
end RV
/-! rows of sums beside their models -/
namespace RV
open PySem L2 PyProof.Rows TL
/-! ### data that are equal -/
theorem eqvAll_pairs : ∀ qs rs : List (Str × Int), PyData.eqvAll (qs.map dq) (rs.map dq) = decide (qs = rs)
  | [], [] => by simp [PyData.eqvAll]
  | [], _ :: _ => by simp [PyData.eqvAll]
  | _ :: _, [] => by simp [PyData.eqvAll]
  | q :: qs, r :: rs => by
    rw [List.map_cons, List.map_cons, PyData.eqvAll, eqv_dq, eqvAll_pairs qs rs]
    by_cases h1 : q = r <;> by_cases h2 : qs = rs <;> simp [h1, h2]
theorem eqv_pairsL (qs rs : List (Str × Int)) : PyData.eqv (.list (qs.map dq)) (.list (rs.map dq)) = decide (qs = rs) := by rw [PyData.eqv, eqvAll_pairs]
theorem eqvAll_bools : ∀ bs : List Bool, PyData.eqvAll (bs.map PyData.bool) (bs.map PyData.bool) = true
  | [] => rfl
  | b :: bs => by simp [PyData.eqvAll, PyData.eqv, eqvAll_bools bs]
theorem eqv_bools (bs : List Bool) : PyData.eqv (.list (bs.map PyData.bool)) (.list (bs.map PyData.bool)) = true := by rw [PyData.eqv, eqvAll_bools]
theorem shaped_bools (bs : List Bool) : SeqAt.shaped (.list (bs.map PyData.bool)) = true := by
  have h1 : ∀ bs : List Bool, PyData.canLayAll0 (bs.map PyData.bool) = true := by
    intro bs
    induction bs with
    | nil => simp [PyData.canLayAll0]
    | cons b bs ih => simp [PyData.canLayAll0, PyData.canLay0, ih]
  have h2 : ∀ bs : List Bool, PyData.depthAll (bs.map PyData.bool) ≤ 1 := by
    intro bs
    induction bs with
    | nil => simp [PyData.depthAll]
    | cons b bs ih => simp [PyData.depthAll, PyData.depth]; omega
  have := h2 bs
  simp [SeqAt.shaped, PyData.canLay0, PyData.depth, h1]
  omega
theorem dps_bools {K : PySem.W.Frag} {H : Hp} : ∀ bs : List Bool, DpAll K H (bs.map V.bl) (bs.map PyData.bool)
  | [] => .nil
  | b :: bs => .cons (.bl b) (dps_bools bs)
/-! ### what stands, where a list is changed -/
section
variable {K : PySem.W.Frag} {C t p l x : Addr} {H H' : Hp} {xs ys : List V} {us : List TP} {qs : List (Str × Int)}
theorem SqT.gro (h : SqT K H t xs) (e : H p = some (.lst ys)) (g : Grow p H H') : SqT K H' t xs := by
  rcases h with h | h
  · refine .inl ?_
    rcases h with h | ⟨o, h⟩
    · exact .inl (g _ _ (fun z => by rw [z, e] at h; cases h) h)
    · exact .inr ⟨o, g _ _ (fun z => by rw [z, e] at h; cases h) h⟩
  · exact .inr h
theorem TPs.gro (h : TPs K H us) (e : H p = some (.lst ys)) (g : Grow p H H') : TPs K H' us := fun u hu => SqT.gro (h u hu) e g
theorem SumR.gro (h : SumR C H x qs) (e : H p = some (.lst ys)) (g : Grow p H H') : SumR C H' x qs := by
  obtain ⟨dx, t, us, e1, k⟩ := h
  refine ⟨dx, t, us, e1, fun q hq => g _ _ (fun z => ?_) (k q hq)⟩
  have w := k q hq
  rw [z, e] at w
  have w := Option.some.inj w
  simp only [lS, List.mem_cons, lP, List.mem_map] at hq
  rcases hq with rfl | rfl | ⟨u, _, rfl⟩ <;> cases w
theorem Lsp.gro (h : Lsp K H l us) (n : l ≠ p) (e : H p = some (.lst ys)) (g : Grow p H H') : Lsp K H' l us := ⟨g _ _ n h.hd, h.ps.gro e g⟩
theorem Grow.put {o : HO} : Grow p H (upd H p o) := fun _ _ n e => by rw [upd_ne n]; exact e
end
/-! ### a sum and its model -/
abbrev Rw := Addr × Addr × List TP
structure One (K : PySem.W.Frag) (C : Addr) (H : Hp) (r : Rw) : Prop where
  sr : SumR C H r.1 (prs r.2.2)
  ls : Lsp K H r.2.1 r.2.2
theorem One.ext {K : PySem.W.Frag} {C : Addr} {H H' : Hp} {r : Rw} (h : One K C H r) (s : Same H H') : One K C H' r := ⟨h.sr.ext s, h.ls.ext s⟩
theorem sub_len : ∀ {xs ys : List Str}, xs.Pairwise Lt → (∀ x ∈ xs, x ∈ ys) → xs.length ≤ ys.length
  | [], _, _, _ => Nat.zero_le _
  | x :: xs, ys, h, s => by
    rw [List.pairwise_cons] at h
    have hx := s x List.mem_cons_self
    have := sub_len (ys := ys.erase x) h.2 fun y hy => (List.mem_erase_of_ne (fun e => Lt.irr y (by have := h.1 y hy; rwa [← e] at this))).mpr (s y (List.mem_cons_of_mem _ hy))
    rw [List.length_erase_of_mem hx] at this
    have := List.length_pos_of_mem hx
    rw [List.length_cons]
    omega
/-- no coefficient of a model is greater -/
def lim : Nat := 3 * 10 ^ 33
structure Fit (pool : List Str) (us : List TP) : Prop where
  nr : Nrm (prs us)
  nm : ∀ q ∈ prs us, IsNm q.1
  pl : ∀ q ∈ prs us, q.1 ∈ pool
  sm : ∀ q ∈ prs us, q.2.natAbs ≤ lim
section
variable {pool pool' : List Str} {us ds : List TP} {K : PySem.W.Frag} {C x : Addr} {H : Hp} {qs rs : List (Str × Int)}
theorem Fit.mono (h : Fit pool us) (s : ∀ x ∈ pool, x ∈ pool') : Fit pool' us := ⟨h.nr, h.nm, fun q hq => s _ (h.pl q hq), h.sm⟩
theorem Fit.len (h : Fit pool us) : us.length ≤ pool.length := by
  have := sub_len h.nr.asc fun x hx => by
    obtain ⟨q, hq, rfl⟩ := List.mem_map.mp hx
    exact h.pl q hq
  rwa [List.length_map, prs_len] at this
theorem Fit.raw (h : Fit pool us) (hp : pool.length ≤ 60) : Raw (prs us) 60 (60 * lim) := by
  have l := Nat.le_trans h.len hp
  refine ⟨h.nm, by rw [prs_len]; exact l, Nat.le_trans (tot_mul h.sm) ?_⟩
  rw [prs_len]
  exact Nat.mul_le_mul_right _ l
theorem Fit.due (h : Fit pool us) (hp : pool.length ≤ 60) : Due (prs us) := ⟨h.nr, h.nm, Nat.le_trans (h.raw hp).tt (by decide), (h.raw hp).ln⟩
theorem Own.one (h : Own C H x qs) (md : Mad qs rs) : SumR C H x rs := by
  obtain ⟨rs', hs, md'⟩ := h
  rw [md.same md' fun _ => rfl]
  exact hs
theorem SumR.own (h : SumR C H x qs) (n : Nrm qs) : Own C H x qs := ⟨qs, h, n, fun _ => rfl, fun q hq => List.mem_map.mpr ⟨q, hq, rfl⟩, Nat.le_refl _⟩
theorem Mad.fit (md : Mad (prs us) (prs ds)) (nm : ∀ q ∈ prs us, IsNm q.1) (pl : ∀ q ∈ prs us, q.1 ∈ pool) (sm : ∀ y, (RV.co (prs us) y).natAbs ≤ lim) : Fit pool ds := by
  refine ⟨md.nr, fun q hq => ?_, fun q hq => ?_, fun q hq => ?_⟩
  · obtain ⟨r, hr, e⟩ := List.mem_map.mp (md.nm q hq)
    exact e ▸ nm r hr
  · obtain ⟨r, hr, e⟩ := List.mem_map.mp (md.nm q hq)
    exact e ▸ pl r hr
  · rw [← md.nr.co hq, md.co]
    exact sm _
/-- no coefficient is greater: of a model with none greater -/
theorem Fit.co (h : Fit pool us) {c : Nat} (hc : ∀ q ∈ prs us, q.2.natAbs ≤ c) (y : Str) : (RV.co (prs us) y).natAbs ≤ c := by
  by_cases e : RV.co (prs us) y = 0
  · rw [e]
    exact Nat.zero_le _
  · obtain ⟨q, hq, rfl⟩ := List.mem_map.mp ((h.nr.mem y).mpr e)
    rw [h.nr.co hq]
    exact hc q hq
end
/-! ### steps with greater sums -/
section
variable {K : PySem.W.Frag} {C a b : Addr} {H : Hp} {qs rs : List (Str × Int)} {n m c d : Nat} {Q : VK}
theorem add_step2 (ha : Own C H a qs) (hb : Own C H b rs) (r1 : Raw qs n c) (r2 : Raw rs m d) (hn : n ≤ 60) (hm : m ≤ 60) (hp : ∃ pool : List Str, pool.length ≤ 60 ∧ ∀ q ∈ qs ++ rs, q.1 ∈ pool) (hc : c ≤ 10 ^ 42) (hd : d ≤ 10 ^ 42)
    (k : ∀ x H', Own C H' x (qs ++ rs) → Same H H' → Q (.ref x) H') : rBinO C (Irr (sp_addS C)) (.ref a) (.ref b) H Q := by
  unfold rBinO
  obtain ⟨qs', ha, m1⟩ := ha
  obtain ⟨rs', hb, m2⟩ := hb
  have d1 := r1.due m1 hn hc
  have d2 := r2.due m2 hm hd
  obtain ⟨dx, t, us, e, q⟩ := id ha
  obtain ⟨dy, t2, us2, e2, q2⟩ := id hb
  refine ⟨a, b, dx, _, dy, _, rfl, rfl, q _ List.mem_cons_self, q2 _ List.mem_cons_self, irr ⟨a, b, qs', rs', rfl, ha, hb, fun q hq => (List.mem_append.mp hq).elim (d1.nm q) (d2.nm q), ?_, fun x dx' t' ds H' md kp => ⟨x, rfl, k x H' ⟨_, SumR.of fun p hp => kp.at hp, m1.app2 m2 md⟩ kp.sm⟩⟩⟩
  refine ⟨?_, hp.imp fun pool hp => ⟨hp.1, fun q hq => ?_⟩⟩
  · have := m1.ln
    have := m2.ln
    have := r1.ln
    have := r2.ln
    rw [List.length_append]
    omega
  · rcases List.mem_append.mp hq with hq | hq
    · obtain ⟨r, hr, e⟩ := List.mem_map.mp (m1.nm q hq)
      exact e ▸ hp.2 r (List.mem_append_left _ hr)
    · obtain ⟨r, hr, e⟩ := List.mem_map.mp (m2.nm q hq)
      exact e ▸ hp.2 r (List.mem_append_right _ hr)
theorem sub_step2 (ha : Own C H a qs) (hb : Own C H b rs) (r1 : Raw qs n c) (r2 : Raw rs m d) (hn : n ≤ 60) (hm : m ≤ 60) (hp : ∃ pool : List Str, pool.length ≤ 60 ∧ ∀ q ∈ qs ++ rs, q.1 ∈ pool) (hc : c ≤ 10 ^ 42) (hd : d ≤ 10 ^ 42)
    (k : ∀ x H', Own C H' x (qs ++ scl (-1) rs) → Same H H' → Q (.ref x) H') : rBinO C (Irr (sp_subS C)) (.ref a) (.ref b) H Q := by
  unfold rBinO
  obtain ⟨qs', ha, m1⟩ := ha
  obtain ⟨rs', hb, m2⟩ := hb
  have d1 := r1.due m1 hn hc
  have d2 := r2.due m2 hm hd
  obtain ⟨dx, t, us, e, q⟩ := id ha
  obtain ⟨dy, t2, us2, e2, q2⟩ := id hb
  refine ⟨a, b, dx, _, dy, _, rfl, rfl, q _ List.mem_cons_self, q2 _ List.mem_cons_self, irr ⟨a, b, qs', rs', rfl, ha, hb, d1.nm, d2.lit, ?_, fun x dx' t' ds H' md kp => ⟨x, rfl, k x H' ⟨_, SumR.of fun p hp => kp.at hp, ?_⟩ kp.sm⟩⟩⟩
  · refine ⟨?_, hp.imp fun pool hp => ⟨hp.1, fun q hq => ?_⟩⟩
    · have := m1.ln
      have := m2.ln
      have := r1.ln
      have := r2.ln
      rw [List.length_append]
      omega
    · rcases List.mem_append.mp hq with hq | hq
      · obtain ⟨r, hr, e⟩ := List.mem_map.mp (m1.nm q hq)
        exact e ▸ hp.2 r (List.mem_append_left _ hr)
      · obtain ⟨r, hr, e⟩ := List.mem_map.mp (m2.nm q hq)
        exact e ▸ hp.2 r (List.mem_append_right _ hr)
  · refine md.of (fun x => by rw [co_app, co_app, scl_co, scl_co, m1.co, m2.co]) (fun q hq => ?_) (by rw [List.length_append, List.length_append, scl_len, scl_len]; exact Nat.add_le_add m1.ln m2.ln)
    rw [List.map_append, List.mem_append]
    exact (List.mem_append.mp hq).imp (m1.nm q) (m2.scl (-1) q)
end
section
variable {K : PySem.W.Frag} {l D : Addr} {us : List TP} {i j : Nat} {te : TE} {vs : List Nat} {σ : L2.St} {H1 : Hp} {Qd : Hp → Prop}
/-- [(x, n * z) for x, z in l] -/
theorem lc_scl (n : Int) (hl : Lsp K H1 l us) (nD : H1 D = none) (len : us.length ≤ 1000) (hw : ∀ x y, wipe (((wipe σ vs).set i x).set j y) vs = wipe σ vs)
    (h : ∀ q ∈ prs us, ∀ H2, Same H1 H2 → ∀ R : VK, (∀ t, H2 t = none → R (.ref t) (upd H2 t (.tup [.str q.1, .int (n * q.2)]))) → te (((wipe σ vs).set i (some (.str q.1))).set j (some (.int q.2))) H2 R)
    (k : ∀ (ws : List TP) H', prs ws = scl n (prs us) → Lsp K H' D ws → Same H1 H' → Qd H') :
    ∃ W : Nat → Nat → Hp → Prop, (∃ m, W 0 m (upd H1 D (.lst []))) ∧ ∀ i' m H, W i' m H →
      ((Itl K l).stop i' H ∧ Qd H) ∨ ((Itl K l).go i' H ∧ ∃ Nx : Hp → Prop, (∀ H', Nx H' → ∃ m', m' < m ∧ W (i' + 1) m' H') ∧ ∀ x H', (Itl K l).yld i' H x H' → gPr K i j x (wipe σ vs) H' fun σ2 H2 => wipe σ2 vs = wipe σ vs ∧ tYes σ2 H2 fun b H3 =>
        if b = true then te σ2 H3 fun y H4 => ∃ acc, H4 D = some (.lst acc) ∧ acc.length < sizeLine ∧ Nx (upd H4 D (.lst (acc ++ [y]))) else Nx H3) :=
  lc_mk (us := us) (fun q => (q.1, n * q.2)) _ (fun H' => SqL K H' l (vP us)) walkL hl.ps nD len (fun H' sm => hl.sL.ext sm) hw h fun ws H' e kp eD => k ws H' e ⟨eD, fun u hu => SqT.of (kp.at (List.mem_map.mpr ⟨u, hu, rfl⟩))⟩ kp.sm
end
def rTupOf (K : PySem.W.Frag) : List V → Hp → VK → Prop := fun xs H Q => ∃ p ys, xs = [V.ref p] ∧ ((SqL K H p ys ∧ ∀ l, H l = none → Q (.ref l) (upd H l (.tup ys))) ∨ (SqT K H p ys ∧ Q (.ref p) H))
theorem call_tuple_ofK {X : Cx} {K : PySem.W.Frag} (h : X.K = K := by rfl) : CallR X (.type "tuple") (rTupOf K) := h ▸ call_tuple_of
/-! ### promises -/
def vS (rs : List Rw) : List V := rs.map fun r => .ref r.1
def vM (rs : List Rw) : List V := rs.map fun r => .ref r.2.1
section
variable {K : PySem.W.Frag} {a D : Addr} {rs : List Rw} {i : Nat} {te : TE} {vs : List Nat} {σ : L2.St} {H1 : Hp} {Qd : Hp → Prop}
/-- [p(x) for x in xs]: p makes no thing and answers True or False -/
theorem lc_bools (v : Rw → V) (b : Rw → Bool) (hl : SqL K H1 a (rs.map v)) (nD : H1 D = none) (len : rs.length ≤ 1000) (hw : ∀ x, wipe ((wipe σ vs).set i x) vs = wipe σ vs)
    (h : ∀ r ∈ rs, ∀ H2, Same H1 H2 → ∀ R : VK, R (.bl (b r)) H2 → te ((wipe σ vs).set i (some (v r))) H2 R)
    (k : ∀ H', Same H1 H' → H' D = some (.lst ((rs.map b).map V.bl)) → Qd H') :
    ∃ W : Nat → Nat → Hp → Prop, (∃ m, W 0 m (upd H1 D (.lst []))) ∧ ∀ i' m H, W i' m H →
      ((Itl K a).stop i' H ∧ Qd H) ∨ ((Itl K a).go i' H ∧ ∃ Nx : Hp → Prop, (∀ H', Nx H' → ∃ m', m' < m ∧ W (i' + 1) m' H') ∧ ∀ x H', (Itl K a).yld i' H x H' → gName i x (wipe σ vs) H' fun σ2 H2 => wipe σ2 vs = wipe σ vs ∧ tYes σ2 H2 fun b H3 =>
        if b = true then te σ2 H3 fun y H4 => ∃ acc, H4 D = some (.lst acc) ∧ acc.length < sizeLine ∧ Nx (upd H4 D (.lst (acc ++ [y]))) else Nx H3) := by
  refine lc_list (xs := rs.map v) (fun i' H => Same H1 H ∧ H D = some (.lst (((rs.take i').map b).map V.bl))) ⟨fun b o e => by rw [upd_ne (ne_of_none e nD)]; exact e, upd_same⟩ (fun _ H _ z => hl.ext z.1) ?_ ?_
  · rintro i' x H hx ⟨sm, hD⟩
    rw [List.getElem?_map] at hx
    cases hu : rs[i']? with
    | none => rw [hu] at hx; cases hx
    | some u =>
      rw [hu] at hx
      obtain rfl : v u = x := Option.some.inj hx
      have hm : u ∈ rs := List.mem_of_getElem? hu
      have et : rs.take (i' + 1) = rs.take i' ++ [u] := by
        rw [List.take_add_one, hu]
        rfl
      have e0 : ∀ (σ : L2.St) (H : Hp) (R : Bool → Hp → Prop), R true H → tYes σ H R := fun _ _ _ r => r
      refine ⟨hw _, e0 _ _ _ ?_⟩
      simp only [↓reduceIte]
      refine h u hm H sm _ ⟨_, hD, ?_, fun b o e => by rw [upd_ne (ne_of_none e nD)]; exact sm b o e, ?_⟩
      · have l2 := List.length_take_le' i' rs
        rw [List.length_map, List.length_map]
        exact Nat.lt_of_le_of_lt (Nat.le_trans l2 len) (by decide)
      · rw [upd_same, et, List.map_append, List.map_append]
        rfl
  · rintro H ⟨sm, hD⟩
    rw [List.length_map, List.take_length] at hD
    exact k H sm hD
end
/-- the greatest size -/
def sp_much (K : PySem.W.Frag) : Sp := fun vs H Q _ => ∃ (l : Addr) (us : List TP), vs = [.ref l] ∧ Lsp K H l us ∧ us.length ≤ 60 ∧ ∀ (m : Int) H', (∀ q ∈ prs us, (q.2.natAbs : Int) ≤ m) → Same H H' → Q (.int m) H'
def sp_allr (K : PySem.W.Frag) (C : Addr) : Sp := fun vs H Q _ => ∃ (S M : Addr) (rs : List Rw), vs = [.ref S, .ref M] ∧ SqL K H S (vS rs) ∧ SqL K H M (vM rs) ∧ (∀ r ∈ rs, One K C H r ∧ Due (prs r.2.2)) ∧ rs.length ≤ 20 ∧ ∀ H', Same H H' → Q (.bl true) H'
def sp_turn (K : PySem.W.Frag) (C : Addr) : Sp := fun vs H Q _ => ∃ (a S M : Addr) (n : Nat) (rs : List Rw) (pool : List Str), vs = [.ref a, .ref S, .ref M] ∧ WellAt H a n ∧ n < 600000 ∧ S ≠ a ∧ M ≠ a ∧ H S = some (.lst (vS rs)) ∧ H M = some (.lst (vM rs)) ∧ rs.length = 4 ∧
  (∀ r ∈ rs, One K C H r ∧ Fit pool r.2.2 ∧ r.2.1 ≠ a) ∧ pool.length ≤ 57 ∧
  ∀ (p x l : Addr) (us : List TP) (new : List Str) H', H' p = some (.lst [.ref x, .ref l]) → Own C H' x (prs us) → Lsp K H' l us → us.length ≤ 120 → (∀ q ∈ prs us, IsNm q.1 ∧ q.1 ∈ pool ++ new) → new.length ≤ 3 → (∀ y, (co (prs us) y).natAbs ≤ lim) →
    Grow a H H' → WellAt H' a (n + 1010) → Q (.ref p) H'
def sp_row : Sp := fun vs H Q _ => ∃ (a : Addr) (n : Nat), vs = [.ref a] ∧ WellAt H a n ∧ n < 1000 ∧ ∀ H', Grow a H H' → Q (.bl true) H'
end RV
/-! a row: a list of sums and a list of their models, both changed in place; older ones -/
namespace RV
open PySem L2 PyProof.Rows TL
structure RowAt (K : PySem.W.Frag) (C : Addr) (H0 H : Hp) (a : Addr) (n : Nat) (S M : Addr) (rs os : List Rw) (pool : List Str) (L : List (Addr × HO)) : Prop where
  hs : Has H0 a n ((S, .lst (vS rs)) :: (M, .lst (vM rs)) :: L) H
  s0 : H0 S = none
  m0 : H0 M = none
  sm : S ≠ M
  off : ∀ p ∈ L, p.1 ≠ S ∧ p.1 ≠ M
  ln : rs.length = 4
  on : ∀ r ∈ rs ++ os, One K C H r ∧ Fit pool r.2.2 ∧ r.2.1 ≠ a ∧ r.2.1 ≠ S ∧ r.2.1 ≠ M
section
variable {K : PySem.W.Frag} {C : Addr} {H0 H H' : Hp} {a S M p : Addr} {n m : Nat} {rs os os' : List Rw} {pool pool' : List Str} {L L' : List (Addr × HO)} {o : HO}
theorem RowAt.eS (h : RowAt K C H0 H a n S M rs os pool L) : H S = some (.lst (vS rs)) := h.hs.at List.mem_cons_self
theorem RowAt.eM (h : RowAt K C H0 H a n S M rs os pool L) : H M = some (.lst (vM rs)) := h.hs.at (List.mem_cons_of_mem _ List.mem_cons_self)
theorem RowAt.at (h : RowAt K C H0 H a n S M rs os pool L) (hp : (p, o) ∈ L) : H p = some o := h.hs.at (List.mem_cons_of_mem _ (List.mem_cons_of_mem _ hp))
theorem RowAt.sa (h : RowAt K C H0 H a n S M rs os pool L) : S ≠ a := (h.hs.here _ List.mem_cons_self).1
theorem RowAt.ma (h : RowAt K C H0 H a n S M rs os pool L) : M ≠ a := (h.hs.here _ (List.mem_cons_of_mem _ List.mem_cons_self)).1
theorem RowAt.grow (h : RowAt K C H0 H a n S M rs os pool L) (g : Grow a H H') (w : WellAt H' a m) : RowAt K C H0 H' a m S M rs os pool L := by
  obtain ⟨x, y, z, e, _⟩ := h.hs.well
  exact ⟨h.hs.grow g w, h.s0, h.m0, h.sm, h.off, h.ln, fun r hr => by
    obtain ⟨on, ft, na, ns, nm⟩ := h.on r hr
    exact ⟨⟨on.sr.gro e g, on.ls.gro na e g⟩, ft, na, ns, nm⟩⟩
theorem RowAt.same (h : RowAt K C H0 H a n S M rs os pool L) (s : Same H H') : RowAt K C H0 H' a n S M rs os pool L :=
  ⟨h.hs.same s, h.s0, h.m0, h.sm, h.off, h.ln, fun r hr => ⟨(h.on r hr).1.ext s, (h.on r hr).2⟩⟩
theorem RowAt.new (h : RowAt K C H0 H a n S M rs os pool L) (np : H p = none) : RowAt K C H0 (upd H p o) a n S M rs os pool ((p, o) :: L) := by
  have s : Same H (upd H p o) := fun b u e => by rw [upd_ne (ne_of_none e np)]; exact e
  refine ⟨(h.hs.new np).sub fun q hq => ?_, h.s0, h.m0, h.sm, fun q hq => ?_, h.ln, fun r hr => ⟨(h.on r hr).1.ext s, (h.on r hr).2⟩⟩
  · simp only [List.mem_cons] at hq ⊢
    rcases hq with q | q | q | q
    · exact .inr (.inl q)
    · exact .inr (.inr (.inl q))
    · exact .inl q
    · exact .inr (.inr (.inr q))
  · rcases List.mem_cons.mp hq with rfl | hq
    · refine ⟨fun e => ?_, fun e => ?_⟩
      · rw [show p = S from e, h.eS] at np
        cases np
      · rw [show p = M from e, h.eM] at np
        cases np
    · exact h.off q hq
theorem RowAt.sub (h : RowAt K C H0 H a n S M rs os pool L) (s : ∀ q ∈ L', q ∈ L) : RowAt K C H0 H a n S M rs os pool L' :=
  ⟨h.hs.sub fun q hq => by
    simp only [List.mem_cons] at hq ⊢
    exact hq.imp id fun z => z.imp id (s q), h.s0, h.m0, h.sm, fun q hq => h.off q (s q hq), h.ln, h.on⟩
theorem RowAt.mono (h : RowAt K C H0 H a n S M rs os pool L) (hn : n ≤ m) (hp : ∀ x ∈ pool, x ∈ pool') : RowAt K C H0 H a m S M rs os pool' L :=
  ⟨h.hs.wm hn, h.s0, h.m0, h.sm, h.off, h.ln, fun r hr => ⟨(h.on r hr).1, (h.on r hr).2.1.mono hp, (h.on r hr).2.2⟩⟩
/-- sums[j], models[j] = .. -/
theorem RowAt.set (h : RowAt K C H0 H a n S M rs os pool L) {r : Rw} {j : Nat} (on : One K C H r) (ft : Fit pool r.2.2) (na : r.2.1 ≠ a) (ns : r.2.1 ≠ S) (nm : r.2.1 ≠ M) :
    RowAt K C H0 (upd (upd H S (.lst ((vS rs).set j (.ref r.1)))) M (.lst ((vM rs).set j (.ref r.2.1)))) a n S M (rs.set j r) (os ++ [r]) pool L := by
  have e1 : (vS rs).set j (.ref r.1) = vS (rs.set j r) := by rw [vS, vS, List.map_set]
  have e2 : (vM rs).set j (.ref r.2.1) = vM (rs.set j r) := by rw [vM, vM, List.map_set]
  rw [e1, e2]
  have eS := h.eS
  have eM := h.eM
  have eM' : upd H S (.lst (vS (rs.set j r))) M = some (.lst (vM rs)) := by rw [upd_ne h.sm.symm]; exact eM
  have g1 : Grow S H (upd H S (.lst (vS (rs.set j r)))) := Grow.put
  have g2 : Grow M (upd H S (.lst (vS (rs.set j r)))) (upd (upd H S (.lst (vS (rs.set j r)))) M (.lst (vM (rs.set j r)))) := Grow.put
  have all : ∀ r' : Rw, One K C H r' → r'.2.1 ≠ S → r'.2.1 ≠ M → One K C (upd (upd H S (.lst (vS (rs.set j r)))) M (.lst (vM (rs.set j r)))) r' := fun r' o1 n1 n2 =>
    ⟨(o1.sr.gro eS g1).gro eM' g2, (o1.ls.gro n1 eS g1).gro n2 eM' g2⟩
  have hh : Has H0 a n L H := h.hs.sub fun q hq => List.mem_cons_of_mem _ (List.mem_cons_of_mem _ hq)
  have h1 := hh.put (o := .lst (vS (rs.set j r))) h.s0 (fun q hq => (h.off q hq).1) h.sa
  have h2 := h1.put (o := .lst (vM (rs.set j r))) h.m0 (fun q hq => (h.off q hq).2) h.ma
  refine ⟨⟨h2.gr, h2.well, fun q hq => ?_⟩, h.s0, h.m0, h.sm, h.off, by rw [List.length_set]; exact h.ln, fun r' hr' => ?_⟩
  · simp only [List.mem_cons] at hq
    rcases hq with rfl | rfl | hq
    · exact ⟨h.sa, by rw [upd_ne h.sm]; exact upd_same⟩
    · exact ⟨h.ma, upd_same⟩
    · exact h2.here q hq
  · have old : r' ∈ rs ++ os → _ := fun z => h.on r' z
    have fin : r' = r ∨ r' ∈ rs ++ os := by
      rcases List.mem_append.mp hr' with z | z
      · rcases List.mem_or_eq_of_mem_set z with z | z
        · exact .inr (List.mem_append_left _ z)
        · exact .inl z
      · rcases List.mem_append.mp z with z | z
        · exact .inr (List.mem_append_right _ z)
        · exact .inl (List.mem_singleton.mp z)
    rcases fin with rfl | z
    · exact ⟨all _ on ns nm, ft, na, ns, nm⟩
    · obtain ⟨o1, f1, n1, n2, n3⟩ := h.on r' z
      exact ⟨all r' o1 n2 n3, f1, n1, n2, n3⟩
theorem vS_len (rs : List Rw) : (vS rs).length = rs.length := List.length_map _
theorem vM_len (rs : List Rw) : (vM rs).length = rs.length := List.length_map _
theorem vS_app (rs os : List Rw) : vS (rs ++ os) = vS rs ++ vS os := List.map_append
theorem vM_app (rs os : List Rw) : vM (rs ++ os) = vM rs ++ vM os := List.map_append
end
end RV
/-! nets: pipes, meters, nets in the heap; promises of their methods -/
namespace RV
open PySem L2 PyProof.Rows TL
def sp_check (K : PySem.W.Frag) : Sp := fun vs H Q _ => ∃ (t : Addr) (xs : List Str), vs = [.ref t] ∧ SqT K H t (xs.map V.str) ∧ (∀ x ∈ xs, IsNm x) ∧ ∀ H', Same H H' → Q .non H'
theorem k12 : ¬ (("_name" : Str) = "_start") := by decide +kernel
theorem k13 : ¬ (("_name" : Str) = "_end") := by decide +kernel
theorem k23 : ¬ (("_start" : Str) = "_end") := by decide +kernel
theorem k14 : ¬ (("_name" : Str) = "_at") := by decide +kernel
theorem k15 : ¬ (("_name" : Str) = "_sealed") := by decide +kernel
theorem k45 : ¬ (("_at" : Str) = "_sealed") := by decide +kernel
def pipeF (n s e : Str) : List (Str × V) := putF "_end" (.str e) (putF "_start" (.str s) (putF "_name" (.str n) []))
theorem pipeF_n (n s e : Str) : (pipeF n s e).lookup ("_name" : Str) = some (.str n) := by
  unfold pipeF
  rw [lookup_putF, if_neg k13, lookup_putF, if_neg k12, lookup_putF, if_pos rfl]
theorem pipeF_s (n s e : Str) : (pipeF n s e).lookup ("_start" : Str) = some (.str s) := by
  unfold pipeF
  rw [lookup_putF, if_neg k23, lookup_putF, if_pos rfl]
theorem pipeF_e (n s e : Str) : (pipeF n s e).lookup ("_end" : Str) = some (.str e) := by
  unfold pipeF
  rw [lookup_putF, if_pos rfl]
theorem putF_len (f : Str) (v : V) : ∀ fs : List (Str × V), (putF f v fs).length ≤ fs.length + 1
  | [] => Nat.le_refl _
  | (g, x) :: r => by
    show (if g = f then (g, v) :: r else (g, x) :: putF f v r).length ≤ _
    split
    · simp
    · have := putF_len f v r
      simp only [List.length_cons]
      omega
def metF (n a : Str) (z : Bool) : List (Str × V) := putF "_sealed" (.bl z) (putF "_at" (.str a) (putF "_name" (.str n) []))
theorem metF_n (n a : Str) (z : Bool) : (metF n a z).lookup ("_name" : Str) = some (.str n) := by
  unfold metF
  rw [lookup_putF, if_neg k15, lookup_putF, if_neg k14, lookup_putF, if_pos rfl]
theorem metF_a (n a : Str) (z : Bool) : (metF n a z).lookup ("_at" : Str) = some (.str a) := by
  unfold metF
  rw [lookup_putF, if_neg k45, lookup_putF, if_pos rfl]
theorem metF_z (n a : Str) (z : Bool) : (metF n a z).lookup ("_sealed" : Str) = some (.bl z) := by
  unfold metF
  rw [lookup_putF, if_pos rfl]
def sp_Pipe (C : Addr) : Sp := fun vs H Q _ => ∃ (x dx : Addr) (n s e : Str), vs = [.ref x, .str n, .str s, .str e] ∧ H x = some (.ins C dx []) ∧ IsNm n ∧ IsNm s ∧ IsNm e ∧ e ≠ s ∧
  ∀ H', (∀ b o, b ≠ x → H b = some o → H' b = some o) → (∃ dx, H' x = some (.ins C dx (pipeF n s e))) → Q .non H'
def sp_Meter (C : Addr) : Sp := fun vs H Q _ => ∃ (x dx : Addr) (n a : Str) (z : Bool), vs = [.ref x, .str n, .str a, .bl z] ∧ H x = some (.ins C dx []) ∧ IsNm n ∧ IsNm a ∧
  ∀ H', (∀ b o, b ≠ x → H b = some o → H' b = some o) → (∃ dx, H' x = some (.ins C dx (metF n a z))) → Q .non H'
abbrev P3 := Str × Str × Str
abbrev M3 := Str × Str × Bool
def PipeAt (C : Addr) (H : Hp) (p : Addr) (q : P3) : Prop := ∃ dx, H p = some (.ins C dx (pipeF q.1 q.2.1 q.2.2))
def MetAt (C : Addr) (H : Hp) (p : Addr) (q : M3) : Prop := ∃ dx, H p = some (.ins C dx (metF q.1 q.2.1 q.2.2))
theorem PipeAt.ext {C p : Addr} {H H' : Hp} {q : P3} (h : PipeAt C H p q) (s : Same H H') : PipeAt C H' p q := h.imp fun _ e => s _ _ e
theorem MetAt.ext {C p : Addr} {H H' : Hp} {q : M3} (h : MetAt C H p q) (s : Same H H') : MetAt C H' p q := h.imp fun _ e => s _ _ e
theorem PipeAt.gro {C a p : Addr} {H H' : Hp} {q : P3} {ys : List V} (h : PipeAt C H p q) (e : H a = some (.lst ys)) (g : Grow a H H') : PipeAt C H' p q := by
  obtain ⟨dx, z⟩ := h
  exact ⟨dx, g _ _ (fun w => by rw [w, e] at z; cases z) z⟩
theorem MetAt.gro {C a p : Addr} {H H' : Hp} {q : M3} {ys : List V} (h : MetAt C H p q) (e : H a = some (.lst ys)) (g : Grow a H H') : MetAt C H' p q := by
  obtain ⟨dx, z⟩ := h
  exact ⟨dx, g _ _ (fun w => by rw [w, e] at z; cases z) z⟩
/-- a pipe's, a meter's own properties -/
def sp_pn (C : Addr) : Sp := fun vs H Q _ => ∃ (a : Addr) (q : P3), vs = [.ref a] ∧ PipeAt C H a q ∧ Q (.str q.1) H
def sp_ps (C : Addr) : Sp := fun vs H Q _ => ∃ (a : Addr) (q : P3), vs = [.ref a] ∧ PipeAt C H a q ∧ Q (.str q.2.1) H
def sp_pe (C : Addr) : Sp := fun vs H Q _ => ∃ (a : Addr) (q : P3), vs = [.ref a] ∧ PipeAt C H a q ∧ Q (.str q.2.2) H
def sp_mn (C : Addr) : Sp := fun vs H Q _ => ∃ (a : Addr) (q : M3), vs = [.ref a] ∧ MetAt C H a q ∧ Q (.str q.1) H
def sp_ma (C : Addr) : Sp := fun vs H Q _ => ∃ (a : Addr) (q : M3), vs = [.ref a] ∧ MetAt C H a q ∧ Q (.str q.2.1) H
def sp_mz (C : Addr) : Sp := fun vs H Q _ => ∃ (a : Addr) (q : M3), vs = [.ref a] ∧ MetAt C H a q ∧ Q (.bl q.2.2) H
/-- two of a kind are compared -/
def sp_Peq (C : Addr) : Sp := fun vs H Q _ => ∃ (a b : Addr) (q r : P3), vs = [.ref a, .ref b] ∧ PipeAt C H a q ∧ PipeAt C H b r ∧ Q (.bl (decide (q = r))) H
def sp_Meq (C : Addr) : Sp := fun vs H Q _ => ∃ (a b : Addr) (q r : M3), vs = [.ref a, .ref b] ∧ MetAt C H a q ∧ MetAt C H b r ∧ Q (.bl (decide (q = r))) H
structure PClass (K : PySem.W.Frag) (mg : Str → Option Value) (C : Addr) : Prop where
  x : ClsX K C
  k : mg "Pipe" = some (.ref C)
  n1 : NoAttr K C "_name"
  n2 : NoAttr K C "_start"
  n3 : NoAttr K C "_end"
  me : PySem.W.kitOne K (.ref C) (.ref C) = some true
structure MClass (K : PySem.W.Frag) (mg : Str → Option Value) (C : Addr) : Prop where
  x : ClsX K C
  k : mg "Meter" = some (.ref C)
  n1 : NoAttr K C "_name"
  n2 : NoAttr K C "_at"
  n3 : NoAttr K C "_sealed"
  me : PySem.W.kitOne K (.ref C) (.ref C) = some true
structure NClass (K : PySem.W.Frag) (mg : Str → Option Value) (C : Addr) : Prop where
  x : ClsX K C
  k : mg "Net" = some (.ref C)
  n1 : NoAttr K C "_pipes"
  n2 : NoAttr K C "_meters"
  me : PySem.W.kitOne K (.ref C) (.ref C) = some true
section
variable {H : Hp} {R : Hp → Prop} {E : XK} {C x dx : Addr} {n s e : Str} {z : Bool}
theorem Pipe_kp (h1 : IsNm n) (h2 : IsNm s) (h3 : IsNm e) (hne : e ≠ s) (hx : H x = none) (hd : H dx = none) (_ : dx ≠ x) (k : ∀ H', Same H H' → PipeAt C H' x (n, s, e) → R H') :
    Irr (sp_Pipe C) [.ref x, .str n, .str s, .str e] (upd (upd H dx (.own x)) x (.ins C dx [])) (fun v H2 => v = .non ∧ R H2) E :=
  irr ⟨x, dx, n, s, e, rfl, upd_same, h1, h2, h3, hne, fun H' g p => ⟨rfl, k H' (fun b o eb => g b o (ne_of_none eb hx) (by rw [upd_ne (ne_of_none eb hx), upd_ne (ne_of_none eb hd)]; exact eb)) p⟩⟩
theorem Meter_kp (h1 : IsNm n) (h2 : IsNm s) (hx : H x = none) (hd : H dx = none) (_ : dx ≠ x) (k : ∀ H', Same H H' → MetAt C H' x (n, s, z) → R H') :
    Irr (sp_Meter C) [.ref x, .str n, .str s, .bl z] (upd (upd H dx (.own x)) x (.ins C dx [])) (fun v H2 => v = .non ∧ R H2) E :=
  irr ⟨x, dx, n, s, z, rfl, upd_same, h1, h2, fun H' g p => ⟨rfl, k H' (fun b o eb => g b o (ne_of_none eb hx) (by rw [upd_ne (ne_of_none eb hx), upd_ne (ne_of_none eb hd)]; exact eb)) p⟩⟩
end
theorem strs_flat : ∀ xs : List Str, (xs.map V.str).all flatV = true
  | [] => rfl
  | x :: xs => by simp [flatV, strs_flat xs]
/-- a name is not among those in front of it -/
theorem nodup_take {α : Type} {f : α → Str} : ∀ {xs : List α} {i : Nat} {x : α}, (xs.map f).Nodup → xs[i]? = some x → f x ∉ (xs.take i).map f
  | [], _, _, _, h => by simp at h
  | y :: ys, 0, x, _, _ => by simp
  | y :: ys, i + 1, x, nd, h => by
    rw [List.map_cons, List.nodup_cons] at nd
    rw [List.getElem?_cons_succ] at h
    rw [List.take_succ_cons, List.map_cons, List.mem_cons]
    rintro (e | e)
    · exact nd.1 (by rw [← e]; exact List.mem_map.mpr ⟨x, List.mem_of_getElem? h, rfl⟩)
    · exact nodup_take nd.2 h e
/-! ### nets -/
theorem kPM : ¬ (("_pipes" : Str) = "_meters") := by decide +kernel
def netF (tp tm : Addr) : List (Str × V) := putF "_meters" (.ref tm) (putF "_pipes" (.ref tp) [])
theorem netF_p (tp tm : Addr) : (netF tp tm).lookup ("_pipes" : Str) = some (.ref tp) := by
  unfold netF
  rw [lookup_putF, if_neg kPM, lookup_putF, if_pos rfl]
theorem netF_m (tp tm : Addr) : (netF tp tm).lookup ("_meters" : Str) = some (.ref tm) := by
  unfold netF
  rw [lookup_putF, if_pos rfl]
abbrev PU := Addr × P3
abbrev MU := Addr × M3
def rf {α : Type} (us : List (Addr × α)) : List V := us.map fun u => .ref u.1
def sn {α : Type} (us : List (Addr × α)) : List α := us.map (·.2)
theorem rf_len {α : Type} (us : List (Addr × α)) : (rf us).length = us.length := List.length_map _
theorem sn_len {α : Type} (us : List (Addr × α)) : (sn us).length = us.length := List.length_map _
/-- a tuple of pipes, of meters -/
structure Tps (K : PySem.W.Frag) (C : Addr) (H : Hp) (t : Addr) (us : List PU) : Prop where
  t : SqT K H t (rf us)
  o : ∀ u ∈ us, PipeAt C H u.1 u.2
structure Tms (K : PySem.W.Frag) (C : Addr) (H : Hp) (t : Addr) (us : List MU) : Prop where
  t : SqT K H t (rf us)
  o : ∀ u ∈ us, MetAt C H u.1 u.2
theorem Tps.ext {K : PySem.W.Frag} {C t : Addr} {H H' : Hp} {us : List PU} (h : Tps K C H t us) (s : Same H H') : Tps K C H' t us := ⟨h.t.ext s, fun u hu => (h.o u hu).ext s⟩
theorem Tms.ext {K : PySem.W.Frag} {C t : Addr} {H H' : Hp} {us : List MU} (h : Tms K C H t us) (s : Same H H') : Tms K C H' t us := ⟨h.t.ext s, fun u hu => (h.o u hu).ext s⟩
/-- what a net's pipes, a net's meters are -/
structure POk (ps : List P3) : Prop where
  n0 : ps ≠ []
  ln : ps.length ≤ 12
  nm : ∀ p ∈ ps, IsNm p.1 ∧ IsNm p.2.1 ∧ IsNm p.2.2 ∧ p.2.2 ≠ p.2.1
  nd : (ps.map (·.1)).Nodup
structure MOk (ps : List P3) (ms : List M3) : Prop where
  ln : ms.length ≤ 12
  nm : ∀ m ∈ ms, IsNm m.1 ∧ IsNm m.2.1
  nd : (ms.map (·.1)).Nodup
  on : ∀ m ∈ ms, m.2.1 ∈ ps.map (·.1)
/-- a net in the heap -/
structure NetR (K : PySem.W.Frag) (CN CP CM : Addr) (H : Hp) (x : Addr) (ps : List P3) (ms : List M3) : Prop where
  ex : ∃ (dx tp tm : Addr) (pu : List PU) (mu : List MU), H x = some (.ins CN dx (netF tp tm)) ∧ Tps K CP H tp pu ∧ Tms K CM H tm mu ∧ sn pu = ps ∧ sn mu = ms
theorem NetR.ext {K : PySem.W.Frag} {CN CP CM x : Addr} {H H' : Hp} {ps : List P3} {ms : List M3} (h : NetR K CN CP CM H x ps ms) (s : Same H H') : NetR K CN CP CM H' x ps ms := by
  obtain ⟨dx, tp, tm, pu, mu, e, h1, h2, h3⟩ := h.ex
  exact ⟨dx, tp, tm, pu, mu, s _ _ e, h1.ext s, h2.ext s, h3⟩
def sp_index (K : PySem.W.Frag) (CP : Addr) : Sp := fun vs H Q _ => ∃ (t : Addr) (us : List PU) (y : Str), vs = [.ref t, .str y] ∧ Tps K CP H t us ∧ us.length ≤ 12 ∧ y ∈ (sn us).map (·.1) ∧ ∀ (i : Nat) H', ((sn us)[i]?).map (·.1) = some y → Same H H' → Q (.int (i : Nat)) H'
def sp_chkP (K : PySem.W.Frag) (CP : Addr) : Sp := fun vs H Q _ => ∃ (t : Addr) (us : List PU), vs = [.ref t] ∧ Tps K CP H t us ∧ POk (sn us) ∧ ∀ H', Same H H' → Q .non H'
def sp_chkM (K : PySem.W.Frag) (CP CM : Addr) : Sp := fun vs H Q _ => ∃ (t tp : Addr) (us : List MU) (pu : List PU), vs = [.ref t, .ref tp] ∧ Tms K CM H t us ∧ Tps K CP H tp pu ∧ pu.length ≤ 12 ∧ MOk (sn pu) (sn us) ∧ ∀ H', Same H H' → Q .non H'
def sp_Net (K : PySem.W.Frag) (CN CP CM : Addr) : Sp := fun vs H Q _ => ∃ (x dx tp tm : Addr) (pu : List PU) (mu : List MU), vs = [.ref x, .ref tp, .ref tm] ∧ H x = some (.ins CN dx []) ∧ Tps K CP H tp pu ∧ Tms K CM H tm mu ∧ POk (sn pu) ∧ MOk (sn pu) (sn mu) ∧
  ∀ H', (∀ b o, b ≠ x → H b = some o → H' b = some o) → (∃ dx, H' x = some (.ins CN dx (netF tp tm))) → Q .non H'
section
variable {K : PySem.W.Frag} {CN CP CM x dx tp tm : Addr} {H : Hp} {pu : List PU} {mu : List MU} {R : Hp → Prop} {E : XK}
theorem Net_kp (hp : Tps K CP H tp pu) (hm : Tms K CM H tm mu) (po : POk (sn pu)) (mo : MOk (sn pu) (sn mu)) (hx : H x = none) (hd : H dx = none) (_ : dx ≠ x) (k : ∀ H', Same H H' → NetR K CN CP CM H' x (sn pu) (sn mu) → R H') :
    Irr (sp_Net K CN CP CM) [.ref x, .ref tp, .ref tm] (upd (upd H dx (.own x)) x (.ins CN dx [])) (fun v H2 => v = .non ∧ R H2) E := by
  have s : Same H (upd (upd H dx (.own x)) x (.ins CN dx [])) := fun b o eb => by rw [upd_ne (ne_of_none eb hx), upd_ne (ne_of_none eb hd)]; exact eb
  refine irr ⟨x, dx, tp, tm, pu, mu, rfl, upd_same, hp.ext s, hm.ext s, po, mo, fun H' g p => ⟨rfl, ?_⟩⟩
  have s' : Same H H' := fun b o eb => g b o (ne_of_none eb hx) (s b o eb)
  obtain ⟨dx', p⟩ := p
  exact k H' s' ⟨dx', tp, tm, pu, mu, p, hp.ext s', hm.ext s', rfl, rfl⟩
end
end RV
/-! comprehensions: one thing for each item; the items that fit -/
namespace RV
open PySem L2 PyProof.Rows TL
section
variable {α β : Type} {K : PySem.W.Frag} {D : Addr} {xs : List V} {i : Nat} {te : TE} {tt : TT} {vs : List Nat} {σ : L2.St} {H1 : Hp} {Qd : Hp → Prop} {J : It} {GG : Hp → Prop}
/-- [f(x) for x in xs]: each turn gives a value of which something is known -/
theorem lc_new (val : β → V) (Pk : Nat → β → Hp → Prop) (wk : Walk J xs.length GG (YAt xs)) (nD : H1 D = none) (len : xs.length ≤ 1000) (hG : ∀ H', Same H1 H' → GG H') (hw : ∀ x, wipe ((wipe σ vs).set i x) vs = wipe σ vs)
    (ext : ∀ k b H H', Same H H' → Pk k b H → Pk k b H') (put : ∀ k b H acc acc', H D = some (.lst acc) → Pk k b H → Pk k b (upd H D (.lst acc')))
    (h : ∀ k x, xs[k]? = some x → ∀ H2, Same H1 H2 → (∃ acc, H2 D = some (.lst acc)) → ∀ R : VK, (∀ b H3, Same H2 H3 → Pk k b H3 → R (val b) H3) → te ((wipe σ vs).set i (some x)) H2 R)
    (k : ∀ (bs : List β) H', Same H1 H' → bs.length = xs.length → (∀ k b, bs[k]? = some b → Pk k b H') → H' D = some (.lst (bs.map val)) → Qd H') :
    ∃ W : Nat → Nat → Hp → Prop, (∃ m, W 0 m (upd H1 D (.lst []))) ∧ ∀ i' m H, W i' m H →
      (J.stop i' H ∧ Qd H) ∨ (J.go i' H ∧ ∃ Nx : Hp → Prop, (∀ H', Nx H' → ∃ m', m' < m ∧ W (i' + 1) m' H') ∧ ∀ x H', J.yld i' H x H' → gName i x (wipe σ vs) H' fun σ2 H2 => wipe σ2 vs = wipe σ vs ∧ tYes σ2 H2 fun b H3 =>
        if b = true then te σ2 H3 fun y H4 => ∃ acc, H4 D = some (.lst acc) ∧ acc.length < sizeLine ∧ Nx (upd H4 D (.lst (acc ++ [y]))) else Nx H3) := by
  refine L2.lc_it wk (fun i' H' => ∃ bs : List β, bs.length = i' ∧ Same H1 H' ∧ H' D = some (.lst (bs.map val)) ∧ ∀ k b, bs[k]? = some b → Pk k b H')
    ⟨[], rfl, fun b o e => (upd_ne (ne_of_none e nD)).trans e, upd_same, fun k b e => by simp at e⟩ (fun i' H' _ z => ?_) (fun i' x Ha Hb hi hv y => ?_) (fun H' hv => ?_)
  · obtain ⟨_, _, s, _⟩ := z
    exact hG _ s
  · obtain ⟨bs, hb, s, eD, hp⟩ := hv
    obtain ⟨rfl, hx⟩ := y
    have e0 : ∀ (σ : L2.St) (H : Hp) (R : Bool → Hp → Prop), R true H → tYes σ H R := fun _ _ _ r => r
    refine ⟨hw _, e0 _ _ _ ?_⟩
    simp only [↓reduceIte]
    refine h i' x hx Hb s ⟨_, eD⟩ _ fun b H3 s3 pb => ?_
    have eD3 := s3 _ _ eD
    refine ⟨_, eD3, ?_, bs ++ [b], by rw [List.length_append, hb]; rfl, fun c o e => ?_, by rw [upd_same, List.map_append]; rfl, fun k c e => ?_⟩
    · rw [List.length_map, hb]
      exact Nat.lt_of_lt_of_le (show i' < 1001 by omega) (by decide)
    · rw [upd_ne (ne_of_none e nD)]
      exact s3 _ _ (s _ _ e)
    · refine put _ _ _ _ _ eD3 ?_
      rw [List.getElem?_append] at e
      split at e
      · exact ext _ _ _ _ s3 (hp k c e)
      · rename_i hk
        have : k - bs.length = 0 := by
          have := (List.getElem?_eq_some_iff.mp e).1
          simp at this
          omega
        rw [this] at e
        obtain rfl : b = c := Option.some.inj e
        rw [show k = i' by omega]
        exact pb
  · obtain ⟨bs, hb, s, eD, hp⟩ := hv
    exact k bs H' s hb hp eD
/-- [f(x) for x in xs]: plain values -/
theorem lc_to (ys : List V) (hl : ys.length = xs.length) (wk : Walk J xs.length GG (YAt xs)) (nD : H1 D = none) (len : xs.length ≤ 1000) (hG : ∀ H', Same H1 H' → GG H') (hw : ∀ x, wipe ((wipe σ vs).set i x) vs = wipe σ vs)
    (h : ∀ (k : Nat) (x y : V), xs[k]? = some x → ys[k]? = some y → ∀ H2, Same H1 H2 → ∀ R : VK, (∀ H3, Same H2 H3 → R y H3) → te ((wipe σ vs).set i (some x)) H2 R)
    (k : ∀ H', Same H1 H' → H' D = some (.lst ys) → Qd H') :
    ∃ W : Nat → Nat → Hp → Prop, (∃ m, W 0 m (upd H1 D (.lst []))) ∧ ∀ i' m H, W i' m H →
      (J.stop i' H ∧ Qd H) ∨ (J.go i' H ∧ ∃ Nx : Hp → Prop, (∀ H', Nx H' → ∃ m', m' < m ∧ W (i' + 1) m' H') ∧ ∀ x H', J.yld i' H x H' → gName i x (wipe σ vs) H' fun σ2 H2 => wipe σ2 vs = wipe σ vs ∧ tYes σ2 H2 fun b H3 =>
        if b = true then te σ2 H3 fun y H4 => ∃ acc, H4 D = some (.lst acc) ∧ acc.length < sizeLine ∧ Nx (upd H4 D (.lst (acc ++ [y]))) else Nx H3) := by
  refine lc_new (β := V) id (fun (k : Nat) (b : V) (_ : Hp) => (ys[k]? : Option V) = some b) wk nD len hG hw (fun _ _ _ _ _ e => e) (fun _ _ _ _ _ _ e => e) (fun k x hx H2 s2 _ R r => ?_) fun bs H' s' bl bp eD => ?_
  · have hk := (List.getElem?_eq_some_iff.mp hx).1
    have e : ys[k]? = some (ys[k]'(by omega)) := List.getElem?_eq_getElem _
    exact h k x _ hx e H2 s2 R fun H3 s3 => r _ H3 s3 e
  · refine k H' s' ?_
    rw [eD, List.map_id]
    congr 2
    refine List.ext_getElem? fun j => ?_
    cases e : bs[j]? with
    | some b => rw [bp j b e]
    | none => rw [List.getElem?_eq_none_iff] at e; rw [List.getElem?_eq_none (by omega)]
/-- [x for x in xs if p(x)] over things at addresses -/
theorem lc_keep {us : List (Addr × α)} (p : Addr × α → Bool) (wk : Walk J (rf us).length GG (YAt (rf us))) (nD : H1 D = none) (len : us.length ≤ 1000) (hG : ∀ H', Same H1 H' → GG H') (hw : ∀ x, wipe ((wipe σ vs).set i x) vs = wipe σ vs)
    (ht : ∀ u ∈ us, ∀ H2, Same H1 H2 → ∀ R : Bool → Hp → Prop, (∀ H3, Same H2 H3 → R (p u) H3) → tt ((wipe σ vs).set i (some (.ref u.1))) H2 R)
    (he : ∀ u ∈ us, ∀ H2, ∀ R : VK, R (.ref u.1) H2 → te ((wipe σ vs).set i (some (.ref u.1))) H2 R)
    (k : ∀ H', Same H1 H' → H' D = some (.lst (rf (us.filter p))) → Qd H') :
    ∃ W : Nat → Nat → Hp → Prop, (∃ m, W 0 m (upd H1 D (.lst []))) ∧ ∀ i' m H, W i' m H →
      (J.stop i' H ∧ Qd H) ∨ (J.go i' H ∧ ∃ Nx : Hp → Prop, (∀ H', Nx H' → ∃ m', m' < m ∧ W (i' + 1) m' H') ∧ ∀ x H', J.yld i' H x H' → gName i x (wipe σ vs) H' fun σ2 H2 => wipe σ2 vs = wipe σ vs ∧ tt σ2 H2 fun b H3 =>
        if b = true then te σ2 H3 fun y H4 => ∃ acc, H4 D = some (.lst acc) ∧ acc.length < sizeLine ∧ Nx (upd H4 D (.lst (acc ++ [y]))) else Nx H3) := by
  refine L2.lc_it wk (fun i' H' => Same H1 H' ∧ H' D = some (.lst (rf ((us.take i').filter p))))
    ⟨fun b o e => (upd_ne (ne_of_none e nD)).trans e, upd_same⟩ (fun i' H' _ z => hG _ z.1) (fun i' x Ha Hb hi hv y => ?_) (fun H' hv => ?_)
  · obtain ⟨s, eD⟩ := hv
    obtain ⟨rfl, hx⟩ := y
    rw [rf, List.getElem?_map] at hx
    cases hu : us[i']? with
    | none => rw [hu] at hx; cases hx
    | some u =>
      rw [hu] at hx
      obtain rfl : V.ref u.1 = x := Option.some.inj hx
      have hm := List.mem_of_getElem? hu
      have et : us.take (i' + 1) = us.take i' ++ [u] := by rw [List.take_add_one, hu]; rfl
      refine ⟨hw _, ht u hm Hb s _ fun H3 s3 => ?_⟩
      have eD3 := s3 _ _ eD
      cases hp : p u with
      | false =>
        refine iteF ⟨fun b o e => s3 b o (s b o e), ?_⟩
        rw [eD3, et, List.filter_append, List.filter_cons_of_neg (by rw [hp]; decide), List.filter_nil, List.append_nil]
      | true =>
        refine iteT (he u hm H3 _ ⟨_, eD3, ?_, fun b o e => ?_, ?_⟩)
        · rw [rf_len]
          have l1 := List.length_filter_le p (us.take i')
          have l3 := List.length_take_le' i' us
          exact Nat.lt_of_le_of_lt (Nat.le_trans l1 (Nat.le_trans l3 len)) (by decide)
        · rw [upd_ne (ne_of_none e nD)]
          exact s3 _ _ (s _ _ e)
        · rw [upd_same, et, List.filter_append, List.filter_cons_of_pos hp, List.filter_nil, rf, rf, List.map_append]
          rfl
  · obtain ⟨s, eD⟩ := hv
    rw [rf_len, List.take_length] at eD
    exact k H' s eD
end
/-! ### the lines of a net -/
def pline (q : P3) : Str := Str.empty ++ "pipe " ++ q.1 ++ " " ++ q.2.1 ++ " " ++ q.2.2
def mseal (z : Bool) : Str := if z then " sealed" else ""
def mline (q : M3) : Str := Str.empty ++ "meter " ++ q.1 ++ " " ++ q.2.1 ++ mseal q.2.2
def netL (ps : List P3) (ms : List M3) : List Str := ps.map pline ++ ms.map mline
def netT (ps : List P3) (ms : List M3) : Str := Txt.join "\n" (netL ps ms)
def sp_pline (CP : Addr) : Sp := fun vs H Q _ => ∃ (a : Addr) (q : P3), vs = [.ref a] ∧ PipeAt CP H a q ∧ IsNm q.1 ∧ IsNm q.2.1 ∧ IsNm q.2.2 ∧ Q (.str (pline q)) H
def sp_mline (CM : Addr) : Sp := fun vs H Q _ => ∃ (a : Addr) (q : M3), vs = [.ref a] ∧ MetAt CM H a q ∧ IsNm q.1 ∧ IsNm q.2.1 ∧ Q (.str (mline q)) H
/-- names that a text is made of -/
def PNm (ps : List P3) : Prop := ∀ p ∈ ps, IsNm p.1 ∧ IsNm p.2.1 ∧ IsNm p.2.2
def MNm (ms : List M3) : Prop := ∀ p ∈ ms, IsNm p.1 ∧ IsNm p.2.1
def sp_lines (K : PySem.W.Frag) (CP CM : Addr) : Sp := fun vs H Q _ => ∃ (tp tm : Addr) (pu : List PU) (mu : List MU), vs = [.ref tp, .ref tm] ∧ Tps K CP H tp pu ∧ Tms K CM H tm mu ∧ PNm (sn pu) ∧ MNm (sn mu) ∧ pu.length ≤ 20 ∧ mu.length ≤ 20 ∧
  ∀ l H', Kp H [(l, .lst ((netL (sn pu) (sn mu)).map V.str))] H' → Q (.ref l) H'
def sp_nstr (K : PySem.W.Frag) (CN CP CM : Addr) : Sp := fun vs H Q _ => ∃ (x : Addr) (ps : List P3) (ms : List M3), vs = [.ref x] ∧ NetR K CN CP CM H x ps ms ∧ PNm ps ∧ MNm ms ∧ ps.length ≤ 20 ∧ ms.length ≤ 20 ∧ ∀ H', Same H H' → Q (.str (netT ps ms)) H'
theorem nm8 {x : Str} (h : IsNm x) : 1 ≤ x.length ∧ x.length ≤ 8 := by rw [cd_len]; exact isNm_len h
end RV
set_option linter.all false
/-! == of tuples of own objects: all equal, or one of them empty -/
namespace GQ
open PySem PySem.SeqAt
open AutoSeq1 (wpAny_loadPart')
open MeetsSeq MeetsSeq2 MeetsSeq3 SeqRoads2
section
variable {prog : Program} {w : World} {A : Around} {R : Result → Shared → Prop}
theorem rv_tuple_eq0 (l b : Addr) (items items2 : Array Value) (n n2 : Nat) (dd dd2 : Option Addr) (sl sl2 : Array (Option Value)) (h0 : items.size = 0 ∨ items2.size = 0) (hne : items.size ≠ items2.size)
    {s : Shared} (fin : R (.ok (.ret (.bool false))) s) (hl1 : s.heap.get? l = some { cls := .type "tuple", dict := dd, data := .seq items n, slots := sl }) (hb1 : s.heap.get? b = some { cls := .type "tuple", dict := dd2, data := .seq items2 n2, slots := sl2 }) :
    wpAny (model prog w) A.in1 (Builtin.«tuple.__eq__» ⟨[.ref l, .ref b], []⟩) (FinOf prog w A R) (fun e s' => R (.error e) s') s := by
  have f2 := AutoSeq1.sub_tuple_tuple
  have hZ : items.toList.zip items2.toList = [] := by
    rcases h0 with h | h
    · rw [show items = #[] from Array.eq_empty_of_size_eq_zero h]
      rfl
    · rw [show items2 = #[] from Array.eq_empty_of_size_eq_zero h]
      simp
  have hs : ∃ t, t = s := ⟨s, rfl⟩
  obtain ⟨t, ht⟩ := hs
  obtain ⟨hp, g, d, tk, os⟩ := s
  wp_walk using wpAny_loadPart' hl1, wpAny_loadPart' hb1, wpAny_forIn_list _ (fun rest b s' => b.1 = none ∧ rest = [] ∧ s' = t) _
  case turn =>
    rintro ⟨y, x⟩ rest b s' ⟨_, hz, _⟩
    cases hz
  case fin =>
    rintro ⟨b1, b2⟩ s' ⟨hb', _, hs'⟩
    simp only at hb'
    subst hb'
    subst hs'
    subst ht
    wp_walk
    have e : (items.size == items2.size) = false := by simpa using hne
    simp only [Builtin.Tuple.tupleCompareSizes]
    show R (.ok (.ret (.bool (items.size == items2.size)))) _
    rw [e]
    exact fin
  case h =>
    exact ⟨rfl, hZ, ht.symm⟩
end
section
variable {prog : Program} {w : World} {A : Around} {E : Value → Shared → Prop} {s : Shared}
theorem rv_rc_tup0 {l b : Addr} {items items2 : Array Value} {Q : Value → Shared → Prop} (h0 : items.size = 0 ∨ items2.size = 0) (hne : items.size ≠ items2.size) (hu : A.units < cLine)
    (hl : s.heap.IsTuple l items) (hb : s.heap.IsTuple b items2) (fin : Q (.bool false) s) : wpAny (model prog w) A (richCompare .Eq (.ref l) (.ref b)) Q E s := by
  obtain ⟨⟨cls, dd, data, sl⟩, ho, hc, n, hd⟩ := id hl
  obtain ⟨⟨cls2, dd2, data2, sl2⟩, ho2, hc2, n2, hd2⟩ := id hb
  simp only at hc hd hc2 hd2
  subst hc hd hc2 hd2
  refine wpAny_richCompare_same_room (op := .Eq) ⟨_, ho, rfl⟩ ⟨_, ho2, rfl⟩ F.slot_tuple_eq (call_here F.slot_tuple_eq ⟨_, ho, rfl⟩ F.entry_tuple_eq (F.args_tuple_eq_2 _ _) ?_) hu
  exact rv_tuple_eq0 (R := wants (fun v s' => v ≠ .notImplemented ∧ Q v s') E) l b items items2 n n2 dd dd2 sl sl2 h0 hne ⟨(fun x => nomatch x), fin⟩ ho ho2
end
end GQ
namespace RV
open PySem L2 PyProof.Rows
def rEqTup (K : PySem.W.Frag) (D : Eqv) : R2 := fun x y H Q => (DTup K D x y H ∧ ∀ H', Ext H H' → Q (.bl true) H') ∨
  (∃ a b xs ys, x = .ref a ∧ y = .ref b ∧ SqT K H a xs ∧ SqT K H b ys ∧ (xs.length = 0 ∨ ys.length = 0) ∧ xs.length ≠ ys.length ∧ Q (.bl false) H)
theorem op_eqTup {X : Cx} {n : Nat} {D : Eqv} (h : RcG X n (DTup X.K D)) (hr : Room n X.A) : OpR X (compareOp .Eq) (rEqTup X.K D) := by
  intro pins s σ H x y v u Q I rx ry hq
  rcases hq with hq | hq
  · exact op_eqG h hr pins s σ H x y v u Q I rx ry hq
  · obtain ⟨a, b, xs, ys, rfl, rfl, ha, hb, h0, hne, q⟩ := hq
    cases rx
    cases ry
    obtain ⟨its, r, e, z⟩ := I.tuple ha
    obtain ⟨its2, r2, e2, z2⟩ := I.tuple hb
    show wpAny (model X.prog X.w) X.A (richCompare .Eq (.ref a) (.ref b)) (EP X pins σ Q) X.xe s
    refine GQ.rv_rc_tup0 (items := its.toArray) (items2 := its2.toArray) ?_ ?_ hr.units0 e e2 ⟨.bl false, H, I, rfl, q⟩
    · rw [List.size_toArray, List.size_toArray, ← r.length, ← r2.length]
      exact h0
    · rw [List.size_toArray, List.size_toArray, ← r.length, ← r2.length]
      exact hne
/-- two of a kind that are equal -/
def SmP (C : Addr) : Addr → Addr → Hp → Prop := fun a b H => ∃ q, PipeAt C H a q ∧ PipeAt C H b q
def SmM (C : Addr) : Addr → Addr → Hp → Prop := fun a b H => ∃ q, MetAt C H a q ∧ MetAt C H b q
theorem rc_pipes {X : Cx} {C : Addr} (h : OwnEq X.prog X.w X.K X.mg X.base C 1 (sp_Peq C)) : RcG X 2 (DTup X.K (DIns C (SmP C))) := by
  obtain ⟨f, fd, ps, a, b, c, F⟩ := h.fn
  refine rcG_tup (mon_ins fun a b H H' e z => ?_) (eqG_ins (CX := CX0) (E := E0) (F.imp fun vs H Q E z => ?_) a b c pass0)
  · obtain ⟨q, h1, h2⟩ := z
    exact ⟨q, h1.ext e, h2.ext e⟩
  · obtain ⟨a, b, rfl, ⟨q, h1, h2⟩, k⟩ := z
    exact ⟨a, b, q, q, rfl, h1, h2, by rw [decide_eq_true rfl]; exact k H Ext.rfl'⟩
theorem rc_meters {X : Cx} {C : Addr} (h : OwnEq X.prog X.w X.K X.mg X.base C 1 (sp_Meq C)) : RcG X 2 (DTup X.K (DIns C (SmM C))) := by
  obtain ⟨f, fd, ps, a, b, c, F⟩ := h.fn
  refine rcG_tup (mon_ins fun a b H H' e z => ?_) (eqG_ins (CX := CX0) (E := E0) (F.imp fun vs H Q E z => ?_) a b c pass0)
  · obtain ⟨q, h1, h2⟩ := z
    exact ⟨q, h1.ext e, h2.ext e⟩
  · obtain ⟨a, b, rfl, ⟨q, h1, h2⟩, k⟩ := z
    exact ⟨a, b, q, q, rfl, h1, h2, by rw [decide_eq_true rfl]; exact k H Ext.rfl'⟩
/-- two nets with the same pipes: their meters the same, or one of them has none -/
def sp_Neq (K : PySem.W.Frag) (CN CP CM : Addr) : Sp := fun vs H Q _ => ∃ (a b : Addr) (ps : List P3) (ms ms' : List M3), vs = [.ref a, .ref b] ∧ NetR K CN CP CM H a ps ms ∧ NetR K CN CP CM H b ps ms' ∧ (ms = ms' ∨ ms = [] ∨ ms' = []) ∧ ∀ H', Same H H' → Q (.bl (decide (ms = ms'))) H'
theorem dtup_of {α : Type} {K : PySem.W.Frag} {C a b : Addr} {H : Hp} {R : Addr → Addr → Hp → Prop} {us vs : List (Addr × α)} (ha : SqT K H a (rf us)) (hb : SqT K H b (rf vs)) (e : sn us = sn vs)
    (hi : ∀ (i : Nat) (u v : Addr × α), us[i]? = some u → vs[i]? = some v → u.2 = v.2 → DIns C R (.ref u.1) (.ref v.1) H) : DTup K (DIns C R) (.ref a) (.ref b) H := by
  refine ⟨a, b, _, _, rfl, rfl, ha, hb, ?_, fun i x y hx hy => ?_⟩
  · rw [rf_len, rf_len, ← sn_len, e, sn_len]
  · rw [rf, List.getElem?_map] at hx hy
    cases hu : us[i]? with
    | none => rw [hu] at hx; cases hx
    | some u =>
      cases hv : vs[i]? with
      | none => rw [hv] at hy; cases hy
      | some v =>
        rw [hu] at hx
        rw [hv] at hy
        obtain rfl : V.ref u.1 = x := Option.some.inj hx
        obtain rfl : V.ref v.1 = y := Option.some.inj hy
        refine hi i u v hu hv ?_
        have h1 : (sn us)[i]? = some u.2 := by rw [sn, List.getElem?_map, hu]; rfl
        have h2 : (sn vs)[i]? = some v.2 := by rw [sn, List.getElem?_map, hv]; rfl
        rw [e, h2] at h1
        exact (Option.some.inj h1).symm
end RV
/-! a net's text, cut into rows -/
namespace RV
open PySem L2 PyProof.Rows TL
theorem pline_len {q : P3} (h1 : IsNm q.1) (h2 : IsNm q.2.1) (h3 : IsNm q.2.2) : (pline q).length ≤ 40 := by
  have l1 := nm8 h1
  have l2 := nm8 h2
  have l3 := nm8 h3
  have e1 : Str.length " " = 1 := by decide +kernel
  have e2 : Str.length Str.empty = 0 := by decide +kernel
  have e3 : Str.length "pipe " = 5 := by decide +kernel
  unfold pline
  rw [sl_app, sl_app, sl_app, sl_app, sl_app, sl_app, e1, e2, e3]
  omega
theorem mline_len {q : M3} (h1 : IsNm q.1) (h2 : IsNm q.2.1) : (mline q).length ≤ 40 := by
  have l1 := nm8 h1
  have l2 := nm8 h2
  have e1 : Str.length " " = 1 := by decide +kernel
  have e2 : Str.length Str.empty = 0 := by decide +kernel
  have e3 : Str.length "meter " = 6 := by decide +kernel
  have e4 : (mseal q.2.2).length ≤ 7 := by
    cases q.2.2
    · show Str.length "" ≤ 7
      decide +kernel
    · show Str.length " sealed" ≤ 7
      decide +kernel
  unfold mline
  rw [sl_app, sl_app, sl_app, sl_app, sl_app, e1, e2, e3]
  omega
theorem netL_sum {ps : List P3} {ms : List M3} (hp : PNm ps) (hm : MNm ms) : ((netL ps ms).map (·.length)).sum ≤ 40 * (ps.length + ms.length) := by
  have h : ∀ xs : List Str, (∀ x ∈ xs, x.length ≤ 40) → (xs.map (·.length)).sum ≤ 40 * xs.length := by
    intro xs
    induction xs with
    | nil => intro _; exact Nat.le_refl _
    | cons x xs ih =>
      intro h
      have a := h x List.mem_cons_self
      have b := ih fun y hy => h y (List.mem_cons_of_mem _ hy)
      simp only [List.map_cons, List.sum_cons, List.length_cons]
      omega
  have := h (netL ps ms) fun x hx => by
    rcases List.mem_append.mp hx with hx | hx
    · obtain ⟨q, hq, rfl⟩ := List.mem_map.mp hx
      exact pline_len (hp q hq).1 (hp q hq).2.1 (hp q hq).2.2
    · obtain ⟨q, hq, rfl⟩ := List.mem_map.mp hx
      exact mline_len (hm q hq).1 (hm q hq).2
  rw [netL, List.length_append, List.length_map, List.length_map] at this
  exact this
def prow (q : P3) : List Str := ["pipe", q.1, q.2.1, q.2.2]
def mrow (q : M3) : List Str := if q.2.2 then ["meter", q.1, q.2.1, "sealed"] else ["meter", q.1, q.2.1]
def rowsL (ps : List P3) (ms : List M3) : List (List Str) := ps.map prow ++ ms.map mrow
theorem nm_no {x : Str} (h : IsNm x) {c : Nat} (hc : tailC c = false) : c ∉ cd x := fun z => by
  have := List.all_eq_true.mp (isNm_all h) c z
  rw [hc] at this
  cases this
theorem cd_pipe : cd "pipe" = [112, 105, 112, 101] := by decide +kernel
theorem cd_pipe1 : cd "pipe " = [112, 105, 112, 101, 32] := by decide +kernel
theorem cd_meter : cd "meter" = [109, 101, 116, 101, 114] := by decide +kernel
theorem cd_meter1 : cd "meter " = [109, 101, 116, 101, 114, 32] := by decide +kernel
theorem cd_sealed : cd "sealed" = [115, 101, 97, 108, 101, 100] := by decide +kernel
theorem cd_sealed1 : cd " sealed" = [32, 115, 101, 97, 108, 101, 100] := by decide +kernel
theorem cd_nl : cd "\n" = [10] := by decide +kernel
theorem pline_cd (q : P3) : cd (pline q) = [112, 105, 112, 101, 32] ++ (cd q.1 ++ (32 :: (cd q.2.1 ++ (32 :: cd q.2.2)))) := by
  unfold pline
  repeat rw [cd_app]
  rw [cd_em, cd_pipe1, cd_sp]
  simp
theorem mline_cd (q : M3) : cd (mline q) = [109, 101, 116, 101, 114, 32] ++ (cd q.1 ++ (32 :: (cd q.2.1 ++ (if q.2.2 then [32, 115, 101, 97, 108, 101, 100] else [])))) := by
  unfold mline
  repeat rw [cd_app]
  rw [cd_em, cd_meter1, cd_sp]
  cases q.2.2
  · rw [show mseal false = "" from rfl, cd_no]
    simp
  · rw [show mseal true = " sealed" from rfl, cd_sealed1]
    simp
theorem pline_join (q : P3) : pline q = Txt.join " " (prow q) := cd_inj (by
  rw [pline_cd, join_eq, prow]
  show _ = tl _
  rw [tl_join]
  show _ = joinL (cd " ") [cd "pipe", cd q.1, cd q.2.1, cd q.2.2]
  rw [cd_sp, cd_pipe]
  simp [joinL])
theorem mline_join (q : M3) : mline q = Txt.join " " (mrow q) := cd_inj (by
  rw [mline_cd, join_eq, mrow]
  show _ = tl _
  rw [tl_join]
  cases q.2.2
  · show _ = joinL (cd " ") [cd "meter", cd q.1, cd q.2.1]
    rw [cd_sp, cd_meter]
    simp [joinL]
  · show _ = joinL (cd " ") [cd "meter", cd q.1, cd q.2.1, cd "sealed"]
    rw [cd_sp, cd_meter, cd_sealed]
    simp [joinL])
theorem split_pline {q : P3} (h1 : IsNm q.1) (h2 : IsNm q.2.1) (h3 : IsNm q.2.2) : Txt.split (pline q) " " = prow q := by
  rw [pline_join]
  refine split_join (s := 32) (S := []) cd_sp (by decide +kernel) (by simp [prow]) fun p hp => ?_
  simp only [prow, List.mem_cons, List.not_mem_nil, or_false] at hp
  rcases hp with rfl | rfl | rfl | rfl
  · decide +kernel
  · exact nm_no h1 (by decide)
  · exact nm_no h2 (by decide)
  · exact nm_no h3 (by decide)
theorem split_mline {q : M3} (h1 : IsNm q.1) (h2 : IsNm q.2.1) : Txt.split (mline q) " " = mrow q := by
  rw [mline_join]
  refine split_join (s := 32) (S := []) cd_sp (by decide +kernel) (by unfold mrow; split <;> simp) fun p hp => ?_
  unfold mrow at hp
  split at hp
  · simp only [List.mem_cons, List.not_mem_nil, or_false] at hp
    rcases hp with rfl | rfl | rfl | rfl
    · decide +kernel
    · exact nm_no h1 (by decide)
    · exact nm_no h2 (by decide)
    · decide +kernel
  · simp only [List.mem_cons, List.not_mem_nil, or_false] at hp
    rcases hp with rfl | rfl | rfl
    · decide +kernel
    · exact nm_no h1 (by decide)
    · exact nm_no h2 (by decide)
theorem split_netT {ps : List P3} {ms : List M3} (h0 : ps ≠ []) (hp : PNm ps) (hm : MNm ms) : Txt.split (netT ps ms) "\n" = netL ps ms := by
  refine split_join (s := 10) (S := []) cd_nl (by decide +kernel) (fun e => h0 (List.map_eq_nil_iff.mp (List.append_eq_nil_iff.mp e).1)) fun p hpp => ?_
  have n10 : ∀ {x : Str}, IsNm x → 10 ∉ cd x := fun h => nm_no h (by decide)
  rcases List.mem_append.mp hpp with h | h
  · obtain ⟨q, hq, rfl⟩ := List.mem_map.mp h
    show 10 ∉ cd (pline q)
    rw [pline_cd]
    have := n10 (hp q hq).1
    have := n10 (hp q hq).2.1
    have := n10 (hp q hq).2.2
    simp [*]
  · obtain ⟨q, hq, rfl⟩ := List.mem_map.mp h
    show 10 ∉ cd (mline q)
    rw [mline_cd]
    have := n10 (hm q hq).1
    have := n10 (hm q hq).2
    cases q.2.2 <;> simp [*]
theorem netT_len {ps : List P3} {ms : List M3} (hp : PNm ps) (hm : MNm ms) (pl : ps.length ≤ 20) (ml : ms.length ≤ 20) : (netT ps ms).length ≤ 5000 := by
  have h1 := netL_sum hp hm
  have e : ∀ xs : List Str, (Txt.join "\n" xs).length ≤ (xs.map (·.length)).sum + xs.length := by
    intro xs
    rw [join_eq, len_tl, tl_join, show tl "\n" = [10] from cd_nl]
    induction xs with
    | nil => simp [joinL]
    | cons x xs ih =>
      cases xs with
      | nil => simp [joinL, len_tl]
      | cons y ys =>
        show (tl x ++ ([10] ++ joinL [10] ((y :: ys).map tl))).length ≤ _
        rw [List.length_append, List.length_append]
        simp only [List.map_cons, List.sum_cons, List.length_cons, List.length_nil] at ih ⊢
        rw [← len_tl]
        omega
  have h2 : (netL ps ms).length = ps.length + ms.length := by rw [netL, List.length_append, List.length_map, List.length_map]
  have := e (netL ps ms)
  unfold netT
  omega
/-- lists of words, each at its address -/
abbrev RU := Addr × List Str
structure Rws (H : Hp) (l : Addr) (us : List RU) : Prop where
  l : H l = some (.lst (rf us))
  o : ∀ u ∈ us, H u.1 = some (.lst (u.2.map V.str))
theorem Rws.ext {H H' : Hp} {l : Addr} {us : List RU} (h : Rws H l us) (s : Same H H') : Rws H' l us := ⟨s _ _ h.l, fun u hu => s _ _ (h.o u hu)⟩
structure TOk (ps : List P3) (ms : List M3) : Prop where
  n0 : ps ≠ []
  pn : PNm ps
  mn : MNm ms
  pl : ps.length ≤ 20
  ml : ms.length ≤ 20
def sp_rows : Sp := fun vs H Q _ => ∃ (ps : List P3) (ms : List M3), vs = [.str (netT ps ms)] ∧ TOk ps ms ∧ ∀ (l : Addr) (us : List RU) H', Same H H' → Rws H' l us → sn us = rowsL ps ms → Q (.ref l) H'
def sp_pin (K : PySem.W.Frag) (CP : Addr) : Sp := fun vs H Q _ => ∃ (ps : List P3) (ms : List M3), vs = [.str (netT ps ms)] ∧ TOk ps ms ∧ POk ps ∧ ∀ (t : Addr) (us : List PU) H', Same H H' → Tps K CP H' t us → sn us = ps → Q (.ref t) H'
def sp_min (K : PySem.W.Frag) (CM : Addr) : Sp := fun vs H Q _ => ∃ (ps : List P3) (ms : List M3), vs = [.str (netT ps ms)] ∧ TOk ps ms ∧ ∀ (t : Addr) (us : List MU) H', Same H H' → Tms K CM H' t us → sn us = ms → Q (.ref t) H'
def sp_nread (K : PySem.W.Frag) (CN CP CM : Addr) : Sp := fun vs H Q _ => ∃ (ps : List P3) (ms : List M3), vs = [.ref CN, .str (netT ps ms)] ∧ POk ps ∧ MOk ps ms ∧ ∀ (x : Addr) H', Same H H' → NetR K CN CP CM H' x ps ms → Q (.ref x) H'
theorem POk.pn {ps : List P3} (h : POk ps) : PNm ps := fun p hp => ⟨(h.nm p hp).1, (h.nm p hp).2.1, (h.nm p hp).2.2.1⟩
theorem MOk.mn {ps : List P3} {ms : List M3} (h : MOk ps ms) : MNm ms := h.nm
theorem TOk.of {ps : List P3} {ms : List M3} (h : POk ps) (k : MOk ps ms) : TOk ps ms := ⟨h.n0, h.pn, k.mn, Nat.le_trans h.ln (by decide), Nat.le_trans k.ln (by decide)⟩
/-- the rows of the pipes, of the meters -/
def isP (r : List Str) : Bool := decide (r[0]? = some ("pipe" : Str))
def isM (r : List Str) : Bool := decide (r[0]? = some ("meter" : Str))
theorem p_ne_m : ¬ (("pipe" : Str) = "meter") := by decide +kernel
theorem isP_p (q : P3) : isP (prow q) = true := decide_eq_true rfl
theorem isM_p (q : P3) : isM (prow q) = false := decide_eq_false fun h => p_ne_m (Option.some.inj h)
theorem isP_m (q : M3) : isP (mrow q) = false := by
  unfold isP mrow
  split
  · exact decide_eq_false fun h => p_ne_m (Option.some.inj h).symm
  · exact decide_eq_false fun h => p_ne_m (Option.some.inj h).symm
theorem isM_m (q : M3) : isM (mrow q) = true := by
  unfold isM mrow
  split
  · exact decide_eq_true rfl
  · exact decide_eq_true rfl
theorem rows_p (ps : List P3) (ms : List M3) : (rowsL ps ms).filter isP = ps.map prow := by
  rw [rowsL, List.filter_append, List.filter_eq_self.mpr, List.filter_eq_nil_iff.mpr, List.append_nil]
  · intro r hr
    obtain ⟨q, _, rfl⟩ := List.mem_map.mp hr
    rw [isP_m]
    decide
  · intro r hr
    obtain ⟨q, _, rfl⟩ := List.mem_map.mp hr
    exact isP_p q
theorem rows_m (ps : List P3) (ms : List M3) : (rowsL ps ms).filter isM = ms.map mrow := by
  rw [rowsL, List.filter_append, List.filter_eq_nil_iff.mpr, List.filter_eq_self.mpr, List.nil_append]
  · intro r hr
    obtain ⟨q, _, rfl⟩ := List.mem_map.mp hr
    exact isM_m q
  · intro r hr
    obtain ⟨q, _, rfl⟩ := List.mem_map.mp hr
    rw [isM_p]
    decide
theorem sn_filter {α : Type} (f : α → Bool) (us : List (Addr × α)) : sn (us.filter fun u => f u.2) = (sn us).filter f := by
  rw [sn, sn, List.filter_map]
  rfl
theorem sn_get {α : Type} {us : List (Addr × α)} {i : Nat} {u : Addr × α} (h : us[i]? = some u) : (sn us)[i]? = some u.2 := by rw [sn, List.getElem?_map, h]; rfl
theorem rf_get {α : Type} {us : List (Addr × α)} {i : Nat} {x : V} (h : (rf us)[i]? = some x) : ∃ u, us[i]? = some u ∧ x = .ref u.1 := by
  rw [rf, List.getElem?_map] at h
  cases e : us[i]? with
  | none => rw [e] at h; cases h
  | some u => rw [e] at h; exact ⟨u, rfl, (Option.some.inj h).symm⟩
def gM2 (vs zs : List V) : List V := match vs, zs with
  | [x, n, a], [z] => [x, n, a, z]
  | _, _ => []
end RV
/-! nets as a law lays them: rows of pipes, rows of meters -/
namespace RV
open PySem L2 PyProof.Rows TL
section
variable {X : Cx} {K : PySem.W.Frag} {o e : Expr} {to te : TE}
theorem pe_joinK {apos pos : Pos} (ho : PE X o to) (he : PE X e te) (h : X.K = K := by rfl) (hs : starEach [e] X.env = [(false, eval e X.env)] := by rfl) (hbase : attributeBase o "join" X.env (eval o X.env) = eval o X.env := by rfl) (hline : (apos.endLine == pos.line) = true := by rfl) :
    PE X (.Call (.Attribute o "join" apos) [e] [] pos) (tM1 (fun x xs H Q => ∃ a p, ∃ ys : List Str, x = .str a ∧ xs = [.ref p] ∧ (SqL K H p (ys.map V.str) ∨ SqT K H p (ys.map V.str)) ∧
      (ys.map (·.length)).sum + ys.length * a.length ≤ 16777216 ∧ Q (.str (Txt.join a ys)) H) to te) := h ▸ pe_join ho he hs hbase hline
theorem pt_truthK (ha : PE X e te) (he : ∀ whole, isTrue e X.env whole = (do let v ← whole; standAt e.pos; holding [v] (truthy v))) (h : X.K = K := by rfl) :
    PT X e (fun σ H Q => te σ H fun x H' => ∃ k, TruV K x H' k ∧ Q k H') := h ▸ pt_truth ha he
end
def oY (q : P3) : HO := .tup [.str q.1, .str q.2.1, .str q.2.2]
def oZ (q : M3) : HO := .tup [.str q.1, .str q.2.1, .bl q.2.2]
structure Lay (H : Hp) (l : Addr) (us : List PU) : Prop where
  l : H l = some (.lst (rf us))
  o : ∀ u ∈ us, H u.1 = some (oY u.2)
structure Fts (H : Hp) (l : Addr) (us : List MU) : Prop where
  l : H l = some (.lst (rf us))
  o : ∀ u ∈ us, H u.1 = some (oZ u.2)
def lY (us : List PU) : List (Addr × HO) := us.map fun u => (u.1, oY u.2)
def lZ (us : List MU) : List (Addr × HO) := us.map fun u => (u.1, oZ u.2)
theorem Lay.ext {H H' : Hp} {l : Addr} {us : List PU} (h : Lay H l us) (s : Same H H') : Lay H' l us := ⟨s _ _ h.l, fun u hu => s _ _ (h.o u hu)⟩
theorem Fts.ext {H H' : Hp} {l : Addr} {us : List MU} (h : Fts H l us) (s : Same H H') : Fts H' l us := ⟨s _ _ h.l, fun u hu => s _ _ (h.o u hu)⟩
theorem Lay.gro {H H' : Hp} {a l : Addr} {us : List PU} {ys : List V} (h : Lay H l us) (n : l ≠ a) (e : H a = some (.lst ys)) (g : Grow a H H') : Lay H' l us :=
  ⟨g _ _ n h.l, fun u hu => g _ _ (fun z => by have := h.o u hu; rw [z, e] at this; cases this) (h.o u hu)⟩
theorem Fts.gro {H H' : Hp} {a l : Addr} {us : List MU} {ys : List V} (h : Fts H l us) (n : l ≠ a) (e : H a = some (.lst ys)) (g : Grow a H H') : Fts H' l us :=
  ⟨g _ _ n h.l, fun u hu => g _ _ (fun z => by have := h.o u hu; rw [z, e] at this; cases this) (h.o u hu)⟩
/-- rows of pipes -/
structure LOk (ps : List P3) : Prop where
  nm : ∀ p ∈ ps, IsNm p.1 ∧ IsNm p.2.1 ∧ IsNm p.2.2 ∧ p.2.2 ≠ p.2.1
  nd : (ps.map (·.1)).Nodup
/-- laid(well, lo, hi) -/
def sp_laid : Sp := fun vs H Q _ => ∃ (a : Addr) (n lo hi : Nat), vs = [.ref a, .int lo, .int hi] ∧ WellAt H a n ∧ n < 600000 ∧ lo ≤ hi ∧ hi ≤ 12 ∧
  ∀ (l : Addr) (us : List PU) H', H l = none → l ≠ a → Grow a H H' → WellAt H' a (n + 1000) → Lay H' l us → LOk (sn us) → lo ≤ us.length → us.length ≤ hi → Q (.ref l) H'
/-- fits(well, laid, most) -/
def sp_fits : Sp := fun vs H Q _ => ∃ (a t : Addr) (n hi : Nat) (us : List PU), vs = [.ref a, .ref t, .int hi] ∧ WellAt H a n ∧ n < 600000 ∧ t ≠ a ∧ Lay H t us ∧ LOk (sn us) ∧ 1 ≤ us.length ∧ us.length ≤ 12 ∧ hi ≤ 12 ∧
  ∀ (l : Addr) (ms : List MU) H', H l = none → l ≠ a → Grow a H H' → WellAt H' a (n + 1000) → Fts H' l ms → MOk (sn us) (sn ms) → ms.length ≤ hi → Q (.ref l) H'
/-- net(laid, fits) -/
def sp_lnet (K : PySem.W.Frag) (CN CP CM : Addr) : Sp := fun vs H Q _ => ∃ (l m : Addr) (us : List PU) (ms : List MU), vs = [.ref l, .ref m] ∧ Lay H l us ∧ Fts H m ms ∧ POk (sn us) ∧ MOk (sn us) (sn ms) ∧
  ∀ (x : Addr) H', Same H H' → NetR K CN CP CM H' x (sn us) (sn ms) → Q (.ref x) H'
/-- net_text(laid, fits) -/
def sp_ltext : Sp := fun vs H Q _ => ∃ (l m : Addr) (us : List PU) (ms : List MU), vs = [.ref l, .ref m] ∧ Lay H l us ∧ Fts H m ms ∧ TOk (sn us) (sn ms) ∧ ∀ H', Same H H' → Q (.str (netT (sn us) (sn ms))) H'
/-- is(net, laid, fits): it is the one -/
def sp_isN (K : PySem.W.Frag) (CN CP CM : Addr) : Sp := fun vs H Q _ => ∃ (x l m : Addr) (us : List PU) (ms : List MU), vs = [.ref x, .ref l, .ref m] ∧ NetR K CN CP CM H x (sn us) (sn ms) ∧ Lay H l us ∧ Fts H m ms ∧ POk (sn us) ∧ MOk (sn us) (sn ms) ∧
  ∀ H', Same H H' → Q (.bl true) H'
theorem Has.add {H0 H : Hp} {a p : Addr} {n : Nat} {L : List (Addr × HO)} {o : HO} (h : Has H0 a n L H) (n0 : p ≠ a) (e : H p = some o) : Has H0 a n ((p, o) :: L) H :=
  ⟨h.gr, h.well, fun q hq => by
    rcases List.mem_cons.mp hq with rfl | hq
    · exact ⟨n0, e⟩
    · exact h.here q hq⟩
theorem pline_app (q : P3) : ("pipe " : Str) ++ Txt.join " " [q.1, q.2.1, q.2.2] = pline q := cd_inj (by
  rw [pline_cd, cd_app, cd_pipe1, join_eq]
  show _ ++ tl _ = _
  rw [tl_join]
  show _ ++ joinL (cd " ") [cd q.1, cd q.2.1, cd q.2.2] = _
  rw [cd_sp]
  simp [joinL])
theorem mline_app (q : M3) : ("meter " : Str) ++ q.1 ++ " " ++ q.2.1 ++ mseal q.2.2 = mline q := cd_inj (by
  unfold mline
  repeat rw [cd_app]
  rw [cd_em, List.nil_append])
theorem nodup_snoc {α : Type} {xs : List α} {x : α} (h : xs.Nodup) (hx : x ∉ xs) : (xs ++ [x]).Nodup := by
  rw [List.nodup_append]
  exact ⟨h, by simp, fun a ha b hb e => hx (by rw [List.mem_singleton.mp hb] at e; rw [← e]; exact ha)⟩
theorem nodup_get {α : Type} {xs : List α} (h : xs.Nodup) {i j : Nat} {hi : i < xs.length} {hj : j < xs.length} (e : xs[i] = xs[j]) : i = j := by
  have p := List.pairwise_iff_getElem.mp h
  rcases Nat.lt_trichotomy i j with z | z | z
  · exact absurd e (p i j hi hj z)
  · exact z
  · exact absurd e.symm (p j i hj hi z)
/-- another place -/
theorem step_ne {n i j : Nat} (hi : i < n) (hj : j + 1 < n) : (i + (1 + j)) % n ≠ i := by
  intro h
  rcases Nat.lt_or_ge (i + (1 + j)) n with z | z
  · rw [Nat.mod_eq_of_lt z] at h
    omega
  · rw [Nat.mod_eq_sub_mod z, Nat.mod_eq_of_lt (by omega)] at h
    omega
end RV
/-! nested data that can be shown -/
namespace RV
open PySem L2 PyProof.Rows TL
structure Shw (d : PyData) (n k : Nat) : Prop where
  ok : d.showable = true
  dp : d.depth ≤ n
  ln : d.shown.length ≤ k
theorem Short.shw {d : PyData} (h : Short d) : Shw d 0 100 := ⟨h.sh, Nat.le_of_eq h.dp, h.ln⟩
theorem shw_all {n k : Nat} : ∀ {ds : List PyData}, (∀ d ∈ ds, Shw d n k) → PyData.showableAll ds = true ∧ PyData.depthAll ds ≤ n ∧ ((PyData.shownAll ds).map (·.length)).sum ≤ k * ds.length ∧ (PyData.shownAll ds).length = ds.length
  | [], _ => by simp [PyData.showableAll, PyData.depthAll, PyData.shownAll]
  | d :: ds, h => by
    obtain ⟨a1, a2, a3⟩ := h d List.mem_cons_self
    obtain ⟨b1, b2, b3, b4⟩ := shw_all fun e he => h e (List.mem_cons_of_mem _ he)
    refine ⟨by simp [PyData.showableAll, a1, b1], ?_, ?_, by simp [PyData.shownAll, b4]⟩
    · simp only [PyData.depthAll]
      omega
    · simp only [PyData.shownAll, List.map_cons, List.sum_cons, List.length_cons]
      rw [Nat.mul_succ]
      omega
theorem shw_tuple {n k : Nat} {ds : List PyData} (h : ∀ d ∈ ds, Shw d n k) : Shw (.tuple ds) (n + 1) ((k + 2) * ds.length + 3) := by
  obtain ⟨a1, a2, a3, a4⟩ := shw_all h
  refine ⟨by simp only [PyData.showable, a1], by simp only [PyData.depth]; omega, ?_⟩
  have e : (PyData.tuple ds).shown = tupleText (PyData.shownAll ds) := by simp only [PyData.shown]
  rw [e]
  have := tupleText_len_le (PyData.shownAll ds)
  rw [Nat.add_mul]
  omega
theorem shw_list {n k : Nat} {ds : List PyData} (h : ∀ d ∈ ds, Shw d n k) : Shw (.list ds) (n + 1) ((k + 2) * ds.length + 3) := by
  obtain ⟨a1, a2, a3, a4⟩ := shw_all h
  refine ⟨by simp only [PyData.showable, a1], by simp only [PyData.depth]; omega, ?_⟩
  have e : (PyData.list ds).shown = listText (PyData.shownAll ds) := by simp only [PyData.shown]
  rw [e]
  have := listText_len_le (PyData.shownAll ds)
  rw [Nat.add_mul]
  omega
theorem Shw.mono {d : PyData} {n k m j : Nat} (h : Shw d n k) (a : n ≤ m) (b : k ≤ j) : Shw d m j := ⟨h.ok, Nat.le_trans h.dp a, Nat.le_trans h.ln b⟩
theorem rRepr_of {K : PySem.W.Frag} {a : Addr} {d : PyData} {H : Hp} {Q : VK} {k : Nat} (hd : Dp K H (.ref a) d) (h : Shw d 60 k) (hk : k ≤ 1000000) (q : Q (.str d.shown) H) : rRepr K [.ref a] H Q := by
  unfold rRepr
  exact ⟨a, d, rfl, hd, h.ok, h.dp, Nat.le_trans h.ln (Nat.le_trans hk (by decide)), q⟩
/-! ### rows of pipes and meters as data -/
def dY (q : P3) : PyData := .tuple [.str q.1, .str q.2.1, .str q.2.2]
def dZ (q : M3) : PyData := .tuple [.str q.1, .str q.2.1, .bool q.2.2]
def dN (ps : List P3) (ms : List M3) : PyData := .list [.list (ps.map dY), .list (ms.map dZ)]
theorem shw_dY {q : P3} (h1 : IsNm q.1) (h2 : IsNm q.2.1) (h3 : IsNm q.2.2) : Shw (dY q) 1 400 := (shw_tuple fun d hd => by
  simp only [List.mem_cons, List.not_mem_nil, or_false] at hd
  rcases hd with rfl | rfl | rfl
  · exact (short_nm h1).shw
  · exact (short_nm h2).shw
  · exact (short_nm h3).shw : Shw (dY q) (0 + 1) _).mono (by decide) (by simp)
theorem shw_dZ {q : M3} (h1 : IsNm q.1) (h2 : IsNm q.2.1) : Shw (dZ q) 1 400 := (shw_tuple fun d hd => by
  simp only [List.mem_cons, List.not_mem_nil, or_false] at hd
  rcases hd with rfl | rfl | rfl
  · exact (short_nm h1).shw
  · exact (short_nm h2).shw
  · exact (short_bl _).shw : Shw (dZ q) (0 + 1) _).mono (by decide) (by simp)
theorem shw_dN {ps : List P3} {ms : List M3} (ok : TOk ps ms) : Shw (dN ps ms) 60 100000 := by
  have h1 : Shw (.list (ps.map dY)) (1 + 1) 20000 := (shw_list fun d hd => by
    obtain ⟨q, hq, rfl⟩ := List.mem_map.mp hd
    have n := ok.pn q hq
    exact shw_dY n.1 n.2.1 n.2.2).mono (Nat.le_refl _) (by rw [List.length_map]; have := ok.pl; omega)
  have h2 : Shw (.list (ms.map dZ)) (1 + 1) 20000 := (shw_list fun d hd => by
    obtain ⟨q, hq, rfl⟩ := List.mem_map.mp hd
    have n := ok.mn q hq
    exact shw_dZ n.1 n.2).mono (Nat.le_refl _) (by rw [List.length_map]; have := ok.ml; omega)
  exact (shw_list fun d hd => by
    simp only [List.mem_cons, List.not_mem_nil, or_false] at hd
    rcases hd with rfl | rfl
    · exact h1
    · exact h2 : Shw (dN ps ms) (1 + 1 + 1) _).mono (by decide) (by simp)
theorem dpAll_rf {K : PySem.W.Frag} {H : Hp} {α : Type} (d : α → PyData) : ∀ {us : List (Addr × α)}, (∀ u ∈ us, Dp K H (.ref u.1) (d u.2)) → DpAll K H (rf us) ((sn us).map d)
  | [], _ => .nil
  | u :: us, h => .cons (h u List.mem_cons_self) (dpAll_rf d fun v hv => h v (List.mem_cons_of_mem _ hv))
theorem dp_Y {K : PySem.W.Frag} {H : Hp} {a : Addr} {q : P3} (e : H a = some (oY q)) : Dp K H (.ref a) (dY q) := .tup (SqT.of e) (.cons (.str _) (.cons (.str _) (.cons (.str _) .nil)))
theorem dp_Z {K : PySem.W.Frag} {H : Hp} {a : Addr} {q : M3} (e : H a = some (oZ q)) : Dp K H (.ref a) (dZ q) := .tup (SqT.of e) (.cons (.str _) (.cons (.str _) (.cons (.bl _) .nil)))
theorem Lay.dp {K : PySem.W.Frag} {H : Hp} {l : Addr} {us : List PU} (h : Lay H l us) : Dp K H (.ref l) (.list ((sn us).map dY)) := .lst (SqL.of h.l) (dpAll_rf dY fun u hu => dp_Y (h.o u hu))
theorem Fts.dp {K : PySem.W.Frag} {H : Hp} {l : Addr} {us : List MU} (h : Fts H l us) : Dp K H (.ref l) (.list ((sn us).map dZ)) := .lst (SqL.of h.l) (dpAll_rf dZ fun u hu => dp_Z (h.o u hu))
end RV
/-! a net's text is plain; nets compared -/
namespace RV
open PySem L2 PyProof.Rows TL
theorem mem_joinL {s : List Nat} {c : Nat} : ∀ {l : List (List Nat)}, c ∈ joinL s l → c ∈ s ∨ ∃ p ∈ l, c ∈ p
  | [], h => by simp [joinL] at h
  | [p], h => .inr ⟨p, List.mem_singleton.mpr rfl, by simpa [joinL] using h⟩
  | p :: q :: r, h => by
    have h' : c ∈ p ++ (s ++ joinL s (q :: r)) := h
    rcases List.mem_append.mp h' with h' | h'
    · exact .inr ⟨p, List.mem_cons_self, h'⟩
    · rcases List.mem_append.mp h' with h' | h'
      · exact .inl h'
      · rcases mem_joinL h' with z | ⟨t, ht, hc⟩
        · exact .inl z
        · exact .inr ⟨t, List.mem_cons_of_mem _ ht, hc⟩
theorem nm_ch {x : Str} (h : IsNm x) : ∀ c ∈ cd x, c < 128 := fun c hc => by
  have := List.all_eq_true.mp (isNm_all h) c hc
  simp only [tailC, lowC, digC, Bool.or_eq_true, Bool.and_eq_true, decide_eq_true_eq] at this
  omega
theorem netT_ch {ps : List P3} {ms : List M3} (hp : PNm ps) (hm : MNm ms) : ∀ c ∈ cd (netT ps ms), c < 128 := by
  intro c hc
  unfold netT at hc
  rw [join_eq] at hc
  replace hc : c ∈ tl (Str.join "\n" (netL ps ms)) := hc
  rw [tl_join] at hc
  rcases mem_joinL hc with z | ⟨p, hp', z⟩
  · have : c ∈ cd "\n" := z
    rw [cd_nl] at this
    rw [List.mem_singleton.mp this]
    decide
  · obtain ⟨x, hx, rfl⟩ := List.mem_map.mp hp'
    replace z : c ∈ cd x := z
    rcases List.mem_append.mp hx with h | h
    · obtain ⟨q, hq, rfl⟩ := List.mem_map.mp h
      have n := hp q hq
      rw [pline_cd] at z
      have a1 := nm_ch n.1 c
      have a2 := nm_ch n.2.1 c
      have a3 := nm_ch n.2.2 c
      simp only [List.mem_append, List.mem_cons, List.not_mem_nil, or_false] at z
      rcases z with (z | z | z | z | z) | z | z | z | z | z <;> first | exact a1 z | exact a2 z | exact a3 z | omega
    · obtain ⟨q, hq, rfl⟩ := List.mem_map.mp h
      have n := hm q hq
      rw [mline_cd] at z
      have a1 := nm_ch n.1 c
      have a2 := nm_ch n.2 c
      have a3 : c ∈ (if q.2.2 then [32, 115, 101, 97, 108, 101, 100] else []) → c < 128 := fun h => by
        split at h
        · simp only [List.mem_cons, List.not_mem_nil, or_false] at h
          omega
        · cases h
      simp only [List.mem_append, List.mem_cons, List.not_mem_nil, or_false] at z
      rcases z with (z | z | z | z | z | z) | z | z | z | z <;> first | exact a1 z | exact a2 z | exact a3 z | omega
theorem reprN {ps : List P3} {ms : List M3} {H : Hp} {Q : VK} (ok : TOk ps ms) (k : Q (.str (reprText (netT ps ms))) H) : rReprS [.str (netT ps ms)] H Q := by
  unfold rReprS
  refine ⟨_, rfl, ?_, k⟩
  have h1 := StrLaws.reprText_len (netT ps ms) fun c hc => Nat.lt_of_lt_of_le (netT_ch ok.pn ok.mn c hc) (by decide)
  have h2 := netT_len ok.pn ok.mn ok.pl ok.ml
  exact Nat.le_trans h1 (Nat.le_trans (show _ ≤ 60000 by omega) (by decide))
/-- == and != of two nets with the same pipes -/
theorem eqN {K : PySem.W.Frag} {CN CP CM a b : Addr} {H : Hp} {Q : VK} {neg : Bool} {ps : List P3} {ms ms' : List M3} (ha : NetR K CN CP CM H a ps ms) (hb : NetR K CN CP CM H b ps ms') (hor : ms = ms' ∨ ms = [] ∨ ms' = [])
    (q : ∀ H', Same H H' → Q (.bl (if neg then !decide (ms = ms') else decide (ms = ms'))) H') : rEqO neg K CN (sp_Neq K CN CP CM) (.ref a) (.ref b) H Q := by
  obtain ⟨dx, tp, tm, pu, mu, ex, _⟩ := ha.ex
  obtain ⟨dx', tp', tm', pu', mu', ex', _⟩ := hb.ex
  unfold rEqO
  exact ⟨a, dx, _, .ref CN, rfl, ex, .ins ex', nf_self K CN, a, b, ps, ms, ms', rfl, ha, hb, hor, fun H' s => ⟨_, rfl, q H' s⟩⟩
theorem eqv_nilZ (ms : List M3) : PyData.eqv (.list (ms.map dZ)) (.list []) = decide (ms = []) := by
  cases ms <;> simp [PyData.eqv, PyData.eqvAll]
theorem shaped_Z {ms : List M3} (h : MNm ms) : SeqAt.shaped (.list (ms.map dZ)) = true := by
  have h1 : ∀ ms : List M3, MNm ms → PyData.canLayAll0 (ms.map dZ) = true ∧ PyData.depthAll (ms.map dZ) ≤ 1 := by
    intro ms
    induction ms with
    | nil => intro _; simp [PyData.canLayAll0, PyData.depthAll]
    | cons q qs ih =>
      intro h
      obtain ⟨a, b⟩ := ih fun r hr => h r (List.mem_cons_of_mem _ hr)
      have c1 := strOk_nm (h q List.mem_cons_self).1
      have c2 := strOk_nm (h q List.mem_cons_self).2
      refine ⟨by simp [dZ, PyData.canLayAll0, PyData.canLay0, a, c1, c2], ?_⟩
      simp only [List.map_cons, PyData.depthAll, dZ, PyData.depth]
      omega
  obtain ⟨a, b⟩ := h1 ms h
  simp [SeqAt.shaped, PyData.canLay0, PyData.depth, a]
  omega
/-- the law's row -/
def sp_rightN : Sp := fun vs H Q _ => ∃ (a : Addr) (n : Nat), vs = [.ref a] ∧ WellAt H a n ∧ n < 500000 ∧ ∀ H', Grow a H H' → WellAt H' a (n + 3000) → Q (.bl true) H'
end RV
/-! names of the laws over scripts -/
namespace RV
open PySem L2 PyProof.Rows TL
section
variable {D : Addr} {xs : List V} {i : Nat} {te : TE} {tt : TT} {vs : List Nat} {σ : L2.St} {H1 : Hp} {Qd : Hp → Prop} {J : It} {GG : Hp → Prop}
/-- [x for x in xs if p(x)]: the test makes no thing -/
theorem lc_keepV (p : V → Bool) (wk : Walk J xs.length GG (YAt xs)) (nD : H1 D = none) (len : xs.length ≤ 1000) (hG : ∀ H', Same H1 H' → GG H') (hw : ∀ x, wipe ((wipe σ vs).set i x) vs = wipe σ vs)
    (ht : ∀ x ∈ xs, ∀ H2, Same H1 H2 → ∀ R : Bool → Hp → Prop, R (p x) H2 → tt ((wipe σ vs).set i (some x)) H2 R)
    (he : ∀ x ∈ xs, ∀ H2, ∀ R : VK, R x H2 → te ((wipe σ vs).set i (some x)) H2 R)
    (k : ∀ H', Same H1 H' → H' D = some (.lst (xs.filter p)) → Qd H') :
    ∃ W : Nat → Nat → Hp → Prop, (∃ m, W 0 m (upd H1 D (.lst []))) ∧ ∀ i' m H, W i' m H →
      (J.stop i' H ∧ Qd H) ∨ (J.go i' H ∧ ∃ Nx : Hp → Prop, (∀ H', Nx H' → ∃ m', m' < m ∧ W (i' + 1) m' H') ∧ ∀ x H', J.yld i' H x H' → gName i x (wipe σ vs) H' fun σ2 H2 => wipe σ2 vs = wipe σ vs ∧ tt σ2 H2 fun b H3 =>
        if b = true then te σ2 H3 fun y H4 => ∃ acc, H4 D = some (.lst acc) ∧ acc.length < sizeLine ∧ Nx (upd H4 D (.lst (acc ++ [y]))) else Nx H3) := by
  refine L2.lc_it wk (fun i' H' => Same H1 H' ∧ H' D = some (.lst ((xs.take i').filter p)))
    ⟨fun b o e => (upd_ne (ne_of_none e nD)).trans e, upd_same⟩ (fun i' H' _ z => hG _ z.1) (fun i' x Ha Hb hi hv y => ?_) (fun H' hv => ?_)
  · obtain ⟨s, eD⟩ := hv
    obtain ⟨rfl, hx⟩ := y
    have hm := List.mem_of_getElem? hx
    have et : xs.take (i' + 1) = xs.take i' ++ [x] := by rw [List.take_add_one, hx]; rfl
    refine ⟨hw _, ht x hm Hb s _ ?_⟩
    cases hp : p x with
    | false =>
      refine iteF ⟨s, ?_⟩
      rw [eD, et, List.filter_append, List.filter_cons_of_neg (by rw [hp]; decide), List.filter_nil, List.append_nil]
    | true =>
      refine iteT (he x hm Hb _ ⟨_, eD, ?_, fun b o e => ?_, ?_⟩)
      · have l1 := List.length_filter_le p (xs.take i')
        have l3 := List.length_take_le' i' xs
        exact Nat.lt_of_le_of_lt (Nat.le_trans l1 (Nat.le_trans l3 len)) (by decide)
      · rw [upd_ne (ne_of_none e nD)]
        exact s _ _ e
      · rw [upd_same, et, List.filter_append, List.filter_cons_of_pos hp, List.filter_nil]
  · obtain ⟨s, eD⟩ := hv
    rw [List.take_length] at eD
    exact k H' s eD
end
/-- the spare names -/
def zn (j : Nat) : Str := ("z" : Str) ++ num (j : Int)
theorem zn_nm {j : Nat} (h : j < 16) : IsNm (zn j) := by
  have : ∀ i : Fin 16, isNm (cd (zn i.val)) = true := by decide +kernel
  exact this ⟨j, h⟩
theorem zn_inj {i j : Nat} (hi : i < 16) (hj : j < 16) (e : zn i = zn j) : i = j := by
  have : ∀ i j : Fin 16, zn i.val = zn j.val → i.val = j.val := by decide +kernel
  exact this ⟨i, hi⟩ ⟨j, hj⟩ e
theorem zn_free {xs : List Str} {m : Nat} (hm : m ≤ 16) (h : xs.length < m) : ∃ j, j < m ∧ zn j ∉ xs := by
  by_cases e : ∃ j, j < m ∧ zn j ∉ xs
  · exact e
  · have all : ∀ j, j < m → zn j ∈ xs := fun j hj => by
      by_cases z : zn j ∈ xs
      · exact z
      · exact absurd ⟨j, hj, z⟩ e
    have nd : ((List.range m).map zn).Nodup := by
      rw [List.Nodup, List.pairwise_map]
      refine List.Pairwise.imp_of_mem ?_ List.nodup_range
      intro a b ha hb hne h
      exact hne (zn_inj (by have := List.mem_range.mp ha; omega) (by have := List.mem_range.mp hb; omega) h)
    have := nodup_len nd fun x hx => by
      obtain ⟨j, hj, rfl⟩ := List.mem_map.mp hx
      exact all j (List.mem_range.mp hj)
    rw [List.length_map, List.length_range] at this
    omega
/-- a letter and further signs -/
theorem isNm_join {c : Nat} {cs : List Nat} (h : lowC c = true) (hc : ∀ x ∈ cs, tailC x = true) (hl : cs.length ≤ 7) : IsNm ((⟨#[c]⟩ : Str) ++ Txt.join "" (cs.map fun x => (⟨#[x]⟩ : Str))) := by
  refine isNm_iff.mpr ⟨c, cs, ?_, h, List.all_eq_true.mpr hc, hl⟩
  show cd _ = c :: cs
  rw [cd_app, cd_one, join_eq]
  show [c] ++ tl _ = _
  rw [tl_join, show tl "" = [] from cd_no, joinL_nil, List.map_map]
  have : ∀ cs : List Nat, (cs.map (tl ∘ fun x => (⟨#[x]⟩ : Str))).flatten = cs := by
    intro cs
    induction cs with
    | nil => rfl
    | cons x cs ih => rw [List.map_cons, List.flatten_cons, ih]; rfl
  rw [this]
  rfl
def words2 : List Str := ["pipe", "meter", "sealed", "go", "if", "vote", "tell", "doubt", "a", "b"]
theorem words2_nm : ∀ x ∈ words2, IsNm x := by
  have : ∀ x ∈ words2, isNm (cd x) = true := by decide +kernel
  exact this
/-- names(well, m) -/
def sp_names : Sp := fun vs H Q _ => ∃ (a : Addr) (n m : Nat), vs = [.ref a, .int m] ∧ WellAt H a n ∧ n < 600000 ∧ m ≤ 12 ∧
  ∀ (l : Addr) (xs : List Str) H', H l = none → l ≠ a → Grow a H H' → WellAt H' a (n + 200) → H' l = some (.lst (xs.map V.str)) → xs.length = m → xs.Nodup → (∀ x ∈ xs, IsNm x) → Q (.ref l) H'
end RV
/-! models of nets, as the laws over scripts draw them -/
namespace RV
open PySem L2 PyProof.Rows TL
abbrev Q3 := Str × Nat × Nat
abbrev G3 := Str × Nat × Bool
def oQ (q : Q3) : HO := .tup [.str q.1, .int (q.2.1 : Int), .int (q.2.2 : Int)]
def oG (q : G3) : HO := .tup [.str q.1, .int (q.2.1 : Int), .bl q.2.2]
/-- places, pipes between them by index, gauges at pipes by index -/
structure Mod where
  pl : List Str
  qs : List Q3
  gs : List G3
structure MdOk (M : Mod) (most more : Nat) : Prop where
  p2 : 2 ≤ M.pl.length
  p4 : M.pl.length ≤ 4
  pn : ∀ x ∈ M.pl, IsNm x
  pd : M.pl.Nodup
  q2 : 2 ≤ M.qs.length
  qm : M.qs.length ≤ most
  qn : ∀ q ∈ M.qs, IsNm q.1 ∧ q.2.1 < M.pl.length ∧ q.2.2 < M.pl.length ∧ q.2.1 ≠ q.2.2
  qd : (M.qs.map (·.1)).Nodup
  gm : M.gs.length ≤ more
  gn : ∀ g ∈ M.gs, IsNm g.1 ∧ g.2.1 < M.qs.length
  gd : (M.gs.map (·.1)).Nodup
abbrev QU := Addr × Q3
abbrev GU := Addr × G3
/-- what a model is in the heap -/
def lM (l lp lq lg : Addr) (pl : List Str) (pu : List QU) (gu : List GU) : List (Addr × HO) :=
  (l, .lst [.ref lp, .ref lq, .ref lg]) :: (lp, .lst (pl.map V.str)) :: (lq, .lst (rf pu)) :: (lg, .lst (rf gu)) :: (pu.map (fun u => (u.1, oQ u.2)) ++ gu.map fun u => (u.1, oG u.2))
def sp_model : Sp := fun vs H Q _ => ∃ (a : Addr) (n most more : Nat), vs = [.ref a, .int most, .int more] ∧ WellAt H a n ∧ n < 500000 ∧ 2 ≤ most ∧ most ≤ 12 ∧ more ≤ 12 ∧
  ∀ (l lp lq lg : Addr) (pl : List Str) (pu : List QU) (gu : List GU) H', Has H a (n + 2000) (lM l lp lq lg pl pu gu) H' → MdOk ⟨pl, sn pu, sn gu⟩ most more → Q (.ref l) H'
/-- the model at l -/
structure MdAt (H : Hp) (l : Addr) (M : Mod) : Prop where
  ex : ∃ (lp lq lg : Addr) (pu : List QU) (gu : List GU), sn pu = M.qs ∧ sn gu = M.gs ∧ ∀ p ∈ lM l lp lq lg M.pl pu gu, H p.1 = some p.2
theorem MdAt.ext {H H' : Hp} {l : Addr} {M : Mod} (h : MdAt H l M) (s : Same H H') : MdAt H' l M := by
  obtain ⟨lp, lq, lg, pu, gu, e1, e2, k⟩ := h.ex
  exact ⟨lp, lq, lg, pu, gu, e1, e2, fun p hp => s _ _ (k p hp)⟩
def Mod.ps (M : Mod) : List P3 := M.qs.map fun q => (q.1, M.pl.getD q.2.1 "", M.pl.getD q.2.2 "")
def Mod.ms (M : Mod) : List M3 := M.gs.map fun g => (g.1, (M.qs.getD g.2.1 ("", 0, 0)).1, g.2.2)
theorem getD_lt {α : Type} {xs : List α} {i : Nat} {d : α} (h : i < xs.length) : xs.getD i d = xs[i] := by simp [List.getD, h]
theorem Mod.names (M : Mod) : M.ps.map (·.1) = M.qs.map (·.1) := by rw [Mod.ps, List.map_map]; rfl
section
variable {M : Mod} {most more : Nat}
theorem MdOk.po (h : MdOk M most more) (m12 : most ≤ 12) : POk M.ps := by
  refine ⟨fun e => ?_, by rw [Mod.ps, List.length_map]; exact Nat.le_trans h.qm m12, fun p hp => ?_, by rw [Mod.names]; exact h.qd⟩
  · have e2 := congrArg List.length e
    rw [Mod.ps, List.length_map, List.length_nil] at e2
    have := h.q2
    omega
  · obtain ⟨q, hq, rfl⟩ := List.mem_map.mp hp
    obtain ⟨n1, n2, n3, n4⟩ := h.qn q hq
    dsimp only
    rw [getD_lt n2, getD_lt n3]
    exact ⟨n1, h.pn _ (List.getElem_mem n2), h.pn _ (List.getElem_mem n3), fun e => n4 (nodup_get h.pd e).symm⟩
theorem MdOk.mo (h : MdOk M most more) (o12 : more ≤ 12) : MOk M.ps M.ms := by
  refine ⟨by rw [Mod.ms, List.length_map]; exact Nat.le_trans h.gm o12, fun p hp => ?_, ?_, fun p hp => ?_⟩
  · obtain ⟨g, hg, rfl⟩ := List.mem_map.mp hp
    obtain ⟨n1, n2⟩ := h.gn g hg
    dsimp only
    rw [getD_lt n2]
    exact ⟨n1, (h.qn _ (List.getElem_mem n2)).1⟩
  · rw [Mod.ms, List.map_map]
    exact h.gd
  · obtain ⟨g, hg, rfl⟩ := List.mem_map.mp hp
    obtain ⟨n1, n2⟩ := h.gn g hg
    dsimp only
    rw [getD_lt n2, Mod.names]
    exact List.mem_map.mpr ⟨_, List.getElem_mem n2, rfl⟩
end
def sp_mtext : Sp := fun vs H Q _ => ∃ (l : Addr) (M : Mod) (most more : Nat), vs = [.ref l] ∧ MdAt H l M ∧ MdOk M most more ∧ most ≤ 12 ∧ more ≤ 12 ∧ ∀ H', Same H H' → Q (.str (netT M.ps M.ms)) H'
theorem pline_app2 (n s e : Str) : ("pipe " : Str) ++ n ++ " " ++ s ++ " " ++ e = pline (n, s, e) := cd_inj (by
  rw [pline_cd]
  repeat rw [cd_app]
  rw [cd_pipe1, cd_sp]
  simp)
end RV
/-! ways through a net: walks, flows of -1, 0 and 1, and the least count of meters on a ring -/
namespace RV
/-! ### sums over the first n indexes -/
def sm : Nat → (Nat → Int) → Int
  | 0, _ => 0
  | n + 1, g => sm n g + g n
theorem sm_add (n : Nat) (f g : Nat → Int) : sm n (fun k => f k + g k) = sm n f + sm n g := by
  induction n with
  | zero => rfl
  | succ n ih => simp only [sm, ih]; omega
theorem sm_congr {n : Nat} {f g : Nat → Int} (h : ∀ k, k < n → f k = g k) : sm n f = sm n g := by
  induction n with
  | zero => rfl
  | succ n ih => simp only [sm, ih (fun k hk => h k (by omega)), h n (by omega)]
theorem sm_zero (n : Nat) : sm n (fun _ => 0) = 0 := by
  induction n with
  | zero => rfl
  | succ n ih => simp only [sm, ih]; rfl
theorem sm_one {n i : Nat} (h : i < n) (c : Int) : sm n (fun k => if k = i then c else 0) = c := by
  induction n with
  | zero => omega
  | succ n ih =>
    rw [sm]
    by_cases e : i = n
    · subst e
      rw [sm_congr (g := fun _ => 0) (fun k hk => if_neg (by omega)), sm_zero, if_pos rfl]
      omega
    · rw [ih (by omega), if_neg (fun z => e z.symm)]
      omega
theorem sm_only {n i : Nat} {f : Nat → Int} (h : i < n) (hz : ∀ k, k < n → k ≠ i → f k = 0) : sm n f = f i := by
  rw [sm_congr (g := fun k => if k = i then f i else 0) (fun k hk => ?_), sm_one h]
  split
  · rename_i e
    rw [e]
  · exact hz k hk ‹_›
theorem sm_sum {β : Type} (n : Nat) (xs : List β) (f : β → Nat → Int) : (xs.map fun x => sm n (f x)).sum = sm n fun k => (xs.map fun x => f x k).sum := by
  induction xs with
  | nil => simp only [List.map_nil, List.sum_nil, sm_zero]
  | cons x xs ih => simp only [List.map_cons, List.sum_cons, ih, sm_add]
def dl {α : Type} [DecidableEq α] (u x : α) : Int := if u = x then 1 else 0
section
set_option linter.unusedSectionVars false
variable {α : Type} [DecidableEq α]
variable (n : Nat) (st en : Nat → α) (w : Nat → Nat) (ok : Nat → Prop)
/-- what stays at a place -/
def dv (f : Nat → Int) (x : α) : Int := sm n fun k => f k * (dl (en k) x - dl (st k) x)
/-- a walk from u, its last step first -/
inductive Wk (u : α) : α → List (Nat × Bool) → Prop
  | nil : Wk u u []
  | fwd {i l} : Wk u (st i) l → ok i → Wk u (en i) ((i, true) :: l)
  | bwd {i l} : Wk u (en i) l → ok i → Wk u (st i) ((i, false) :: l)
inductive Sw (u : α) : α → List (Nat × Bool) → List α → Prop
  | nil : Sw u u [] [u]
  | fwd {i l vs} : Sw u (st i) l vs → ok i → en i ∉ vs → Sw u (en i) ((i, true) :: l) (en i :: vs)
  | bwd {i l vs} : Sw u (en i) l vs → ok i → st i ∉ vs → Sw u (st i) ((i, false) :: l) (st i :: vs)
def wl (l : List (Nat × Bool)) : Nat := (l.map fun q => w q.1).sum
def sg (b : Bool) : Int := if b then 1 else -1
def fl (l : List (Nat × Bool)) (k : Nat) : Int := (l.map fun q => if q.1 = k then sg q.2 else 0).sum
variable {n st en w ok} {u v : α} {l : List (Nat × Bool)} {vs : List α}
theorem Sw.mem (h : Sw st en ok u v l vs) : v ∈ vs := by cases h <;> exact List.mem_cons_self
theorem Sw.pre (h : Sw st en ok u v l vs) : ∀ y ∈ vs, ∃ l' vs', Sw st en ok u y l' vs' ∧ wl w l' ≤ wl w l := by
  induction h with
  | nil =>
    intro y hy
    obtain rfl := List.mem_singleton.mp hy
    exact ⟨_, _, .nil, Nat.le_refl _⟩
  | @fwd i l vs h o z ih =>
    intro y hy
    rcases List.mem_cons.mp hy with rfl | hy
    · exact ⟨_, _, .fwd h o z, Nat.le_refl _⟩
    · obtain ⟨l', vs', h1, h2⟩ := ih y hy
      exact ⟨l', vs', h1, Nat.le_trans h2 (by simp [wl])⟩
  | @bwd i l vs h o z ih =>
    intro y hy
    rcases List.mem_cons.mp hy with rfl | hy
    · exact ⟨_, _, .bwd h o z, Nat.le_refl _⟩
    · obtain ⟨l', vs', h1, h2⟩ := ih y hy
      exact ⟨l', vs', h1, Nat.le_trans h2 (by simp [wl])⟩
theorem wl_cons (q : Nat × Bool) (l : List (Nat × Bool)) : wl w (q :: l) = w q.1 + wl w l := by simp [wl]
theorem fl_cons (q : Nat × Bool) (l : List (Nat × Bool)) (k : Nat) : fl (q :: l) k = (if q.1 = k then sg q.2 else 0) + fl l k := by simp [fl]
/-- without loops -/
theorem Wk.simple (h : Wk st en ok u v l) : ∃ l' vs', Sw st en ok u v l' vs' ∧ wl w l' ≤ wl w l := by
  induction h with
  | nil => exact ⟨_, _, .nil, Nat.le_refl _⟩
  | @fwd i l h o ih =>
    obtain ⟨l', vs', h1, h2⟩ := ih
    by_cases z : en i ∈ vs'
    · obtain ⟨l2, vs2, h3, h4⟩ := h1.pre (w := w) _ z
      exact ⟨l2, vs2, h3, by rw [wl_cons]; omega⟩
    · exact ⟨_, _, .fwd h1 o z, by rw [wl_cons, wl_cons]; omega⟩
  | @bwd i l h o ih =>
    obtain ⟨l', vs', h1, h2⟩ := ih
    by_cases z : st i ∈ vs'
    · obtain ⟨l2, vs2, h3, h4⟩ := h1.pre (w := w) _ z
      exact ⟨l2, vs2, h3, by rw [wl_cons]; omega⟩
    · exact ⟨_, _, .bwd h1 o z, by rw [wl_cons, wl_cons]; omega⟩
theorem Sw.ends (h : Sw st en ok u v l vs) : ∀ q ∈ l, ok q.1 ∧ st q.1 ∈ vs ∧ en q.1 ∈ vs := by
  induction h with
  | nil => exact fun q hq => absurd hq List.not_mem_nil
  | @fwd i l vs h o z ih =>
    intro q hq
    rcases List.mem_cons.mp hq with rfl | hq
    · exact ⟨o, List.mem_cons_of_mem _ h.mem, List.mem_cons_self⟩
    · obtain ⟨a, b, c⟩ := ih q hq
      exact ⟨a, List.mem_cons_of_mem _ b, List.mem_cons_of_mem _ c⟩
  | @bwd i l vs h o z ih =>
    intro q hq
    rcases List.mem_cons.mp hq with rfl | hq
    · exact ⟨o, List.mem_cons_self, List.mem_cons_of_mem _ h.mem⟩
    · obtain ⟨a, b, c⟩ := ih q hq
      exact ⟨a, List.mem_cons_of_mem _ b, List.mem_cons_of_mem _ c⟩
theorem fl_out {k : Nat} (h : ∀ q ∈ l, q.1 ≠ k) : fl l k = 0 := by
  induction l with
  | nil => rfl
  | cons q l ih => rw [fl_cons, if_neg (h q List.mem_cons_self), ih fun q hq => h q (List.mem_cons_of_mem _ hq)]; rfl
theorem sg_cases (b : Bool) : sg b = 1 ∨ sg b = -1 := by cases b <;> simp [sg]
/-- each pipe of a way without loops once -/
theorem Sw.fl1 (h : Sw st en ok u v l vs) (hn : ∀ i, ok i → i < n) : (∀ k, fl l k = 0 ∨ fl l k = 1 ∨ fl l k = -1) ∧ sm n (fun k => if fl l k ≠ 0 then (w k : Int) else 0) = wl w l := by
  have step : ∀ {i : Nat} {b : Bool} {l : List (Nat × Bool)}, i < n → (∀ q ∈ l, q.1 ≠ i) → ((∀ k, fl l k = 0 ∨ fl l k = 1 ∨ fl l k = -1) ∧ sm n (fun k => if fl l k ≠ 0 then (w k : Int) else 0) = wl w l) → (∀ k, fl ((i, b) :: l) k = 0 ∨ fl ((i, b) :: l) k = 1 ∨ fl ((i, b) :: l) k = -1) ∧ sm n (fun k => if fl ((i, b) :: l) k ≠ 0 then (w k : Int) else 0) = wl w ((i, b) :: l) := by
    intro i b l hi hz h
    have z0 := fl_out hz
    refine ⟨fun k => ?_, ?_⟩
    · rw [fl_cons]
      by_cases e : i = k
      · subst e
        rw [if_pos rfl, z0, Int.add_zero]
        exact Or.inr (sg_cases b)
      · rw [if_neg e, Int.zero_add]
        exact h.1 k
    · rw [sm_congr (g := fun k => (if fl l k ≠ 0 then (w k : Int) else 0) + if k = i then (w i : Int) else 0) (fun k hk => ?_), sm_add, h.2, sm_one hi, wl_cons]
      · simp only [Int.natCast_add]; omega
      · rw [fl_cons]
        by_cases e : i = k
        · subst e
          have : sg b + 0 ≠ 0 := by rcases sg_cases b with e | e <;> rw [e] <;> decide
          simp only [↓reduceIte, z0]
          rw [if_pos this, if_neg (by omega), Int.zero_add]
        · rw [if_neg e, Int.zero_add, if_neg (fun z : k = i => e z.symm), Int.add_zero]
  induction h with
  | nil => exact ⟨fun k => Or.inl rfl, sm_zero n⟩
  | @fwd i l vs h o z ih => exact step (hn i o) (fun q hq e => z (e ▸ (h.ends q hq).2.2)) ih
  | @bwd i l vs h o z ih => exact step (hn i o) (fun q hq e => z (e ▸ (h.ends q hq).2.1)) ih
theorem dv_add (f g : Nat → Int) (x : α) : dv n st en (fun k => f k + g k) x = dv n st en f x + dv n st en g x := by
  rw [dv, dv, dv, ← sm_add]
  exact sm_congr fun k _ => Int.add_mul _ _ _
theorem dv_one {i : Nat} (h : i < n) (c : Int) (x : α) : dv n st en (fun k => if i = k then c else 0) x = c * (dl (en i) x - dl (st i) x) := by
  rw [dv, sm_only h (fun k _ hk => by rw [if_neg (fun z => hk z.symm), Int.zero_mul]), if_pos rfl]
theorem Wk.dv (h : Wk st en ok u v l) (hn : ∀ i, ok i → i < n) (x : α) : dv n st en (fl l) x = dl v x - dl u x := by
  induction h with
  | nil =>
    rw [RV.dv, sm_congr (g := fun _ => 0) (fun k _ => by show (0 : Int) * _ = 0; rw [Int.zero_mul]), sm_zero]
    omega
  | @fwd i l h o ih =>
    rw [show fl ((i, true) :: l) = fun k => (if i = k then 1 else 0) + fl l k from funext fun k => fl_cons _ _ _, dv_add, ih, dv_one (hn i o)]
    omega
  | @bwd i l h o ih =>
    rw [show fl ((i, false) :: l) = fun k => (if i = k then -1 else 0) + fl l k from funext fun k => fl_cons _ _ _, dv_add, ih, dv_one (hn i o)]
    omega
theorem Sw.wk (h : Sw st en ok u v l vs) : Wk st en ok u v l := by
  induction h with
  | nil => exact .nil
  | fwd _ o _ ih => exact .fwd ih o
  | bwd _ o _ ih => exact .bwd ih o
/-- a ring: flows of -1, 0 and 1 that are 1 at the pipe -/
structure Ring (n : Nat) (st en : Nat → α) (shut : Nat → Prop) (p : Nat) (f : Nat → Int) : Prop where
  r : ∀ k, k < n → f k = 0 ∨ f k = 1 ∨ f k = -1
  kept : ∀ x, RV.dv n st en f x = 0
  one : f p = 1
  sl : ∀ k, k < n → shut k → f k = 0
def cnt (n : Nat) (w : Nat → Nat) (f : Nat → Int) : Int := sm n fun k => if f k ≠ 0 then (w k : Int) else 0
abbrev okp (n : Nat) (shut : Nat → Prop) (p k : Nat) : Prop := k < n ∧ k ≠ p ∧ ¬ shut k
variable {shut : Nat → Prop} {p : Nat}
/-- a way back makes a ring -/
theorem ring_of (hp : p < n) (hs : ¬ shut p) (h : Wk st en (okp n shut p) (en p) (st p) l) : ∃ f, Ring n st en shut p f ∧ cnt n w f ≤ wl w l + w p := by
  obtain ⟨l', vs, h1, h2⟩ := h.simple (w := w)
  have hn : ∀ i, okp n shut p i → i < n := fun i o => o.1
  obtain ⟨f1, f2⟩ := h1.fl1 (w := w) hn
  have fz : ∀ k, ¬ okp n shut p k → fl l' k = 0 := fun k hk => fl_out fun q hq e => hk (e ▸ (h1.ends q hq).1)
  have fp : fl l' p = 0 := fz p fun o => o.2.1 rfl
  refine ⟨fun k => fl l' k + if p = k then 1 else 0, ⟨fun k hk => ?_, fun x => ?_, ?_, fun k hk sk => ?_⟩, ?_⟩
  · by_cases e : p = k
    · subst e
      rw [if_pos rfl, fp]
      exact Or.inr (Or.inl rfl)
    · rw [if_neg e, Int.add_zero]
      exact f1 k
  · rw [dv_add, h1.wk.dv hn, dv_one hp]
    omega
  · rw [fp, if_pos rfl]
    rfl
  · rw [if_neg (fun e : p = k => hs (by rw [e]; exact sk)), fz k fun o => o.2.2 sk]
    rfl
  · rw [cnt, sm_congr (g := fun k => (if fl l' k ≠ 0 then (w k : Int) else 0) + if k = p then (w p : Int) else 0) (fun k hk => ?_), sm_add, f2, sm_one hp]
    · omega
    · by_cases e : p = k
      · subst e
        simp [fp]
      · simp only [if_neg e, Int.add_zero, if_neg (fun z : k = p => e z.symm)]
/-! ### the places that pipes of a ring reach -/
theorem grow (S : List Nat) : ∀ (m c : Nat) (R : List α), R.Nodup → (∀ i ∈ S, ok i) → (∀ x ∈ R, ∃ l, Wk st en ok u x l ∧ l.length ≤ m ∧ wl w l ≤ c) →
    ∃ R' : List α, R'.Nodup ∧ (∀ x ∈ R, x ∈ R') ∧ (∀ i ∈ S, st i ∈ R' ↔ en i ∈ R') ∧ ∀ x ∈ R', ∃ l, Wk st en ok u x l ∧ l.length ≤ m + S.length ∧ wl w l ≤ c + (S.map w).sum := by
  generalize hs : S.length = z
  induction z generalizing S with
  | zero =>
    intro m c R nd ho h
    obtain rfl := List.eq_nil_of_length_eq_zero hs
    exact ⟨R, nd, fun _ h => h, fun i hi => absurd hi List.not_mem_nil, fun x hx => by simpa using h x hx⟩
  | succ z ih =>
    intro m c R nd ho h
    by_cases q : ∃ i ∈ S, ¬ (st i ∈ R ↔ en i ∈ R)
    · obtain ⟨i, hi, hq⟩ := q
      have e1 := List.length_erase_of_mem hi
      have pm := List.perm_cons_erase hi
      have e2 : (S.map w).sum = w i + ((S.erase i).map w).sum := by
        rw [(pm.map w).sum_nat]
        simp
      have hadd : ∃ y, y ∉ R ∧ (st i ∈ y :: R) ∧ (en i ∈ y :: R) ∧ ∃ l, Wk st en ok u y l ∧ l.length ≤ m + 1 ∧ wl w l ≤ c + w i := by
        by_cases a : st i ∈ R
        · have b : en i ∉ R := fun b => hq ⟨fun _ => b, fun _ => a⟩
          obtain ⟨l, h1, h2, h3⟩ := h _ a
          exact ⟨_, b, List.mem_cons_of_mem _ a, List.mem_cons_self, _, .fwd h1 (ho i hi), by simp; omega, by rw [wl_cons]; show w i + _ ≤ _; omega⟩
        · have b : en i ∈ R := Decidable.byContradiction fun b => hq ⟨fun z => absurd z a, fun z => absurd z b⟩
          obtain ⟨l, h1, h2, h3⟩ := h _ b
          exact ⟨_, a, List.mem_cons_self, List.mem_cons_of_mem _ b, _, .bwd h1 (ho i hi), by simp; omega, by rw [wl_cons]; show w i + _ ≤ _; omega⟩
      obtain ⟨y, ny, s1, s2, ly⟩ := hadd
      obtain ⟨R', n1, n2, n3, n4⟩ := ih (S.erase i) (by omega) (m + 1) (c + w i) (y :: R) (List.nodup_cons.mpr ⟨ny, nd⟩) (fun j hj => ho j (List.mem_of_mem_erase hj)) (fun x hx => by
        rcases List.mem_cons.mp hx with rfl | hx
        · exact ly
        · obtain ⟨l, h1, h2, h3⟩ := h x hx
          exact ⟨l, h1, by omega, by omega⟩)
      refine ⟨R', n1, fun x hx => n2 x (List.mem_cons_of_mem _ hx), fun j hj => ?_, fun x hx => ?_⟩
      · by_cases e : j = i
        · subst e
          exact ⟨fun _ => n2 _ s2, fun _ => n2 _ s1⟩
        · exact n3 j ((List.mem_erase_of_ne e).mpr hj)
      · obtain ⟨l, h1, h2, h3⟩ := n4 x hx
        exact ⟨l, h1, by omega, by omega⟩
    · refine ⟨R, nd, fun _ h => h, fun i hi => Decidable.byContradiction fun z => q ⟨i, hi, z⟩, fun x hx => ?_⟩
      obtain ⟨l, h1, h2, h3⟩ := h x hx
      exact ⟨l, h1, by omega, by omega⟩
theorem dl_sum {R : List α} (nd : R.Nodup) (x : α) : (R.map fun y => dl x y).sum = if x ∈ R then 1 else 0 := by
  induction R with
  | nil => rfl
  | cons y R ih =>
    obtain ⟨a, b⟩ := List.nodup_cons.mp nd
    rw [List.map_cons, List.sum_cons, ih b, dl]
    by_cases e : x = y
    · subst e
      simp [a]
    · simp [e]
theorem sum_mul {β : Type} (c : Int) (xs : List β) (f g : β → Int) : (xs.map fun x => c * (f x - g x)).sum = c * ((xs.map f).sum - (xs.map g).sum) := by
  induction xs with
  | nil => simp
  | cons x xs ih =>
    simp only [List.map_cons, List.sum_cons, ih]
    rw [← Int.mul_add]
    congr 1
    omega
/-- nothing comes out of a set of places but by pipes that cross it -/
theorem cut {f : Nat → Int} {R : List α} (nd : R.Nodup) (hk : ∀ x, dv n st en f x = 0) (hp : p < n) (hc : ∀ k, k < n → k ≠ p → f k ≠ 0 → (st k ∈ R ↔ en k ∈ R)) (h1 : f p ≠ 0) : en p ∈ R → st p ∈ R := by
  intro he
  refine Decidable.byContradiction fun hs => ?_
  have e1 : (R.map fun x => dv n st en f x).sum = 0 := by
    rw [List.map_congr_left (fun x _ => hk x)]
    exact (by clear nd hc he hs; induction R with | nil => rfl | cons _ _ ih => simpa using ih)
  have e2 : (R.map fun x => dv n st en f x).sum = f p := by
    show (R.map fun x => sm n fun k => f k * (dl (en k) x - dl (st k) x)).sum = _
    rw [sm_sum, sm_only hp (fun k hk hkp => ?_)]
    · rw [sum_mul, dl_sum nd, dl_sum nd, if_pos he, if_neg hs]
      omega
    · rw [sum_mul, dl_sum nd, dl_sum nd]
      by_cases z : f k = 0
      · rw [z, Int.zero_mul]
      · have := hc k hk hkp z
        by_cases a : st k ∈ R
        · rw [if_pos a, if_pos (this.mp a)]
          simp
        · rw [if_neg a, if_neg (fun b => a (this.mpr b))]
          simp
  exact h1 (by rw [← e2, e1])
theorem sum_filter (n : Nat) (w : Nat → Nat) (P : Nat → Bool) : ((((List.range n).filter P).map w).sum : Int) = sm n fun k => if P k then (w k : Int) else 0 := by
  induction n with
  | zero => rfl
  | succ n ih =>
    rw [List.range_succ, List.filter_append, List.map_append, List.sum_append, sm, ← ih]
    cases h : P n <;> simp [h]
/-- a ring has a way back -/
theorem Ring.way {f : Nat → Int} (h : Ring n st en shut p f) (hp : p < n) : ∃ l, Wk st en (okp n shut p) (en p) (st p) l ∧ l.length ≤ n ∧ ((wl w l + w p : Nat) : Int) ≤ cnt n w f := by
  obtain ⟨R, nd, r1, r2, r3⟩ := grow (st := st) (en := en) (w := w) (ok := okp n shut p) (u := en p) ((List.range n).filter fun k => decide (f k ≠ 0 ∧ k ≠ p)) 0 0 [en p] (List.nodup_cons.mpr ⟨List.not_mem_nil, List.nodup_nil⟩)
    (fun i hi => by
      obtain ⟨a, b⟩ := List.mem_filter.mp hi
      have a := List.mem_range.mp a
      obtain ⟨b, c⟩ := of_decide_eq_true b
      exact ⟨a, c, fun z => b (h.sl i a z)⟩)
    (fun x hx => by
      obtain rfl := List.mem_singleton.mp hx
      exact ⟨[], .nil, Nat.le_refl _, Nat.le_refl _⟩)
  have hin := cut nd h.kept hp (fun k hk hkp z => r2 k (List.mem_filter.mpr ⟨List.mem_range.mpr hk, decide_eq_true ⟨z, hkp⟩⟩)) (by rw [h.one]; decide) (r1 _ List.mem_cons_self)
  obtain ⟨l, h1, h2, h3⟩ := r3 _ hin
  refine ⟨l, h1, ?_, ?_⟩
  · have := List.length_filter_le (fun k => decide (f k ≠ 0 ∧ k ≠ p)) (List.range n)
    rw [List.length_range] at this
    omega
  · have e1 := sum_filter n w fun k => decide (f k ≠ 0 ∧ k ≠ p)
    have e2 : cnt n w f = sm n (fun k => if decide (f k ≠ 0 ∧ k ≠ p) = true then (w k : Int) else 0) + w p := by
      rw [cnt, sm_congr (g := fun k => (if decide (f k ≠ 0 ∧ k ≠ p) = true then (w k : Int) else 0) + if k = p then (w p : Int) else 0) (fun k hk => ?_), sm_add, sm_one hp]
      by_cases e : k = p
      · subst e
        simp [h.one]
      · simp [e]
    rw [e2, ← e1]
    omega
/-! ### the shortest ways, round by round -/
abbrev Dist (α : Type) := α → Option Nat
/-- on by a link: from, to, meters -/
def ld (g : Dist α) (e : α × α × Nat) : Dist α := match g e.1 with
  | none => g
  | some d => match g e.2.1 with
    | none => fun x => if x = e.2.1 then some (d + e.2.2) else g x
    | some d' => if d + e.2.2 < d' then fun x => if x = e.2.1 then some (d + e.2.2) else g x else g
def Le (g g' : Dist α) : Prop := ∀ x d, g x = some d → ∃ d', g' x = some d' ∧ d' ≤ d
theorem Le.refl (g : Dist α) : Le g g := fun _ d h => ⟨d, h, Nat.le_refl _⟩
theorem Le.trans {a b c : Dist α} (h : Le a b) (h' : Le b c) : Le a c := fun x d e => by
  obtain ⟨d1, e1, l1⟩ := h x d e
  obtain ⟨d2, e2, l2⟩ := h' x d1 e1
  exact ⟨d2, e2, Nat.le_trans l2 l1⟩
theorem ld_cases (g : Dist α) (e : α × α × Nat) : ld g e = g ∧ (∀ d, g e.1 = some d → ∃ d', g e.2.1 = some d' ∧ d' ≤ d + e.2.2) ∨
    ∃ d, g e.1 = some d ∧ (∀ d', g e.2.1 = some d' → d + e.2.2 < d') ∧ ld g e = fun x => if x = e.2.1 then some (d + e.2.2) else g x := by
  unfold ld
  cases h : g e.1 with
  | none => exact Or.inl ⟨rfl, fun d z => absurd z (by simp)⟩
  | some d =>
    dsimp only
    cases h' : g e.2.1 with
    | none => exact Or.inr ⟨d, rfl, fun d' z => absurd z (by simp), rfl⟩
    | some d' =>
      dsimp only
      by_cases c : d + e.2.2 < d'
      · rw [if_pos c]
        exact Or.inr ⟨d, rfl, fun d2 z => Option.some.inj z ▸ c, rfl⟩
      · rw [if_neg c]
        exact Or.inl ⟨rfl, fun d2 z => ⟨d', rfl, Option.some.inj z ▸ Nat.le_of_not_lt c⟩⟩
theorem ld_le (g : Dist α) (e : α × α × Nat) : Le g (ld g e) := by
  rcases ld_cases g e with ⟨h, _⟩ | ⟨d1, h1, h2, h⟩
  · rw [h]
    exact Le.refl g
  · rw [h]
    intro x d hx
    by_cases z : x = e.2.1
    · subst z
      exact ⟨_, if_pos rfl, Nat.le_of_lt (h2 d hx)⟩
    · exact ⟨d, (if_neg z).trans hx, Nat.le_refl _⟩
theorem ld_hit {g : Dist α} {e : α × α × Nat} {d : Nat} (h : g e.1 = some d) : ∃ d', ld g e e.2.1 = some d' ∧ d' ≤ d + e.2.2 := by
  rcases ld_cases g e with ⟨h', q⟩ | ⟨d1, h1, h2, h'⟩
  · rw [h']
    exact q d h
  · rw [h']
    rw [h] at h1
    obtain rfl := Option.some.inj h1
    exact ⟨_, if_pos rfl, Nat.le_refl _⟩
theorem ld_inv {g : Dist α} {e : α × α × Nat} {P : α → Nat → Prop} (h : ∀ x d, g x = some d → P x d) (hs : ∀ d, g e.1 = some d → P e.1 d → P e.2.1 (d + e.2.2)) : ∀ x d, ld g e x = some d → P x d := by
  rcases ld_cases g e with ⟨h', q⟩ | ⟨d1, h1, h2, h'⟩
  · rw [h']
    exact h
  · rw [h']
    intro x d z
    by_cases q : x = e.2.1
    · dsimp only at z
      rw [if_pos q] at z
      obtain rfl := Option.some.inj z
      rw [q]
      exact hs d1 h1 (h _ _ h1)
    · dsimp only at z
      rw [if_neg q] at z
      exact h x d z
def turn (L : List (α × α × Nat)) (g : Dist α) : Dist α := L.foldl ld g
def turns (L : List (α × α × Nat)) : Nat → Dist α → Dist α
  | 0, g => g
  | k + 1, g => turn L (turns L k g)
theorem turn_le (L : List (α × α × Nat)) : ∀ g : Dist α, Le g (turn L g) := by
  induction L with
  | nil => exact fun g => Le.refl g
  | cons e L ih => exact fun g => (ld_le g e).trans (ih _)
theorem turn_hit (L : List (α × α × Nat)) : ∀ (g : Dist α) (e : α × α × Nat), e ∈ L → ∀ d, g e.1 = some d → ∃ d', turn L g e.2.1 = some d' ∧ d' ≤ d + e.2.2 := by
  induction L with
  | nil => exact fun g e he => absurd he List.not_mem_nil
  | cons e0 L ih =>
    intro g e he d h
    rcases List.mem_cons.mp he with rfl | he
    · obtain ⟨d1, h1, l1⟩ := ld_hit h
      obtain ⟨d2, h2, l2⟩ := turn_le L _ _ _ h1
      exact ⟨d2, h2, Nat.le_trans l2 l1⟩
    · obtain ⟨d1, h1, l1⟩ := ld_le g e0 _ _ h
      obtain ⟨d2, h2, l2⟩ := ih (ld g e0) e he d1 h1
      exact ⟨d2, h2, by omega⟩
theorem turn_inv {L : List (α × α × Nat)} {P : α → Nat → Prop} (hs : ∀ e ∈ L, ∀ d, P e.1 d → P e.2.1 (d + e.2.2)) : ∀ g : Dist α, (∀ x d, g x = some d → P x d) → ∀ x d, turn L g x = some d → P x d := by
  induction L with
  | nil => exact fun g h => h
  | cons e L ih => exact fun g h => ih (fun e' he' => hs e' (List.mem_cons_of_mem _ he')) _ (ld_inv h fun d _ => hs e List.mem_cons_self d)
def g0 (u : α) : Dist α := fun x => if x = u then some 0 else none
/-- the links of a net's pipes -/
structure Links (L : List (α × α × Nat)) (st en : Nat → α) (w : Nat → Nat) (ok : Nat → Prop) : Prop where
  of : ∀ e ∈ L, ∃ i, ok i ∧ e.2.2 = w i ∧ (e.1 = st i ∧ e.2.1 = en i ∨ e.1 = en i ∧ e.2.1 = st i)
  f : ∀ i, ok i → (st i, en i, w i) ∈ L
  b : ∀ i, ok i → (en i, st i, w i) ∈ L
variable {L : List (α × α × Nat)}
theorem turns_wk (hL : Links L st en w ok) (k : Nat) : ∀ x d, turns L k (g0 u) x = some d → ∃ l, Wk st en ok u x l ∧ wl w l = d := by
  have hs : ∀ e ∈ L, ∀ d, (∃ l, Wk st en ok u e.1 l ∧ wl w l = d) → ∃ l, Wk st en ok u e.2.1 l ∧ wl w l = d + e.2.2 := by
    rintro e he d ⟨l, h1, h2⟩
    obtain ⟨i, o, ew, z⟩ := hL.of e he
    rcases z with ⟨a, b⟩ | ⟨a, b⟩
    · rw [a] at h1
      exact ⟨(i, true) :: l, b ▸ .fwd h1 o, by rw [wl_cons, h2, ew]; exact Nat.add_comm _ _⟩
    · rw [a] at h1
      exact ⟨(i, false) :: l, b ▸ .bwd h1 o, by rw [wl_cons, h2, ew]; exact Nat.add_comm _ _⟩
  induction k with
  | zero =>
    intro x d h
    rw [turns, g0] at h
    by_cases z : x = u
    · subst z
      rw [if_pos rfl] at h
      exact ⟨[], .nil, (Option.some.inj h)⟩
    · rw [if_neg z] at h
      exact absurd h (by simp)
  | succ k ih => exact turn_inv hs _ ih
theorem turns_reach (hL : Links L st en w ok) (h : Wk st en ok u v l) : ∀ k, l.length ≤ k → ∃ d, turns L k (g0 u) v = some d ∧ d ≤ wl w l := by
  induction h with
  | nil =>
    intro k _
    induction k with
    | zero => exact ⟨0, if_pos rfl, Nat.le_refl _⟩
    | succ k ih =>
      obtain ⟨d, h1, h2⟩ := ih (Nat.zero_le _)
      obtain ⟨d', h3, h4⟩ := turn_le L _ _ _ h1
      exact ⟨d', h3, Nat.le_trans h4 h2⟩
  | @fwd i l h o ih =>
    intro k hk
    obtain ⟨k, rfl⟩ : ∃ j, k = j + 1 := ⟨k - 1, by simp at hk; omega⟩
    obtain ⟨d, h1, h2⟩ := ih k (by simp at hk; omega)
    obtain ⟨d', h3, h4⟩ := turn_hit L _ _ (hL.f i o) d h1
    exact ⟨d', h3, by rw [wl_cons]; dsimp only at h4 ⊢; omega⟩
  | @bwd i l h o ih =>
    intro k hk
    obtain ⟨k, rfl⟩ : ∃ j, k = j + 1 := ⟨k - 1, by simp at hk; omega⟩
    obtain ⟨d, h1, h2⟩ := ih k (by simp at hk; omega)
    obtain ⟨d', h3, h4⟩ := turn_hit L _ _ (hL.b i o) d h1
    exact ⟨d', h3, by rw [wl_cons]; dsimp only at h4 ⊢; omega⟩
/-- the strength, by shortest ways -/
theorem str_some (hL : Links L st en w (okp n shut p)) (hp : p < n) (hs : ¬ shut p) {d : Nat} (h : turns L n (g0 (en p)) (st p) = some d) : ∃ f, Ring n st en shut p f ∧ cnt n w f ≤ d + w p := by
  obtain ⟨l, h1, h2⟩ := turns_wk hL n _ _ h
  obtain ⟨f, h3, h4⟩ := ring_of (w := w) hp hs h1
  exact ⟨f, h3, h2 ▸ h4⟩
theorem str_least (hL : Links L st en w (okp n shut p)) (hp : p < n) {f : Nat → Int} (h : Ring n st en shut p f) : ∃ d, turns L n (g0 (en p)) (st p) = some d ∧ ((d + w p : Nat) : Int) ≤ cnt n w f := by
  obtain ⟨l, h1, h2, h3⟩ := h.way (w := w) hp
  obtain ⟨d, h4, h5⟩ := turns_reach hL h1 n h2
  exact ⟨d, h4, by omega⟩
end
end RV
/-! own methods; promises of ways and strengths -/
namespace RV
open PySem L2 PyProof.Rows TL
def Mtd (P : Program) (w : World) (K : PySem.W.Frag) (mg : Str → Option Value) (base : Heap) (C : Addr) (m : Str) (k : Nat) (ps : List Str) (sp : Sp) : Prop :=
  Cls K C ∧ ∃ f fd, Meth K C m f ∧ Binds K fd ps [] ∧ FnOk P w K mg base CX0 k f fd ps sp
theorem Mtd.irr {P : Program} {w : World} {K : PySem.W.Frag} {mg : Str → Option Value} {base : Heap} {C : Addr} {m : Str} {k : Nat} {ps : List Str} {sp : Sp} (h : Mtd P w K mg base C m k ps sp) : Mtd P w K mg base C m k ps (Irr sp) := by
  obtain ⟨c, f, fd, a, b, F⟩ := h
  exact ⟨c, f, fd, a, b, F.imp fun _ _ _ _ z => irr_of z⟩
section
variable {X : Cx} {C : Addr} {m : Str} {k : Nat} {ps : List Str} {sp : Sp} {o e : Expr} {es : List Expr} {t : TA} {ta : TE} {pos apos : Pos} {pl : Sem Bool}
theorem pe_mtd (h : Mtd X.prog X.w X.K X.mg X.base C m k ps sp) (hr : Room k X.A) (he : PE X o ta) (ha : PA X (e :: es) t)
    (hst : starEach (e :: es) X.env = (false, eval e X.env) :: starEach es X.env := by rfl) (hpl : (backTo pos (starEach es X.env)).any (·.1) = false := by rfl)
    (ht : eval (.Call (.Attribute o m apos) (e :: es) [] pos) X.env = (do
      let ov ← eval o X.env
      standAt apos.atName
      let (f, first) ← holding [ov] (getMethod ov m pl)
      callWith pos f first (backTo pos (starEach (e :: es) X.env)) (backToKw pos (keywordEach [] X.env))) := by rfl) :
    PE X (.Call (.Attribute o m apos) (e :: es) [] pos) (tMeth C m sp [] E0 ta t) := by
  obtain ⟨c, f, fd, hm, hb, F⟩ := h
  exact pe_meth he c hm F hr hb .nil pass0 ha hst hpl ht
end
theorem decV (a b : Str) : decide (V.str a = V.str b) = decide (a = b) := by simp
section
variable {α : Type} {K : PySem.W.Frag} {D : Addr} {i : Nat} {te : TE} {tt : TT} {vs : List Nat} {σ : L2.St} {H1 : Hp} {Qd : Hp → Prop} {J : It} {GG : Hp → Prop}
/-- [f(x) for x in xs if p(x)] over things at addresses -/
theorem lc_keepF {us : List (Addr × α)} (p : Addr × α → Bool) (val : Addr × α → V) (wk : Walk J (rf us).length GG (YAt (rf us))) (nD : H1 D = none) (len : us.length ≤ 1000) (hG : ∀ H', Same H1 H' → GG H') (hw : ∀ x, wipe ((wipe σ vs).set i x) vs = wipe σ vs)
    (ht : ∀ u ∈ us, ∀ H2, Same H1 H2 → ∀ R : Bool → Hp → Prop, (∀ H3, Same H2 H3 → R (p u) H3) → tt ((wipe σ vs).set i (some (.ref u.1))) H2 R)
    (he : ∀ u ∈ us, ∀ H2, Same H1 H2 → ∀ R : VK, R (val u) H2 → te ((wipe σ vs).set i (some (.ref u.1))) H2 R)
    (k : ∀ H', Same H1 H' → H' D = some (.lst ((us.filter p).map val)) → Qd H') :
    ∃ W : Nat → Nat → Hp → Prop, (∃ m, W 0 m (upd H1 D (.lst []))) ∧ ∀ i' m H, W i' m H →
      (J.stop i' H ∧ Qd H) ∨ (J.go i' H ∧ ∃ Nx : Hp → Prop, (∀ H', Nx H' → ∃ m', m' < m ∧ W (i' + 1) m' H') ∧ ∀ x H', J.yld i' H x H' → gName i x (wipe σ vs) H' fun σ2 H2 => wipe σ2 vs = wipe σ vs ∧ tt σ2 H2 fun b H3 =>
        if b = true then te σ2 H3 fun y H4 => ∃ acc, H4 D = some (.lst acc) ∧ acc.length < sizeLine ∧ Nx (upd H4 D (.lst (acc ++ [y]))) else Nx H3) := by
  refine L2.lc_it wk (fun i' H' => Same H1 H' ∧ H' D = some (.lst (((us.take i').filter p).map val)))
    ⟨fun b o e => (upd_ne (ne_of_none e nD)).trans e, upd_same⟩ (fun i' H' _ z => hG _ z.1) (fun i' x Ha Hb hi hv y => ?_) (fun H' hv => ?_)
  · obtain ⟨s, eD⟩ := hv
    obtain ⟨rfl, hx⟩ := y
    rw [rf, List.getElem?_map] at hx
    cases hu : us[i']? with
    | none => rw [hu] at hx; cases hx
    | some u =>
      rw [hu] at hx
      obtain rfl : V.ref u.1 = x := Option.some.inj hx
      have hm := List.mem_of_getElem? hu
      have et : us.take (i' + 1) = us.take i' ++ [u] := by rw [List.take_add_one, hu]; rfl
      refine ⟨hw _, ht u hm Hb s _ fun H3 s3 => ?_⟩
      have eD3 := s3 _ _ eD
      have sH : Same H1 H3 := fun b o e => s3 b o (s b o e)
      cases hp : p u with
      | false =>
        refine iteF ⟨sH, ?_⟩
        rw [eD3, et, List.filter_append, List.filter_cons_of_neg (by rw [hp]; decide), List.filter_nil, List.append_nil]
      | true =>
        refine iteT (he u hm H3 sH _ ⟨_, eD3, ?_, fun b o e => ?_, ?_⟩)
        · rw [List.length_map]
          have l1 := List.length_filter_le p (us.take i')
          have l3 := List.length_take_le' i' us
          exact Nat.lt_of_le_of_lt (Nat.le_trans l1 (Nat.le_trans l3 len)) (by decide)
        · rw [upd_ne (ne_of_none e nD)]
          exact sH _ _ e
        · rw [upd_same, et, List.filter_append, List.filter_cons_of_pos hp, List.filter_nil, List.map_append]
          rfl
  · obtain ⟨s, eD⟩ := hv
    rw [rf_len, List.take_length] at eD
    exact k H' s eD
end
def rgL (n : Nat) : List V := (List.range n).map fun i => V.int (i : Nat)
theorem rgL_len (n : Nat) : (rgL n).length = n := by rw [rgL, List.length_map, List.length_range]
theorem rgL_get {n k : Nat} {x : V} (h : (rgL n)[k]? = some x) : x = .int (k : Nat) ∧ k < n := by
  have hk := (List.getElem?_eq_some_iff.mp h).1
  rw [rgL_len] at hk
  rw [rgL, List.getElem?_map, List.getElem?_range hk] at h
  exact ⟨(Option.some.inj h).symm, hk⟩
theorem walk_rgL {n : Nat} : Walk (Itr 0 n) (rgL n).length (fun _ => True) (YAt (rgL n)) := by
  rw [rgL_len]
  refine walk_range.mono (fun _ _ => True.intro) fun i H x H' hi _ y => ⟨y.1, ?_⟩
  rw [y.2, rgL, List.getElem?_map, List.getElem?_range hi]
  simp
/-! ### the meters of a pipe -/
def onP (ms : List M3) (y : Str) : List M3 := ms.filter fun m => decide (m.2.1 = y)
def wtP (ms : List M3) (y : Str) : Nat := (onP ms y).length
def seP (ms : List M3) (y : Str) : List M3 := (onP ms y).filter fun m => m.2.2
/-- amount at this index, 0 elsewhere -/
def un (n : Nat) (o : Option Nat) (c : Int) : List Int := (List.range n).map fun j => if o = some j then c else 0
def vN : Option Nat → V
  | none => .non
  | some k => .int (k : Nat)
/-- a link: from, to, meters, flow -/
abbrev L4 := Str × Str × Nat × List Int
def lks (n : Nat) (ms : List M3) (y : Str) (i : Nat) (p : P3) : List L4 :=
  if p.1 ≠ y ∧ seP ms p.1 = [] then [(p.2.1, p.2.2, wtP ms p.1, un n (some i) 1), (p.2.2, p.2.1, wtP ms p.1, un n (some i) (-1))] else []
def lkF (n : Nat) (ms : List M3) (y : Str) : Nat → List P3 → List L4
  | _, [] => []
  | i, p :: ps => lks n ms y i p ++ lkF n ms y (i + 1) ps
theorem lkF_app (n : Nat) (ms : List M3) (y : Str) (p : P3) : ∀ (s : Nat) (as : List P3), lkF n ms y s (as ++ [p]) = lkF n ms y s as ++ lks n ms y (s + as.length) p
  | s, [] => by simp [lkF]
  | s, a :: as => by
    rw [List.cons_append, lkF, lkF, lkF_app n ms y p (s + 1) as, List.append_assoc, List.length_cons, show s + 1 + as.length = s + (as.length + 1) by omega]
theorem lkF_take {n : Nat} {ms : List M3} {y : Str} {ps : List P3} {i : Nat} {p : P3} (h : ps[i]? = some p) : lkF n ms y 0 (ps.take (i + 1)) = lkF n ms y 0 (ps.take i) ++ lks n ms y i p := by
  have hi := (List.getElem?_eq_some_iff.mp h).1
  rw [List.take_add_one, h]
  show lkF n ms y 0 (ps.take i ++ [p]) = _
  rw [lkF_app, List.length_take, Nat.min_eq_left (by omega), Nat.zero_add]
theorem lks_len (n : Nat) (ms : List M3) (y : Str) (i : Nat) (p : P3) : (lks n ms y i p).length ≤ 2 := by
  unfold lks
  split
  · exact Nat.le_refl _
  · exact Nat.zero_le _
theorem lkF_len (n : Nat) (ms : List M3) (y : Str) : ∀ (s : Nat) (as : List P3), (lkF n ms y s as).length ≤ 2 * as.length
  | s, [] => Nat.le_refl _
  | s, a :: as => by
    rw [lkF, List.length_append, List.length_cons]
    have h1 := lks_len n ms y s a
    have h2 := lkF_len n ms y (s + 1) as
    omega
def lkA (ps : List P3) (ms : List M3) (y : Str) : List L4 := lkF ps.length ms y 0 ps
def lk3 (l : L4) : Str × Str × Nat := (l.1, l.2.1, l.2.2.1)
def LkAt (H : Hp) (a : Addr) (l : L4) : Prop := ∃ t, H a = some (.tup [.str l.1, .str l.2.1, .int (l.2.2.1 : Nat), .ref t]) ∧ H t = some (.tup (l.2.2.2.map V.int))
theorem LkAt.ext {H H' : Hp} {a : Addr} {l : L4} (h : LkAt H a l) (s : Same H H') : LkAt H' a l := by
  obtain ⟨t, h1, h2⟩ := h
  exact ⟨t, s _ _ h1, s _ _ h2⟩
theorem LkAt.put {H : Hp} {a l : Addr} {q : L4} {xs ys : List V} (h : LkAt H a q) (e : H l = some (.lst xs)) : LkAt (upd H l (.lst ys)) a q := by
  obtain ⟨t, h1, h2⟩ := h
  refine ⟨t, (upd_ne fun z => ?_).trans h1, (upd_ne fun z => ?_).trans h2⟩
  · rw [z, e] at h1; cases h1
  · rw [z, e] at h2; cases h2
/-- a dict of ways -/
structure DW (n : Nat) (Z : Str → Nat → List Int → Prop) (H : Hp) (kvs : List (Key × V)) (g : Dist Str) : Prop where
  z : ∀ x, g x = none → valV kvs (.inr x) = none
  s : ∀ x d, g x = some d → ∃ (e t : Addr) (fs : List Int), valV kvs (.inr x) = some (.ref e) ∧ H e = some (.tup [.int (d : Nat), .ref t]) ∧ H t = some (.tup (fs.map V.int)) ∧ fs.length = n ∧ Z x d fs
/-- what holds of every way that is found -/
structure ZOk (ps : List P3) (ms : List M3) (y : Str) (Z : Dist Str → Str → Nat → List Int → Prop) : Prop where
  st : ∀ (i : Nat) (q : P3), ps[i]? = some q → q.1 = y → Z (g0 q.2.2) q.2.2 0 (un ps.length none 0)
  ke : ∀ l ∈ lkA ps ms y, ∀ g x d fs, Z g x d fs → Z (ld g (lk3 l)) x d fs
  ne : ∀ l ∈ lkA ps ms y, ∀ g d fs, fs.length = ps.length → g l.1 = some d → Z g l.1 d fs → (g l.2.1 = none ∨ ∃ d', g l.2.1 = some d' ∧ d + l.2.2.1 < d') → Z (ld g (lk3 l)) l.2.1 (d + l.2.2.1) (List.zipWith (· + ·) fs l.2.2.2)
theorem ZOk.triv (ps : List P3) (ms : List M3) (y : Str) : ZOk ps ms y fun _ _ _ _ => True := ⟨fun _ _ _ _ => trivial, fun _ _ _ _ _ _ _ => trivial, fun _ _ _ _ _ _ _ _ _ => trivial⟩
def strP (ps : List P3) (ms : List M3) (y : Str) : Option Nat :=
  match ps.find? fun p => decide (p.1 = y) with
  | none => none
  | some q => if seP ms y = [] then (turns ((lkA ps ms y).map lk3) ps.length (g0 q.2.2) q.2.1).map (· + wtP ms y) else none
section
variable (K : PySem.W.Frag) (CN CP CM : Addr)
def sp_gpipe : Sp := fun vs H Q _ => ∃ (x : Addr) (ps : List P3) (ms : List M3) (y : Str), vs = [.ref x, .str y] ∧ NetR K CN CP CM H x ps ms ∧ ps.length ≤ 12 ∧ y ∈ ps.map (·.1) ∧
  ∀ (a : Addr) (i : Nat) (q : P3) H', ps[i]? = some q → q.1 = y → Same H H' → PipeAt CP H' a q → Q (.ref a) H'
def sp_chkn : Sp := fun vs H Q _ => ∃ (x : Addr) (ps : List P3) (ms : List M3), vs = [.ref x] ∧ NetR K CN CP CM H x ps ms ∧ Q .non H
def sp_chkp : Sp := fun vs H Q _ => ∃ (x : Addr) (ps : List P3) (ms : List M3) (y : Str), vs = [.ref x, .str y] ∧ NetR K CN CP CM H x ps ms ∧ ps.length ≤ 12 ∧ y ∈ ps.map (·.1) ∧ ∀ H', Same H H' → Q .non H'
def sp_mat : Sp := fun vs H Q _ => ∃ (x : Addr) (ps : List P3) (ms : List M3) (y : Str), vs = [.ref x, .str y] ∧ NetR K CN CP CM H x ps ms ∧ ms.length ≤ 12 ∧
  ∀ (l : Addr) (us : List MU) H', Same H H' → H' l = some (.lst (rf us)) → (∀ u ∈ us, MetAt CM H' u.1 u.2) → sn us = onP ms y → Q (.ref l) H'
def sp_sat : Sp := fun vs H Q _ => ∃ (x : Addr) (ps : List P3) (ms : List M3) (y : Str), vs = [.ref x, .str y] ∧ NetR K CN CP CM H x ps ms ∧ ms.length ≤ 12 ∧
  ∀ (l : Addr) (xs : List V) H', Same H H' → H' l = some (.lst xs) → (xs = [] ↔ seP ms y = []) → Q (.ref l) H'
def sp_amt : Sp := fun vs H Q _ => ∃ (x : Addr) (ps : List P3) (ms : List M3) (o : Option Nat) (c : Int), vs = [.ref x, vN o, .int c] ∧ NetR K CN CP CM H x ps ms ∧ ps.length ≤ 12 ∧
  ∀ (t : Addr) H', Same H H' → H' t = some (.tup ((un ps.length o c).map V.int)) → Q (.ref t) H'
def sp_lnks : Sp := fun vs H Q _ => ∃ (x : Addr) (ps : List P3) (ms : List M3) (y : Str), vs = [.ref x, .str y] ∧ NetR K CN CP CM H x ps ms ∧ ps.length ≤ 12 ∧ ms.length ≤ 12 ∧
  ∀ (l : Addr) (us : List (Addr × L4)) H', Same H H' → H' l = some (.lst (rf us)) → (∀ u ∈ us, LkAt H' u.1 u.2) → sn us = lkA ps ms y → Q (.ref l) H'
def sp_lead : Sp := fun vs H Q _ => ∃ (d t : Addr) (a b : Str) (m n : Nat) (fs : List Int) (kvs : List (Key × V)) (g : Dist Str) (Z Z' : Str → Nat → List Int → Prop), vs = [.ref d, .str a, .str b, .int (m : Nat), .ref t] ∧ H d = some (.dK kvs) ∧ H t = some (.tup (fs.map V.int)) ∧ fs.length = n ∧ n ≤ 12 ∧ kvs.length ≤ 1000 ∧ DW n Z H kvs g ∧ (∀ x d f, Z x d f → Z' x d f) ∧ (∀ d f, f.length = n → g a = some d → Z a d f → (g b = none ∨ ∃ d', g b = some d' ∧ d + m < d') → Z' b (d + m) (List.zipWith (· + ·) f fs)) ∧
  ∀ kvs' H', (∀ b o, b ≠ d → H b = some o → H' b = some o) → H' d = some (.dK kvs') → kvs'.length ≤ kvs.length + 1 → DW n Z' H' kvs' (ld g (a, b, m)) → Q .non H'
def sp_ways : Sp := fun vs H Q _ => ∃ (x : Addr) (ps : List P3) (ms : List M3) (y : Str) (Z : Dist Str → Str → Nat → List Int → Prop), vs = [.ref x, .str y] ∧ NetR K CN CP CM H x ps ms ∧ ps.length ≤ 12 ∧ ms.length ≤ 12 ∧ y ∈ ps.map (·.1) ∧ ZOk ps ms y Z ∧
  ∀ (i : Nat) (q : P3) (d : Addr) (kvs : List (Key × V)) H', ps[i]? = some q → q.1 = y → Same H H' → H' d = some (.dK kvs) → DW ps.length (Z (turns ((lkA ps ms y).map lk3) ps.length (g0 q.2.2))) H' kvs (turns ((lkA ps ms y).map lk3) ps.length (g0 q.2.2)) → Q (.ref d) H'
def WayV (n : Nat) (Z : Nat → List Int → Prop) (H : Hp) (v : V) : Option Nat → Prop
  | none => v = .non
  | some d => ∃ (e t : Addr) (fs : List Int), v = .ref e ∧ H e = some (.tup [.int (d : Nat), .ref t]) ∧ H t = some (.tup (fs.map V.int)) ∧ fs.length = n ∧ Z d fs
def sp_back : Sp := fun vs H Q _ => ∃ (x : Addr) (ps : List P3) (ms : List M3) (y : Str) (Z : Dist Str → Str → Nat → List Int → Prop), vs = [.ref x, .str y] ∧ NetR K CN CP CM H x ps ms ∧ ps.length ≤ 12 ∧ ms.length ≤ 12 ∧ y ∈ ps.map (·.1) ∧ ZOk ps ms y Z ∧
  ∀ (i j : Nat) (q r : P3) (v : V) H', ps[i]? = some q → q.1 = y → ps[j]? = some r → r.1 = y → Same H H' → WayV ps.length (Z (turns ((lkA ps ms y).map lk3) ps.length (g0 q.2.2)) r.2.1) H' v (if seP ms y = [] then turns ((lkA ps ms y).map lk3) ps.length (g0 q.2.2) r.2.1 else none) → Q v H'
def sp_stren : Sp := fun vs H Q _ => ∃ (x : Addr) (ps : List P3) (ms : List M3) (y : Str), vs = [.ref x, .str y] ∧ NetR K CN CP CM H x ps ms ∧ POk ps ∧ ms.length ≤ 12 ∧ y ∈ ps.map (·.1) ∧ ∀ H', Same H H' → Q (vN (strP ps ms y)) H'
end
end RV
/-! ways in a dict -/
namespace RV
open PySem L2 PyProof.Rows TL
theorem ld_n {g : Dist Str} {e : Str × Str × Nat} (h : g e.1 = none) : ld g e = g := by
  unfold ld
  rw [h]
theorem ld_p {g : Dist Str} {e : Str × Str × Nat} {d : Nat} (h : g e.1 = some d) (h' : g e.2.1 = none ∨ ∃ d', g e.2.1 = some d' ∧ d + e.2.2 < d') : ld g e = fun x => if x = e.2.1 then some (d + e.2.2) else g x := by
  unfold ld
  rw [h]
  rcases h' with z | ⟨d', z, c⟩
  · simp only [z]
  · simp only [z, if_pos c]
theorem ld_k {g : Dist Str} {e : Str × Str × Nat} {d d' : Nat} (h : g e.1 = some d) (h' : g e.2.1 = some d') (c : ¬ d + e.2.2 < d') : ld g e = g := by
  unfold ld
  rw [h]
  simp only [h', if_neg c]
theorem DW.keep {n : Nat} {Z : Str → Nat → List Int → Prop} {H H' : Hp} {kvs : List (Key × V)} {g : Dist Str} {dl : Addr} (h : DW n Z H kvs g) (hd : ∃ q, H dl = some (.dK q)) (s : ∀ b o, b ≠ dl → H b = some o → H' b = some o) : DW n Z H' kvs g := by
  obtain ⟨q, hd⟩ := hd
  refine ⟨h.z, fun x d hx => ?_⟩
  obtain ⟨e, t, fs, h1, h2, h3, h4⟩ := h.s x d hx
  exact ⟨e, t, fs, h1, s _ _ (fun z => by rw [z, hd] at h2; cases h2) h2, s _ _ (fun z => by rw [z, hd] at h3; cases h3) h3, h4⟩
theorem DW.ext {n : Nat} {Z : Str → Nat → List Int → Prop} {H H' : Hp} {kvs : List (Key × V)} {g : Dist Str} (h : DW n Z H kvs g) (s : Same H H') : DW n Z H' kvs g := by
  refine ⟨h.z, fun x d hx => ?_⟩
  obtain ⟨e, t, fs, h1, h2, h3, h4⟩ := h.s x d hx
  exact ⟨e, t, fs, h1, s _ _ h2, s _ _ h3, h4⟩
theorem DW.imp {n : Nat} {Z Z' : Str → Nat → List Int → Prop} {H : Hp} {kvs : List (Key × V)} {g : Dist Str} (h : DW n Z H kvs g) (i : ∀ x d f, Z x d f → Z' x d f) : DW n Z' H kvs g :=
  ⟨h.z, fun x d hx => by obtain ⟨e, t, fs, h1, h2, h3, h4, h5⟩ := h.s x d hx; exact ⟨e, t, fs, h1, h2, h3, h4, i _ _ _ h5⟩⟩
theorem DW.put {n c : Nat} {Z : Str → Nat → List Int → Prop} {H : Hp} {kvs : List (Key × V)} {g : Dist Str} {b : Str} {e t : Addr} {fs : List Int} (h : DW n Z H kvs g) (h2 : H e = some (.tup [.int (c : Nat), .ref t])) (h3 : H t = some (.tup (fs.map V.int))) (h4 : fs.length = n) (h5 : Z b c fs) :
    DW n Z H (putK kvs (.inr b) (.ref e)) (fun x => if x = b then some c else g x) := by
  refine ⟨fun x hx => ?_, fun x d hx => ?_⟩
  · by_cases z : x = b
    · rw [if_pos z] at hx; cases hx
    · rw [if_neg z] at hx
      rw [valV_put, if_neg fun q => z (Sum.inr.inj q), h.z x hx]
  · by_cases z : x = b
    · rw [if_pos z] at hx
      obtain rfl := Option.some.inj hx
      exact ⟨e, t, fs, by rw [valV_put, if_pos (by rw [z])], h2, h3, h4, z ▸ h5⟩
    · rw [if_neg z] at hx
      obtain ⟨e', t', fs', h1, hh⟩ := h.s x d hx
      exact ⟨e', t', fs', by rw [valV_put, if_neg fun q => z (Sum.inr.inj q), h1], hh⟩
theorem DW.new {n : Nat} {Z : Str → Nat → List Int → Prop} {H : Hp} {b : Str} {e t : Addr} {fs : List Int} (h2 : H e = some (.tup [.int ((0 : Nat) : Int), .ref t])) (h3 : H t = some (.tup (fs.map V.int))) (h4 : fs.length = n) (h5 : Z b 0 fs) : DW n Z H (putK [] (.inr b) (.ref e)) (g0 b) := by
  have h : DW n Z H [] (fun _ => none) := ⟨fun _ _ => rfl, fun _ _ z => nomatch z⟩
  exact h.put h2 h3 h4 h5
theorem walk_zipT {K : PySem.W.Frag} {a b : Addr} {xs ys : List V} {n : Nat} (hn : n = min xs.length ys.length) : Walk (RZ.ItzT K a b) n (fun H => SqT K H a xs ∧ SqT K H b ys) (YPair (fun i => xs[i]?) (fun i => ys[i]?)) := by
  subst hn
  refine ⟨fun i _ hi q => ?_, fun _ q => ⟨xs, ys, q.1, q.2, by omega⟩, fun i H v H' _ q y => ?_⟩
  · have h1 : i < xs.length := by omega
    have h2 : i < ys.length := by omega
    exact ⟨xs, ys, xs[i], ys[i], q.1, q.2, by simp [h1], by simp [h2]⟩
  · obtain ⟨T, x, z, h1, h2, h3, h4, h5⟩ := y
    exact ⟨T, x, z, h1, h2, h3, h4 xs q.1, h5 ys q.2⟩
end RV
/-! flows of -1, 0 and 1, as the laws over scripts count them -/
namespace RV
open PySem L2 PyProof.Rows TL
theorem ixN_nat {n j : Nat} (hj : j < n) : ixN n (j : Int) = some j := by
  unfold ixN
  rw [if_pos (by omega), if_pos (by omega)]
  simp
def qst (M : Mod) (k : Nat) : Nat := (M.qs.getD k ("", 0, 0)).2.1
def qen (M : Mod) (k : Nat) : Nat := (M.qs.getD k ("", 0, 0)).2.2
def rwf (r : List Int) (k : Nat) : Int := r.getD k 0
/-- what stays at a place after j pipes -/
def stay (M : Mod) (r : List Int) (j x : Nat) : Int := dv j (qst M) (qen M) (rwf r) x
theorem stay_succ (M : Mod) (r : List Int) (j x : Nat) : stay M r (j + 1) x = stay M r j x + rwf r j * (dl (qen M j) x - dl (qst M j) x) := rfl
def keptB (M : Mod) (r : List Int) : Bool := (List.range M.pl.length).all fun x => decide (stay M r M.qs.length x = 0)
def stayL (M : Mod) (r : List Int) (j : Nat) : List V := (List.range M.pl.length).map fun x => .int (stay M r j x)
theorem stayL_len (M : Mod) (r : List Int) (j : Nat) : (stayL M r j).length = M.pl.length := by rw [stayL, List.length_map, List.length_range]
theorem stayL_get {M : Mod} {r : List Int} {j x : Nat} (h : x < M.pl.length) : (stayL M r j)[x]? = some (.int (stay M r j x)) := by
  rw [stayL, List.getElem?_map, List.getElem?_range h]
  rfl
theorem stayL_step {M : Mod} {r : List Int} {j b e : Nat} (eb : qst M j = b) (ee : qen M j = e) (hne : b ≠ e) (hb : b < M.pl.length) (he : e < M.pl.length) :
    ((stayL M r j).set b (.int (stay M r j b - rwf r j))).set e (.int (stay M r j e + rwf r j)) = stayL M r (j + 1) := by
  refine List.ext_getElem? fun x => ?_
  rw [List.getElem?_set, List.getElem?_set, List.length_set, stayL_len]
  by_cases hx : x < M.pl.length
  · rw [stayL_get hx, stayL_get hx, stay_succ, eb, ee]
    by_cases h1 : e = x
    · subst h1
      rw [if_pos rfl, if_pos he, dl, dl, if_pos rfl, if_neg hne]
      congr 2
      omega
    · rw [if_neg h1]
      by_cases h2 : b = x
      · subst h2
        rw [if_pos rfl, if_pos hb, dl, dl, if_pos rfl, if_neg h1]
        congr 2
        omega
      · rw [if_neg h2, dl, dl, if_neg h1, if_neg h2]
        congr 2
        omega
  · rw [if_neg (fun z : e = x => hx (z ▸ he)), if_neg (fun z : b = x => hx (z ▸ hb)), List.getElem?_eq_none (by rw [stayL_len]; omega), List.getElem?_eq_none (by rw [stayL_len]; omega)]
def sp_kept : Sp := fun vs H Q _ => ∃ (l a : Addr) (M : Mod) (most more : Nat) (r : List Int), vs = [.ref l, .ref a] ∧ MdAt H l M ∧ MdOk M most more ∧ most ≤ 12 ∧ H a = some (.lst (r.map V.int)) ∧ r.length = M.qs.length ∧ ∀ H', Same H H' → Q (.bl (keptB M r)) H'
def trit (c : Int) : Prop := c = 0 ∨ c = 1 ∨ c = -1
def sp_flows : Sp := fun vs H Q _ => ∃ (l : Addr) (M : Mod) (more : Nat), vs = [.ref l] ∧ MdAt H l M ∧ MdOk M 5 more ∧
  ∀ (a : Addr) (us : List (Addr × List Int)) H', Same H H' → H' a = some (.lst (rf us)) → (∀ u ∈ us, H' u.1 = some (.lst (u.2.map V.int))) → us.length ≤ 243 → H a = none → (∀ u ∈ us, H u.1 = none) → (∀ r, r ∈ sn us ↔ r.length = M.qs.length ∧ (∀ c ∈ r, trit c) ∧ keptB M r = true) → Q (.ref a) H'
theorem trits {R : List (List Int)} {j : Nat} (h : ∀ r, r ∈ R ↔ r.length = j ∧ ∀ c ∈ r, trit c) (r : List Int) : r ∈ R.map (· ++ [-1]) ++ R.map (· ++ [0]) ++ R.map (· ++ [1]) ↔ r.length = j + 1 ∧ ∀ c ∈ r, trit c := by
  have one : ∀ (c : Int), trit c → r ∈ R.map (· ++ [c]) → r.length = j + 1 ∧ ∀ c ∈ r, trit c := by
    intro c hc hr
    obtain ⟨r0, h0, rfl⟩ := List.mem_map.mp hr
    obtain ⟨a, b⟩ := (h r0).mp h0
    refine ⟨by simp [a], fun d hd => ?_⟩
    rcases List.mem_append.mp hd with hd | hd
    · exact b d hd
    · rw [List.mem_singleton.mp hd]
      exact hc
  constructor
  · intro hr
    rcases List.mem_append.mp hr with hr | hr
    · rcases List.mem_append.mp hr with hr | hr
      · exact one (-1) (Or.inr (Or.inr rfl)) hr
      · exact one 0 (Or.inl rfl) hr
    · exact one 1 (Or.inr (Or.inl rfl)) hr
  · rintro ⟨a, b⟩
    rcases List.eq_nil_or_concat r with rfl | ⟨r0, c, rfl⟩
    · simp at a
    · rw [List.concat_eq_append] at a b ⊢
      have h0 : r0 ∈ R := (h r0).mpr ⟨by simpa using a, fun d hd => b d (List.mem_append_left _ hd)⟩
      rcases b c (List.mem_append_right _ (List.mem_singleton.mpr rfl)) with rfl | rfl | rfl
      · exact List.mem_append_left _ (List.mem_append_right _ (List.mem_map.mpr ⟨r0, h0, rfl⟩))
      · exact List.mem_append_right _ (List.mem_map.mpr ⟨r0, h0, rfl⟩)
      · exact List.mem_append_left _ (List.mem_append_left _ (List.mem_map.mpr ⟨r0, h0, rfl⟩))
abbrev FU := Addr × List Int
def FAt (H : Hp) (us : List FU) : Prop := ∀ u ∈ us, H u.1 = some (.lst (u.2.map V.int))
theorem FAt.ext {H H' : Hp} {us : List FU} (h : FAt H us) (s : Same H H') : FAt H' us := fun u hu => s _ _ (h u hu)
theorem none_back {H H' : Hp} {p : Addr} (s : Same H H') (h : H' p = none) : H p = none := by
  cases e : H p with
  | none => rfl
  | some o => rw [s _ _ e] at h; cases h
theorem upd_none {H : Hp} {L p : Addr} {o : HO} (h : upd H L o p = none) : H p = none ∧ p ≠ L := by
  have hne : p ≠ L := fun e => by rw [e, upd_same] at h; cases h
  rw [upd_ne hne] at h
  exact ⟨h, hne⟩
section
variable {K : PySem.W.Frag} {D : Addr} {i : Nat} {te : TE} {vs : List Nat} {σ : L2.St} {H1 : Hp} {Qd : Hp → Prop} {J : It} {GG : Hp → Prop}
/-- [row + [c] for row in rows] -/
theorem lc_rows (c : Int) {us : List FU} (wk : Walk J (rf us).length GG (YAt (rf us))) (nD : H1 D = none) (len : us.length ≤ 1000) (hG : ∀ H', Same H1 H' → GG H') (hw : ∀ x, wipe ((wipe σ vs).set i x) vs = wipe σ vs)
    (h : ∀ u ∈ us, ∀ H2, Same H1 H2 → ∀ R : VK, (∀ p H3, Same H2 H3 → H2 p = none → H3 p = some (.lst ((u.2 ++ [c]).map V.int)) → R (.ref p) H3) → te ((wipe σ vs).set i (some (.ref u.1))) H2 R)
    (k : ∀ (ws : List FU) H', sn ws = (sn us).map (· ++ [c]) → (∀ u ∈ ws, H1 u.1 = none) → Same H1 H' → FAt H' ws → H' D = some (.lst (rf ws)) → Qd H') :
    ∃ W : Nat → Nat → Hp → Prop, (∃ m, W 0 m (upd H1 D (.lst []))) ∧ ∀ i' m H, W i' m H →
      (J.stop i' H ∧ Qd H) ∨ (J.go i' H ∧ ∃ Nx : Hp → Prop, (∀ H', Nx H' → ∃ m', m' < m ∧ W (i' + 1) m' H') ∧ ∀ x H', J.yld i' H x H' → gName i x (wipe σ vs) H' fun σ2 H2 => wipe σ2 vs = wipe σ vs ∧ tYes σ2 H2 fun b H3 =>
        if b = true then te σ2 H3 fun y H4 => ∃ acc, H4 D = some (.lst acc) ∧ acc.length < sizeLine ∧ Nx (upd H4 D (.lst (acc ++ [y]))) else Nx H3) := by
  refine lc_new (β := FU) (xs := rf us) (fun u => .ref u.1) (fun j b H' => b.1 ≠ D ∧ H' b.1 = some (.lst (b.2.map V.int)) ∧ H1 b.1 = none ∧ ∃ u, us[j]? = some u ∧ b.2 = u.2 ++ [c]) wk nD (by rw [rf_len]; exact len) hG hw
    (fun j b H' H'' s' z => ⟨z.1, s' _ _ z.2.1, z.2.2⟩) (fun j b H' acc acc' e z => ⟨z.1, (upd_ne z.1).trans z.2.1, z.2.2⟩) (fun j x hx H2 s2 hD2 R kR => ?_) fun bs H2 s2 bl bp hD2 => ?_
  · obtain ⟨u, hu, rfl⟩ := rf_get hx
    obtain ⟨acc, hD2⟩ := hD2
    exact h u (List.mem_of_getElem? hu) H2 s2 R fun p H3 s3 np e3 => kR (p, u.2 ++ [c]) H3 s3 ⟨(ne_of_none hD2 np).symm, e3, none_back s2 np, u, hu, rfl⟩
  · refine k bs H2 (List.ext_getElem? fun j => ?_) (fun u hu => ?_) s2 (fun u hu => ?_) hD2
    · cases e : bs[j]? with
      | some b =>
        obtain ⟨_, _, _, u, hu, e2⟩ := bp j b e
        rw [sn_get e, List.getElem?_map, sn_get hu, e2]
        rfl
      | none =>
        rw [List.getElem?_eq_none_iff] at e
        rw [rf_len] at bl
        rw [List.getElem?_eq_none (by rw [sn_len]; omega), List.getElem?_eq_none (by rw [List.length_map, sn_len]; omega)]
    · obtain ⟨j, hj, e⟩ := List.mem_iff_getElem.mp hu
      exact (bp j u (by rw [List.getElem?_eq_getElem hj, e])).2.2.1
    · obtain ⟨j, hj, e⟩ := List.mem_iff_getElem.mp hu
      exact (bp j u (by rw [List.getElem?_eq_getElem hj, e])).2.1
end
end RV
/-! least counts over flows; lists of integers and None as data -/
namespace RV
open PySem L2 PyProof.Rows TL
def cntG (M : Mod) (r : List Int) : Nat := (M.gs.filter fun g => decide (rwf r g.2.1 ≠ 0)).length
def shutG (M : Mod) (r : List Int) : Bool := M.gs.any fun g => g.2.2 && decide (rwf r g.2.1 ≠ 0)
def condG (M : Mod) (p : Nat) (r : List Int) : Bool := decide (rwf r p = 1) && !shutG M r
def IsMin (L : List Nat) : Option Nat → Prop
  | none => L = []
  | some m => m ∈ L ∧ ∀ y ∈ L, m ≤ y
def dO : Option Nat → PyData
  | none => .none
  | some k => .int (k : Nat)
theorem dp_N {K : PySem.W.Frag} {H : Hp} : ∀ o : Option Nat, Dp K H (vN o) (dO o)
  | none => .non
  | some k => .int _
theorem dps_N {K : PySem.W.Frag} {H : Hp} : ∀ xs : List (Option Nat), DpAll K H (xs.map vN) (xs.map dO)
  | [] => .nil
  | x :: xs => .cons (dp_N x) (dps_N xs)
theorem shaped_N (xs : List (Option Nat)) : SeqAt.shaped (.list (xs.map dO)) = true := by
  have h1 : ∀ xs : List (Option Nat), PyData.canLayAll0 (xs.map dO) = true := by
    intro xs
    induction xs with
    | nil => simp [PyData.canLayAll0]
    | cons x xs ih => cases x <;> simp [PyData.canLayAll0, PyData.canLay0, dO, ih]
  have h2 : ∀ xs : List (Option Nat), PyData.depthAll (xs.map dO) = 0 := by
    intro xs
    induction xs with
    | nil => simp [PyData.depthAll]
    | cons x xs ih => cases x <;> simp [PyData.depthAll, PyData.depth, dO, ih]
  simp [SeqAt.shaped, PyData.canLay0, PyData.depth, h1 xs, h2]
theorem eqv_nilN (xs : List (Option Nat)) : PyData.eqv (.list (xs.map dO)) (.list []) = decide (xs = []) := by
  cases xs <;> simp [PyData.eqv, PyData.eqvAll]
def sp_lstr : Sp := fun vs H Q _ => ∃ (l a : Addr) (M : Mod) (more p : Nat) (us : List FU), vs = [.ref l, .ref a, .int (p : Nat)] ∧ MdAt H l M ∧ MdOk M 5 more ∧ more ≤ 12 ∧ H a = some (.lst (rf us)) ∧ FAt H us ∧ us.length ≤ 243 ∧ p < M.qs.length ∧ (∀ r ∈ sn us, r.length = M.qs.length) ∧
  ∀ (o : Option Nat) H', Same H H' → IsMin (((sn us).filter (condG M p)).map (cntG M)) o → Q (vN o) H'
end RV
/-! the strength by shortest ways is the least count over flows -/
namespace RV
open PySem L2 PyProof.Rows TL
def pN (ps : List P3) (k : Nat) : Str := (ps.getD k ("", "", "")).1
def pS (ps : List P3) (k : Nat) : Str := (ps.getD k ("", "", "")).2.1
def pE (ps : List P3) (k : Nat) : Str := (ps.getD k ("", "", "")).2.2
def shutP (ps : List P3) (ms : List M3) (k : Nat) : Prop := seP ms (pN ps k) ≠ []
theorem mem_lkF {n : Nat} {ms : List M3} {y : Str} {l : L4} : ∀ {s : Nat} {ps : List P3}, l ∈ lkF n ms y s ps ↔ ∃ i p, ps[i]? = some p ∧ l ∈ lks n ms y (s + i) p
  | s, [] => by simp [lkF]
  | s, q :: ps => by
    rw [lkF, List.mem_append, mem_lkF]
    constructor
    · rintro (h | ⟨i, p, h1, h2⟩)
      · exact ⟨0, q, rfl, h⟩
      · exact ⟨i + 1, p, by rw [List.getElem?_cons_succ]; exact h1, by rw [show s + (i + 1) = s + 1 + i by omega]; exact h2⟩
    · rintro ⟨i, p, h1, h2⟩
      cases i with
      | zero =>
        obtain rfl : q = p := by simpa using h1
        exact .inl h2
      | succ i => exact .inr ⟨i, p, by rw [List.getElem?_cons_succ] at h1; exact h1, by rw [show s + 1 + i = s + (i + 1) by omega]; exact h2⟩
theorem pN_at {ps : List P3} {k : Nat} {q : P3} (h : ps[k]? = some q) : pN ps k = q.1 ∧ pS ps k = q.2.1 ∧ pE ps k = q.2.2 := by
  simp [pN, pS, pE, List.getD, h]
theorem pN_inj {ps : List P3} (nd : (ps.map (·.1)).Nodup) {i j : Nat} (hi : i < ps.length) (hj : j < ps.length) (e : pN ps i = pN ps j) : i = j := by
  have h1 := pN_at (List.getElem?_eq_getElem hi)
  have h2 := pN_at (List.getElem?_eq_getElem hj)
  have e3 : (ps.map (·.1))[i]'(by simpa using hi) = (ps.map (·.1))[j]'(by simpa using hj) := by
    rw [List.getElem_map, List.getElem_map, ← h1.1, ← h2.1, e]
  exact nodup_get nd e3
theorem links_of {ps : List P3} {ms : List M3} {p : Nat} (nd : (ps.map (·.1)).Nodup) (hp : p < ps.length) : Links ((lkA ps ms (pN ps p)).map lk3) (pS ps) (pE ps) (fun k => wtP ms (pN ps k)) (okp ps.length (shutP ps ms) p) := by
  have inl : ∀ {i : Nat}, okp ps.length (shutP ps ms) p i → ∀ l ∈ [(pS ps i, pE ps i, wtP ms (pN ps i), un ps.length (some i) 1), (pE ps i, pS ps i, wtP ms (pN ps i), un ps.length (some i) (-1))], l ∈ lkA ps ms (pN ps p) := by
    rintro i ⟨hi, hne, hs⟩ l hl
    have hg := List.getElem?_eq_getElem hi
    obtain ⟨a, b, c⟩ := pN_at hg
    refine mem_lkF.mpr ⟨i, _, hg, ?_⟩
    rw [Nat.zero_add, lks, if_pos ⟨fun e => hne (pN_inj nd hi hp (by rw [a, e])), Decidable.not_not.mp (by rw [← a]; exact hs)⟩, ← a, ← b, ← c]
    exact hl
  refine ⟨fun e he => ?_, fun i o => ?_, fun i o => ?_⟩
  · obtain ⟨l, hl, rfl⟩ := List.mem_map.mp he
    obtain ⟨i, q, hq, hl⟩ := mem_lkF.mp hl
    obtain ⟨a, b, c⟩ := pN_at hq
    rw [Nat.zero_add, lks] at hl
    split at hl
    · rename_i hc
      have hi := (List.getElem?_eq_some_iff.mp hq).1
      refine ⟨i, ⟨hi, fun z => hc.1 (by rw [← a, z]), fun z => z (by rw [a]; exact hc.2)⟩, ?_⟩
      rw [a, b, c]
      rcases List.mem_cons.mp hl with rfl | hl
      · exact ⟨rfl, .inl ⟨rfl, rfl⟩⟩
      · obtain rfl := List.mem_singleton.mp hl
        exact ⟨rfl, .inr ⟨rfl, rfl⟩⟩
    · exact nomatch hl
  · exact List.mem_map.mpr ⟨_, inl o _ List.mem_cons_self, rfl⟩
  · exact List.mem_map.mpr ⟨_, inl o _ (List.mem_cons_of_mem _ List.mem_cons_self), rfl⟩
/-! ### models -/
section
variable {M : Mod} {most more : Nat}
theorem ps_at {k : Nat} (hk : k < M.qs.length) : M.ps[k]? = some ((M.qs.getD k ("", 0, 0)).1, M.pl.getD (qst M k) "", M.pl.getD (qen M k) "") := by
  rw [Mod.ps, List.getElem?_map, List.getElem?_eq_getElem hk, qst, qen, getD_lt hk]
  rfl
theorem ps_len : M.ps.length = M.qs.length := by rw [Mod.ps, List.length_map]
theorem pN_q {k : Nat} (hk : k < M.qs.length) : pN M.ps k = (M.qs.getD k ("", 0, 0)).1 := (pN_at (ps_at hk)).1
theorem dl_pl (ok : MdOk M most more) {i j : Nat} (hi : i < M.pl.length) (hj : j < M.pl.length) : dl (M.pl.getD i "") (M.pl.getD j "") = dl i j := by
  rw [dl, dl, getD_lt hi, getD_lt hj]
  by_cases e : i = j
  · subst e
    simp
  · rw [if_neg (fun z => e (nodup_get ok.pd z)), if_neg e]
theorem dl_out {x : Str} (hx : x ∉ M.pl) {i : Nat} (hi : i < M.pl.length) : dl (M.pl.getD i "") x = 0 := by
  rw [dl, getD_lt hi, if_neg (fun z => hx (by rw [← z]; exact List.getElem_mem hi))]
theorem q_lt (ok : MdOk M most more) {k : Nat} (hk : k < M.qs.length) : qst M k < M.pl.length ∧ qen M k < M.pl.length := by
  obtain ⟨_, a, b, _⟩ := ok.qn _ (List.getElem_mem hk)
  rw [qst, qen, getD_lt hk]
  exact ⟨a, b⟩
theorem dv_pl (ok : MdOk M most more) (f : Nat → Int) {i : Nat} (hi : i < M.pl.length) : dv M.qs.length (pS M.ps) (pE M.ps) f (M.pl.getD i "") = dv M.qs.length (qst M) (qen M) f i := by
  refine sm_congr fun k hk => ?_
  obtain ⟨_, b, c⟩ := pN_at (ps_at hk)
  obtain ⟨a1, a2⟩ := q_lt ok hk
  dsimp only at b c ⊢
  rw [b, c, dl_pl ok a1 hi, dl_pl ok a2 hi]
theorem dv_out (ok : MdOk M most more) (f : Nat → Int) {x : Str} (hx : x ∉ M.pl) : dv M.qs.length (pS M.ps) (pE M.ps) f x = 0 := by
  rw [dv, sm_congr (g := fun _ => 0) (fun k hk => ?_), sm_zero]
  obtain ⟨_, b, c⟩ := pN_at (ps_at hk)
  obtain ⟨a1, a2⟩ := q_lt ok hk
  dsimp only at b c ⊢
  rw [b, c, dl_out hx a1, dl_out hx a2]
  simp
theorem keptB_iff (ok : MdOk M most more) (r : List Int) : keptB M r = true ↔ ∀ x, dv M.qs.length (pS M.ps) (pE M.ps) (rwf r) x = 0 := by
  rw [keptB, List.all_eq_true]
  constructor
  · intro h x
    by_cases hx : x ∈ M.pl
    · obtain ⟨i, hi, e⟩ := List.mem_iff_getElem.mp hx
      have := dv_pl ok (rwf r) hi
      rw [getD_lt hi, e] at this
      rw [this]
      exact of_decide_eq_true (h i (List.mem_range.mpr hi))
    · exact dv_out ok _ hx
  · intro h i hi
    have hi := List.mem_range.mp hi
    exact decide_eq_true (by rw [stay, ← dv_pl ok (rwf r) hi]; exact h _)
/-- gauges at a pipe -/
theorem onP_len (ok : MdOk M most more) {k : Nat} (hk : k < M.qs.length) : wtP M.ms (pN M.ps k) = (M.gs.filter fun g => decide (g.2.1 = k)).length := by
  rw [wtP, onP, Mod.ms, List.filter_map, List.length_map]
  congr 1
  refine List.filter_congr fun g hg => ?_
  have hl := (ok.gn g hg).2
  show decide ((M.qs.getD g.2.1 ("", 0, 0)).1 = pN M.ps k) = _
  rw [← pN_q hl]
  exact decide_eq_decide.mpr ⟨fun e => pN_inj (by rw [Mod.names]; exact ok.qd) (by rw [ps_len]; exact hl) (by rw [ps_len]; exact hk) e, fun e => by rw [e]⟩
theorem cnt_gs (n : Nat) (f : Nat → Int) : ∀ gs : List G3, (∀ g ∈ gs, g.2.1 < n) → ((gs.filter fun g => decide (f g.2.1 ≠ 0)).length : Int) = sm n fun k => if f k ≠ 0 then (((gs.filter fun g => decide (g.2.1 = k)).length : Nat) : Int) else 0
  | [], _ => by
    rw [sm_congr (g := fun _ => 0) (fun k _ => by simp), sm_zero]
    rfl
  | g :: gs, h => by
    have ih := cnt_gs n f gs fun g' hg' => h g' (List.mem_cons_of_mem _ hg')
    have hg := h g List.mem_cons_self
    rw [sm_congr (g := fun k => (if f k ≠ 0 then (((gs.filter fun g => decide (g.2.1 = k)).length : Nat) : Int) else 0) + if k = g.2.1 then (if f g.2.1 ≠ 0 then 1 else 0) else 0) (fun k _ => ?_), sm_add, ← ih, sm_one hg]
    · rw [List.filter_cons]
      by_cases e : f g.2.1 ≠ 0
      · simp [e]
      · simp [e]
    · rw [List.filter_cons]
      by_cases e : k = g.2.1
      · subst e
        by_cases z : f g.2.1 ≠ 0
        · simp [z]
        · simp [z]
      · rw [if_neg e, decide_eq_false (fun z => e z.symm)]
        simp
theorem cnt_eq (ok : MdOk M most more) (f : Nat → Int) : cnt M.qs.length (fun k => wtP M.ms (pN M.ps k)) f = ((M.gs.filter fun g => decide (f g.2.1 ≠ 0)).length : Int) := by
  rw [cnt_gs M.qs.length f M.gs fun g hg => (ok.gn g hg).2]
  refine sm_congr fun k hk => ?_
  dsimp only
  rw [onP_len ok hk]
theorem shut_iff (ok : MdOk M most more) {k : Nat} (hk : k < M.qs.length) : shutP M.ps M.ms k ↔ ∃ g ∈ M.gs, g.2.1 = k ∧ g.2.2 = true := by
  rw [shutP, seP, onP, List.filter_filter, ne_eq, List.filter_eq_nil_iff]
  constructor
  · intro h
    refine Decidable.byContradiction fun z => h fun m hm => ?_
    obtain ⟨g, hg, rfl⟩ := List.mem_map.mp hm
    have hl := (ok.gn g hg).2
    intro q
    rw [Bool.and_eq_true] at q
    have q2 : (M.qs.getD g.2.1 ("", 0, 0)).1 = pN M.ps k := of_decide_eq_true q.2
    rw [← pN_q hl] at q2
    exact z ⟨g, hg, pN_inj (by rw [Mod.names]; exact ok.qd) (by rw [ps_len]; exact hl) (by rw [ps_len]; exact hk) q2, q.1⟩
  · rintro ⟨g, hg, rfl, hz⟩ h
    refine h (g.1, (M.qs.getD g.2.1 ("", 0, 0)).1, g.2.2) (List.mem_map.mpr ⟨g, hg, rfl⟩) ?_
    rw [Bool.and_eq_true]
    exact ⟨hz, decide_eq_true (pN_q hk).symm⟩
abbrev RingM (M : Mod) (p : Nat) (f : Nat → Int) : Prop := Ring M.qs.length (pS M.ps) (pE M.ps) (shutP M.ps M.ms) p f
theorem ring_row (ok : MdOk M most more) {p : Nat} {r : List Int} (hl : r.length = M.qs.length) (ht : ∀ c ∈ r, trit c) (hk : keptB M r = true) (hc : condG M p r = true) : RingM M p (rwf r) := by
  rw [condG, Bool.and_eq_true] at hc
  obtain ⟨c1, c2⟩ := hc
  refine ⟨fun k hk => ?_, (keptB_iff ok r).mp hk, of_decide_eq_true c1, fun k hk hs => ?_⟩
  · rw [rwf, getD_lt (by omega)]
    exact ht _ (List.getElem_mem _)
  · obtain ⟨g, hg, rfl, hz⟩ := (shut_iff ok hk).mp hs
    refine Decidable.byContradiction fun z => ?_
    have : shutG M r = true := by
      rw [shutG, List.any_eq_true]
      exact ⟨g, hg, by rw [hz, Bool.true_and]; exact decide_eq_true z⟩
    rw [this] at c2
    exact nomatch c2
theorem rwf_range {n : Nat} (f : Nat → Int) {k : Nat} (hk : k < n) : rwf ((List.range n).map f) k = f k := by
  rw [rwf, List.getD, List.getElem?_map, List.getElem?_range hk]
  rfl
theorem row_ring (ok : MdOk M most more) {p : Nat} (hp : p < M.qs.length) {f : Nat → Int} (h : RingM M p f) : ∃ r : List Int, r.length = M.qs.length ∧ (∀ c ∈ r, trit c) ∧ keptB M r = true ∧ condG M p r = true ∧ (cntG M r : Int) = cnt M.qs.length (fun k => wtP M.ms (pN M.ps k)) f := by
  refine ⟨(List.range M.qs.length).map f, by rw [List.length_map, List.length_range], fun c hc => ?_, (keptB_iff ok _).mpr fun x => ?_, ?_, ?_⟩
  · obtain ⟨k, hk, rfl⟩ := List.mem_map.mp hc
    exact h.r k (List.mem_range.mp hk)
  · rw [← h.kept x]
    exact sm_congr fun k hk => by rw [rwf_range f hk]
  · rw [condG, rwf_range f hp, h.one, decide_eq_true rfl, Bool.true_and, Bool.not_eq_true', shutG, List.any_eq_false]
    intro g hg q
    rw [Bool.and_eq_true] at q
    have hl := (ok.gn g hg).2
    have q2 := of_decide_eq_true q.2
    rw [rwf_range f hl] at q2
    exact q2 (h.sl _ hl ((shut_iff ok hl).mpr ⟨g, hg, rfl, q.1⟩))
  · rw [cnt_eq ok, cntG]
    congr 2
    refine List.filter_congr fun g hg => ?_
    rw [rwf_range f (ok.gn g hg).2]
/-- the least count is the strength -/
theorem str_min (ok : MdOk M most more) {R : List (List Int)} (hR : ∀ r, r ∈ R ↔ r.length = M.qs.length ∧ (∀ c ∈ r, trit c) ∧ keptB M r = true) {p : Nat} (hp : p < M.qs.length) {o : Option Nat} (ho : IsMin ((R.filter (condG M p)).map (cntG M)) o) : strP M.ps M.ms (pN M.ps p) = o := by
  have nd : (M.ps.map (·.1)).Nodup := by rw [Mod.names]; exact ok.qd
  have hp' : p < M.ps.length := by rw [ps_len]; exact hp
  have hL := links_of (ms := M.ms) nd hp'
  have hg := List.getElem?_eq_getElem hp'
  obtain ⟨a, b, c⟩ := pN_at hg
  have hf : M.ps.find? (fun q => decide (q.1 = pN M.ps p)) = some M.ps[p] := by
    rw [a]
    have : ∀ {ps : List P3} {i : Nat} {q : P3}, (ps.map (·.1)).Nodup → ps[i]? = some q → ps.find? (fun p => decide (p.1 = q.1)) = some q := by
      intro ps
      induction ps with
      | nil => intro i q _ h; simp at h
      | cons p ps ih =>
        intro i q nd h
        rw [List.map_cons, List.nodup_cons] at nd
        rw [List.find?_cons]
        cases i with
        | zero =>
          obtain rfl : p = q := by simpa using h
          rw [decide_eq_true rfl]
        | succ i =>
          rw [List.getElem?_cons_succ] at h
          rw [decide_eq_false (fun e => nd.1 (by rw [e]; exact List.mem_map.mpr ⟨q, List.mem_of_getElem? h, rfl⟩))]
          exact ih nd.2 h
    exact this nd hg
  have es : strP M.ps M.ms (pN M.ps p) = if seP M.ms (pN M.ps p) = [] then (turns ((lkA M.ps M.ms (pN M.ps p)).map lk3) M.ps.length (g0 (pE M.ps p)) (pS M.ps p)).map (· + wtP M.ms (pN M.ps p)) else none := by
    rw [strP, hf, b, c]
  rw [es]
  have mem : ∀ {f : Nat → Int}, RingM M p f → ∃ m, m ∈ (R.filter (condG M p)).map (cntG M) ∧ (m : Int) = cnt M.qs.length (fun k => wtP M.ms (pN M.ps k)) f := fun h => by
    obtain ⟨r, h1, h2, h3, h4, h5⟩ := row_ring ok hp h
    exact ⟨cntG M r, List.mem_map.mpr ⟨r, List.mem_filter.mpr ⟨(hR r).mpr ⟨h1, h2, h3⟩, h4⟩, rfl⟩, h5⟩
  have sm1 : ∀ {d : Nat}, seP M.ms (pN M.ps p) = [] → turns ((lkA M.ps M.ms (pN M.ps p)).map lk3) M.ps.length (g0 (pE M.ps p)) (pS M.ps p) = some d → ∃ f, RingM M p f ∧ cnt M.qs.length (fun k => wtP M.ms (pN M.ps k)) f ≤ ((d + wtP M.ms (pN M.ps p) : Nat) : Int) := fun {d} hs ht => by
    obtain ⟨f, h1, h2⟩ := str_some hL hp' (fun z => z hs) ht
    rw [ps_len] at h1 h2
    exact ⟨f, h1, by rw [Int.natCast_add]; exact h2⟩
  cases o with
  | none =>
    by_cases hs : seP M.ms (pN M.ps p) = []
    · rw [if_pos hs]
      cases ht : turns ((lkA M.ps M.ms (pN M.ps p)).map lk3) M.ps.length (g0 (pE M.ps p)) (pS M.ps p) with
      | none => rfl
      | some d =>
        obtain ⟨f, h1, _⟩ := sm1 hs ht
        obtain ⟨m, h2, _⟩ := mem h1
        rw [show (R.filter (condG M p)).map (cntG M) = [] from ho] at h2
        exact nomatch h2
    · rw [if_neg hs]
  | some m =>
    obtain ⟨hm, hle⟩ := ho
    obtain ⟨r, hr, em⟩ := List.mem_map.mp hm
    obtain ⟨hr1, hr2⟩ := List.mem_filter.mp hr
    obtain ⟨q1, q2, q3⟩ := (hR r).mp hr1
    have ring := ring_row ok q1 q2 q3 hr2
    have hs : seP M.ms (pN M.ps p) = [] := Decidable.byContradiction fun z => by
      have := ring.sl p hp z
      rw [ring.one] at this
      exact absurd this (by decide)
    have ring2 : Ring M.ps.length (pS M.ps) (pE M.ps) (shutP M.ps M.ms) p (rwf r) := by rw [ps_len]; exact ring
    obtain ⟨d, ht, hd⟩ := str_least hL hp' ring2
    rw [ps_len, cnt_eq ok] at hd
    obtain ⟨f, h1, h2⟩ := sm1 hs ht
    obtain ⟨m', h3, h4⟩ := mem h1
    have h5 := hle m' h3
    have h6 : ((M.gs.filter fun g => decide (rwf r g.2.1 ≠ 0)).length : Int) = m := by rw [← em]; rfl
    rw [if_pos hs, ht]
    show some (d + wtP M.ms (pN M.ps p)) = some m
    congr 1
    omega
end
end RV
/-! a def called by keywords alone; lists of counts that are shown -/
namespace RV
open PySem L2 PyProof.Rows TL
def FnKd (P : Program) (w : World) (K : PySem.W.Frag) (mg : Str → Option Value) (base : Heap) (x : Str) (k : Nat) (ks : List Str) (sp : Sp) (gV : List V → List V → List V) : Prop :=
  ∃ f fd ps g, mg x = some (.ref f) ∧ PySem.W.keepIn K (.ref f) = true ∧ KBn K fd ps 0 ks g gV ∧ FnOk P w K mg base CX0 k f fd ps sp
def tCallK0 (n : Nat) (sp : Sp) (gV : List V → List V → List V) (tk : TA) : TE := fun σ H Q => tk σ H fun zs H2 => zs.length = n ∧ sp (gV [] zs) H2 Q E0
section
variable {X : Cx} {k : Nat} {x : Str} {ks : List Str} {sp : Sp} {gV : List V → List V → List V} {kws : List Keyword} {tk : TA} {p pos : Pos}
theorem pe_fnK0 (h : FnKd X.prog X.w X.K X.mg X.base x k ks sp gV) (hr : Room k X.A) (hkw : PK X kws tk) (hg : Gl X x := by rfl)
    (hall : (backToKw pos (keywordEach kws X.env)).all (·.1.isSome) = true := by rfl) (hks : (backToKw pos (keywordEach kws X.env)).filterMap (·.1) = ks := by rfl) (hdb : (x == ("__debug__" : Str)) = false := by decide)
    (hpl : ((backTo pos (starEach [] X.env)).any (·.1) || (backToKw pos (keywordEach kws X.env)).any (·.1.isNone)) = false := by rfl) :
    PE X (.Call (.Name x p) [] kws pos) (tCallK0 ks.length sp gV tk) := by
  obtain ⟨f, fd, ps, g, hm, hk, hb, F⟩ := h
  refine ⟨fun pins s σ H Q I h => ?_⟩
  refine wpAny_Call_Name_kw (ld_glob I hg hm ?_ hdb)
  refine PySem.W.callWith_KW0 (h₀ := X.base) I.ok.mod.kin hk hall ?_ hpl
  refine thn (hkw.run pos pins s σ H _ I h) fun ws s2 ⟨zs, H2, I2, rz, l2, q2⟩ => ⟨I2.kIn, ?_⟩
  rw [hks]
  exact run_fnN (us := []) (vs := []) F hr hb pass0 I2 .nil rz rfl l2 q2
end
theorem FnKd.irr {P : Program} {w : World} {K : PySem.W.Frag} {mg : Str → Option Value} {base : Heap} {x : Str} {k : Nat} {ks : List Str} {sp : Sp} {gV : List V → List V → List V} (h : FnKd P w K mg base x k ks sp gV) : FnKd P w K mg base x k ks (Irr sp) gV := by
  obtain ⟨f, fd, ps, g, a, b, c, F⟩ := h
  exact ⟨f, fd, ps, g, a, b, c, F.imp fun _ _ _ _ z => irr_of z⟩
/-- f(pipe=y, net=x) -/
def gPN (vs zs : List V) : List V := match vs, zs with
  | [], [y, x] => [x, y]
  | _, _ => []
theorem short_int {k : Nat} (h : k ≤ 50) : Short (.int (k : Nat)) := by
  refine ⟨by simp [PyData.showable]; exact Nat.lt_of_le_of_lt (Nat.log2_le_self k) (by omega), by simp [PyData.depth], ?_⟩
  have : ∀ k, k < 51 → (PyData.int ((k : Nat) : Int)).shown.length ≤ 100 := by decide +kernel
  exact this k (by omega)
theorem short_none : Short .none := ⟨by simp [PyData.showable], by simp [PyData.depth], by simp only [PyData.shown]; decide +kernel⟩
theorem shw_N {xs : List (Option Nat)} (h : ∀ o ∈ xs, ∀ m, o = some m → m ≤ 50) (hl : xs.length ≤ 100) : Shw (.list (xs.map dO)) 60 20000 := by
  refine (shw_list (n := 0) (k := 100) fun d hd => ?_).mono (by decide) ?_
  · obtain ⟨o, ho, rfl⟩ := List.mem_map.mp hd
    cases o with
    | none => exact short_none.shw
    | some m => exact (short_int (h _ ho m rfl)).shw
  · rw [List.length_map]
    omega
def sp_right23 : Sp := fun vs H Q _ => ∃ (a : Addr) (n : Nat), vs = [.ref a] ∧ WellAt H a n ∧ n < 500000 ∧ ∀ H', Grow a H H' → Q (.bl true) H'
/-- what is due for each pipe -/
def dueL (M : Mod) : List (Option Nat) := (List.range M.qs.length).map fun k => strP M.ps M.ms (pN M.ps k)
theorem isMin_ex : ∀ L : List Nat, ∃ o, IsMin L o
  | [] => ⟨none, rfl⟩
  | x :: L => by
    obtain ⟨o, h⟩ := isMin_ex L
    cases o with
    | none =>
      rw [show L = [] from h]
      exact ⟨some x, List.mem_singleton.mpr rfl, fun y hy => by rw [List.mem_singleton.mp hy]; exact Nat.le_refl _⟩
    | some m =>
      obtain ⟨h1, h2⟩ := h
      by_cases c : x ≤ m
      · refine ⟨some x, List.mem_cons_self, fun y hy => ?_⟩
        rcases List.mem_cons.mp hy with rfl | hy
        · exact Nat.le_refl _
        · exact Nat.le_trans c (h2 y hy)
      · refine ⟨some m, List.mem_cons_of_mem _ h1, fun y hy => ?_⟩
        rcases List.mem_cons.mp hy with rfl | hy
        · omega
        · exact h2 y hy
theorem dueL_small {M : Mod} {most more : Nat} (ok : MdOk M most more) {R : List (List Int)} (hR : ∀ r, r ∈ R ↔ r.length = M.qs.length ∧ (∀ c ∈ r, trit c) ∧ keptB M r = true) (hm : more ≤ 12) : ∀ o ∈ dueL M, ∀ m, o = some m → m ≤ 50 := by
  intro o ho m e
  obtain ⟨j, hj, rfl⟩ := List.mem_map.mp ho
  obtain ⟨o, h⟩ := isMin_ex ((R.filter (condG M j)).map (cntG M))
  rw [str_min ok hR (List.mem_range.mp hj) h] at e
  subst e
  obtain ⟨r, _, er⟩ := List.mem_map.mp h.1
  rw [← er, cntG]
  have h1 := List.length_filter_le (fun g : G3 => decide (rwf r g.2.1 ≠ 0)) M.gs
  have h2 := ok.gm
  omega
theorem dueL_len (M : Mod) : (dueL M).length = M.qs.length := by rw [dueL, List.length_map, List.length_range]
theorem dueL_get {M : Mod} {k : Nat} {y : V} (h : ((dueL M).map vN)[k]? = some y) : y = vN (strP M.ps M.ms (pN M.ps k)) ∧ k < M.qs.length := by
  have hk := (List.getElem?_eq_some_iff.mp h).1
  rw [List.length_map, dueL_len] at hk
  rw [List.getElem?_map, dueL, List.getElem?_map, List.getElem?_range hk] at h
  exact ⟨(Option.some.inj h).symm, hk⟩
end RV
/-! the law's own call, whatever its parameter is called -/
namespace RV
open PySem L2 PyProof.Rows
theorem walkGx (x : Str) (k : Nat) {l : PySem.W.OpenLaw} {q : Program} {loose : List Str} {XP : (Str → Option Value) → Heap → Prop} {YP : World → Heap → Prop} {d : DefRec} {K : Params → PySem.W.Frag} (hr : Room k callerA) (hn : l.most = some 63) (hdf : d.params.defaults = [])
    (hY : ∀ (w : World) (h : Heap), YP w h → (K w.params).In h)
    (F : ∀ (w : World) (mg : Str → Option Value) (fa : Addr) (h : Heap), (K w.params).In h → h.Ns mainGlobals mg → mg d.name = some (.ref fa) →
      ∃ fd : FuncData, (∀ (s : Shared) (u : Value), BindsTo s fd ⟨[u], []⟩ [(x, u)]) ∧ ∀ base : Heap, (K w.params).In base → base.Ns mainGlobals mg → FnG l.prog w (K w.params) mg base k fa fd [x] (spLaw (K w.params))) :
    PySem.W.WalkO q loose XP YP l.row.toRowW d [] (fun f vs => PySem.call f vs) := by
  refine Att.attach_call hn hdf fun w s₀ s₁ mg mb fa o pm cd doc a vs ns G Y ho hd hcd hmg hobj hints hlen hg => ?_
  obtain ⟨fd, hb, hF⟩ := F w mg fa _ (hY w _ Y) G.T.g hmg
  exact callG (hY w _ Y) G.T.g G.T.b G.T.builtins G.T.nolimit hg hobj hints (Nat.le_trans hlen (by decide)) hr hF hb fun H hS => ⟨a, ns, rfl, hS, hlen, fun _ => rfl⟩
end RV
/-! sum of a tuple, repr of a truth value; faults, can_tell -/
namespace RV
open PySem L2 PyProof.Rows TL
section
variable {X : Cx}
def rSumT (K : PySem.W.Frag) : List V → Hp → VK → Prop := fun vs H Q => ∃ (a : Addr) (ns : List Int), vs = [V.ref a] ∧ SqT K H a (ns.map V.int) ∧ Q (.int ns.sum) H
theorem cr_sumT (hc : X.calm = true) : CallR X (.builtin "sum") (rSumT X.K) := by
  intro pins s σ H vs us Q I r h
  obtain ⟨a, ns, rfl, hs, q⟩ := h
  obtain ⟨its, rv, hl, _⟩ := I.tuple hs
  rw [Vals.ref1 r]
  obtain ⟨xs, e⟩ := rv.ints.allInts.items
  have hn : numsOf (intItems xs).toList = ns := by rw [← e]; exact rv.ints.numsOf
  rw [nums_intItems] at hn
  have ht : s.heap.IsTuple a its.toArray := hl
  rw [e] at ht
  refine PySem.W.ktm_sumG (I.ok.hd hc) ht fun h' tk t' hk => ?_
  rw [preSum_eq, List.take_of_length_le (by simp), hn]
  exact ⟨.int _, H, I.kept hk, ⟨_, rfl⟩, q⟩
def rReprB : List V → Hp → VK → Prop := fun xs H Q => ∃ b, xs = [.bl b] ∧ Q (.str (if b then "True" else "False")) H
theorem call_repr_bl : CallR X (.builtin "repr") rReprB := by
  intro pins s σ H xs us Q I rx h
  obtain ⟨b, rfl, q⟩ := h
  cases rx with
  | cons r1 r2 =>
    cases r2
    cases r1
    exact PySem.P.repr_of_bool ⟨.str _, H, I.tok _, ⟨_, rfl⟩, q⟩
end
/-- faults -/
structure Flt (a b c : Int) : Prop where
  h0 : 0 ≤ a
  h1 : a ≤ b
  h2 : b ≤ 3
  h3 : 0 ≤ c
  h4 : c ≤ 3
def sp_isb : Sp := fun vs H Q _ => ∃ c : Int, vs = [.int c] ∧ 0 ≤ c ∧ c ≤ 3 ∧ Q (.bl true) H
def sp_arf (K : PySem.W.Frag) : Sp := fun vs H Q _ => ∃ (t : Addr) (a b c : Int), vs = [.ref t] ∧ SqT K H t [.int a, .int b, .int c] ∧ Flt a b c ∧ ∀ H', Same H H' → Q (.bl true) H'
def sp_chf (K : PySem.W.Frag) : Sp := fun vs H Q _ => ∃ (t : Addr) (a b c : Int), vs = [.ref t] ∧ SqT K H t [.int a, .int b, .int c] ∧ Flt a b c ∧ ∀ H', Same H H' → Q .non H'
def tellB : Option Nat → Int → Bool
  | none, _ => true
  | some m, s => decide (s < (m : Int))
def sp_tell (K : PySem.W.Frag) (CN CP CM : Addr) : Sp := fun vs H Q _ => ∃ (x t : Addr) (ps : List P3) (ms : List M3) (y : Str) (a b c : Int), vs = [.ref x, .str y, .ref t] ∧ NetR K CN CP CM H x ps ms ∧ POk ps ∧ ms.length ≤ 12 ∧ y ∈ ps.map (·.1) ∧ SqT K H t [.int a, .int b, .int c] ∧ Flt a b c ∧
  ∀ H', Same H H' → Q (.bl (tellB (strP ps ms y) (a + b + c))) H'
/-- drawn faults -/
def sp_faults : Sp := fun vs H Q _ => ∃ (w : Addr) (n : Nat), vs = [.ref w, .int 3] ∧ WellAt H w n ∧ n < 900000 ∧
  ∀ (t : Addr) (a b c : Int) H', Grow w H H' → WellAt H' w (n + 5) → H' t = some (.tup [.int a, .int b, .int c]) → t ≠ w → Flt a b c → Q (.ref t) H'
end RV
/-! the flow of a shortest way is one of -1, 0 and 1: a way that is no shorter is not taken, so no way comes to a place twice -/
namespace RV
section
set_option linter.unusedSectionVars false
variable {α : Type} [DecidableEq α] {n : Nat} {st en : Nat → α} {w : Nat → Nat} {ok : Nat → Prop} {u x : α} {g g' : Dist α} {d : Nat} {f : Nat → Int}
/-- a way without loops of this length and flow; each place on it is known by a way that is no longer -/
def GW (st en : Nat → α) (w : Nat → Nat) (ok : Nat → Prop) (u : α) (g : Dist α) (x : α) (d : Nat) (f : Nat → Int) : Prop :=
  ∃ l vs, Sw st en ok u x l vs ∧ wl w l = d ∧ (∀ k, f k = fl l k) ∧ ∀ y ∈ vs, ∃ d', g y = some d' ∧ d' ≤ d
theorem GW.le (h : GW st en w ok u g x d f) (s : Le g g') : GW st en w ok u g' x d f := by
  obtain ⟨l, vs, h1, h2, h3, h4⟩ := h
  refine ⟨l, vs, h1, h2, h3, fun y hy => ?_⟩
  obtain ⟨d1, e1, l1⟩ := h4 y hy
  obtain ⟨d2, e2, l2⟩ := s y d1 e1
  exact ⟨d2, e2, Nat.le_trans l2 l1⟩
theorem GW.start : GW st en w ok u (g0 u) u 0 fun _ => 0 :=
  ⟨[], [u], .nil, rfl, fun _ => rfl, fun y hy => ⟨0, by rw [List.mem_singleton.mp hy]; exact if_pos rfl, Nat.le_refl _⟩⟩
theorem GW.step {a b : α} {i : Nat} {s : Bool} (h : GW st en w ok u g a d f) (hi : ok i) (e : s = true ∧ a = st i ∧ b = en i ∨ s = false ∧ a = en i ∧ b = st i) (hb : g b = none ∨ ∃ d', g b = some d' ∧ d + w i < d')
    (s1 : Le g g') (s2 : g' b = some (d + w i)) : GW st en w ok u g' b (d + w i) fun k => f k + if k = i then sg s else 0 := by
  obtain ⟨l, vs, h1, h2, h3, h4⟩ := h
  have nb : b ∉ vs := fun z => by
    obtain ⟨d1, q1, q2⟩ := h4 b z
    rcases hb with hb | ⟨d2, hb, c⟩
    · rw [hb] at q1; cases q1
    · rw [hb] at q1
      obtain rfl := Option.some.inj q1
      omega
  refine ⟨(i, s) :: l, b :: vs, ?_, by rw [wl_cons, h2]; exact Nat.add_comm _ _, fun k => ?_, fun y hy => ?_⟩
  · rcases e with ⟨rfl, rfl, rfl⟩ | ⟨rfl, rfl, rfl⟩
    · exact .fwd h1 hi nb
    · exact .bwd h1 hi nb
  · rw [fl_cons]
    show f k + (if k = i then sg s else 0) = (if i = k then sg s else 0) + fl l k
    rw [h3 k]
    by_cases z : k = i
    · subst z
      rw [if_pos rfl]
      exact Int.add_comm _ _
    · rw [if_neg z, if_neg fun q => z q.symm, Int.add_zero, Int.zero_add]
  · rcases List.mem_cons.mp hy with rfl | hy
    · exact ⟨_, s2, Nat.le_refl _⟩
    · obtain ⟨d1, q1, q2⟩ := h4 y hy
      obtain ⟨d2, r1, r2⟩ := s1 y d1 q1
      exact ⟨d2, r1, by omega⟩
/-- a way back and its pipe are a ring with just so many meters -/
theorem GW.ring {shut : Nat → Prop} {p : Nat} (hp : p < n) (hs : ¬ shut p) (h : GW st en w (okp n shut p) (en p) g (st p) d f) : Ring n st en shut p (fun k => f k + if p = k then 1 else 0) ∧ f p = 0 ∧ cnt n w (fun k => f k + if p = k then 1 else 0) = d + w p := by
  obtain ⟨l', vs, h1, h2, h3, h4⟩ := h
  have hn : ∀ i, okp n shut p i → i < n := fun i o => o.1
  obtain ⟨f1, f2⟩ := h1.fl1 (w := w) hn
  have fz : ∀ k, ¬ okp n shut p k → fl l' k = 0 := fun k hk => fl_out fun q hq e => hk (e ▸ (h1.ends q hq).1)
  have fp : fl l' p = 0 := fz p fun o => o.2.1 rfl
  have ef : f = fl l' := funext h3
  subst ef
  refine ⟨⟨fun k hk => ?_, fun x => ?_, ?_, fun k hk sk => ?_⟩, fp, ?_⟩
  · by_cases e : p = k
    · subst e
      rw [if_pos rfl, fp]
      exact Or.inr (Or.inl rfl)
    · rw [if_neg e, Int.add_zero]
      exact f1 k
  · rw [dv_add, h1.wk.dv hn, dv_one hp]
    omega
  · rw [fp, if_pos rfl]
    rfl
  · rw [if_neg (fun e : p = k => hs (by rw [e]; exact sk)), fz k fun o => o.2.2 sk]
    rfl
  · rw [cnt, sm_congr (g := fun k => (if fl l' k ≠ 0 then (w k : Int) else 0) + if k = p then (w p : Int) else 0) (fun k hk => ?_), sm_add, f2, sm_one hp, h2]
    by_cases e : p = k
    · subst e
      simp [fp]
    · simp only [if_neg e, Int.add_zero, if_neg (fun z : k = p => e z.symm)]
end
end RV
set_option linter.all false
/-! sets of texts written as comprehensions, with any number of clauses: {x for a in .. for b in ..} -/
namespace RV
open PySem L2 PySem.Spec PyProof.Rows
/-- what is run in a turn behind a clause's tests: the next clause, or the member's being put -/
abbrev TB := L2.St → Hp → (Hp → Prop) → Prop
def HasB (X : Cx) (vs : List Nat) (m : Sem PySem.Fin → Sem PySem.Fin) (tb : TB) : Prop := ∀ (pins : List (Addr × Obj)) (s : Shared) (σ : L2.St) (H : Hp) (Q : Hp → Prop) (z : Sem PySem.Fin) (R : PySem.Fin → Shared → Prop), Inv X pins σ H s → tb σ H Q →
  (∀ σ' H' s', Inv X pins σ' H' s' → wipe σ' vs = wipe σ vs → Q H' → wpAny (model X.prog X.w) X.A z R (fun _ _ => False) s') → wpAny (model X.prog X.w) X.A (m z) R (fun _ _ => False) s
/-- how a clause's turn reads -/
def TurnIs (e tg : Expr) (k : Nat) (at0 : Pos) (ifs : List Expr) (acc : Value) (env : Env) (body : Sem PySem.Fin → Sem PySem.Fin) : Prop := ∀ it, compTurn e k it acc env = (do
  standAt at0
  match ← pyNext it with
  | none => pure (.done .next)
  | some v => do
    letOwnedTupleGo tg it v
    assign tg env v
    let ok ← forIn ifs true fun c ok => if ok = true then do let ok ← isTrue c env (eval c env); pure (ForInStep.yield ok) else pure (ForInStep.yield ok)
    if ok = true then body (again (.compLoop e k it acc env)) else again (.compLoop e k it acc env))
/-- all turns of a clause whose iterator J has come -/
def tCl (J : It) (g : TG) (tt : TT) (tb : TB) (vs : List Nat) : TB := fun σ H Q => ∃ W : Nat → Nat → Hp → Prop, (∃ m, W 0 m H) ∧ ∀ i m H, W i m H →
  (J.stop i H ∧ Q H) ∨ (J.go i H ∧ ∃ Nx : Hp → Prop, (∀ H', Nx H' → ∃ m', m' < m ∧ W (i + 1) m' H') ∧ ∀ x H', J.yld i H x H' → g x (wipe σ vs) H' fun σ2 H2 => wipe σ2 vs = wipe σ vs ∧ tt σ2 H2 fun b H3 => if b = true then tb σ2 H3 Nx else Nx H3)
theorem wipe_in {σ : L2.St} {i : Nat} : ∀ {vs : List Nat}, i ∈ vs → i < σ.length → (wipe σ vs)[i]? = some none
  | v :: vs, h, hl => by
    unfold wipe
    by_cases e : v = i
    · subst e
      rw [List.getElem?_set_self (by rw [wipe_length]; exact hl)]
    · rw [List.getElem?_set_ne e]
      exact wipe_in ((List.mem_cons.mp h).resolve_left fun z => e z.symm) hl
theorem wipe_wipe {σ : L2.St} {vs ws : List Nat} (h : ∀ i ∈ ws, i ∈ vs) : wipe (wipe σ ws) vs = wipe σ vs := by
  refine List.ext_getElem? fun i => ?_
  by_cases hl : i < σ.length
  · by_cases hi : i ∈ vs
    · rw [wipe_in hi hl, wipe_in hi (by rw [wipe_length]; exact hl)]
    · rw [wipe_out hi, wipe_out hi, wipe_out fun z => hi (h i z)]
  · rw [List.getElem?_eq_none (by rw [wipe_length, wipe_length]; omega), List.getElem?_eq_none (by rw [wipe_length]; omega)]
section
variable {X : Cx}
/-- a clause's loop in its block -/
theorem cl_loop {e tg : Expr} {k : Nat} {acc : Value} {ifs : List Expr} {body : Sem PySem.Fin → Sem PySem.Fin} {at0 : Pos} {J : It} {g : TG} {tt : TT} {tb : TB} {vs : List Nat} (hc : X.calm = true) (hx : X.xe = fun _ _ => False)
    (hq : ∀ it, (Code.compLoop e k it acc X.env).quiet = true) (hden : ∀ it, (model X.prog X.w).den (.compLoop e k it acc X.env) = (compTurn e k it acc X.env).onRaise (fun x => do noteFrame x X.env; theTreesLotGoes x)) (hun : ∀ it, X.A.under (.compLoop e k it acc X.env) = X.A)
    (hT : TurnIs e tg k at0 ifs acc X.env body)
    (pg : PG X tg g) (pt : PTs X ifs tt) (pb : HasB X vs body tb)
    {pins : List (Addr × Obj)} {s : Shared} {σ : L2.St} {H : Hp} {it : Addr} {fp : List Addr} {tn : Nat → Heap → Prop} {Q : Hp → Prop} (I : Inv X pins σ H s) (T : Turn X.prog X.w X.K tg J fp it tn) (st : tn 0 s.heap) (hf : ∀ b ∈ fp, FpOk X pins H b) (h : tCl J g tt tb vs σ H Q) :
    codeAny (model X.prog X.w) X.A (.compLoop e k (.ref it) acc X.env) (fun r s' => match r with
      | .ok _ => ∃ H', Inv X pins (wipe σ vs) H' s' ∧ Q H'
      | .error _ => False) s := by
  obtain ⟨W, ⟨m0, w0⟩, go⟩ := h
  have fok : ∀ {H' : Hp}, (∀ b ∈ fp, H' b = none) → ∀ b ∈ fp, FpOk X pins H' b := fun hn b hb => ⟨hn b hb, (hf b hb).2⟩
  have weak0 : ∀ {σ1 : L2.St} {p : List (Addr × Obj)} {H' : Hp} {s' : Shared}, wipe σ1 vs = wipe σ vs → Inv X p σ1 H' s' → Inv X p (wipe σ vs) H' s' := fun z I1 => I1.weak (by rw [← z, wipe_length]) fun j v q => by rw [← z] at q; exact (wipe_some q).1
  refine codeAny_loop (hq _) (fun m s1 => ∃ i H1, Inv X pins (wipe σ vs) H1 s1 ∧ tn i s1.heap ∧ (∀ b ∈ fp, H1 b = none) ∧ W i m H1) (fun m s1 hI => ?_) m0 ⟨0, H, weak0 rfl I, st, fun b hb => (hf b hb).1, w0⟩
  obtain ⟨i, H1, I1, st1, n1, w1⟩ := hI
  rw [hun, hden]
  refine wpAny_noted ?_
  rw [hT]
  refine wpAny_bind (wpAny_standAt (wpAny_bind ?_))
  rcases go i m H1 w1 with ⟨stop, q⟩ | ⟨gg, Nx, hNx, step⟩
  · refine thnF (T.done X rfl rfl rfl hc i pins s1 _ H1 (fun _ _ => False) I1 (fok n1) st1 stop) fun r s2 ⟨hr, I2⟩ => ?_
    subst hr
    exact wpAny_pure ⟨H1, I2, q⟩
  · refine thnF (T.item X rfl rfl rfl hc i pins s1 _ H1 (fun _ _ => False) I1 (fok n1) st1 gg) fun r s2 ⟨u, hr, h2⟩ => ?_
    subst hr
    refine wpAny_bind (thnF h2 fun _ s3 ⟨x, H3, I3, r3, y3, st3, n3⟩ => ?_)
    have I3p := I3.pinned (fok n3) (T.obj _ _ st3)
    have z4 := pg.run _ s3 _ H3 x u _ I3p r3 (step x H3 y3)
    rw [hx] at z4
    refine wpAny_bind (thnF z4 fun _ s4 ⟨σ4, H4, I4, e4, q4⟩ => ?_)
    have z5 := pt.run _ s4 σ4 H4 _ I4 q4
    rw [hx] at z5
    refine wpAny_bind (thnF z5 fun b s5 ⟨H5, I5, q5⟩ => ?_)
    have fin : ∀ {σ6 : L2.St} {s6 : Shared} {H6 : Hp}, Inv X (pins ++ pinsAt fp s3.heap) σ6 H6 s6 → wipe σ6 vs = wipe σ vs → Nx H6 → ∃ m', m' < m ∧ ∃ i H', Inv X pins (wipe σ vs) H' s6 ∧ tn i s6.heap ∧ (∀ b ∈ fp, H' b = none) ∧ W i m' H' := fun {σ6 s6 H6} I6 e6 nx => by
      obtain ⟨m', hm, w'⟩ := hNx H6 nx
      have pin : ∀ b ∈ fp, ∀ o, s3.heap.get? b = some o → s6.heap.get? b = some o ∧ H6 b = none := fun b hb o z =>
        let p := I6.pin (b, o) (List.mem_append_right _ (List.mem_append_right _ (mem_pinsAt hb z)))
        ⟨p.1, p.2.1⟩
      refine ⟨m', hm, i + 1, H6, weak0 e6 I6.unpinned, T.keep _ _ _ st3 fun b hb o z => (pin b hb o z).1, fun b hb => ?_, w'⟩
      obtain ⟨o, z, _⟩ := T.obj _ _ st3 b hb
      exact (pin b hb o z).2
    cases b with
    | false =>
      simp only [Bool.false_eq_true, if_false] at q5 ⊢
      exact wpAny_pure ⟨rfl, fin I5 e4 q5⟩
    | true =>
      simp only [if_true] at q5 ⊢
      exact thnF (pb _ s5 σ4 H5 _ _ _ I5 q5 fun σ6 H6 s6 I6 e6 q6 => wpAny_pure ⟨rfl, fin I6 (e6.trans e4) q6⟩) fun _ _ z => z
/-- the next clause -/
def tNx (wi : TI) (g : TG) (tt : TT) (tb : TB) (ws : List Nat) : TB := fun σ H Q => wi σ H fun J H1 => tCl J g tt tb ws σ H1 Q
/-- a member is put -/
def tPutS (P : Program) (w : World) (D : Addr) (te : TE) : TB := fun σ H Q => te σ H fun y H1 => ∃ (z : Str) (S : Str → Bool) (n : Nat), y = .str z ∧ H1 D = some (SetT P w D S n) ∧ n + 1 < 4000 ∧ ∀ n', n' ≤ n + 1 → Q (upd H1 D (SetT P w D (fun j => S j || decide (j = z)) n'))
theorem setT_add {pins : List (Addr × Obj)} {σ : L2.St} {H : Hp} {s : Shared} {E : Value → Shared → Prop} {D : Addr} {S : Str → Bool} {n : Nat} {y : Str} {v : Value} {Q : Value → Shared → Prop} (I : Inv X pins σ H s) (hD : H D = some (SetT X.prog X.w D S n)) (room : n + 1 < 4000) (rv : RelV (.str y) v)
    (h : ∀ n' s', n' ≤ n + 1 → Inv X pins σ (upd H D (SetT X.prog X.w D (fun j => S j || decide (j = y)) n')) s' → Q .none s') : wpAny (model X.prog X.w) X.A (call (.builtin "set.add") [.ref D, v]) Q E s := by
  have R : SetS X.prog X.w s.heap D S n := (I.hok D _ hD).1
  obtain ⟨t, rfl⟩ : ∃ t, v = .str y t := rv
  obtain ⟨o, es, ep, tb, ⟨ho, hex, hd⟩, hr⟩ := id R
  have hT : s.TypeIs (.ref D) "set" := ⟨o, ho, hex.1⟩
  refine wpAny_call_entry F.slot_set_add hT F.entry_set_add ?_ (F.args_set_add_2 _ _)
  unfold Builtin.«set.add» Builtin.Frozenset.oneOther
  simp only [List.isEmpty_nil, bind_assoc]
  unfold Builtin.Frozenset.addrOf setAdd
  refine wpAny_bind (wpAny_pure (wpAny_bind (wpAny_pure (wpAny_bind (wpAny_holding (wpAny_bind ((PySem.strKind X.prog X.w).pyHash (k := y) (strKind_is _ _ _ _) ?_)))))))
  refine setX_add (knd := PySem.strKind X.prog X.w) (s := { s with toks := s.toks + 1 }) (strKind_is _ _ _ _) rfl R (by unfold scanBound; omega) fun h' sb new => ?_
  show wpAny _ _ (ret Value.none) _ _ _
  refine wpAny_pure ⟨_, rfl, h _ _ (by split <;> omega) (I.write (e := D) (t' := s.toks + 1) (by rw [hD]; trivial) (.inl rfl) (fun b u hb hu => (sb.2 b hb).trans hu) ?_ (setT_new new))⟩
  obtain ⟨o', _, _, _, ⟨ho', _⟩, _⟩ := id new
  exact ⟨o', ho'⟩
theorem hb_put {elt : Expr} {te : TE} {D : Addr} {vs : List Nat} (hx : X.xe = fun _ _ => False) (he : PE X elt te) : HasB X vs (fun z => do
    (do let v ← eval elt X.env; standAt elt.pos; let _ ← call (.builtin "set.add") [.ref D, v])
    z) (tPutS X.prog X.w D te) := by
  intro pins s σ H Q z R I h kz
  have z1 := he.run pins s σ H _ I h
  rw [hx] at z1
  refine wpAny_bind (wpAny_bind (thnF z1 fun v s1 ⟨y, H1, I1, r1, z, S, n, ey, hD, room, q⟩ => ?_))
  subst ey
  exact wpAny_bind (wpAny_standAt (wpAny_bind (setT_add I1 hD room r1 fun n' s' hn I' => wpAny_pure (kz _ _ _ I' rfl (q n' hn)))))
theorem setStart {prog : Program} {w : World} {A : Around} {R : Result → Shared → Prop} {s : Shared} {env : Env} {elt : Expr} {gens : List Comprehension} {g : Comprehension} {k : Nat} {scope : Scope} {pos : Pos} {it acc : Value} (hg : gens[k]? = some g) (ha : g.is_async = 0)
    (h0 : codeAny (model prog w) A (.compLoop (.SetComp elt gens scope pos) k it acc env) R s)
    (h : wpAny (model prog w) A (pyIter it) (fun it' s' => codeAny (model prog w) A (.compLoop (.SetComp elt gens scope pos) k it' acc env) R s') (notedBy (model prog w) A env fun x s' => R (.error x) s') s) :
    codeAny (model prog w) A (.compStart (.SetComp elt gens scope pos) k it acc env) R s := by
  refine codeAny_of_tree ?_
  show wpAny _ _ ((compStart (.SetComp elt gens scope pos) k it acc env).onRaise (fun x => do noteFrame x env; standAt theWindowsPlace)) _ _ s
  refine wpAny_notedAt ?_
  unfold compStart
  have e1 : (clausesOf (.SetComp elt gens scope pos))[k]? = some g := hg
  rw [e1]
  simp only [Option.elim, ha, bne_self_eq_false, Bool.false_eq_true, if_false]
  show wpAny _ _ (ask >>= _) _ _ s
  refine wpAny_bind (wpAny_askSetting (wpAny_ite ?_))
  split
  · first
      | exact wpAny_bind (wpAny_pure (wpAny_pure (And.intro rfl h0)))
      | exact wpAny_pure (And.intro rfl h0)
  · refine wpAny_bind (wpAny_rule ?_)
    first
      | exact wpAny_bind (wpAny_standAt (wpAny_bind (wpAny_mono h (fun it' s' h' => wpAny_pure (And.intro rfl h')) fun _ _ x => x)))
      | (refine wpAny_bind ?_; exact wpAny_standAt (wpAny_bind (wpAny_mono h (fun it' s' h' => wpAny_pure (And.intro rfl h')) fun _ _ x => x)))
theorem hb_next {elt tg i1 : Expr} {gens : List Comprehension} {ifs : List Expr} {k : Nat} {scope : Scope} {pos : Pos} {acc : Value} {body : Sem PySem.Fin → Sem PySem.Fin} {wi : TI} {g : TG} {tt : TT} {tb : TB} {vs ws : List Nat} (hc : X.calm = true) (hx : X.xe = fun _ _ => False) (hv : ∀ i ∈ ws, i ∈ vs) (hg : gens[k]? = some ⟨tg, i1, ifs, 0⟩)
    (hT : TurnIs (.SetComp elt gens scope pos) tg k i1.pos ifs acc X.env body)
    (hi : PI X tg i1 wi) (pg : PG X tg g) (pt : PTs X ifs tt) (pb : HasB X ws body tb) (hs : ∀ x, foldedSetIterable i1 X.env x = pure x) :
    HasB X vs (fun z => do
      let x ← eval i1 X.env
      standAt i1.pos
      let x ← foldedSetIterable i1 X.env x
      let _ ← runOwn (.compStart (.SetComp elt gens scope pos) k (← holding [x] (pyIter x)) acc X.env) X.env
      z) (tNx wi g tt tb ws) := by
  intro pins s σ H Q z R I h kz
  have z1 := hi.run pins s σ H _ I h
  rw [hx] at z1
  refine wpAny_bind (thnF z1 fun x s1 h1 => ?_)
  refine wpAny_bind (wpAny_standAt (wpAny_bind (wpAny_of_eq (hs x) (wpAny_bind (wpAny_holding (thnF h1 fun itv s2 h2 => ?_))))))
  obtain ⟨it, fp, tn, J, H2, e, I2, T, st, f2, q⟩ := h2
  subst e
  refine wpAny_bind (wpAny_runOwn ?_)
  rw [Around.mark_none]
  have L := cl_loop (e := .SetComp elt gens scope pos) (k := k) (acc := acc) hc hx (fun _ => rfl) (fun _ => rfl) (fun _ => rfl) hT pg pt pb I2 T st f2 q
  have L2 := codeAny_mono (R' := fun r s' => match r with
      | .ok f => wpAny (model X.prog X.w) X.A z R (fun _ _ => False) s'
      | .error e => cameBackBy (model X.prog X.w) X.A X.env (fun _ _ => False) e s') L fun r s' hr => by
    cases r with
    | ok f =>
      obtain ⟨H', I', q'⟩ := hr
      exact kz _ H' s' I' (wipe_wipe hv) q'
    | error e => exact hr.elim
  exact setStart hg rfl L2 (T.self X.A 0 _ _ _ st L2)
end
end RV
set_option linter.all false
/-! {x for a in .. if .. for b in .. ..}: the whole comprehension -/
namespace RV
open PySem L2 PySem.Spec PyProof.Rows
def BlkOf (X X' : Cx) (scope : Scope) : Prop := ∃ (s : Shared) (H : Hp) (C : Addr) (cl : List (Str × Addr)) (fp : List Addr), X' = X.blk s H scope (compEnvC scope cl C X.env) fp
section
variable {X : Cx}
def tSet (P : Program) (w : World) (wi : TI) (g : TG) (tt : TT) (tb : Addr → TB) (vs : List Nat) : TE := fun σ H Q => wi σ H fun J H1 => ∀ D, H1 D = none → tCl J g tt (tb D) vs σ (upd H1 D (SetT P w D (fun _ => false) 0)) fun H' => Q (.ref D) H'
theorem pe_set {elt tg iter : Expr} {ifs : List Expr} {rest : List Comprehension} {scope : Scope} {own : List (Str × Nat)} {pos : Pos} {wi : TI} {g : TG} {tt : TT} {tb : Addr → TB} (hc : X.calm = true) (hN : X.N.Nodup) (hi : PI X tg iter wi) (ok : BlkOk X.N X.env.scope scope own)
    (hg : ∀ X', BlkOf X X' scope → PG X' tg g) (ht : ∀ X', BlkOf X X' scope → PTs X' ifs tt)
    (hb : ∀ X', BlkOf X X' scope → ∀ D, ∃ body, HasB X' (own.map (·.2)) body (tb D) ∧ TurnIs (.SetComp elt (⟨tg, iter, ifs, 0⟩ :: rest) scope pos) tg 0 iter.pos ifs (.ref D) X'.env body)
    (hs : ∀ x, foldedSetIterable iter X.env x = pure x := by intro _; rfl) :
    PE X (.SetComp elt (⟨tg, iter, ifs, 0⟩ :: rest) scope pos) (tSet X.prog X.w wi g tt tb (own.map (·.2))) := by
  refine ⟨fun pins s σ H Q I h => ?_⟩
  rw [PpSet.eval_SetComp]
  have free : ∀ y ∈ scope.names, y.2 = .free → ∃ c, X.env.cells.lookup y.1 = some c := fun y hy z => (ok.free y hy z).elim (fun k => I.ok.has _ (.inl k)) fun k => I.ok.has _ (.inr k)
  refine wpAny_comprehension_free (use := none) rfl hs (closure_ok free) ok.kind (fun y hy z => by rw [ok.uniq y hy, z]) (thn (hi.run pins s σ H _ I h) fun xv s1 hx => thn hx fun itv s2 h2 => ?_)
  obtain ⟨it, fp, tn, J, H2, e, I2, T, st2, f2, q⟩ := h2
  subst e
  refine PpSet.newSet_ok (newEnv_comp ?_)
  have hn2 : H2 s2.heap.objs.size = none := I2.hok.fresh (Nat.le_refl _)
  have q0 := q _ hn2
  -- the new set
  have I3 := I2.laid (t' := s2.toks) (h' := s2.heap.push (emptySet X.w)) (fun b o z => Heap.get?_push_of_some _ z) (Nat.le_refl _) (setT_new (P := X.prog) (w := X.w) (H := upd H2 s2.heap.objs.size (SetT X.prog X.w s2.heap.objs.size (fun _ => false) 0)) (SetX.fresh (knd := PySem.strKind X.prog X.w) (Heap.get?_push_size _ rfl)))
  generalize hD : s2.heap.objs.size = D at hn2 q0 I3 ⊢
  have lt2 : ∀ b ∈ fp, b < D := fun b hb => by
    obtain ⟨o, z, _⟩ := T.obj _ _ st2 b hb
    rw [← hD]
    exact Heap.lt_size z
  have push : ∀ {b o}, s2.heap.get? b = some o → (s2.heap.push (emptySet X.w)).get? b = some o := fun z => Heap.get?_push_of_some _ z
  have psz : (s2.heap.push (emptySet X.w)).objs.size = D + 1 := by rw [Heap.size_push, hD]
  generalize hs3 : ({ s2 with heap := s2.heap.push (emptySet X.w) } : Shared) = s3
  have e3 : s3.heap = s2.heap.push (emptySet X.w) := by rw [← hs3]
  have I3 : Inv X pins σ (upd H2 D (SetT X.prog X.w D (fun _ => false) 0)) s3 := by rw [← hs3]; exact I3
  have f3 : ∀ b ∈ fp, FpOk X pins (upd H2 D (SetT X.prog X.w D (fun _ => false) 0)) b ∧ b < s3.heap.objs.size := fun b hb => by
    have l := lt2 b hb
    refine ⟨⟨?_, (f2 b hb).2⟩, by rw [e3, psz]; exact Nat.lt_succ_of_lt l⟩
    rw [upd_ne (Nat.ne_of_lt l)]
    exact (f2 b hb).1
  have st3 : tn 0 s3.heap := T.keep _ _ _ st2 fun b _ o z => by rw [e3]; exact push z
  have I4 := block_start I3 ok hN f3
  show codeAny _ _ (.compStart (.SetComp elt (⟨tg, iter, ifs, 0⟩ :: rest) scope pos) 0 (.ref it) (.ref D) (compEnvC scope (cellsFrom (s3.heap.objs.size + 1) scope.names (cloFrom X.env.cells scope.names [])) s3.heap.objs.size X.env)) (compPost (model X.prog X.w) X.A X.xe none _ (.ref D) s3.heap.objs.size) { s3 with heap := pushCells (s3.heap.push { cls := .type "dict", data := .dict #[] }) scope.names }
  have bo : BlkOf X (X.blk s3 (upd H2 D (SetT X.prog X.w D (fun _ => false) 0)) scope (compEnvC scope (cellsFrom (s3.heap.objs.size + 1) scope.names (cloFrom X.env.cells scope.names [])) s3.heap.objs.size X.env) fp) scope := ⟨_, _, _, _, _, rfl⟩
  have hg1 := hg _ bo
  have ht1 := ht _ bo
  obtain ⟨body, hb1, hT⟩ := hb _ bo D
  clear hg ht hb bo
  generalize hce : compEnvC scope (cellsFrom (s3.heap.objs.size + 1) scope.names (cloFrom X.env.cells scope.names [])) s3.heap.objs.size X.env = ce at I4 hg1 ht1 hb1 hT ⊢
  have cL : ce.locals = s3.heap.objs.size := by subst hce; rfl
  generalize hH3 : upd H2 D (SetT X.prog X.w D (fun _ => false) 0) = H3 at I3 I4 f3 q0 hg1 ht1 hb1 hT
  generalize hs4 : ({ s3 with heap := pushCells (s3.heap.push { cls := .type "dict", data := .dict #[] }) scope.names } : Shared) = s4 at I4 ⊢
  have st4 : tn 0 s4.heap := T.keep _ _ _ st3 fun b _ o z => by rw [← hs4]; exact pushCells_keeps _ _ _ _ (Heap.get?_push_of_some _ z)
  have f4 : ∀ b ∈ fp, FpOk (X.blk s3 H3 scope ce fp) [] H3 b := fun b hb => ⟨(f3 b hb).1.1, (I4.ok.exf b hb).1, I4.ok.exfs b hb, .inl hb, fun x c z => (I4.ok.exf b hb).2 x c z, fun p hp => absurd (show p ∈ ([] : List (Addr × Obj)) ++ [] from hp) (by simp)⟩
  have q4 : tCl J g tt (tb D) (own.map (·.2)) (wipe σ (own.map (·.2))) H3 fun H' => Q (.ref D) H' := by
    obtain ⟨W, w0, go⟩ := q0
    refine ⟨W, w0, fun i m H' w' => (go i m H' w').imp id fun ⟨g1, Nx, hn, step⟩ => ⟨g1, Nx, hn, fun x H'' y => ?_⟩⟩
    rw [wipe_wipe fun _ z => z]
    exact step x H'' y
  have L := cl_loop (X := X.blk s3 H3 scope ce fp) (e := .SetComp elt (⟨tg, iter, ifs, 0⟩ :: rest) scope pos) (k := 0) (acc := .ref D) hc rfl (fun _ => rfl) (fun _ => rfl) (fun _ => rfl) hT hg1 ht1 hb1 I4 T st4 f4 q4
  have L2 := codeAny_mono (R' := compPost (model X.prog X.w) X.A X.xe none (EP X pins σ Q) (.ref D) s3.heap.objs.size) L fun r s6 hr => by
    cases r with
    | error e => exact hr.elim
    | ok f =>
      obtain ⟨H6, I6, q6⟩ := hr
      have I7 : Inv X pins σ H6 s6 := I3.call' (ch := fp) I6.os I6.base I6.hok I6.bare fun b hb => ⟨(f3 b hb).1.2.2.2.1, (f3 b hb).1.2.1, (f3 b hb).1.2.2.2.2.1, (f3 b hb).1.2.2.2.2.2⟩
      have nC : H6 s3.heap.objs.size = none := by
        have z : H6 ce.locals = none := I6.free
        rw [cL] at z
        exact z
      obtain ⟨m, hm, _⟩ := I6.loc
      have hm : s6.heap.Ns ce.locals m := hm
      rw [cL] at hm
      refine ⟨m, hm, fun h'' sb => ?_⟩
      obtain ⟨g0, g1, g2, g3, g4, g5⟩ := I3.fpOk (Nat.le_refl _) nC
      exact ⟨.ref D, H6, I7.turned (t' := s6.toks) (fun b o hb z => (sb.2 b hb).trans z) g0 g1 g3 g4 g5, rfl, q6⟩
  exact setStart rfl rfl L2 (T.self X.A 0 _ _ _ st4 L2)
end
/-- a clause's turns over a walk -/
theorem cl_walk {J : It} {n : Nat} {GG : Hp → Prop} {Y : Nat → Hp → V → Hp → Prop} (wk : Walk J n GG Y) {g : TG} {tt : TT} {tb : TB} {vs : List Nat} {σ : L2.St} {H : Hp} {Q : Hp → Prop} (Pv : Nat → Hp → Prop) (h0 : Pv 0 H) (hG : ∀ i H', i ≤ n → Pv i H' → GG H')
    (hs : ∀ i x Ha Hb, i < n → Pv i Ha → Y i Ha x Hb → g x (wipe σ vs) Hb fun σ2 H2 => wipe σ2 vs = wipe σ vs ∧ tt σ2 H2 fun b H3 => if b = true then tb σ2 H3 (Pv (i + 1)) else Pv (i + 1) H3) (hd : ∀ H', Pv n H' → Q H') : tCl J g tt tb vs σ H Q := by
  refine ⟨fun i m H' => m = n - i ∧ i ≤ n ∧ Pv i H', ⟨n, by simp, Nat.zero_le _, h0⟩, fun i m H' z => ?_⟩
  obtain ⟨rfl, hi, p⟩ := z
  by_cases hlt : i < n
  · exact .inr ⟨wk.1 i H' hlt (hG i H' hi p), Pv (i + 1), fun H'' p' => ⟨n - (i + 1), by omega, rfl, hlt, p'⟩, fun x H'' y => hs i x H' H'' hlt p (wk.3 i H' x H'' hlt (hG i H' hi p) y)⟩
  · obtain rfl : i = n := by omega
    exact .inl ⟨wk.2 H' (hG i H' hi p), hd H' p⟩
end RV
set_option linter.all false
/-! {x for a in .. for b in ..} with two clauses and with three, the members texts -/
namespace RV
open PySem L2 PySem.Spec PyProof.Rows
section
variable {X : Cx}
theorem pe_set2 {elt tg iter tg1 iter1 : Expr} {ifs ifs1 : List Expr} {scope : Scope} {own : List (Str × Nat)} {ws : List Nat} {pos : Pos} {wi wi1 : TI} {g g1 : TG} {tt tt1 : TT} {te : TE} (hc : X.calm = true) (hN : X.N.Nodup) (hi : PI X tg iter wi) (ok : BlkOk X.N X.env.scope scope own) (hv : ∀ i ∈ ws, i ∈ own.map (·.2))
    (hg : ∀ (s : Shared) (H : Hp) (C : Addr) (cl : List (Str × Addr)) (fp : List Addr), PG (X.blk s H scope (compEnvC scope cl C X.env) fp) tg g) (ht : ∀ (s : Shared) (H : Hp) (C : Addr) (cl : List (Str × Addr)) (fp : List Addr), PTs (X.blk s H scope (compEnvC scope cl C X.env) fp) ifs tt) (hi1 : ∀ (s : Shared) (H : Hp) (C : Addr) (cl : List (Str × Addr)) (fp : List Addr), PI (X.blk s H scope (compEnvC scope cl C X.env) fp) tg1 iter1 wi1) (hg1 : ∀ (s : Shared) (H : Hp) (C : Addr) (cl : List (Str × Addr)) (fp : List Addr), PG (X.blk s H scope (compEnvC scope cl C X.env) fp) tg1 g1) (ht1 : ∀ (s : Shared) (H : Hp) (C : Addr) (cl : List (Str × Addr)) (fp : List Addr), PTs (X.blk s H scope (compEnvC scope cl C X.env) fp) ifs1 tt1) (he : ∀ (s : Shared) (H : Hp) (C : Addr) (cl : List (Str × Addr)) (fp : List Addr), PE (X.blk s H scope (compEnvC scope cl C X.env) fp) elt te)
    (hs : ∀ x, foldedSetIterable iter X.env x = pure x := by intro _; rfl) (hs1 : ∀ env x, foldedSetIterable iter1 env x = pure x := by intro _ _; rfl) :
    PE X (.SetComp elt [⟨tg, iter, ifs, 0⟩, ⟨tg1, iter1, ifs1, 0⟩] scope pos) (tSet X.prog X.w wi g tt (fun D => tNx wi1 g1 tt1 (tPutS X.prog X.w D te) ws) (own.map (·.2))) := by
  refine pe_set hc hN hi ok (fun X' hX => ?_) (fun X' hX => ?_) (fun X' hX D => ?_) hs
  · obtain ⟨s, H, C, cl, fp, rfl⟩ := hX
    exact hg s H C cl fp
  · obtain ⟨s, H, C, cl, fp, rfl⟩ := hX
    exact ht s H C cl fp
  · obtain ⟨s, H, C, cl, fp, rfl⟩ := hX
    exact ⟨_, hb_next (elt := elt) (gens := [⟨tg, iter, ifs, 0⟩, ⟨tg1, iter1, ifs1, 0⟩]) (k := 1) (scope := scope) (pos := pos) (acc := .ref D) hc rfl hv rfl (fun _ => rfl) (hi1 s H C cl fp) (hg1 s H C cl fp) (ht1 s H C cl fp) (hb_put rfl (he s H C cl fp)) (hs1 _), fun _ => rfl⟩
theorem pe_set3 {elt tg iter tg1 iter1 tg2 iter2 : Expr} {ifs ifs1 ifs2 : List Expr} {scope : Scope} {own : List (Str × Nat)} {ws us : List Nat} {pos : Pos} {wi wi1 wi2 : TI} {g g1 g2 : TG} {tt tt1 tt2 : TT} {te : TE} (hc : X.calm = true) (hN : X.N.Nodup) (hi : PI X tg iter wi) (ok : BlkOk X.N X.env.scope scope own) (hv : ∀ i ∈ ws, i ∈ own.map (·.2)) (hw : ∀ i ∈ us, i ∈ ws)
    (hg : ∀ (s : Shared) (H : Hp) (C : Addr) (cl : List (Str × Addr)) (fp : List Addr), PG (X.blk s H scope (compEnvC scope cl C X.env) fp) tg g) (ht : ∀ (s : Shared) (H : Hp) (C : Addr) (cl : List (Str × Addr)) (fp : List Addr), PTs (X.blk s H scope (compEnvC scope cl C X.env) fp) ifs tt) (hi1 : ∀ (s : Shared) (H : Hp) (C : Addr) (cl : List (Str × Addr)) (fp : List Addr), PI (X.blk s H scope (compEnvC scope cl C X.env) fp) tg1 iter1 wi1) (hg1 : ∀ (s : Shared) (H : Hp) (C : Addr) (cl : List (Str × Addr)) (fp : List Addr), PG (X.blk s H scope (compEnvC scope cl C X.env) fp) tg1 g1) (ht1 : ∀ (s : Shared) (H : Hp) (C : Addr) (cl : List (Str × Addr)) (fp : List Addr), PTs (X.blk s H scope (compEnvC scope cl C X.env) fp) ifs1 tt1)
    (hi2 : ∀ (s : Shared) (H : Hp) (C : Addr) (cl : List (Str × Addr)) (fp : List Addr), PI (X.blk s H scope (compEnvC scope cl C X.env) fp) tg2 iter2 wi2) (hg2 : ∀ (s : Shared) (H : Hp) (C : Addr) (cl : List (Str × Addr)) (fp : List Addr), PG (X.blk s H scope (compEnvC scope cl C X.env) fp) tg2 g2) (ht2 : ∀ (s : Shared) (H : Hp) (C : Addr) (cl : List (Str × Addr)) (fp : List Addr), PTs (X.blk s H scope (compEnvC scope cl C X.env) fp) ifs2 tt2) (he : ∀ (s : Shared) (H : Hp) (C : Addr) (cl : List (Str × Addr)) (fp : List Addr), PE (X.blk s H scope (compEnvC scope cl C X.env) fp) elt te)
    (hs : ∀ x, foldedSetIterable iter X.env x = pure x := by intro _; rfl) (hs1 : ∀ env x, foldedSetIterable iter1 env x = pure x := by intro _ _; rfl) (hs2 : ∀ env x, foldedSetIterable iter2 env x = pure x := by intro _ _; rfl) :
    PE X (.SetComp elt [⟨tg, iter, ifs, 0⟩, ⟨tg1, iter1, ifs1, 0⟩, ⟨tg2, iter2, ifs2, 0⟩] scope pos) (tSet X.prog X.w wi g tt (fun D => tNx wi1 g1 tt1 (tNx wi2 g2 tt2 (tPutS X.prog X.w D te) us) ws) (own.map (·.2))) := by
  refine pe_set hc hN hi ok (fun X' hX => ?_) (fun X' hX => ?_) (fun X' hX D => ?_) hs
  · obtain ⟨s, H, C, cl, fp, rfl⟩ := hX
    exact hg s H C cl fp
  · obtain ⟨s, H, C, cl, fp, rfl⟩ := hX
    exact ht s H C cl fp
  · obtain ⟨s, H, C, cl, fp, rfl⟩ := hX
    exact ⟨_, hb_next (elt := elt) (gens := [⟨tg, iter, ifs, 0⟩, ⟨tg1, iter1, ifs1, 0⟩, ⟨tg2, iter2, ifs2, 0⟩]) (k := 1) (scope := scope) (pos := pos) (acc := .ref D) hc rfl hv rfl (fun _ => rfl) (hi1 s H C cl fp) (hg1 s H C cl fp) (ht1 s H C cl fp) (hb_next (elt := elt) (gens := [⟨tg, iter, ifs, 0⟩, ⟨tg1, iter1, ifs1, 0⟩, ⟨tg2, iter2, ifs2, 0⟩]) (k := 2) (scope := scope) (pos := pos) (acc := .ref D) hc rfl hw rfl (fun _ => rfl) (hi2 s H C cl fp) (hg2 s H C cl fp) (ht2 s H C cl fp) (hb_put rfl (he s H C cl fp)) (hs2 _)) (hs1 _), fun _ => rfl⟩
end
section
variable {X : Cx} {K : PySem.W.Frag}
theorem pi_tupK {tg l : Expr} {tl : TE} (hl : PE X l tl) (h : X.K = K := by rfl) : PI X tg l (iTup K tl) := h ▸ pi_tup hl
theorem pi_listK {tg l : Expr} {tl : TE} (hl : PE X l tl) (h : X.K = K := by rfl) : PI X tg l (iList K tl) := h ▸ pi_list hl
end
/-- everything but the object at d stays -/
def Sb (d : Addr) (H H' : Hp) : Prop := ∀ b o, b ≠ d → H b = some o → H' b = some o
theorem Sb.refl {d : Addr} (H : Hp) : Sb d H H := fun _ _ _ e => e
theorem Sb.trans {d : Addr} {A B C : Hp} (h : Sb d A B) (h' : Sb d B C) : Sb d A C := fun b o n e => h' b o n (h b o n e)
theorem Sb.then {d : Addr} {A B C : Hp} (h : Sb d A B) (h' : Same B C) : Sb d A C := fun b o n e => h' b o (h b o n e)
theorem Sb.upd (d : Addr) (H : Hp) (o : HO) : Sb d H (upd H d o) := fun b u n e => (upd_ne n).trans e
theorem Sb.same {d : Addr} {A B C : Hp} (s : Same A B) (n : A d = none) (h : Sb d B C) : Same A C := fun b o e => h b o (ne_of_none e n) (s b o e)
/-- places -/
def pls (ps : List P3) : List Str := ps.flatMap fun p => [p.2.1, p.2.2]
def SortP (xs : List Str) (zs : List Str) : Prop := sortedS zs = true ∧ zs.Nodup ∧ ∀ z, z ∈ zs ↔ z ∈ xs
def sp_plc (K : PySem.W.Frag) (CN CP CM : Addr) : Sp := fun vs H Q _ => ∃ (x : Addr) (ps : List P3) (ms : List M3), vs = [.ref x] ∧ NetR K CN CP CM H x ps ms ∧ ps.length ≤ 12 ∧
  ∀ (t : Addr) (zs : List Str) H', Same H H' → H' t = some (.tup (zs.map V.str)) → SortP (pls ps) zs → zs.length ≤ 24 → Q (.ref t) H'
end RV
set_option linter.all false
/-! comprehensions over pairs of two tuples; flows at places -/
namespace RV
open PySem L2 PySem.Spec PyProof.Rows TL
section
variable {K : PySem.W.Frag} {a b : Addr} {xs ys : List V} {D : Addr} {te : TE} {tt : TT} {vs : List Nat} {σ : L2.St} {H1 : Hp} {Qd : Hp → Prop} {i j : Nat}
theorem lc_zipI (p : Nat → Bool) (val : Nat → V) (ha : SqT K H1 a xs) (hb : SqT K H1 b ys) (hn : xs.length = ys.length) (len : xs.length ≤ 1000) (nD : H1 D = none) (hw : ∀ x y, wipe (((wipe σ vs).set i (some x)).set j (some y)) vs = wipe σ vs)
    (ht : ∀ (k : Nat) (x y : V), xs[k]? = some x → ys[k]? = some y → ∀ H2, Same H1 H2 → ∀ R : Bool → Hp → Prop, (∀ H3, Same H2 H3 → R (p k) H3) → tt (((wipe σ vs).set i (some x)).set j (some y)) H2 R)
    (he : ∀ (k : Nat) (x y : V), xs[k]? = some x → ys[k]? = some y → ∀ H2, Same H1 H2 → ∀ R : VK, (∀ H3, Same H2 H3 → R (val k) H3) → te (((wipe σ vs).set i (some x)).set j (some y)) H2 R)
    (k : ∀ H', Same H1 H' → H' D = some (.lst (((List.range xs.length).filter p).map val)) → Qd H') :
    ∃ W : Nat → Nat → Hp → Prop, (∃ m, W 0 m (upd H1 D (.lst []))) ∧ ∀ i' m H, W i' m H →
      ((RZ.ItzT K a b).stop i' H ∧ Qd H) ∨ ((RZ.ItzT K a b).go i' H ∧ ∃ Nx : Hp → Prop, (∀ H', Nx H' → ∃ m', m' < m ∧ W (i' + 1) m' H') ∧ ∀ x H', (RZ.ItzT K a b).yld i' H x H' → gPr K i j x (wipe σ vs) H' fun σ2 H2 => wipe σ2 vs = wipe σ vs ∧ tt σ2 H2 fun b H3 =>
        if b = true then te σ2 H3 fun y H4 => ∃ acc, H4 D = some (.lst acc) ∧ acc.length < sizeLine ∧ Nx (upd H4 D (.lst (acc ++ [y]))) else Nx H3) := by
  refine L2.lc_it (walk_zipT (K := K) (xs := xs) (ys := ys) (n := xs.length) (by omega)) (fun m H' => Same H1 H' ∧ H' D = some (.lst (((List.range m).filter p).map val))) ⟨fun b o e => (upd_ne (ne_of_none e nD)).trans e, upd_same⟩ (fun m H' _ z => ⟨ha.ext z.1, hb.ext z.1⟩) (fun m v Ha Hb hm hv y => ?_) (fun H' hv => k H' hv.1 hv.2)
  obtain ⟨s, eD⟩ := hv
  obtain ⟨T, x, z, rfl, nT, rfl, hx, hz⟩ := y
  dsimp only at hx hz
  have sT : Same Ha (upd Ha T (.tup [x, z])) := fun b o e => (upd_ne (ne_of_none e nT)).trans e
  have eDT := sT _ _ eD
  refine ⟨T, _, rfl, SqT.of upd_same, rfl, _, _, rfl, _, _, rfl, ⟨rfl, ⟨hw x z, ht m x z hx hz _ (s.trans sT) _ fun H3 s3 => ?_⟩⟩⟩
  have eD3 := s3 _ _ eDT
  have sH : Same H1 H3 := (s.trans sT).trans s3
  cases hp : p m with
  | false =>
    refine iteF ⟨sH, ?_⟩
    rw [eD3, List.range_succ, List.filter_append, List.filter_cons_of_neg (by rw [hp]; decide), List.filter_nil, List.append_nil]
  | true =>
    refine iteT (he m x z hx hz H3 sH _ fun H4 s4 => ⟨_, s4 _ _ eD3, ?_, fun b o e => ?_, ?_⟩)
    · rw [List.length_map]
      have l1 := List.length_filter_le p (List.range m)
      rw [List.length_range] at l1
      exact Nat.lt_of_le_of_lt l1 (Nat.lt_of_lt_of_le hm (Nat.le_trans len (by decide)))
    · rw [upd_ne (ne_of_none e nD)]
      exact s4 _ _ (sH _ _ e)
    · rw [upd_same, List.range_succ, List.filter_append, List.filter_cons_of_pos hp, List.filter_nil, List.map_append]
      rfl
end
/-- what comes in less what goes out -/
def dvP (ps : List P3) (fs : List Int) (z : Str) : Int := dv ps.length (pS ps) (pE ps) (rwf fs) z
def sumAt (g : Nat → Str) (n : Nat) (fs : List Int) (z : Str) : List Int := ((List.range n).filter fun k => decide (g k = z)).map (rwf fs)
theorem sumAt_sm (g : Nat → Str) (n : Nat) (fs : List Int) (z : Str) : (sumAt g n fs z).sum = sm n fun k => rwf fs k * dl (g k) z := by
  induction n with
  | zero => rfl
  | succ n ih =>
    rw [sumAt, List.range_succ, List.filter_append, List.map_append, List.sum_append, ← sumAt, ih, sm]
    by_cases e : g n = z
    · simp [e, dl]
    · simp [e, dl]
theorem dvP_eq (ps : List P3) (fs : List Int) (z : Str) : (sumAt (pE ps) ps.length fs z).sum - (sumAt (pS ps) ps.length fs z).sum = dvP ps fs z := by
  rw [sumAt_sm, sumAt_sm, dvP, dv]
  have e : (sm ps.length fun k => rwf fs k * dl (pE ps k) z) = (sm ps.length fun k => rwf fs k * (dl (pE ps k) z - dl (pS ps k) z)) + sm ps.length fun k => rwf fs k * dl (pS ps k) z := by
    rw [← sm_add]
    refine sm_congr fun k _ => ?_
    rw [Int.mul_sub]
    omega
  rw [e]
  omega
def flwB (ps : List P3) (fs : List Int) : Bool := decide (fs.length = ps.length) && (pls ps).all fun z => decide (dvP ps fs z = 0)
theorem flwB_iff {ps : List P3} {fs : List Int} (h : fs.length = ps.length) : flwB ps fs = true ↔ ∀ z, dvP ps fs z = 0 := by
  rw [flwB, h, decide_eq_true rfl, Bool.true_and, List.all_eq_true]
  refine ⟨fun q z => ?_, fun q z _ => decide_eq_true (q z)⟩
  by_cases hz : z ∈ pls ps
  · exact of_decide_eq_true (q z hz)
  · rw [dvP, dv, sm_congr (g := fun _ => 0) (fun k hk => ?_), sm_zero]
    have hp := pN_at (List.getElem?_eq_getElem hk)
    have m1 : pS ps k ∈ pls ps := List.mem_flatMap.mpr ⟨ps[k], List.getElem_mem hk, by rw [hp.2.1]; simp⟩
    have m2 : pE ps k ∈ pls ps := List.mem_flatMap.mpr ⟨ps[k], List.getElem_mem hk, by rw [hp.2.2]; simp⟩
    have d1 : dl (pS ps k) z = 0 := if_neg fun e : pS ps k = z => hz (e ▸ m1)
    have d2 : dl (pE ps k) z = 0 := if_neg fun e : pE ps k = z => hz (e ▸ m2)
    rw [d1, d2]
    simp
section
variable (K : PySem.W.Frag) (CN CP CM : Addr)
def sp_kat : Sp := fun vs H Q _ => ∃ (x t : Addr) (ps : List P3) (ms : List M3) (fs : List Int) (z : Str), vs = [.ref x, .ref t, .str z] ∧ NetR K CN CP CM H x ps ms ∧ ps.length ≤ 12 ∧ SqT K H t (fs.map V.int) ∧ fs.length = ps.length ∧ ∀ H', Same H H' → Q (.int (dvP ps fs z)) H'
def sp_isf : Sp := fun vs H Q _ => ∃ (x t : Addr) (ps : List P3) (ms : List M3) (fs : List Int), vs = [.ref x, .ref t] ∧ NetR K CN CP CM H x ps ms ∧ ps.length ≤ 12 ∧ SqT K H t (fs.map V.int) ∧ fs.length ≤ 1000 ∧ ∀ H', Same H H' → Q (.bl (flwB ps fs)) H'
/-- a ring through a pipe with so many meters -/
structure RingF (ps : List P3) (ms : List M3) (y : Str) (c : Nat) (fs : List Int) : Prop where
  len : fs.length = ps.length
  ring : ∃ p, p < ps.length ∧ pN ps p = y ∧ Ring ps.length (pS ps) (pE ps) (shutP ps ms) p (rwf fs) ∧ cnt ps.length (fun k => wtP ms (pN ps k)) (rwf fs) = c
def sp_ring : Sp := fun vs H Q _ => ∃ (x : Addr) (ps : List P3) (ms : List M3) (y : Str), vs = [.ref x, .str y] ∧ NetR K CN CP CM H x ps ms ∧ POk ps ∧ ms.length ≤ 12 ∧ y ∈ ps.map (·.1) ∧
  (strP ps ms y = none → ∀ H', Same H H' → Q .non H') ∧ ∀ c (t : Addr) fs H', strP ps ms y = some c → Same H H' → SqT K H' t (fs.map V.int) → RingF ps ms y c fs → Q (.ref t) H'
end
end RV
set_option linter.all false
/-! what the found ways are: rings without loops -/
namespace RV
open PySem L2 PyProof.Rows TL
def ZG (ps : List P3) (ms : List M3) (p : Nat) : Dist Str → Str → Nat → List Int → Prop := fun g x d fs => GW (pS ps) (pE ps) (fun k => wtP ms (pN ps k)) (okp ps.length (shutP ps ms) p) (pE ps p) g x d (rwf fs)
theorem rwf_un {n : Nat} (o : Option Nat) (c : Int) (k : Nat) : rwf (un n o c) k = if k < n ∧ o = some k then c else 0 := by
  rw [rwf, un, List.getD, List.getElem?_map]
  by_cases h : k < n
  · rw [List.getElem?_range h]
    by_cases e : o = some k
    · simp [e, h]
    · simp [e]
  · rw [List.getElem?_eq_none (by rw [List.length_range]; omega)]
    simp [h]
theorem rwf_zip {fs gs : List Int} (h : fs.length = gs.length) (k : Nat) : rwf (List.zipWith (· + ·) fs gs) k = rwf fs k + rwf gs k := by
  rw [rwf, rwf, rwf, List.getD, List.getD, List.getD, List.getElem?_zipWith]
  by_cases hk : k < fs.length
  · rw [List.getElem?_eq_getElem hk, List.getElem?_eq_getElem (by omega)]
    rfl
  · rw [List.getElem?_eq_none (by omega), List.getElem?_eq_none (by omega)]
    rfl
theorem un_length (n : Nat) (o : Option Nat) (c : Int) : (un n o c).length = n := by rw [un, List.length_map, List.length_range]
theorem ZG.ok {ps : List P3} {ms : List M3} {p : Nat} (nd : (ps.map (·.1)).Nodup) (hp : p < ps.length) : ZOk ps ms (pN ps p) (ZG ps ms p) := by
  refine ⟨fun i q hi hq => ?_, fun l hl g x d fs h => GW.le h (ld_le g _), fun l hl g d fs hf hg h hb => ?_⟩
  · have hil := (List.getElem?_eq_some_iff.mp hi).1
    obtain ⟨a, b, c⟩ := pN_at hi
    obtain rfl : i = p := pN_inj nd hil hp (by rw [a, hq])
    have e : rwf (un ps.length none 0) = fun _ => 0 := funext fun k => by rw [rwf_un]; simp
    show GW _ _ _ _ _ _ _ _ _
    rw [e, c]
    exact GW.start
  · obtain ⟨i, q, hq, hl⟩ := mem_lkF.mp hl
    have hi := (List.getElem?_eq_some_iff.mp hq).1
    obtain ⟨a, b, c⟩ := pN_at hq
    rw [Nat.zero_add, lks] at hl
    split at hl
    · rename_i hc
      have ho : okp ps.length (shutP ps ms) p i := ⟨hi, fun z => hc.1 (by rw [← a, z]), fun z => z (by rw [a]; exact hc.2)⟩
      have hle := ld_le g (lk3 l)
      have hnew : ld g (lk3 l) l.2.1 = some (d + l.2.2.1) := by
        rw [ld_p (e := lk3 l) hg hb]
        exact if_pos rfl
      have add : ∀ (s : Bool), (rwf (List.zipWith (· + ·) fs (un ps.length (some i) (sg s)))) = fun k => rwf fs k + if k = i then sg s else 0 := fun s => funext fun k => by
        rw [rwf_zip (by rw [un_length, hf]), rwf_un]
        by_cases e : k = i
        · subst e
          simp [hi]
        · rw [if_neg (fun z => e (Option.some.inj z.2).symm), if_neg e]
      rcases List.mem_cons.mp hl with rfl | hl
      · have r := GW.step (s := true) (i := i) (b := q.2.2) h ho (.inl ⟨rfl, b.symm, c.symm⟩) (by rw [a]; exact hb) hle (by rw [a]; exact hnew)
        show GW _ _ _ _ _ _ _ _ (rwf (List.zipWith (· + ·) fs (un ps.length (some i) 1)))
        rw [show (1 : Int) = sg true from rfl, add true]
        rw [a] at r
        exact r
      · obtain rfl := List.mem_singleton.mp hl
        have r := GW.step (s := false) (i := i) (b := q.2.1) h ho (.inr ⟨rfl, c.symm, b.symm⟩) (by rw [a]; exact hb) hle (by rw [a]; exact hnew)
        show GW _ _ _ _ _ _ _ _ (rwf (List.zipWith (· + ·) fs (un ps.length (some i) (-1))))
        rw [show (-1 : Int) = sg false from rfl, add false]
        rw [a] at r
        exact r
    · exact nomatch hl
/-- the flow with 1 at a pipe -/
def ringL (ps : List P3) (y : Str) (fs : List Int) : List Int := (List.range ps.length).map fun k => if pN ps k = y then 1 else rwf fs k
theorem ringL_ok {ps : List P3} {ms : List M3} {p d : Nat} {g : Dist Str} {fs : List Int} (nd : (ps.map (·.1)).Nodup) (hp : p < ps.length) (hl : fs.length = ps.length) (hs : ¬ shutP ps ms p) (h : ZG ps ms p g (pS ps p) d fs) : RingF ps ms (pN ps p) (d + wtP ms (pN ps p)) (ringL ps (pN ps p) fs) := by
  obtain ⟨r1, r2, r3⟩ := GW.ring hp hs h
  have e : rwf (ringL ps (pN ps p) fs) = fun k => rwf fs k + if p = k then 1 else 0 := funext fun k => by
    rw [rwf, ringL, List.getD, List.getElem?_map]
    by_cases hk : k < ps.length
    · rw [List.getElem?_range hk]
      show (if pN ps k = pN ps p then 1 else rwf fs k) = _
      by_cases z : p = k
      · subst z
        rw [if_pos rfl, if_pos rfl, r2]
        rfl
      · rw [if_neg fun q => z (pN_inj nd hp hk q.symm), if_neg z, Int.add_zero]
    · rw [List.getElem?_eq_none (by rw [List.length_range]; omega), if_neg (by omega : ¬ p = k)]
      show 0 = _
      rw [rwf, List.getD, List.getElem?_eq_none (by omega)]
      rfl
  exact ⟨by rw [ringL, List.length_map, List.length_range], p, hp, rfl, by rw [e]; exact r1, by rw [e, r3]; exact (Int.natCast_add _ _).symm⟩
end RV
set_option linter.all false
/-! rings of models -/
namespace RV
open PySem L2 PyProof.Rows TL
def sp_rr (K : PySem.W.Frag) (CN CP CM : Addr) : Sp := fun vs H Q _ => ∃ (l x : Addr) (M : Mod) (most more p : Nat), vs = [.ref l, .ref x, .int (p : Nat)] ∧ MdAt H l M ∧ MdOk M most more ∧ most ≤ 12 ∧ more ≤ 12 ∧ NetR K CN CP CM H x M.ps M.ms ∧ p < M.qs.length ∧ ∀ H', Same H H' → Q (.bl true) H'
theorem RingF.row {M : Mod} {most more p c : Nat} {fs : List Int} (ok : MdOk M most more) (hp : p < M.qs.length) (h : RingF M.ps M.ms (pN M.ps p) c fs) : fs.length = M.qs.length ∧ (∀ k, k < fs.length → trit (rwf fs k)) ∧ rwf fs p = 1 ∧ keptB M fs = true ∧ flwB M.ps fs = true ∧ shutG M fs = false ∧ cntG M fs = c := by
  obtain ⟨hl, i, hi, ei, hr, hc⟩ := h
  rw [ps_len] at hl
  obtain rfl : i = p := pN_inj (by rw [Mod.names]; exact ok.qd) hi (by rw [ps_len]; exact hp) ei
  have kp : ∀ x, dv M.qs.length (pS M.ps) (pE M.ps) (rwf fs) x = 0 := by
    have := hr.kept
    rwa [ps_len] at this
  refine ⟨hl, fun k hk => hr.r k (by rw [ps_len]; omega), hr.one, (keptB_iff ok fs).mpr kp, (flwB_iff (by rw [ps_len]; exact hl)).mpr fun z => ?_, ?_, ?_⟩
  · rw [dvP, ps_len]
    exact kp z
  · rw [shutG, List.any_eq_false]
    intro g hg q
    rw [Bool.and_eq_true] at q
    have hl2 := (ok.gn g hg).2
    exact (of_decide_eq_true q.2) (hr.sl _ (by rw [ps_len]; exact hl2) ((shut_iff ok hl2).mpr ⟨g, hg, rfl, q.1⟩))
  · rw [ps_len, cnt_eq ok] at hc
    rw [cntG]
    exact Int.ofNat.inj hc
theorem trit_in {c : Int} (h : trit c) : decide ((toString c : Str) ∈ (["-1", "0", "1"] : List Str)) = true := by
  rcases h with rfl | rfl | rfl <;> decide
end RV
set_option linter.all false
/-! for x, y, z in zip(a, b, c): three tuples -/
namespace RV
open PySem L2 PySem.Spec PyProof.Rows TL
/-- the tuples at a, b, c as they stand; the items in new tuples -/
def Itz3 (K : PySem.W.Frag) (a b c : Addr) : It :=
  ⟨fun i H => ∃ (xs ys zs : List V) (x y z : V), SqT K H a xs ∧ SqT K H b ys ∧ SqT K H c zs ∧ xs[i]? = some x ∧ ys[i]? = some y ∧ zs[i]? = some z,
    fun i H v H' => ∃ T x y z, v = .ref T ∧ H T = none ∧ H' = upd H T (.tup [x, y, z]) ∧ (∀ xs, SqT K H a xs → xs[i]? = some x) ∧ (∀ ys, SqT K H b ys → ys[i]? = some y) ∧ ∀ zs, SqT K H c zs → zs[i]? = some z,
    fun i H => ∃ xs ys zs : List V, SqT K H a xs ∧ SqT K H b ys ∧ SqT K H c zs ∧ xs.length = i ∧ ys.length = i ∧ zs.length = i⟩
theorem zip3_of {P : Program} {w : World} {A : Around} {elts : List Expr} {kk : Nat} {tpos : Pos} {h : Heap} {i : Nat} {a b c z TI TO i1 i2 i3 : Addr} {ax ay az : Array Value} (D : ZipSep3 z TI TO i1 i2 i3 [i1, a] [i2, b] [i3, c]) (hh : A.handled = none)
    (h1 : h.IsTupleIter i1 a i) (h2 : h.IsTupleIter i2 b i) (h3 : h.IsTupleIter i3 c i) (p1 : h.IsTuple a ax) (p2 : h.IsTuple b ay) (p3 : h.IsTuple c az) :
    GoesN P w A (.Tuple elts kk tpos) z (z :: TI :: TO :: ([i1, a] ++ [i2, b] ++ [i3, c])) [z, TO, i1, i2, i3] (min (min ax.size ay.size) az.size) (fun i h₀ v h => ∃ T x y u, v = .ref T ∧ h₀.objs.size ≤ T ∧ ax[i]? = some x ∧ ay[i]? = some y ∧ az[i]? = some u ∧ h.IsTuple T #[x, y, u])
      (fun i h => IsZip h z TI TO .none ∧ IsTupOf3 h TI (.ref i1) (.ref i2) (.ref i3) ∧ (∃ a1 a2 a3, IsTupOf3 h TO a1 a2 a3) ∧ (h.IsTupleIter i1 a i ∧ h.IsTuple a ax) ∧ (h.IsTupleIter i2 b i ∧ h.IsTuple b ay) ∧ h.IsTupleIter i3 c i ∧ h.IsTuple c az) ∧ a ≠ i1 ∧ b ≠ i2 ∧ c ≠ i3 := by
  have ne : ∀ {t it : Addr} {items : Array Value}, h.IsTupleIter it t i → h.IsTuple t items → t ≠ it := fun {t it items} q p e => by
    obtain ⟨o, ho, _, n, hd⟩ := p
    obtain ⟨o', ho', _, hd'⟩ := q
    rw [e, ho'] at ho
    cases ho
    rw [hd'] at hd
    cases hd
  have hh1 : A.in1.handled = none := by simp [hh]
  exact ⟨GoesN.zip3 D (Draws.tuple hh1 i1 a (ne h1 p1) ax) (Draws.tuple hh1 i2 b (ne h2 p2) ay) (Draws.tuple hh1 i3 c (ne h3 p3) az), ne h1 p1, ne h2 p2, ne h3 p3⟩
theorem turn_zip3 {P : Program} {w : World} {K : PySem.W.Frag} {elts : List Expr} {kk : Nat} {tpos : Pos} {a b c z TI TO i1 i2 i3 : Addr} (D : ZipSep3 z TI TO i1 i2 i3 [i1, a] [i2, b] [i3, c]) :
    Turn P w K (.Tuple elts kk tpos) (Itz3 K a b c) [z, TI, TO, i1, i2, i3] z (fun i h => IsZip h z TI TO .none ∧ IsTupOf3 h TI (.ref i1) (.ref i2) (.ref i3) ∧ (∃ x y u, IsTupOf3 h TO x y u) ∧ h.IsTupleIter i1 a i ∧ h.IsTupleIter i2 b i ∧ h.IsTupleIter i3 c i) where
  mem := List.mem_cons_self
  obj := fun i h st p hp => by
    obtain ⟨hz, hT, ⟨x, y, u, hO⟩, ⟨o1, e1, _, d1⟩, ⟨o2, e2, _, d2⟩, ⟨o3, e3, _, d3⟩⟩ := st
    simp only [List.mem_cons, List.not_mem_nil, or_false] at hp
    rcases hp with rfl | rfl | rfl | rfl | rfl | rfl
    · exact ⟨_, hz, fun v q => nomatch q⟩
    · exact ⟨_, hT, fun v q => nomatch q⟩
    · exact ⟨_, hO, fun v q => nomatch q⟩
    · exact ⟨o1, e1, fun v q => by rw [d1] at q; cases q⟩
    · exact ⟨o2, e2, fun v q => by rw [d2] at q; cases q⟩
    · exact ⟨o3, e3, fun v q => by rw [d3] at q; cases q⟩
  keep := fun i h h' st k => by
    obtain ⟨hz, hT, ⟨x, y, u, hO⟩, h1, h2, h3⟩ := st
    exact ⟨k z (by simp) _ hz, k TI (by simp) _ hT, ⟨x, y, u, k TO (by simp) _ hO⟩, h1.at fun o q => k i1 (by simp) o q, h2.at fun o q => k i2 (by simp) o q, h3.at fun o q => k i3 (by simp) o q⟩
  item := by
    intro X hP hw hK hc i pins s σ H E I hf st hg
    subst hP hw hK
    obtain ⟨hz, hT, hO, h1, h2, h3⟩ := st
    obtain ⟨xs, ys, zs, x, y, u, q1, q2, q3, g1, g2, g3⟩ := hg
    obtain ⟨ax, r1, p1, _⟩ := I.tuple q1
    obtain ⟨ay, r2, p2, _⟩ := I.tuple q2
    obtain ⟨az, r3, p3, _⟩ := I.tuple q3
    have hh := I.ok.hd hc
    obtain ⟨W, n1, n2, n3⟩ := zip3_of (P := X.prog) (w := X.w) (A := X.A) (elts := elts) (kk := kk) (tpos := tpos) D (I.ok.hd hc) h1 h2 h3 p1 p2 p3
    have il : i < min (min ax.toArray.size ay.toArray.size) az.toArray.size := by
      have l1 := r1.length
      have l2 := r2.length
      have l3 := r3.length
      have k1 := (List.getElem?_eq_some_iff.mp g1).1
      have k2 := (List.getElem?_eq_some_iff.mp g2).1
      have k3 := (List.getElem?_eq_some_iff.mp g3).1
      simp only [List.size_toArray]
      omega
    refine W.goes i s _ E il ⟨hz, hT, hO, ⟨h1, p1⟩, ⟨h2, p2⟩, ⟨h3, p3⟩⟩ fun v h' tk hY st' hk htk => ?_
    obtain ⟨T, v1, v2, v3, rfl, new, e1, e2, e3, tT⟩ := hY
    obtain ⟨u1, f1, s1⟩ := r1.get g1
    obtain ⟨u2, f2, s2⟩ := r2.get g2
    obtain ⟨u3, f3, s3⟩ := r3.get g3
    rw [List.getElem?_toArray] at e1 e2 e3
    obtain rfl : u1 = v1 := Option.some.inj (f1.symm.trans e1)
    obtain rfl : u2 = v2 := Option.some.inj (f2.symm.trans e2)
    obtain rfl : u3 = v3 := Option.some.inj (f3.symm.trans e3)
    have ob : ObjOk X.prog X.w (upd H T (.tup [x, y, u])) h' T (.tup [x, y, u]) := ⟨by show 3 ≤ sizeLine; decide, [u1, u2, u3], .cons s1 (.cons s2 (.cons s3 .nil)), tT⟩
    have I' := I.turnedNew (t' := tk) (ch := [z, TI, TO, i1, i2, i3]) (fun p o hp q => hk p o (fun m => hp (by simp only [List.mem_cons, List.not_mem_nil, or_false] at m ⊢; rcases m with m | m | m | m | m <;> simp [m])) q) hf new ob
    refine ⟨.ref T, _, I', rfl, ⟨T, x, y, u, rfl, I.hok.fresh new, rfl, fun l hl => by rw [I.tuple_inj hl q1]; exact g1, fun l hl => by rw [I.tuple_inj hl q2]; exact g2, fun l hl => by rw [I.tuple_inj hl q3]; exact g3⟩, ⟨st'.1, st'.2.1, st'.2.2.1, st'.2.2.2.1.1, st'.2.2.2.2.1.1, st'.2.2.2.2.2.1⟩, fun p hp => ?_⟩
    rw [upd_ne (fun e => ?_)]
    · exact (hf p hp).1
    · obtain ⟨x0, y0, u0, hO⟩ := hO
      have lt : ∀ {b : Addr} {o : Obj}, s.heap.get? b = some o → b ≠ T := fun q r => absurd (Heap.lt_size q) (by rw [r]; exact Nat.not_lt.mpr new)
      simp only [List.mem_cons, List.not_mem_nil, or_false] at hp
      rcases hp with rfl | rfl | rfl | rfl | rfl | rfl
      · exact lt hz e
      · exact lt hT e
      · exact lt hO e
      · exact lt h1.choose_spec.1 e
      · exact lt h2.choose_spec.1 e
      · exact lt h3.choose_spec.1 e
  done := by
    intro X hP hw hK hc i pins s σ H E I hf st hg
    subst hP hw hK
    obtain ⟨hz, hT, hO, h1, h2, h3⟩ := st
    obtain ⟨xs, ys, zs, q1, q2, q3, g1, g2, g3⟩ := hg
    obtain ⟨ax, r1, p1, _⟩ := I.tuple q1
    obtain ⟨ay, r2, p2, _⟩ := I.tuple q2
    obtain ⟨az, r3, p3, _⟩ := I.tuple q3
    obtain ⟨W, n1, n2, n3⟩ := zip3_of (P := X.prog) (w := X.w) (A := X.A) (elts := elts) (kk := kk) (tpos := tpos) D (I.ok.hd hc) h1 h2 h3 p1 p2 p3
    have il : min (min ax.toArray.size ay.toArray.size) az.toArray.size = i := by
      have l1 := r1.length
      have l2 := r2.length
      have l3 := r3.length
      simp only [List.size_toArray]
      omega
    rw [il] at W
    refine W.stops s _ E ⟨hz, hT, hO, ⟨h1, p1⟩, ⟨h2, p2⟩, ⟨h3, p3⟩⟩ fun h' tk hk htk => ?_
    exact I.turnedL (t' := tk) (ch := [z, TI, TO, i1, i2, i3]) (fun p o hp q => hk p o (fun m => hp (by simp only [List.mem_cons, List.not_mem_nil, or_false] at m ⊢; rcases m with m | m | m | m | m <;> simp [m])) q) hf
  self := fun A i s Q E st h => wpAny_pyIter_zip st.1 h
def iZip3 (K : PySem.W.Frag) (ta : TA) : TI := fun σ H R => ta σ H fun vs H1 => ∃ a b c xs ys zs, vs = [.ref a, .ref b, .ref c] ∧ SqT K H1 a xs ∧ SqT K H1 b ys ∧ SqT K H1 c zs ∧ R (Itz3 K a b c) H1
theorem pi_zip3 {X : Cx} {e e2 e3 : Expr} {ta : TA} {p pos tpos : Pos} {elts : List Expr} {kk : Nat} (hg : Gl X "zip") (hm : X.mg "zip" = none) (ha : PA X [e, e2, e3] ta)
    (hs : starEach [e, e2, e3] X.env = (false, eval e X.env) :: starEach [e2, e3] X.env := by rfl) (hpl : (backTo pos (starEach [e2, e3] X.env)).any (·.1) = false := by rfl) :
    PI X (.Tuple elts kk tpos) (.Call (.Name "zip" p) [e, e2, e3] [] pos) (iZip3 X.K ta) := by
  refine ⟨fun pins s σ H R I h => ?_⟩
  refine Call_ (ld_blt I hg hm PyProof.Rows.boot_zip (PyProof.Rows.callWith_type1 (thn (ha.run pos pins s σ H _ I h) fun us s1 ⟨vs, H1, I1, r1, q1⟩ => ?_) hs hpl))
  obtain ⟨a, b, c, xs, ys, zs, rfl, hx, hy, hz0, q⟩ := q1
  obtain ⟨u1, ur, rfl, t1, r2⟩ : ∃ u ur, us = u :: ur ∧ RelV (.ref a) u ∧ Vals [V.ref b, V.ref c] ur := by cases r1 with | cons r rr => exact ⟨_, _, rfl, r, rr⟩
  obtain ⟨u2, ur2, rfl, t2, r3⟩ : ∃ u ur', ur = u :: ur' ∧ RelV (.ref b) u ∧ Vals [V.ref c] ur' := by cases r2 with | cons r rr => exact ⟨_, _, rfl, r, rr⟩
  obtain ⟨u3, rfl, t3⟩ : ∃ u, ur2 = [u] ∧ RelV (.ref c) u := by
    cases r3 with
    | cons r rr => cases rr; exact ⟨_, rfl, r⟩
  cases t1
  cases t2
  cases t3
  obtain ⟨ax, _, p1, _⟩ := I1.tuple hx
  obtain ⟨ay, _, p2, _⟩ := I1.tuple hy
  obtain ⟨az, _, p3, _⟩ := I1.tuple hz0
  have lt : ∀ {d : Addr} {its : Array Value}, s1.heap.IsTuple d its → d < s1.heap.objs.size := fun p => Heap.lt_size p.choose_spec.1
  refine zip_begins3 (begins_tuple a ax.toArray) (begins_tuple b ay.toArray) (begins_tuple c az.toArray) p1 p2 p3 fun h' gz gT gO g1 g2 g3 _ hk => wpAny_pyIter_zip gz ?_
  have I2 : Inv X pins σ H1 { s1 with heap := h' } := I1.kept (t' := s1.toks) hk
  have fok : ∀ k, FpOk X pins H1 (s1.heap.objs.size + k) := fun k => I1.fpOk (Nat.le_add_right _ _) (I1.hok.fresh (Nat.le_add_right _ _))
  refine ⟨_, [s1.heap.objs.size + 5, s1.heap.objs.size + 3, s1.heap.objs.size + 4, s1.heap.objs.size, s1.heap.objs.size + 1, s1.heap.objs.size + 2], _, _, H1, rfl, I2, turn_zip3 (zip_sep3 (fun d hd => by rw [List.mem_singleton.mp hd]; exact lt p1) (fun d hd => by rw [List.mem_singleton.mp hd]; exact lt p2) (fun d hd => by rw [List.mem_singleton.mp hd]; exact lt p3)), ⟨gz, gT, ⟨_, _, _, gO⟩, ⟨_, g1, rfl, rfl⟩, ⟨_, g2, rfl, rfl⟩, ⟨_, g3, rfl, rfl⟩⟩, fun d hd => ?_, q⟩
  simp only [List.mem_cons, List.not_mem_nil, or_false] at hd
  rcases hd with rfl | rfl | rfl | rfl | rfl | rfl
  · exact fok 5
  · exact fok 3
  · exact fok 4
  · exact fok 0
  · exact fok 1
  · exact fok 2
def YTri (xs ys zs : Nat → Option V) : Nat → Hp → V → Hp → Prop := fun i H v H' => ∃ T x y z, v = .ref T ∧ H T = none ∧ H' = upd H T (.tup [x, y, z]) ∧ xs i = some x ∧ ys i = some y ∧ zs i = some z
theorem walk_zip3 {K : PySem.W.Frag} {a b c : Addr} {xs ys zs : List V} (h1 : xs.length = ys.length) (h2 : xs.length = zs.length) : Walk (Itz3 K a b c) xs.length (fun H => SqT K H a xs ∧ SqT K H b ys ∧ SqT K H c zs) (YTri (fun i => xs[i]?) (fun i => ys[i]?) (fun i => zs[i]?)) := by
  refine ⟨fun i _ hi q => ⟨xs, ys, zs, xs[i], ys[i], zs[i], q.1, q.2.1, q.2.2, by simp [hi], by simp [h1 ▸ hi], by simp [h2 ▸ hi]⟩, fun _ q => ⟨xs, ys, zs, q.1, q.2.1, q.2.2, rfl, h1.symm, h2.symm⟩, fun i H v H' _ q y => ?_⟩
  obtain ⟨T, x, y, z, e1, e2, e3, e4, e5, e6⟩ := y
  exact ⟨T, x, y, z, e1, e2, e3, e4 xs q.1, e5 ys q.2.1, e6 zs q.2.2⟩
end RV
set_option linter.all false
/-! worlds: readings, wrong and silent meters -/
namespace RV
open PySem L2 PySem.Spec PyProof.Rows TL
section
variable {J : It} {n : Nat} {GG : Hp → Prop} {Y : Nat → Hp → V → Hp → Prop} {g : TG} {tt : TT} {tk tv : TE} {vs : List Nat} {σ : L2.St} {H1 : Hp} {D : Addr} {Qd : Hp → Prop}
/-- a dict comprehension over a walk -/
theorem dc_it (wk : Walk J n GG Y) (Pv : Nat → Hp → Prop) (h0 : Pv 0 (upd H1 D (.dK []))) (hG : ∀ i H', i ≤ n → Pv i H' → GG H')
    (hs : ∀ i x Ha Hb, i < n → Pv i Ha → Y i Ha x Hb → g x (wipe σ vs) Hb fun σ2 H2 => wipe σ2 vs = wipe σ vs ∧ tt σ2 H2 fun b H3 =>
      if b = true then tk σ2 H3 fun y H4 => tv σ2 H4 fun z H5 => ∃ kvs k, y = kV k ∧ H5 D = some (.dK kvs) ∧ kvs.length < sizeLine ∧ Pv (i + 1) (upd H5 D (.dK (putK kvs k z))) else Pv (i + 1) H3) (hd : ∀ H', Pv n H' → Qd H') :
    ∃ W : Nat → Nat → Hp → Prop, (∃ m, W 0 m (upd H1 D (.dK []))) ∧ ∀ i m H, W i m H →
      (J.stop i H ∧ Qd H) ∨ (J.go i H ∧ ∃ Nx : Hp → Prop, (∀ H', Nx H' → ∃ m', m' < m ∧ W (i + 1) m' H') ∧ ∀ x H', J.yld i H x H' → g x (wipe σ vs) H' fun σ2 H2 => wipe σ2 vs = wipe σ vs ∧ tt σ2 H2 fun b H3 =>
        if b = true then tk σ2 H3 fun y H4 => tv σ2 H4 fun z H5 => ∃ kvs k, y = kV k ∧ H5 D = some (.dK kvs) ∧ kvs.length < sizeLine ∧ Nx (upd H5 D (.dK (putK kvs k z))) else Nx H3) := by
  refine ⟨fun i m H' => m = n - i ∧ i ≤ n ∧ Pv i H', ⟨n, by simp, Nat.zero_le _, h0⟩, fun i m H' z => ?_⟩
  obtain ⟨rfl, hi, p⟩ := z
  by_cases hlt : i < n
  · exact .inr ⟨wk.goes i H' hlt (hG i H' hi p), Pv (i + 1), fun H'' p' => ⟨n - (i + 1), by omega, rfl, hlt, p'⟩, fun x H'' y => hs i x H' H'' hlt p (wk.yields i H' x H'' hlt (hG i H' hi p) y)⟩
  · obtain rfl : i = n := by omega
    exact .inl ⟨wk.stops H' (hG i H' hi p), hd H' p⟩
end
abbrev gTri (K : PySem.W.Frag) (i j l : Nat) : TG := gTup K 3 (gCons (gName i) (gCons (gName j) (gCons (gName l) gNil)))
section
variable {K : PySem.W.Frag} {a b c : Addr} {xs ys zs : List V} {D : Addr} {te : TE} {tt : TT} {vs : List Nat} {σ : L2.St} {H1 : Hp} {Qd : Hp → Prop} {i j l : Nat}
abbrev s3 (σ : L2.St) (i j l : Nat) (x y z : V) : L2.St := ((σ.set i (some x)).set j (some y)).set l (some z)
/-- over three tuples: the turns that the test keeps -/
theorem lc_zip3 (p : Nat → Bool) (val : Nat → V) (ha : SqT K H1 a xs) (hb : SqT K H1 b ys) (hc : SqT K H1 c zs) (h1 : xs.length = ys.length) (h2 : xs.length = zs.length) (len : xs.length ≤ 1000) (nD : H1 D = none) (hw : ∀ x y z, wipe (s3 (wipe σ vs) i j l x y z) vs = wipe σ vs)
    (ht : ∀ (k : Nat) (x y z : V), xs[k]? = some x → ys[k]? = some y → zs[k]? = some z → ∀ H2, Same H1 H2 → ∀ R : Bool → Hp → Prop, (∀ H3, Same H2 H3 → R (p k) H3) → tt (s3 (wipe σ vs) i j l x y z) H2 R)
    (he : ∀ (k : Nat) (x y z : V), xs[k]? = some x → ys[k]? = some y → zs[k]? = some z → p k = true → ∀ H2, Same H1 H2 → ∀ R : VK, (∀ H3, Same H2 H3 → R (val k) H3) → te (s3 (wipe σ vs) i j l x y z) H2 R)
    (k : ∀ H', Same H1 H' → H' D = some (.lst (((List.range xs.length).filter p).map val)) → Qd H') :
    ∃ W : Nat → Nat → Hp → Prop, (∃ m, W 0 m (upd H1 D (.lst []))) ∧ ∀ i' m H, W i' m H →
      ((Itz3 K a b c).stop i' H ∧ Qd H) ∨ ((Itz3 K a b c).go i' H ∧ ∃ Nx : Hp → Prop, (∀ H', Nx H' → ∃ m', m' < m ∧ W (i' + 1) m' H') ∧ ∀ x H', (Itz3 K a b c).yld i' H x H' → gTri K i j l x (wipe σ vs) H' fun σ2 H2 => wipe σ2 vs = wipe σ vs ∧ tt σ2 H2 fun b H3 =>
        if b = true then te σ2 H3 fun y H4 => ∃ acc, H4 D = some (.lst acc) ∧ acc.length < sizeLine ∧ Nx (upd H4 D (.lst (acc ++ [y]))) else Nx H3) := by
  refine L2.lc_it (walk_zip3 (K := K) (xs := xs) (ys := ys) (zs := zs) h1 h2) (fun m H' => Same H1 H' ∧ H' D = some (.lst (((List.range m).filter p).map val))) ⟨fun b o e => (upd_ne (ne_of_none e nD)).trans e, upd_same⟩ (fun m H' _ z => ⟨ha.ext z.1, hb.ext z.1, hc.ext z.1⟩) (fun m v Ha Hb hm hv y => ?_) (fun H' hv => k H' hv.1 hv.2)
  obtain ⟨s, eD⟩ := hv
  obtain ⟨T, x, z, u, rfl, nT, rfl, hx, hz, hu⟩ := y
  have sT : Same Ha (upd Ha T (.tup [x, z, u])) := fun b o e => (upd_ne (ne_of_none e nT)).trans e
  have eDT := sT _ _ eD
  refine ⟨T, _, rfl, SqT.of upd_same, rfl, _, _, rfl, _, _, rfl, _, _, rfl, rfl, hw x z u, ht m x z u hx hz hu _ (s.trans sT) _ fun H3 s3 => ?_⟩
  have eD3 := s3 _ _ eDT
  have sH : Same H1 H3 := (s.trans sT).trans s3
  cases hp : p m with
  | false =>
    refine iteF ⟨sH, ?_⟩
    rw [eD3, List.range_succ, List.filter_append, List.filter_cons_of_neg (by rw [hp]; decide), List.filter_nil, List.append_nil]
  | true =>
    refine iteT (he m x z u hx hz hu hp H3 sH _ fun H4 s4 => ⟨_, s4 _ _ eD3, ?_, fun b o e => ?_, ?_⟩)
    · rw [List.length_map]
      have l1 := List.length_filter_le p (List.range m)
      rw [List.length_range] at l1
      exact Nat.lt_of_le_of_lt l1 (Nat.lt_of_lt_of_le hm (Nat.le_trans len (by decide)))
    · rw [upd_ne (ne_of_none e nD)]
      exact s4 _ _ (sH _ _ e)
    · rw [upd_same, List.range_succ, List.filter_append, List.filter_cons_of_pos hp, List.filter_nil, List.map_append]
      rfl
end
/-! ### readings -/
def vO : Option Int → V
  | none => .non
  | some c => .int c
def vR (rs : List (Option Int)) : List V := rs.map vO
theorem vO_non (o : Option Int) : decide (vO o = V.non) = o.isNone := by cases o <;> rfl
def mN (ms : List M3) (k : Nat) : Str := (ms.getD k ("", "", false)).1
def mA (ms : List M3) (k : Nat) : Str := (ms.getD k ("", "", false)).2.1
def mZ (ms : List M3) (k : Nat) : Bool := (ms.getD k ("", "", false)).2.2
def rO (rs : List (Option Int)) (k : Nat) : Option Int := rs.getD k none
theorem m_at {ms : List M3} {k : Nat} {q : M3} (h : ms[k]? = some q) : mN ms k = q.1 ∧ mA ms k = q.2.1 ∧ mZ ms k = q.2.2 := by simp [mN, mA, mZ, List.getD, h]
/-- the flow of the pipe of this name -/
def amt (ps : List P3) (fs : List Int) (y : Str) : Int := match ps.findIdx? fun p => decide (p.1 = y) with
  | some k => rwf fs k
  | none => 0
def rdF (ps : List P3) (ms : List M3) (fs : List Int) : List Int := ms.map fun m => amt ps fs m.2.1
structure RdOk (ms : List M3) (rs : List (Option Int)) : Prop where
  len : rs.length = ms.length
  sea : ∀ k, k < ms.length → mZ ms k = true → rO rs k ≠ none
structure WdOk (ps : List P3) (ms : List M3) (fs : List Int) (rs : List (Option Int)) : Prop where
  fl : fs.length = ps.length
  fw : flwB ps fs = true
  rd : RdOk ms rs
  sea : ∀ k, k < ms.length → mZ ms k = true → rO rs k = some (amt ps fs (mA ms k))
def wrB (ps : List P3) (ms : List M3) (fs : List Int) (rs : List (Option Int)) (k : Nat) : Bool := match rO rs k with
  | some v => decide (v ≠ amt ps fs (mA ms k))
  | none => false
def wrN (ps : List P3) (ms : List M3) (fs : List Int) (rs : List (Option Int)) : List Str := ((List.range ms.length).filter (wrB ps ms fs rs)).map (mN ms)
def slN (ms : List M3) (rs : List (Option Int)) : List Str := ((List.range ms.length).filter fun k => (rO rs k).isNone).map (mN ms)
def Asc (xs zs : List Str) : Prop := PyProof.Rows.sortedS zs = true ∧ zs.Perm xs
theorem Asc.uniq {xs ys zs : List Str} (nd : xs.Nodup) (h : Asc xs ys) (h' : Asc xs zs) : ys = zs :=
  asc_uniq Lt.irr Lt.tr (asc_of h.1 (h.2.nodup_iff.mpr nd)) (asc_of h'.1 (h'.2.nodup_iff.mpr nd)) fun x => by rw [h.2.mem_iff, h'.2.mem_iff]
theorem mN_nodup {ms : List M3} (nd : (ms.map (·.1)).Nodup) (p : Nat → Bool) : (((List.range ms.length).filter p).map (mN ms)).Nodup := by
  have e : (List.range ms.length).map (mN ms) = ms.map (·.1) := by
    refine List.ext_getElem? fun k => ?_
    rw [List.getElem?_map, List.getElem?_map]
    by_cases h : k < ms.length
    · rw [List.getElem?_range h, List.getElem?_eq_getElem h]
      simp [mN, List.getD, h]
    · rw [List.getElem?_eq_none (by rw [List.length_range]; omega), List.getElem?_eq_none (by omega)]
      rfl
  exact List.Nodup.sublist (List.Sublist.map _ List.filter_sublist) (e ▸ nd)
section
variable (K : PySem.W.Frag) (CN CP CM : Addr)
/-- a pair of a flow and readings -/
def WAt (H : Hp) (a : Addr) (fs : List Int) (rs : List (Option Int)) : Prop := ∃ tf tr, SqT K H a [.ref tf, .ref tr] ∧ SqT K H tf (fs.map V.int) ∧ SqT K H tr (vR rs)
def sp_rof : Sp := fun vs H Q _ => ∃ (x t : Addr) (ps : List P3) (ms : List M3) (fs : List Int), vs = [.ref x, .ref t] ∧ NetR K CN CP CM H x ps ms ∧ POk ps ∧ MOk ps ms ∧ SqT K H t (fs.map V.int) ∧ fs.length = ps.length ∧ flwB ps fs = true ∧
  ∀ (r : Addr) H', Same H H' → H' r = some (.tup ((rdF ps ms fs).map V.int)) → Q (.ref r) H'
def sp_isr : Sp := fun vs H Q _ => ∃ (a : Addr) (m : M3) (o : Option Int), vs = [.ref a, vO o] ∧ MetAt CM H a m ∧ Q (.bl (o.isSome || !m.2.2)) H
def sp_chr : Sp := fun vs H Q _ => ∃ (x t : Addr) (ps : List P3) (ms : List M3) (rs : List (Option Int)), vs = [.ref x, .ref t] ∧ NetR K CN CP CM H x ps ms ∧ ms.length ≤ 12 ∧ SqT K H t (vR rs) ∧ RdOk ms rs ∧ ∀ H', Same H H' → Q .non H'
def sp_are : Sp := fun vs H Q _ => ∃ (x t : Addr) (ps : List P3) (ms : List M3) (rs : List (Option Int)), vs = [.ref x, .ref t] ∧ NetR K CN CP CM H x ps ms ∧ ms.length ≤ 12 ∧ SqT K H t (vR rs) ∧ RdOk ms rs ∧ ∀ H', Same H H' → Q (.bl true) H'
def sp_seal : Sp := fun vs H Q _ => ∃ (x t r : Addr) (ps : List P3) (ms : List M3) (fs : List Int) (rs : List (Option Int)), vs = [.ref x, .ref t, .ref r] ∧ NetR K CN CP CM H x ps ms ∧ POk ps ∧ MOk ps ms ∧ SqT K H t (fs.map V.int) ∧ SqT K H r (vR rs) ∧ WdOk ps ms fs rs ∧ ∀ H', Same H H' → Q (.bl true) H'
def sp_isw : Sp := fun vs H Q _ => ∃ (x a : Addr) (ps : List P3) (ms : List M3) (fs : List Int) (rs : List (Option Int)), vs = [.ref x, .ref a] ∧ NetR K CN CP CM H x ps ms ∧ POk ps ∧ MOk ps ms ∧ WAt K H a fs rs ∧ WdOk ps ms fs rs ∧ ∀ H', Same H H' → Q (.bl true) H'
def sp_chw : Sp := fun vs H Q _ => ∃ (x a : Addr) (ps : List P3) (ms : List M3) (fs : List Int) (rs : List (Option Int)), vs = [.ref x, .ref a] ∧ NetR K CN CP CM H x ps ms ∧ POk ps ∧ MOk ps ms ∧ WAt K H a fs rs ∧ WdOk ps ms fs rs ∧ ∀ H', Same H H' → Q .non H'
def sp_sln : Sp := fun vs H Q _ => ∃ (x t : Addr) (ps : List P3) (ms : List M3) (rs : List (Option Int)), vs = [.ref x, .ref t] ∧ NetR K CN CP CM H x ps ms ∧ ms.length ≤ 12 ∧ SqT K H t (vR rs) ∧ rs.length = ms.length ∧
  ∀ (l : Addr) H', Same H H' → H l = none → H' l = some (.lst ((slN ms rs).map V.str)) → Q (.ref l) H'
def sp_wrm : Sp := fun vs H Q _ => ∃ (x a : Addr) (ps : List P3) (ms : List M3) (fs : List Int) (rs : List (Option Int)), vs = [.ref x, .ref a] ∧ NetR K CN CP CM H x ps ms ∧ POk ps ∧ MOk ps ms ∧ WAt K H a fs rs ∧ WdOk ps ms fs rs ∧
  ∀ (t : Addr) (zs : List Str) H', Same H H' → SqT K H' t (zs.map V.str) → Asc (wrN ps ms fs rs) zs → Q (.ref t) H'
def sp_slm : Sp := fun vs H Q _ => ∃ (x a : Addr) (ps : List P3) (ms : List M3) (fs : List Int) (rs : List (Option Int)), vs = [.ref x, .ref a] ∧ NetR K CN CP CM H x ps ms ∧ POk ps ∧ MOk ps ms ∧ WAt K H a fs rs ∧ WdOk ps ms fs rs ∧
  ∀ (t : Addr) (zs : List Str) H', Same H H' → SqT K H' t (zs.map V.str) → Asc (slN ms rs) zs → Q (.ref t) H'
end
end RV
set_option linter.all false
/-! two worlds with the same readings -/
namespace RV
open PySem L2 PySem.Spec PyProof.Rows TL
/-- what is seen in the world without flow and in the one with a ring -/
def seen (a c : Int) : Int → List Int → List (Option Int)
  | _, [] => []
  | met, v :: vs => if v = 0 then some 0 :: seen a c met vs else (if met < a then some v else if met < a + c then none else some 0) :: seen a c (met + 1) vs
def met (m : Int) : List Int → Int
  | [] => m
  | v :: vs => if v = 0 then met m vs else met (m + 1) vs
theorem seen_app (a c : Int) : ∀ (m : Int) (vs : List Int) (v : Int), seen a c m (vs ++ [v]) = seen a c m vs ++ seen a c (met m vs) [v]
  | m, [], v => rfl
  | m, u :: vs, v => by
    rw [List.cons_append, seen, seen, met]
    by_cases e : u = 0
    · rw [if_pos e, if_pos e, if_pos e, seen_app a c m vs v, List.cons_append]
    · rw [if_neg e, if_neg e, if_neg e, seen_app a c (m + 1) vs v, List.cons_append]
theorem met_app : ∀ (m : Int) (vs : List Int) (v : Int), met m (vs ++ [v]) = if v = 0 then met m vs else met m vs + 1
  | m, [], v => by simp [met]
  | m, u :: vs, v => by
    rw [List.cons_append, met, met]
    by_cases e : u = 0
    · rw [if_pos e, if_pos e, met_app m vs v]
    · rw [if_neg e, if_neg e, met_app (m + 1) vs v]
theorem seen_len (a c : Int) : ∀ (m : Int) (vs : List Int), (seen a c m vs).length = vs.length
  | m, [] => rfl
  | m, v :: vs => by
    rw [seen]
    by_cases e : v = 0
    · rw [if_pos e, List.length_cons, List.length_cons, seen_len a c m vs]
    · rw [if_neg e, List.length_cons, List.length_cons, seen_len a c (m + 1) vs]
def isW1 (o : Option Int) : Bool := match o with
  | some r => decide (r ≠ 0)
  | none => false
def isW2 (q : Int × Option Int) : Bool := match q.2 with
  | some r => decide (r ≠ q.1)
  | none => false
def nz (vs : List Int) : Nat := (vs.filter fun v => decide (v ≠ 0)).length
theorem seen_w1 (a c : Int) : ∀ (m : Int) (vs : List Int), ((seen a c m vs).filter isW1).length = 0 ∨ (((seen a c m vs).filter isW1).length : Int) + m ≤ a
  | m, [] => .inl rfl
  | m, v :: vs => by
    rw [seen]
    by_cases e : v = 0
    · rw [if_pos e, List.filter_cons_of_neg (by simp [isW1])]
      exact seen_w1 a c m vs
    · rw [if_neg e]
      have ih := seen_w1 a c (m + 1) vs
      by_cases h : m < a
      · rw [if_pos h, List.filter_cons_of_pos (by simp [isW1, e]), List.length_cons]
        omega
      · rw [if_neg h, List.filter_cons_of_neg (by split <;> simp [isW1])]
        omega
theorem seen_no (a c : Int) : ∀ (m : Int) (vs : List Int), ((seen a c m vs).filter Option.isNone).length = 0 ∨ (((seen a c m vs).filter Option.isNone).length : Int) + m ≤ a + c ∧ (((seen a c m vs).filter Option.isNone).length : Int) ≤ c
  | m, [] => .inl rfl
  | m, v :: vs => by
    rw [seen]
    by_cases e : v = 0
    · rw [if_pos e, List.filter_cons_of_neg (by simp)]
      exact seen_no a c m vs
    · rw [if_neg e]
      have ih := seen_no a c (m + 1) vs
      by_cases h : m < a
      · rw [if_pos h, List.filter_cons_of_neg (by simp)]
        omega
      · rw [if_neg h]
        by_cases h2 : m < a + c
        · rw [if_pos h2, List.filter_cons_of_pos (by simp), List.length_cons]
          omega
        · rw [if_neg h2, List.filter_cons_of_neg (by simp)]
          omega
theorem seen_w2 (a c : Int) : ∀ (m : Int) (vs : List Int), ((vs.zip (seen a c m vs)).filter isW2).length ≤ nz vs ∧ (((vs.zip (seen a c m vs)).filter isW2).length = 0 ∨ (((vs.zip (seen a c m vs)).filter isW2).length : Int) + (a + c) ≤ m + nz vs)
  | m, [] => ⟨Nat.le_refl _, .inl rfl⟩
  | m, v :: vs => by
    rw [seen]
    by_cases e : v = 0
    · rw [if_pos e, List.zip_cons_cons, List.filter_cons_of_neg (by simp [isW2, e]), nz, List.filter_cons_of_neg (by simp [e]), ← nz]
      exact seen_w2 a c m vs
    · have hn : nz (v :: vs) = nz vs + 1 := by rw [nz, List.filter_cons_of_pos (by simp [e]), List.length_cons, ← nz]
      rw [if_neg e, hn]
      have ih := seen_w2 a c (m + 1) vs
      by_cases h : m < a
      · rw [if_pos h, List.zip_cons_cons, List.filter_cons_of_neg (by simp [isW2])]
        omega
      · rw [if_neg h]
        by_cases h2 : m < a + c
        · rw [if_pos h2, List.zip_cons_cons, List.filter_cons_of_neg (by simp [isW2])]
          omega
        · rw [if_neg h2, List.zip_cons_cons, List.filter_cons_of_pos (by simp [isW2]; exact fun z => e z.symm), List.length_cons]
          omega
/-- where the flow is 0 it is seen -/
theorem seen_zero (a c : Int) : ∀ (m : Int) (vs : List Int) (k : Nat), k < vs.length → vs.getD k 0 = 0 → rO (seen a c m vs) k = some 0
  | m, v :: vs, 0, _, h => by
    have h : v = 0 := h
    rw [seen, if_pos h]
    rfl
  | m, v :: vs, k + 1, hk, h => by
    have ih1 := seen_zero a c m vs k (by simpa using hk) h
    have ih2 := seen_zero a c (m + 1) vs k (by simpa using hk) h
    rw [seen]
    by_cases e : v = 0
    · rw [if_pos e]
      exact ih1
    · rw [if_neg e]
      exact ih2
/-- only -1, 0, 1 and silence are seen -/
theorem seen_small (a c : Int) : ∀ (m : Int) (vs : List Int), (∀ v ∈ vs, trit v) → ∀ o ∈ seen a c m vs, o = none ∨ ∃ v, o = some v ∧ trit v
  | m, [], _, o, h => nomatch h
  | m, v :: vs, ht, o, h => by
    rw [seen] at h
    have ht2 := fun u hu => ht u (List.mem_cons_of_mem _ hu)
    by_cases e : v = 0
    · rw [if_pos e] at h
      rcases List.mem_cons.mp h with rfl | h
      · exact .inr ⟨0, rfl, .inl rfl⟩
      · exact seen_small a c m vs ht2 o h
    · rw [if_neg e] at h
      rcases List.mem_cons.mp h with rfl | h
      · split
        · exact .inr ⟨v, rfl, ht v List.mem_cons_self⟩
        · split
          · exact .inl rfl
          · exact .inr ⟨0, rfl, .inl rfl⟩
      · exact seen_small a c (m + 1) vs ht2 o h
theorem range_filter {α : Type} (d : α) (p : α → Bool) (xs : List α) : ((List.range xs.length).filter fun k => p (xs.getD k d)).length = (xs.filter p).length := by
  have e : xs = (List.range xs.length).map fun k => xs.getD k d := by
    refine List.ext_getElem? fun k => ?_
    rw [List.getElem?_map]
    by_cases h : k < xs.length
    · rw [List.getElem?_range h, List.getElem?_eq_getElem h]
      simp [List.getD, h]
    · rw [List.getElem?_eq_none (by omega), List.getElem?_eq_none (by rw [List.length_range]; omega)]
      rfl
  conv => rhs; rw [e, List.filter_map, List.length_map]
  rfl
section
variable (K : PySem.W.Frag) (CN CP CM : Addr)
def sp_seen : Sp := fun vs H Q _ => ∃ (x t f : Addr) (ps : List P3) (ms : List M3) (fs : List Int) (a b c : Int), vs = [.ref x, .ref t, .ref f] ∧ NetR K CN CP CM H x ps ms ∧ POk ps ∧ MOk ps ms ∧ SqT K H t (fs.map V.int) ∧ fs.length = ps.length ∧ flwB ps fs = true ∧ SqT K H f [.int a, .int b, .int c] ∧
  ∀ (r : Addr) H', Same H H' → SqT K H' r (vR (seen a c 0 (rdF ps ms fs))) → Q (.ref r) H'
/-- two worlds with the same readings -/
def MisAt (H : Hp) (t : Addr) (n : Nat) (fs : List Int) (rs : List (Option Int)) : Prop := ∃ u v tf tg tr, SqT K H t [.ref u, .ref v] ∧ SqT K H u [.ref tf, .ref tr] ∧ SqT K H v [.ref tg, .ref tr] ∧ SqT K H tf ((List.replicate n (0 : Int)).map V.int) ∧ SqT K H tg (fs.map V.int) ∧ SqT K H tr (vR rs)
def sp_misl : Sp := fun vs H Q _ => ∃ (x t : Addr) (ps : List P3) (ms : List M3) (y : Str) (a b c : Int), vs = [.ref x, .str y, .ref t] ∧ NetR K CN CP CM H x ps ms ∧ POk ps ∧ MOk ps ms ∧ y ∈ ps.map (·.1) ∧ SqT K H t [.int a, .int b, .int c] ∧ Flt a b c ∧
  (tellB (strP ps ms y) (a + b + c) = true → ∀ H', Same H H' → Q .non H') ∧
  ∀ (n : Nat) (r : Addr) fs H', strP ps ms y = some n → (n : Int) ≤ a + b + c → RingF ps ms y n fs → Same H H' → MisAt K H' r ps.length fs (seen a c 0 (rdF ps ms fs)) → Q (.ref r) H'
end
theorem RingF.flw {ps : List P3} {ms : List M3} {y : Str} {c : Nat} {fs : List Int} (h : RingF ps ms y c fs) : flwB ps fs = true := by
  obtain ⟨hl, i, hi, ei, hr, hc⟩ := h
  exact (flwB_iff hl).mpr fun z => hr.kept z
end RV
set_option linter.all false
/-! lists of indexes; worlds of models -/
namespace RV
open PySem L2 PySem.Spec PyProof.Rows TL
def vI (k : Nat) : V := .int (k : Int)
theorem rgL_eq (n : Nat) : rgL n = (List.range n).map vI := rfl
section
variable {K : PySem.W.Frag} {D : Addr} {te : TE} {tt : TT} {vs : List Nat} {σ : L2.St} {H1 : Hp} {Qd : Hp → Prop} {i : Nat} {J : It} {GG : Hp → Prop}
theorem lc_idx (L : List Nat) (p : Nat → Bool) (val : Nat → V) (wk : Walk J (L.map vI).length GG (YAt (L.map vI))) (nD : H1 D = none) (len : L.length ≤ 1000) (hG : ∀ H', Same H1 H' → GG H') (hw : ∀ x, wipe ((wipe σ vs).set i x) vs = wipe σ vs)
    (ht : ∀ k ∈ L, ∀ H2, Same H1 H2 → ∀ R : Bool → Hp → Prop, (∀ H3, Same H2 H3 → R (p k) H3) → tt ((wipe σ vs).set i (some (vI k))) H2 R)
    (he : ∀ k ∈ L, p k = true → ∀ H2, Same H1 H2 → ∀ R : VK, (∀ H3, Same H2 H3 → R (val k) H3) → te ((wipe σ vs).set i (some (vI k))) H2 R)
    (k : ∀ H', Same H1 H' → H' D = some (.lst ((L.filter p).map val)) → Qd H') :
    ∃ W : Nat → Nat → Hp → Prop, (∃ m, W 0 m (upd H1 D (.lst []))) ∧ ∀ i' m H, W i' m H →
      (J.stop i' H ∧ Qd H) ∨ (J.go i' H ∧ ∃ Nx : Hp → Prop, (∀ H', Nx H' → ∃ m', m' < m ∧ W (i' + 1) m' H') ∧ ∀ x H', J.yld i' H x H' → gName i x (wipe σ vs) H' fun σ2 H2 => wipe σ2 vs = wipe σ vs ∧ tt σ2 H2 fun b H3 =>
        if b = true then te σ2 H3 fun y H4 => ∃ acc, H4 D = some (.lst acc) ∧ acc.length < sizeLine ∧ Nx (upd H4 D (.lst (acc ++ [y]))) else Nx H3) := by
  refine L2.lc_it wk (fun m H' => Same H1 H' ∧ H' D = some (.lst (((L.take m).filter p).map val))) ⟨fun b o e => (upd_ne (ne_of_none e nD)).trans e, upd_same⟩ (fun m H' _ z => hG _ z.1) (fun m x Ha Hb hm hv y => ?_) (fun H' hv => ?_)
  · obtain ⟨s, eD⟩ := hv
    obtain ⟨rfl, hx⟩ := y
    rw [List.getElem?_map] at hx
    cases hu : L[m]? with
    | none => rw [hu] at hx; cases hx
    | some u =>
      rw [hu] at hx
      obtain rfl : vI u = x := Option.some.inj hx
      have hmem := List.mem_of_getElem? hu
      have et : L.take (m + 1) = L.take m ++ [u] := by rw [List.take_add_one, hu]; rfl
      refine ⟨hw _, ht u hmem Hb s _ fun H3 s3 => ?_⟩
      have eD3 := s3 _ _ eD
      have sH : Same H1 H3 := s.trans s3
      cases hp : p u with
      | false =>
        refine iteF ⟨sH, ?_⟩
        rw [eD3, et, List.filter_append, List.filter_cons_of_neg (by rw [hp]; decide), List.filter_nil, List.append_nil]
      | true =>
        refine iteT (he u hmem hp H3 sH _ fun H4 s4 => ⟨_, s4 _ _ eD3, ?_, fun b o e => ?_, ?_⟩)
        · rw [List.length_map]
          have l1 := List.length_filter_le p (L.take m)
          have l2 := List.length_take_le' m L
          exact Nat.lt_of_le_of_lt (Nat.le_trans l1 (Nat.le_trans l2 len)) (by decide)
        · rw [upd_ne (ne_of_none e nD)]
          exact s4 _ _ (sH _ _ e)
        · rw [upd_same, et, List.filter_append, List.filter_cons_of_pos hp, List.filter_nil, List.map_append]
          rfl
  · obtain ⟨s, eD⟩ := hv
    rw [List.length_map, List.take_length] at eD
    exact k H' s eD
end
theorem walk_idx {L : List Nat} {K : PySem.W.Frag} {a : Addr} : Walk (Itl K a) (L.map vI).length (fun H => SqL K H a (L.map vI)) (YAt (L.map vI)) := walk_list
theorem walk_rgi {n : Nat} : Walk (Itr 0 n) ((List.range n).map vI).length (fun _ => True) (YAt ((List.range n).map vI)) := walk_rgL
def sp_lw (K : PySem.W.Frag) : Sp := fun vs H Q _ => ∃ (l a : Addr) (M : Mod) (most more : Nat) (fs : List Int) (rs : List (Option Int)), vs = [.ref l, .ref a] ∧ MdAt H l M ∧ MdOk M most more ∧ most ≤ 12 ∧ more ≤ 12 ∧ WAt K H a fs rs ∧ WdOk M.ps M.ms fs rs ∧ (∀ c ∈ rs, True) ∧
  ∀ (r lw lm : Addr) H', Same H H' → H' r = some (.lst [.ref lw, .ref lm]) → H' lw = some (.lst (((List.range M.ms.length).filter (wrB M.ps M.ms fs rs)).map vI)) → H' lm = some (.lst (((List.range M.ms.length).filter fun k => (rO rs k).isNone).map vI)) → Q (.ref r) H'
/-- models: meters by index -/
theorem ms_at {M : Mod} {most more : Nat} (ok : MdOk M most more) {k : Nat} {g : G3} (h : M.gs[k]? = some g) : mN M.ms k = g.1 ∧ mA M.ms k = pN M.ps g.2.1 ∧ mZ M.ms k = g.2.2 ∧ g.2.1 < M.qs.length := by
  have hl := (ok.gn g (List.mem_of_getElem? h)).2
  have e : M.ms[k]? = some (g.1, (M.qs.getD g.2.1 ("", 0, 0)).1, g.2.2) := by rw [Mod.ms, List.getElem?_map, h]; rfl
  obtain ⟨a, b, c⟩ := m_at e
  exact ⟨a, by rw [b, pN_q hl], c, hl⟩
theorem ms_len (M : Mod) : M.ms.length = M.gs.length := by rw [Mod.ms, List.length_map]
theorem amt_M {M : Mod} {most more : Nat} (ok : MdOk M most more) {fs : List Int} {k : Nat} (hk : k < M.qs.length) : amt M.ps fs (pN M.ps k) = rwf fs k := by
  have nd : (M.ps.map (·.1)).Nodup := by rw [Mod.names]; exact ok.qd
  have hk' : k < M.ps.length := by rw [ps_len]; exact hk
  have h : M.ps.findIdx? (fun p => decide (p.1 = pN M.ps k)) = some k := by
    rw [List.findIdx?_eq_some_iff_getElem]
    have hg := pN_at (List.getElem?_eq_getElem hk')
    refine ⟨hk', decide_eq_true hg.1.symm, fun j hj => ?_⟩
    have hg2 := pN_at (ps := M.ps) (List.getElem?_eq_getElem (show j < M.ps.length by omega))
    intro e
    have e := of_decide_eq_true e
    exact absurd (pN_inj nd (show j < _ by omega) hk' (hg2.1.trans e)) (by omega)
  rw [amt, h]
theorem kept_of_flw {M : Mod} {most more : Nat} (ok : MdOk M most more) {fs : List Int} (hl : fs.length = M.ps.length) (h : flwB M.ps fs = true) : keptB M fs = true :=
  (keptB_iff ok fs).mpr fun x => by
    have := (flwB_iff hl).mp h x
    rwa [dvP, ps_len] at this
end RV
set_option linter.all false
/-! misleading pairs of models -/
namespace RV
open PySem L2 PySem.Spec PyProof.Rows TL
def dI (k : Nat) : PyData := .int (k : Int)
def dR (o : Option Int) : PyData := match o with
  | none => .none
  | some c => .int c
section
variable {K : PySem.W.Frag} {H : Hp}
theorem dps_I : ∀ xs : List Nat, DpAll K H (xs.map vI) (xs.map dI)
  | [] => .nil
  | x :: xs => .cons (.int _) (dps_I xs)
theorem dp_R : ∀ o : Option Int, Dp K H (vO o) (dR o)
  | none => .non
  | some c => .int c
theorem dps_R : ∀ xs : List (Option Int), DpAll K H (vR xs) (xs.map dR)
  | [] => .nil
  | x :: xs => .cons (dp_R x) (dps_R xs)
theorem dps_S : ∀ xs : List Str, DpAll K H (xs.map V.str) (xs.map PyData.str)
  | [] => .nil
  | x :: xs => .cons (.str _) (dps_S xs)
end
theorem lay_I : ∀ xs : List Nat, PyData.canLayAll0 (xs.map dI) = true
  | [] => by simp [PyData.canLayAll0]
  | x :: xs => by simp [PyData.canLayAll0, PyData.canLay0, dI, lay_I xs]
theorem lay_S : ∀ xs : List Str, (∀ x ∈ xs, PyData.strOk x = true) → PyData.canLayAll0 (xs.map PyData.str) = true
  | [], _ => by simp [PyData.canLayAll0]
  | x :: xs, h => by simp [PyData.canLayAll0, PyData.canLay0, h x List.mem_cons_self, lay_S xs fun y hy => h y (List.mem_cons_of_mem _ hy)]
theorem eqv_strs : ∀ xs : List Str, PyData.eqvAll (xs.map PyData.str) (xs.map PyData.str) = true
  | [] => by simp [PyData.eqvAll]
  | x :: xs => by simp [PyData.eqvAll, PyData.eqv, eqv_strs xs]
theorem NetR.gro2 {K : PySem.W.Frag} {CN CP CM : Addr} {a x : Addr} {H H' : Hp} {ps : List P3} {ms : List M3} {ys : List V} (h : NetR K CN CP CM H x ps ms) (e : H a = some (.lst ys)) (g : Grow a H H') : NetR K CN CP CM H' x ps ms := by
  obtain ⟨dx, tp, tm, pu, mu, ex, h1, h2, h3⟩ := h.ex
  exact ⟨dx, tp, tm, pu, mu, g _ _ (fun z => by rw [z, e] at ex; cases ex) ex, ⟨SqT.gro h1.t e g, fun u hu => (h1.o u hu).gro e g⟩, ⟨SqT.gro h2.t e g, fun u hu => (h2.o u hu).gro e g⟩, h3⟩
theorem dpA_I : ∀ xs : List Nat, PyData.depthAll (xs.map dI) = 0
  | [] => by simp [PyData.depthAll]
  | x :: xs => by simp [PyData.depthAll, PyData.depth, dI, dpA_I xs]
theorem dpA_S : ∀ xs : List Str, PyData.depthAll (xs.map PyData.str) = 0
  | [] => by simp [PyData.depthAll]
  | x :: xs => by simp [PyData.depthAll, PyData.depth, dpA_S xs]
theorem shaped_two (xs ys : List Nat) : SeqAt.shaped (.list [.list (xs.map dI), .list (ys.map dI)]) = true := by
  simp [SeqAt.shaped, PyData.canLay0, PyData.canLayAll0, PyData.depth, PyData.depthAll, lay_I, dpA_I]
theorem eqv_two (d e : PyData) : PyData.eqv (.list [d, e]) (.list []) = false := by simp [PyData.eqv, PyData.eqvAll]
theorem shaped_tS {xs : List Str} (h : ∀ x ∈ xs, IsNm x) : SeqAt.shaped (.tuple (xs.map PyData.str)) = true := by
  simp [SeqAt.shaped, PyData.canLay0, PyData.depth, dpA_S, lay_S xs fun x hx => strOk_nm (h x hx)]
theorem eqv_tS (xs : List Str) : PyData.eqv (.tuple (xs.map PyData.str)) (.tuple (xs.map PyData.str)) = true := by rw [PyData.eqv, eqv_strs]
def sp_flt : Sp := fun vs H Q _ => ∃ (w : Addr) (n : Nat) (m : Int), vs = [.ref w, .int m] ∧ WellAt H w n ∧ n < 900000 ∧ 0 ≤ m ∧ m ≤ 3 ∧
  ∀ (t : Addr) (a b c : Int) H', Grow w H H' → WellAt H' w (n + 5) → H t = none → H' t = some (.tup [.int a, .int b, .int c]) → t ≠ w → Flt a b c → Q (.ref t) H'
def sp_pr (K : PySem.W.Frag) (CN CP CM : Addr) : Sp := fun vs H Q _ => ∃ (l x t : Addr) (M : Mod) (most more p : Nat) (a b c : Int), vs = [.ref l, .ref x, .int (p : Nat), .ref t] ∧ MdAt H l M ∧ MdOk M most more ∧ most ≤ 12 ∧ more ≤ 12 ∧ NetR K CN CP CM H x M.ps M.ms ∧ p < M.qs.length ∧ SqT K H t [.int a, .int b, .int c] ∧ Flt a b c ∧ ∀ H', Same H H' → Q (.bl true) H'
/-! ### the two worlds -/
theorem rwf_rep (n k : Nat) : rwf (List.replicate n (0 : Int)) k = 0 := by
  rw [rwf, List.getD]
  cases h : (List.replicate n (0 : Int))[k]? with
  | none => rfl
  | some c => exact (List.mem_replicate.mp (List.mem_of_getElem? h)).2
theorem amt_rep (ps : List P3) (n : Nat) (y : Str) : amt ps (List.replicate n (0 : Int)) y = 0 := by
  rw [amt]
  split
  · exact rwf_rep _ _
  · rfl
theorem flw_rep (ps : List P3) : flwB ps (List.replicate ps.length (0 : Int)) = true := by
  refine (flwB_iff (List.length_replicate ..)).mpr fun z => ?_
  rw [dvP, dv, sm_congr (g := fun _ => 0) (fun k _ => by rw [rwf_rep, Int.zero_mul]), sm_zero]
theorem rd_getD (ps : List P3) (ms : List M3) (fs : List Int) {k : Nat} (hk : k < ms.length) : (rdF ps ms fs).getD k 0 = amt ps fs (mA ms k) := by
  rw [List.getD, rdF, List.getElem?_map, List.getElem?_eq_getElem hk, (m_at (List.getElem?_eq_getElem hk)).2.1]
  rfl
section
variable {M : Mod} {most more p n : Nat} {fs : List Int} {a b c : Int}
theorem amt_ring (ok : MdOk M most more) (hp : p < M.qs.length) (h : RingF M.ps M.ms (pN M.ps p) n fs) {k : Nat} (hk : k < M.ms.length) : trit (amt M.ps fs (mA M.ms k)) ∧ (mZ M.ms k = true → amt M.ps fs (mA M.ms k) = 0) := by
  obtain ⟨rl, rt, r1, rk, rw_, rs, rc⟩ := h.row ok hp
  have hg : M.gs[k]? = some (M.gs[k]'(by rw [← ms_len]; exact hk)) := List.getElem?_eq_getElem _
  obtain ⟨h1, h2, h3, h4⟩ := ms_at ok hg
  rw [h2, amt_M ok h4]
  refine ⟨rt _ (by rw [rl]; exact h4), fun hz => ?_⟩
  rw [h3] at hz
  rw [shutG, List.any_eq_false] at rs
  have := rs _ (List.mem_of_getElem? hg)
  rw [hz, Bool.true_and] at this
  exact Decidable.not_not.mp fun q => this (decide_eq_true q)
theorem wd_still (ok : MdOk M most more) (hp : p < M.qs.length) (h : RingF M.ps M.ms (pN M.ps p) n fs) : WdOk M.ps M.ms (List.replicate M.ps.length 0) (seen a c 0 (rdF M.ps M.ms fs)) := by
  have z : ∀ k, k < M.ms.length → mZ M.ms k = true → rO (seen a c 0 (rdF M.ps M.ms fs)) k = some 0 := fun k hk hz =>
    seen_zero a c 0 _ k (by rw [rdF, List.length_map]; exact hk) (by rw [rd_getD _ _ _ hk]; exact (amt_ring ok hp h hk).2 hz)
  exact ⟨List.length_replicate .., flw_rep _, ⟨by rw [seen_len, rdF, List.length_map], fun k hk hz => by rw [z k hk hz]; exact fun e => nomatch e⟩, fun k hk hz => by rw [z k hk hz, amt_rep]⟩
theorem wd_ring (ok : MdOk M most more) (hp : p < M.qs.length) (h : RingF M.ps M.ms (pN M.ps p) n fs) : WdOk M.ps M.ms fs (seen a c 0 (rdF M.ps M.ms fs)) := by
  have w := wd_still (a := a) (c := c) ok hp h
  refine ⟨h.len, h.flw, w.rd, fun k hk hz => ?_⟩
  rw [w.sea k hk hz, amt_rep, (amt_ring ok hp h hk).2 hz]
theorem w1_len (fs : List Int) : ((List.range M.ms.length).filter (wrB M.ps M.ms (List.replicate M.ps.length 0) (seen a c 0 (rdF M.ps M.ms fs)))).length = ((seen a c 0 (rdF M.ps M.ms fs)).filter isW1).length := by
  rw [← range_filter none isW1, seen_len, rdF, List.length_map]
  congr 1
  refine List.filter_congr fun k _ => ?_
  rw [wrB, amt_rep]
  rfl
theorem no_len (fs : List Int) : ((List.range M.ms.length).filter fun k => (rO (seen a c 0 (rdF M.ps M.ms fs)) k).isNone).length = ((seen a c 0 (rdF M.ps M.ms fs)).filter Option.isNone).length := by
  rw [← range_filter none Option.isNone, seen_len, rdF, List.length_map]
  rfl
theorem w2_len (fs : List Int) : ((List.range M.ms.length).filter (wrB M.ps M.ms fs (seen a c 0 (rdF M.ps M.ms fs)))).length = (((rdF M.ps M.ms fs).zip (seen a c 0 (rdF M.ps M.ms fs))).filter isW2).length := by
  rw [← range_filter ((0 : Int), (none : Option Int)) isW2, List.length_zip, seen_len, Nat.min_self]
  have hl : (rdF M.ps M.ms fs).length = M.ms.length := by rw [rdF, List.length_map]
  rw [hl]
  congr 1
  refine List.filter_congr fun k hk => ?_
  have hk := List.mem_range.mp hk
  have h1 : ((rdF M.ps M.ms fs).zip (seen a c 0 (rdF M.ps M.ms fs))).getD k (0, none) = (amt M.ps fs (mA M.ms k), rO (seen a c 0 (rdF M.ps M.ms fs)) k) := by
    rw [← rd_getD _ _ _ hk, rO, List.getD, List.getD, List.getD]
    have e1 : k < (rdF M.ps M.ms fs).length := by omega
    have e2 : k < (seen a c 0 (rdF M.ps M.ms fs)).length := by rw [seen_len]; exact e1
    rw [List.getElem?_eq_getElem e1, List.getElem?_eq_getElem e2, List.getElem?_eq_getElem (by rw [List.length_zip]; omega), List.getElem_zip]
    rfl
  rw [h1]
  rfl
theorem nz_cnt (ok : MdOk M most more) (hp : p < M.qs.length) (h : RingF M.ps M.ms (pN M.ps p) n fs) : nz (rdF M.ps M.ms fs) = n := by
  obtain ⟨rl, rt, r1, rk, rw_, rs, rc⟩ := h.row ok hp
  rw [← rc, cntG, nz, ← range_filter (0 : Int) (fun v => decide (v ≠ 0)), ← range_filter (("", 0, false) : G3) (fun g : G3 => decide (rwf fs g.2.1 ≠ 0)), rdF, List.length_map, ms_len]
  congr 1
  refine List.filter_congr fun k hk => ?_
  have hk := List.mem_range.mp hk
  have hk2 : k < M.ms.length := by rw [ms_len]; exact hk
  obtain ⟨h1, h2, h3, h4⟩ := ms_at ok (List.getElem?_eq_getElem hk)
  rw [show (M.ms.map fun m => amt M.ps fs m.2.1).getD k 0 = amt M.ps fs (mA M.ms k) from rd_getD _ _ _ hk2, h2, amt_M ok h4, List.getD, List.getElem?_eq_getElem hk]
  rfl
/-- few are wrong and few are silent -/
theorem few (ok : MdOk M most more) (hp : p < M.qs.length) (h : RingF M.ps M.ms (pN M.ps p) n fs) (fo : Flt a b c) (hn : (n : Int) ≤ a + b + c) :
    (((List.range M.ms.length).filter (wrB M.ps M.ms (List.replicate M.ps.length 0) (seen a c 0 (rdF M.ps M.ms fs)))).length : Int) ≤ a ∧
    (((List.range M.ms.length).filter (wrB M.ps M.ms fs (seen a c 0 (rdF M.ps M.ms fs)))).length : Int) ≤ b ∧
    (((List.range M.ms.length).filter fun k => (rO (seen a c 0 (rdF M.ps M.ms fs)) k).isNone).length : Int) ≤ c := by
  rw [w1_len, w2_len, no_len]
  have h1 := seen_w1 a c 0 (rdF M.ps M.ms fs)
  have h2 := seen_w2 a c 0 (rdF M.ps M.ms fs)
  have h3 := seen_no a c 0 (rdF M.ps M.ms fs)
  rw [nz_cnt ok hp h] at h2
  obtain ⟨f0, f1, f2, f3, f4⟩ := fo
  refine ⟨?_, ?_, ?_⟩
  · rcases h1 with h1 | h1 <;> omega
  · rcases h2.2 with h2 | h2 <;> omega
  · rcases h3 with h3 | h3 <;> omega
end
theorem short_trit {v : Int} (h : trit v) : Short (.int v) := by
  rcases h with rfl | rfl | rfl
  · exact short_int (k := 0) (by omega)
  · exact short_int (k := 1) (by omega)
  · exact ⟨by decide +kernel, by simp [PyData.depth], by decide +kernel⟩
theorem shw_R {xs : List (Option Int)} (h : ∀ o ∈ xs, o = none ∨ ∃ v, o = some v ∧ trit v) (hl : xs.length ≤ 100) : Shw (.tuple (xs.map dR)) 60 20000 := by
  refine (shw_tuple (n := 0) (k := 100) fun d hd => ?_).mono (by decide) ?_
  · obtain ⟨o, ho, rfl⟩ := List.mem_map.mp hd
    rcases h o ho with rfl | ⟨v, rfl, hv⟩
    · exact short_none.shw
    · exact (short_trit hv).shw
  · rw [List.length_map]
    omega
end RV
/-! Own errors over any built-in base, with an own __init__ that keeps one value. -/
namespace RV
open PySem L2
/-- what is known of such a class at C -/
structure OEx (K : PySem.W.Frag) (C : Addr) (n nw it : String) (tl : List Value) : Prop where
  fb : ExcBaseFacts n nw it tl
  sf : StoreFacts n tl "object.__setattr__" "object"
  ini : PySem.W.excInitIn K C tl nw = true
  ov : PySem.W.excOver K C tl = true
  hd : PySem.W.hasDictIn K C = true
  sa : PySem.W.findIn K (.ref C) "__setattr__" = some (some (.builtin "object.__setattr__"))
  eb : PySem.W.subIn K (.ref C) (.type "BaseException") = some true
  ty : PySem.W.typeIn K (.ref C) = some (.type "type")
  kp : PySem.W.keepIn K (.ref C) = true
  ga : PySem.W.findIn K (.ref C) "__getattribute__" = some (some (.builtin "BaseException.__getattribute__"))
  gg : PySem.W.findIn K (.ref C) "__getattr__" = some none
  cl : PySem.W.findIn K (.ref C) "__class__" = some (some (.builtin "object.__class__"))
  sp : PySem.W.specialIn K (.builtin "object.__class__") "__get__" = some (some (.builtin "getset_descriptor.__get__"))
  tk : PySem.W.takesIn K (.builtin "object.__class__") = some true
  mo : PySem.W.mroIn K C (.type "object") = some true
def OwnX (K : PySem.W.Frag) (C : Addr) : Prop := ∃ n nw it tl, OEx K C n nw it tl
section
variable {P : Program} {w : World} {A : Around} {E : Value → Shared → Prop} {K : PySem.W.Frag} {C x t1 : Addr} {n nw it : String} {tl : List Value} {f : Str} {v : Value} {hp : Heap} {g : Array GenState} {d : Drawn} {t : Nat} {os : OsState} {Q : Unit → Shared → Prop}
/-- the first value that is put on such an error: its dict is made -/
theorem first_field (T : OEx K C n nw it tl) (X : K.In hp) (hx : hp.get? x = some (PySem.W.excObj C t1 none .none)) (hno : PySem.W.takerIn K C f = some none)
    (hq : ∀ h' tk' dx, (∀ b o, b ≠ x → hp.get? b = some o → h'.get? b = some o) → hp.objs.size ≤ dx → dx ≠ x → h'.get? x = some (PySem.W.excObj C t1 (some dx) .none) → h'.Ns1 dx (fun y => if y = f then some v else none) → Q () ⟨h', g, d, tk', os⟩) :
    wpAny (model P w) A (setAttr (.ref x) f v) Q E ⟨hp, g, d, t, os⟩ := by
  refine PySem.W.set_plain X (ox := PySem.W.excObj C t1 none .none) (od := none) ⟨hx, rfl, rfl, trivial⟩ T.sa ?_
  refine PySem.W.osa_openX (od := none) T.sf X ⟨hx, rfl, rfl, trivial⟩ T.ov hno fun b => ?_
  obtain ⟨cd, hc, hd'⟩ := PySem.W.any_some T.hd
  have xs : x ≠ hp.objs.size := Nat.ne_of_lt (Heap.lt_size hx)
  refine wpAny_bind (wpAny_pure (wpAny_bind (PySem.W.instanceDict_exc hx (PySem.W.looks_clsIn X hc) hd' ?_)))
  refine PySem.HandSPX.store_in_new ⟨_, #[], _, (Heap.get?_update_ne _ _ _ _ xs.symm).trans (Heap.get?_push_at rfl rfl), rfl, fun e he => absurd he (by simp), fun _ => rfl⟩ fun h' tk' hn hs => ?_
  refine hq h' tk' hp.objs.size (fun b o hb ho => ?_) (Nat.le_refl _) xs.symm ?_ hn
  · exact (hs.2 b (Nat.ne_of_lt (Heap.lt_size ho))).trans ((Heap.get?_update_ne _ _ _ _ hb).trans (Heap.get?_push_of_some _ ho))
  · exact (hs.2 x xs).trans (Heap.get?_update_self _ (Heap.get?_push_of_some _ hx) rfl)
end
section
variable {X : Cx} {pins : List (Addr × Obj)} {σ : L2.St} {H : Hp} {s : Shared} {a C : Addr} {f : Str} {y : V} {u : Value} {Q : Unit → Shared → Prop} {E : Value → Shared → Prop} {A : Around}
theorem give_new (T : OwnX X.K C) (I : Inv X pins σ H s) (e : H a = some (exo a C none)) (hno : PySem.W.takerIn X.K C f = some none) (ry : RelV y u)
    (h : ∀ dx s', H dx = none → dx ≠ a → Inv X pins σ (upd (upd H dx (exd dx [(f, y)])) a (exo a C (some dx))) s' → Q () s') : wpAny (model X.prog X.w) A (setAttr (.ref a) f u) Q E s := by
  obtain ⟨n, nw, it, tl, T⟩ := T
  obtain ⟨t1, ho⟩ := exo_at I.hok e
  obtain ⟨hp, g, d, t, os⟩ := s
  refine first_field T I.kIn ho hno fun h' tk' dx k big nx hx hn => ?_
  have fr : H dx = none := I.hok.fresh big
  have old : ∀ {b o}, hp.get? b = some o → b ≠ dx := fun q => Nat.ne_of_lt (Nat.lt_of_lt_of_le (Heap.lt_size q) big)
  have na : ∀ {b}, H b = none → b ≠ a := fun n => (ne_of_none e n).symm
  have two : ∀ {b o}, H b = some o → exo a C none ≠ o → upd (upd H dx (exd dx [(f, y)])) a (exo a C (some dx)) b = some o := fun {b o} q ne => by
    rw [upd_ne (at_ne e q ne), upd_ne (ne_of_none q fr), q]
  have un : Un X.fs [] H (upd (upd H dx (exd dx [(f, y)])) a (exo a C (some dx))) hp h' := by
    refine ⟨fun b o q n _ _ => k b o (na n) q, fun b o q n _ _ => ⟨o.slots, k b o (na n) q⟩, fun b o q n _ => ?_, fun b o q _ => ?_, fun b xs q => two q exo_tup, fun b o v q => two q exo_frz, fun b ps q => ⟨#[], ?_⟩⟩
    · rw [upd_ne (na n), upd_ne (old q)]
      exact n
    · rcases Decidable.em (b = a) with rfl | hb
      · exact ⟨_, hx⟩
      · exact ⟨o, k b o hb q⟩
    · rw [two q exo_tbl]
      simp
  refine h dx _ fr nx (I.un (t' := tk') un fun b o q => ?_)
  rcases Decidable.em (b = a) with rfl | hb
  · rw [upd_same] at q
    cases q
    exact exo_ok hx
  rw [upd_ne hb] at q
  rcases Decidable.em (b = dx) with rfl | hb'
  · rw [upd_same] at q
    cases q
    exact exd_ok hn (relO_put (fs := []) ry fun g => True.intro)
  rw [upd_ne hb'] at q
  refine (I.hok b o q).stay (fun c v hc z => k c v ?_ z) (fun c hc => two hc exo_own) (fun c xs hc => two hc exo_tup)
  rcases hc with rfl | hc
  · exact hb
  · exact at_ne e hc exo_own
end
/-- self.f = e on a new error -/
def tGive (K : PySem.W.Frag) (f : Str) (to te : TE) : TS := fun D σ H => te σ H fun y H1 => to σ H1 fun x H2 => ∃ a C : Addr, x = .ref a ∧ OwnX K C ∧ PySem.W.takerIn K C f = some none ∧ H2 a = some (exo a C none) ∧
  ∀ dx, H2 dx = none → dx ≠ a → D.nx σ (upd (upd H2 dx (exd dx [(f, y)])) a (exo a C (some dx)))
theorem ps_give {X : Cx} {o e : Expr} {to te : TE} {f : Str} {p' pos : Pos} (ho : PE X o to) (he : PE X e te) (hs : swapsWith e (some (.Attribute o f p')) pos.line X.env = pure false := by rfl) : PS X (.Assign [.Attribute o f p'] e pos) (tGive X.K f to te) := by
  refine ⟨fun pins s σ H D I h => plainObj_wpAny_Assign_Attribute (thn (he.run pins s σ H _ I h) ?_) hs⟩
  rintro v s1 ⟨y, H1, I1, r1, q1⟩
  refine thn (ho.run pins s1 σ H1 _ I1 q1) ?_
  rintro u s2 ⟨x, H2, I2, r2, a, C, rfl, T, hno, ea, q⟩
  obtain rfl : u = Value.ref a := r2
  exact give_new T I2 ea hno r1 fun dx s' n ne J => ⟨σ, _, J, q dx n ne⟩
/-- what follows is never met -/
theorem pss_dead {X : Cx} {l : List Stmt} : PSs X l (fun _ _ _ => False) := ⟨fun _ _ _ _ _ _ h => h.elim⟩
theorem ps_dead {X : Cx} {l : Stmt} : PS X l (fun _ _ _ => False) := ⟨fun _ _ _ _ _ _ h => h.elim⟩
theorem pe_dead {X : Cx} {e : Expr} : PE X e (fun _ _ _ => False) := ⟨fun _ _ _ _ _ _ h => h.elim⟩
/-- what __init__(self, y): self.f = y does -/
def sp_give (C : Addr) (f : Str) : Sp := fun vs H Q _ => ∃ (a : Addr) (y : V), vs = [.ref a, y] ∧ H a = some (exo a C none) ∧ ∀ dx, H dx = none → dx ≠ a → Q .non (upd (upd H dx (exd dx [(f, y)])) a (exo a C (some dx)))
/-- the error class x of the module stands at C: x(e) keeps e as f -/
structure Err (P : Program) (w : World) (K : PySem.W.Frag) (mg : Str → Option Value) (base : Heap) (x : Str) (C : Addr) (f : Str) : Prop where
  at_ : mg x = some (.ref C)
  own : OwnX K C
  tk : PySem.W.takerIn K C f = some none
  no : PySem.W.findIn K (.ref C) f = some none
  ini : ∃ fI fd ps, PySem.W.findIn K (.ref C) "__init__" = some (some (.ref fI)) ∧ PySem.W.typeIn K (.ref fI) = some (.type "function") ∧ Binds K fd ps [] ∧ FnOk P w K mg base CX0 1 fI fd ps (sp_give C f)
/-- x(e): an error of the class at C with the dict d -/
def tErr (C : Addr) (f : Str) (ta : TA) : L2.St → Hp → XK → Prop := fun σ H Q => ta σ H fun vs H1 => ∃ y, vs = [y] ∧ ∀ d, H1 d = none → Q (.ref C) (some d) (upd H1 d (.xd [(f, y)]))
theorem pmk_err {X : Cx} {x f : Str} {C : Addr} {e : Expr} {ta : TA} {p pos : Pos} (T : Err X.prog X.w X.K X.mg X.base x C f) (hr : Room 2 X.A) (ha : PA X [e] ta) (hg : Gl X x := by rfl) (hdb : (x == ("__debug__" : Str)) = false := by decide)
    (he : starEach [e] X.env = (false, eval e X.env) :: starEach [] X.env := by rfl) : PMk X (.Call (.Name x p) [e] [] pos) (tErr C f ta) := by
  intro pins s σ H Q I h
  obtain ⟨n, nw, it, tl, O⟩ := T.own
  obtain ⟨fI, fd, ps, iC, tI, hb, F⟩ := T.ini
  refine wpAny_Call_Name_kw (ld_glob I hg T.at_ ?_ hdb)
  refine PySem.W.callWith_K (h₀ := X.base) I.ok.mod.kin O.kp (thn (ha.run pos pins s σ H _ I h) ?_) he rfl
  rintro us s1 ⟨vs, H1, I1, r1, y, rfl, q1⟩
  refine ⟨I1.kIn, ?_⟩
  obtain ⟨hp, g, dr, tk, os⟩ := s1
  obtain ⟨nm, N, qn, bs, bm, hdct, sn, sub, ab, col, dd, k0, k1, k2, k3, k5, hC, hT⟩ := PySem.W.excInit_of I1.kIn O.ini
  have hn : H1 (hp.objs.size + 1) = none := I1.hok.fresh (Nat.le_succ _)
  have kk : ∀ b o, hp.get? b = some o → ((hp.push (PySem.W.kdv_tup us)).push (PySem.HandSPX.excO C hp.objs.size)).get? b = some o := fun b o z => Heap.get?_push_of_some _ (Heap.get?_push_of_some _ z)
  have I2 := I1.laid (t' := tk) (a := hp.objs.size + 1) (o := exo (hp.objs.size + 1) C none) kk (Nat.le_succ _) (exo_ok (by heap_get))
  obtain ⟨ur, rfl⟩ : ∃ u, us = [u] := by
    cases r1 with
    | cons ru rr =>
      cases rr
      exact ⟨_, rfl⟩
  have ry : RelV y ur := by
    cases r1 with
    | cons ru rr => exact ru
  have hq : sp_give C f [.ref (hp.objs.size + 1), y] (upd H1 (hp.objs.size + 1) (exo (hp.objs.size + 1) C none))
      (fun v H2 => v = .non ∧ ∃ d, H1 d = none ∧ d ≠ hp.objs.size + 1 ∧ H2 = upd (upd (upd H1 (hp.objs.size + 1) (exo (hp.objs.size + 1) C none)) d (exd d [(f, y)])) (hp.objs.size + 1) (exo (hp.objs.size + 1) C (some d))) E0 :=
    ⟨_, y, rfl, upd_same, fun d nd ne => ⟨rfl, d, by rw [upd_ne ne] at nd; exact nd, ne, rfl⟩⟩
  have hl : [Value.ref (hp.objs.size + 1), ur].length = ps.length := (F.len _ _ _ _ hq : _)
  have hl' : ([Value.ref (hp.objs.size + 1), ur] ++ ([] : List Value)).length = ps.length := hl
  refine wpAny_call (PySem.HandSPX.call_own O.fb hT hC (PySem.W.looks_findIn I1.kIn iC) (fun self => PySem.W.bind_fn I1.kIn self tI) (by show 1 ≤ sizeLine; decide)
    (codeAny_mono (F.run _ X.stack _ _ ⟨[Value.ref (hp.objs.size + 1), ur], []⟩ [Value.ref (hp.objs.size + 1), ur] _ _ E0 (hr.make C [ur] []) (I2.env0.make C [ur] []) (hb _ [Value.ref (hp.objs.size + 1), ur] I2.kIn hl') (show Vals [V.ref (hp.objs.size + 1), y] [Value.ref (hp.objs.size + 1), ur] from .cons rfl (.cons ry .nil)) hq) ?_))
  rintro (er | fl) s' hq'
  · exact hq'.elim
  cases fl with
  | ret u =>
    obtain ⟨v, H2, os2, bare2, un2, hok2, rv, rfl, d, nd, ne, e2⟩ := hq'
    obtain ⟨h2, g2, d2, t2, os'⟩ := s'
    subst e2
    refine ⟨rv, mk_end (raises_own O.eb O.ty) I1 (Nat.le_succ _) kk un2 hok2 os2 bare2 upd_same (by rw [upd_ne ne, upd_same]) nd ?_⟩
    have fin : upd (del (upd (upd (upd H1 (hp.objs.size + 1) (exo (hp.objs.size + 1) C none)) d (exd d [(f, y)])) (hp.objs.size + 1) (exo (hp.objs.size + 1) C (some d))) (hp.objs.size + 1)) d (.xd [(f, y)]) = upd H1 d (.xd [(f, y)]) := by
      funext b
      rcases Decidable.em (b = d) with rfl | hb
      · rw [upd_same, upd_same]
      · rw [upd_ne hb, upd_ne hb]
        rcases Decidable.em (b = hp.objs.size + 1) with rfl | hb'
        · rw [del_same, hn]
        · rw [del_ne hb', upd_ne hb', upd_ne hb, upd_ne hb']
    rw [fin]
    exact q1 d nd
  | next => exact hq'.elim
  | brk => exact hq'.elim
  | cont => exact hq'.elim
end RV
/-! A try whose clauses bear names; clauses of one class, of a tuple of classes; what a suite asks of the error. -/
namespace RV
open PySem L2
/-- behind a suite its name is gone -/
def gone (i : Nat) (D : Ends) : Ends := { nx := fun σ H => D.nx (σ.set i none) H, rt := D.rt, bk := fun σ H => D.bk (σ.set i none) H, ct := fun σ H => D.ct (σ.set i none) H }
/-- a clause: what its test says of an error's class, its name's slot, its suite -/
structure Cl where
  says : Value → Option Bool
  slot : Nat
  ts : Addr → Value → Option Addr → TS
/-- what is wished of an error of the body -/
def wish (W0 : WX) (D : Ends) : List Cl → WX
  | [] => W0
  | c :: r => fun cls d σ H => ∃ b, c.says cls = some b ∧ (b = true → ∀ a, H a = none → c.ts a cls d (gone c.slot D) (σ.set c.slot (some (.ref a))) H) ∧ (b = false → wish W0 D r cls d σ H)
/-- the test of a clause -/
structure Tests (X : Cx) (t : Expr) (f : Value → Option Bool) : Prop where
  run : ∀ (a : Addr) (oe : Obj) (b : Bool) (pn : List (Addr × Obj)) (s : Shared) (σ : L2.St) (H : Hp) (Q : Bool → Shared → Prop) (E : Value → Shared → Prop), f oe.cls = some b → Inv (X.suite a ((a, oe) :: pn)) [] σ H s →
    (∀ h' tk, (∀ p o, s.heap.get? p = some o → h'.get? p = some o) → Q b { s with heap := h', toks := tk }) →
    wpAny (model X.prog X.w) (X.A.mark (some (.ref a))) (eval t X.env) (fun c s₁ => wpAny (model X.prog X.w) (X.A.mark (some (.ref a))) (excMatches (.ref a) c) Q E s₁) E s
inductive ClsOk (X : Cx) : List ExceptHandler → List Cl → Prop
  | nil : ClsOk X [] []
  | cons {t : Expr} {n : Str} {i : Nat} {f : Value → Option Bool} {ts : Addr → Value → Option Addr → TS} {b₀ : Stmt} {suite : List Stmt} {pos' : Pos} {hds : List ExceptHandler} {l : List Cl} (hi : X.N[i]? = some n) (hln : X.env.kindOf n = some .local) (ht : Tests X t f)
      (hsu : ∀ (a : Addr) (oe : Obj) (cls : Value) (d : Option Addr) (pn : List (Addr × Obj)), Zc cls d oe → (∃ vs, oe.data = .fields vs) → PSs (X.suite a ((a, oe) :: pn)) (b₀ :: suite) (ts a cls d)) (r : ClsOk X hds l) :
      ClsOk X (.ExceptHandler (some t) (some n) (b₀ :: suite) pos' :: hds) (⟨f, i, ts⟩ :: l)
theorem fly_keeps {B h h' : Heap} {l : List Env} {a : Addr} {Z : Obj → Prop} (f : PySem.HandSPX.FlyingZ B l a Z h) (k : ∀ p o, h.get? p = some o → h'.get? p = some o) : PySem.HandSPX.FlyingZ B l a Z h' := by
  obtain ⟨st, n, ff, oe, vs, T, oT, ts, e1, z, d, e2, bT, nT, e3, d3, e4⟩ := f
  exact ⟨fun p o q => k p o (st p o q), n, ff.of_keeps (fun p o q _ => ⟨o, k p o q, rfl⟩), oe, vs, T, oT, ts, k _ _ e1, z, d, e2, bT, nT, k _ _ e3, d3, e4⟩
section
variable {X : Cx} {body : List Stmt} {h₀ : ExceptHandler} {hds : List ExceptHandler} {l : List Cl} {pos : Pos} {tb : WX → TS} {W0 : WX}
theorem ps_try_cl (hs : X.stack = X.env :: X.outer) (hf : X.env.frame = some X.env.locals) (hN : X.N.Nodup) (tk : Takes X W0)
    (hb : ∀ (W : WX) (pn : List (Addr × Obj)) (xe : Value → Shared → Prop), Takes (X.tr pn xe) W → PassesOwn (model X.prog X.w) X.A X.env xe → PSs (X.tr pn xe) body (tb W))
    (hh : ClsOk X (h₀ :: hds) l) : PS X (.Try body (h₀ :: hds) [] [] pos) (fun D σ H => tb (wish W0 D l) D σ H) := by
  refine ⟨fun pins s σ H D I h => wpAny_Try_except ?_⟩
  have ok := I.ok
  have hfr : X.A.frames = some (X.env :: X.outer) := by rw [ok.frames, hs]
  refine wpAny_mono ((hb (wish W0 D l) (X.pn ++ pins) (fun e s1 => wpAny (model X.prog X.w) X.A (noteFrame e X.env) (fun _ s2 => wpAny (model X.prog X.w) X.A (setFlight e none) (fun _ s3 =>
    wpAny (model X.prog X.w) X.A (handleBy e X.env (h₀ :: hds)) (SP X pins D) X.xe s3) X.xe s2) X.xe s1) ?_ PassesOwn.looking).run [] s σ H D (I.toTry _) h) ?_ fun e s1 he => he
  · rintro u s' ⟨a, B, sI, pins', σ', H', cls, d, rfl, J', nb, up, sky, na, os, ag, wd⟩
    have J : Inv X pins σ' H' sI := J'.ofTry ok
    rw [show (X.tr (X.pn ++ pins) _).stack = X.env :: X.outer from hs] at sky
    refine Sky.land Zc.steady hfr hf sky fun h3 fl3 up3 => ?_
    have off : ∀ {h : Heap}, PySem.HandSPX.FlyingZ B (X.env :: X.outer) a (Zc cls d) h → a ≠ X.env.locals ∧ a ∉ X.fs := fun {h} f => by
      obtain ⟨oe, vs, he, _, hd⟩ := f.there
      have nf : a ∉ frs (X.env :: X.outer) := fun hm => by
        obtain ⟨_, o', e', hnf⟩ := f.2.2.1.mem hm
        rw [he] at e'
        cases e'
        exact hnf _ hd
      refine ⟨fun z => nf (List.mem_filterMap.mpr ⟨X.env, List.mem_cons_self, by rw [hf, z]⟩), fun hm => ?_⟩
      obtain ⟨e, he, q⟩ := List.mem_filterMap.mp hm
      exact nf (List.mem_filterMap.mpr ⟨e, List.mem_cons_of_mem _ he, q⟩)
    have step : ∀ {hds' : List ExceptHandler} {l' : List Cl}, ClsOk X hds' l' → ∀ (h4 : Heap) (t4 : Nat), PySem.HandSPX.FlyingZ B (X.env :: X.outer) a (Zc cls d) h4 → s'.heap.UpToSlots h4 → wish W0 D l' cls d σ' H' →
        wpAny (model X.prog X.w) X.A (handleBy (.ref a) X.env hds') (SP X pins D) X.xe { s' with heap := h4, toks := t4 } := by
      intro hds' l' hk
      induction hk with
      | nil =>
        intro h4 t4 fl4 up4 w4
        refine wpAny_handleBy_nil ?_
        obtain ⟨_, _, _, oe, vs, T, oT, ts', he, hz, hd, h1, _⟩ := id fl4
        unfold PySem.passOn
        refine wpAny_bind (wpAny_field he hd h1 ?_)
        rw [if_neg (show ¬ ((Value.ref T == Value.none) = true) from by simp)]
        have fin : wpAny (model X.prog X.w) X.A (setFlight (.ref a) X.env.frame) (fun _ s5 => wpAny (model X.prog X.w) X.A (throw (.ref a) : Sem Flow) (SP X pins D) X.xe s5) X.xe { s' with heap := h4, toks := t4 } := by
          rw [hf]
          refine PySem.HandSPX.setFlight_upZ fl4 fun h5 hh5 up5 => wpAny_throw (tk _ _ ?_)
          exact ⟨a, B, sI, pins, σ', H', cls, d, rfl, J, nb, (up.trans up4).trans up5, .inr (.inr (by rw [hs]; exact hh5)), na, os, ag, w4⟩
        first
          | exact wpAny_bind (wpAny_pure (wpAny_bind fin))
          | exact wpAny_bind fin
      | @cons t n i f ts b₀ suite pos' hds2 l2 hi hln ht hsu r ih =>
        intro h4 t4 fl4 up4 w4
        obtain ⟨b, e1, yes, no⟩ := w4
        obtain ⟨oe, vs, he, hz, hd⟩ := fl4.there
        have J4 : Inv X pins σ' H' { s' with heap := h4, toks := t4 } := J.landed (s' := { s' with heap := h4, toks := t4 }) nb fl4.1 (up.trans up4) os ag
        have S4 := J4.suite he hd na (off fl4).1 (off fl4).2
        refine wpAny_handleBy_cons (codeAny_handlers_test (ht.run a oe b _ _ _ _ _ _ (by rw [hz.1]; exact e1) S4 fun h5 t5 k5 => ?_)) (by intro q; cases q)
        have fl5 := fly_keeps fl4 k5
        have up5 := up4.trans (Heap.UpToSlots.of_keeps k5)
        cases b with
        | false =>
          show wpAny _ X.A (handleBy (.ref a) X.env hds2) _ _ _
          exact ih h5 t5 fl5 up5 (no rfl)
        | true =>
          refine codeAny_handlers_suite_as (PySem.HandSPX.lands_againZ fl5 fun h6 fl6 up6 => ?_)
          have J6 : Inv X pins σ' H' { s' with heap := h6, toks := t5 } := J.landed (s' := { s' with heap := h6, toks := t5 }) nb fl6.1 (up.trans (up5.trans up6)) os ag
          obtain ⟨oe6, vs6, he6, hz6, hd6⟩ := fl6.there
          refine store_ok (X := X.suite a ((a, oe6) :: (X.pn ++ pins))) (v := .ref a) (J6.suite he6 hd6 na (off fl6).1 (off fl6).2) hN hi (.inl hln) rfl (fun s7 S7 => ?_) (.inr hln)
          refine wpAny_mono ((hsu a oe6 cls d (X.pn ++ pins) hz6 ⟨_, hd6⟩).run [] s7 _ H' _ S7 (yes rfl a na)) ?_ fun _ _ z => z.elim
          have away : ∀ {s8 : Shared} {σ8 : L2.St} {H8 : Hp} {Q : Shared → Prop}, Inv (X.suite a ((a, oe6) :: (X.pn ++ pins))) [] σ8 H8 s8 → (∀ s9, Inv X pins (σ8.set i none) H8 s9 → Q s9) →
              wpAny (model X.prog X.w) X.A (do bindName X.env n .none; unbindBehindTheSuite X.env n pos') (fun _ s9 => Q s9) X.xe s8 := fun S8 q => gone_ok (S8.unsuite ok) hN hi hln q
          rintro (_ | _ | _ | u) s8 hsp
          · obtain ⟨σ8, H8, S8, q8⟩ := hsp
            exact away S8 fun s9 J9 => ⟨_, _, J9, q8⟩
          · obtain ⟨σ8, H8, S8, q8⟩ := hsp
            exact away S8 fun s9 J9 => ⟨_, _, J9, q8⟩
          · obtain ⟨σ8, H8, S8, q8⟩ := hsp
            exact away S8 fun s9 J9 => ⟨_, _, J9, q8⟩
          · obtain ⟨v8, σ8, H8, S8, r8, q8⟩ := hsp
            exact away S8 fun s9 J9 => ⟨_, _, _, J9, r8, q8⟩
    exact step hh h3 s'.toks fl3 up3 wd
  · rintro (_ | _ | _ | u) s1 hsp
    · obtain ⟨σ1, H1, J1, q⟩ := hsp
      exact wpAny_execs_nil ⟨σ1, H1, J1.ofTry ok, q⟩
    · obtain ⟨σ1, H1, J1, q⟩ := hsp
      exact ⟨σ1, H1, J1.ofTry ok, q⟩
    · obtain ⟨σ1, H1, J1, q⟩ := hsp
      exact ⟨σ1, H1, J1.ofTry ok, q⟩
    · obtain ⟨v, σ1, H1, J1, r, q⟩ := hsp
      exact ⟨v, σ1, H1, J1.ofTry ok, r, q⟩
end
/-! ### tests -/
section
variable {X : Cx}
theorem looks_cls {M : Model} {h : Heap} {a : Addr} {oe : Obj} (e : h.get? a = some oe) : PySem.W.Looks M h (typeOf (.ref a)) oe.cls := fun A Q E s k q => wpAny_typeOf_ref (k _ _ e) q
theorem tests_one {x : Str} {c : Value} {p : Pos} (hc : Names X x c) : Tests X (.Name x p) (fun cls => PySem.W.exmOne X.K cls c) := by
  refine ⟨fun a oe b pn s σ H Q E e S q => ?_⟩
  have he := (S.pin (a, oe) (List.mem_append_left _ List.mem_cons_self)).1
  have fin : wpAny (model X.prog X.w) (X.A.mark (some (.ref a))) (excMatches (.ref a) c) Q E s := (PySem.W.exm_one S.kIn (looks_cls he) e).here (q s.heap s.toks fun _ _ z => z)
  obtain ⟨hg, hd, hm | ⟨hm, hv, hn⟩⟩ := hc
  · exact ld_glob (X := X.suite a ((a, oe) :: pn)) S hg hm fin hd
  · exact ld_blt (X := X.suite a ((a, oe) :: pn)) S hg hm hv fin hn hd
theorem tests_three {x y z : Str} {c1 c2 c3 : Value} {p1 p2 p3 p : Pos} {k : Nat} (h1 : Names X x c1) (h2 : Names X y c2) (h3 : Names X z c3) : Tests X (.Tuple [.Name x p1, .Name y p2, .Name z p3] k p) (fun cls => PySem.W.exmAny X.K cls [c1, c2, c3]) := by
  refine ⟨fun a oe b pn s σ H Q E e S q => ?_⟩
  have he := (S.pin (a, oe) (List.mem_append_left _ List.mem_cons_self)).1
  have nm : ∀ {x : Str} {c : Value} {p : Pos} {Q : Value → Shared → Prop}, Names X x c → Q c s → wpAny (model X.prog X.w) (X.A.mark (some (.ref a))) (eval (.Name x p) X.env) Q E s := by
    rintro x c p Q ⟨hg, hd, hm | ⟨hm, hv, hn⟩⟩ w
    · exact ld_glob (X := X.suite a ((a, oe) :: pn)) S hg hm w hd
    · exact ld_blt (X := X.suite a ((a, oe) :: pn)) S hg hm hv w hn hd
  refine wpAny_Tuple_spliced ?_
  refine PySem.Calls.spliced_cons (nm h1 ?_)
  refine PySem.Calls.spliced_cons (nm h2 ?_)
  refine PySem.Calls.spliced_cons (nm h3 ?_)
  refine PySem.Calls.spliced_nil ⟨(by show 3 ≤ sizeLine; decide), ?_⟩
  refine (PySem.W.exm_tup3 (h := s.heap.push { cls := .type "tuple", data := .seq [c1, c2, c3].toArray }) (S.kIn.keeps fun _ _ w => Heap.get?_push_of_some _ w) (looks_cls (Heap.get?_push_of_some _ he)) (Heap.get?_push_size _ rfl) e).here (q _ _ fun _ _ w => Heap.get?_push_of_some _ w)
end
end RV
/-! What is asked of a caught error: isinstance, its field. -/
namespace RV
open PySem L2
/-- the error at a, of the class cls with the dict d, keeps y as f -/
def Kept (K : PySem.W.Frag) (cls : Value) (d : Option Addr) (f : Str) (y : V) (D dd : Addr) (H : Hp) : Prop := cls = .ref D ∧ d = some dd ∧ OwnX K D ∧ PySem.W.findIn K (.ref D) f = some none ∧ H dd = some (.xd [(f, y)])
@[irreducible] def rIsO (K : PySem.W.Frag) (a : Addr) (cls : Value) (d : Option Addr) : List V → Hp → VK → Prop := fun xs H Q =>
  ∃ (D dd : Addr) (f : Str) (y c : V) (cv : Value) (b : Bool), xs = [.ref a, c] ∧ Kept K cls d f y D dd H ∧ (∀ u, RelV c u → u = cv) ∧ PySem.W.kitOne K (.ref D) cv = some b ∧ Q (.bl b) H
def tXo (K : PySem.W.Frag) (a : Addr) (cls : Value) (d : Option Addr) (f : Str) (te : TE) : TE := fun σ H Q => te σ H fun x H1 => x = .ref a ∧ ∃ (D dd : Addr) (y : V), Kept K cls d f y D dd H1 ∧ Q y H1
section
variable {X : Cx} {a : Addr} {oe : Obj} {cls : Value} {d : Option Addr}
theorem inst_err {pins : List (Addr × Obj)} {s : Shared} {σ : L2.St} {H : Hp} {f : Str} {y : V} {D dd : Addr} (I : Inv X pins σ H s) (hp : (a, oe) ∈ X.pn) (hz : Zc cls d oe) (hf : ∃ vs, oe.data = .fields vs) (k : Kept X.K cls d f y D dd H) :
    ∃ od u, PySem.W.InstAt s.heap a oe D (some od) ∧ PySem.W.lookIn f od = some (some u) ∧ RelV y u := by
  obtain ⟨rfl, rfl, _, _, e⟩ := k
  have z : ObjOk X.prog X.w H s.heap dd (.xd [(f, y)]) := I.hok dd _ e
  obtain ⟨mA, hns, hr⟩ := z
  obtain ⟨od, ho, hl⟩ := lookIn_ns hns
  obtain ⟨u, hu, ru⟩ := RelO.some_of (v := y) (o := mA f) (by have q := hr f; simpa [List.lookup] using q)
  obtain ⟨vs, hd⟩ := hf
  exact ⟨od, u, ⟨(I.pin (a, oe) (List.mem_append_left _ hp)).1, hz.1, by unfold PySem.W.notCls; rw [hd] <;> rfl, by rw [hz.2]; exact ho⟩, by rw [hl, hu], ru⟩
theorem call_isO (hp : (a, oe) ∈ X.pn) (hz : Zc cls d oe) (hf : ∃ vs, oe.data = .fields vs) : CallR X (.builtin "isinstance") (rIsO X.K a cls d) := by
  intro pins s σ H xs us Q I r h
  unfold rIsO at h
  obtain ⟨D, dd, f, y, c, cv, b, rfl, k, hcv, e, q⟩ := h
  obtain ⟨od, u, J, _, _⟩ := inst_err I hp hz hf k
  obtain ⟨_, _, ⟨n, nw, it, tl, O⟩, _, _⟩ := k
  cases r with
  | cons rx rr =>
    cases rr with
    | cons rt rr =>
      cases rr
      cases rx
      cases hcv _ rt
      obtain ⟨cd, hc, _⟩ := PySem.W.any_some O.hd
      exact PySem.W.kia_one (PySem.W.kitx_exc (by rw [hc]; rfl) O.ga O.gg O.eb O.cl O.sp O.tk O.mo) I.kIn J e (fun z => nomatch z) fun tk => ⟨.bl b, H, I.kept (t' := tk) fun _ _ z => z, rfl, q⟩
theorem pe_xo {e : Expr} {te : TE} {f : Str} {pos : Pos} (hp : (a, oe) ∈ X.pn) (hz : Zc cls d oe) (hf : ∃ vs, oe.data = .fields vs) (he : PE X e te) (hb : attributeBase e f X.env (eval e X.env) = eval e X.env := by rfl) : PE X (.Attribute e f pos) (tXo X.K a cls d f te) := by
  refine ⟨fun pins s σ H Q I h => attr_of hb (thn (he.run pins s σ H _ I h) ?_)⟩
  rintro u s1 ⟨x, H1, I1, rx, rfl, D, dd, y, k, q⟩
  obtain rfl : u = Value.ref a := rx
  obtain ⟨od, u, J, hl, ru⟩ := inst_err I1 hp hz hf k
  obtain ⟨_, _, ⟨n, nw, it, tl, O⟩, no, _⟩ := k
  exact PySem.HandSPX.exc_get I1.kIn J O.ga O.gg O.eb (PySem.W.findObj_own O.hd no rfl hl) (handed_of ru) ⟨y, H1, I1.tok _, ru, q⟩
end
/-- within the suite itself -/
theorem call_isS {X : Cx} {a : Addr} {oe : Obj} {cls : Value} {d : Option Addr} {pn : List (Addr × Obj)} (hz : Zc cls d oe) (hf : ∃ vs, oe.data = .fields vs) : CallR (X.suite a ((a, oe) :: pn)) (.builtin "isinstance") (rIsO X.K a cls d) := call_isO (X := X.suite a ((a, oe) :: pn)) List.mem_cons_self hz hf
theorem pe_xS {X : Cx} {a : Addr} {oe : Obj} {cls : Value} {d : Option Addr} {pn : List (Addr × Obj)} {e : Expr} {te : TE} {f : Str} {pos : Pos} (hz : Zc cls d oe) (hf : ∃ vs, oe.data = .fields vs) (he : PE (X.suite a ((a, oe) :: pn)) e te) (hb : attributeBase e f X.env (eval e X.env) = eval e X.env := by rfl) :
    PE (X.suite a ((a, oe) :: pn)) (.Attribute e f pos) (tXo X.K a cls d f te) := pe_xo (X := X.suite a ((a, oe) :: pn)) List.mem_cons_self hz hf he hb
theorem kit_eq {K : PySem.W.Frag} {t : Value} {C : Addr} {b : Bool} (hd : PySem.W.hasDictIn K C = true) (ty : PySem.W.typeIn K (.ref C) = some (.type "type")) (self : PySem.W.subIn K (.ref C) (.ref C) = some true) (hs : PySem.W.subIn K t (.ref C) = some b) : PySem.W.kitOne K t (.ref C) = some b := by
  obtain ⟨cd, hc, _⟩ := PySem.W.any_some hd
  unfold PySem.W.kitOne
  split
  · rename_i e
    rw [beq_iff_eq.mp e, self] at hs
    exact hs
  · show (if ((PySem.W.clsIn K C).isSome && PySem.W.typeIn K (.ref C) == some (.type "type")) = true then PySem.W.subIn K t (.ref C) else none) = some b
    rw [if_pos (by rw [hc, ty]; rfl)]
    exact hs
theorem kit_blt {K : PySem.W.Frag} {C : Addr} {T : String} {b : Bool} (m : PySem.W.kitMeta T = true) (hs : PySem.W.subIn K (.ref C) (.type T) = some b) : PySem.W.kitOne K (.ref C) (.type T) = some b := by
  unfold PySem.W.kitOne
  rw [if_neg (by intro e; cases beq_iff_eq.mp e)]
  show (if PySem.W.kitMeta T = true then PySem.W.subIn K (.ref C) (.type T) else none) = some b
  rw [if_pos m]
  exact hs
theorem exm_eq {K : PySem.W.Frag} {C : Addr} {cls : Value} {b : Bool} (eb : PySem.W.subIn K (.ref C) (.type "BaseException") = some true) (hd : PySem.W.hasDictIn K C = true) (ty : PySem.W.typeIn K (.ref C) = some (.type "type")) (hs : PySem.W.subIn K cls (.ref C) = some b) : PySem.W.exmOne K cls (.ref C) = some b :=
  PySem.W.exm_ref eb hd ty hs
end RV
/-! Odd values: data, among them small dicts; how they are shown, what isinstance says of them. -/
namespace RV
open PySem L2 PyProof.Rows TL
inductive Odd (K : PySem.W.Frag) (H : Hp) : V → PyData → Prop
  | dat {v : V} {d : PyData} : Dp K H v d → Odd K H v d
  | dic0 {a : Addr} : H a = some (.dK []) → Odd K H (.ref a) (.dict [])
  | dic1 {a : Addr} {k : Str} {i : Int} : H a = some (.dK [(.inr k, .int i)]) → Odd K H (.ref a) (.dict [(.str k, .int i)])
theorem same_new {H : Hp} {p : Addr} {o : HO} (n : H p = none) : Same H (upd H p o) := fun b u q => by
  rw [upd_ne (ne_of_none q n)]
  exact q
section
variable {K : PySem.W.Frag} {H H' : Hp}
mutual
theorem dp_same (s : Same H H') : ∀ {v : V} {d : PyData}, Dp K H v d → Dp K H' v d
  | _, _, .non => .non
  | _, _, .bl b => .bl b
  | _, _, .int i => .int i
  | _, _, .str x => .str x
  | _, _, .lst h l => .lst (h.ext s) (dpAll_same s l)
  | _, _, .tup h l => .tup (h.ext s) (dpAll_same s l)
theorem dpAll_same (s : Same H H') : ∀ {vs : List V} {ds : List PyData}, DpAll K H vs ds → DpAll K H' vs ds
  | _, _, .nil => .nil
  | _, _, .cons h l => .cons (dp_same s h) (dpAll_same s l)
end
theorem Odd.same (s : Same H H') {v : V} {d : PyData} : Odd K H v d → Odd K H' v d
  | .dat h => .dat (dp_same s h)
  | .dic0 e => .dic0 (s _ _ e)
  | .dic1 e => .dic1 (s _ _ e)
end
/-- small enough to be shown, its ints too -/
structure Fine (d : PyData) : Prop where
  sh : Shw d 60 1000000
  it : ∀ i, d = .int i → i.natAbs.log2 < 1920
  sk : PyData.strOk d.shown = true
@[irreducible] def rReprO (K : PySem.W.Frag) : List V → Hp → VK → Prop := fun xs H Q => ∃ (v : V) (d : PyData), xs = [v] ∧ Odd K H v d ∧ Fine d ∧ Q (.str d.shown) H
section
variable {X : Cx}
theorem call_reprO (hu : X.A.units + 64 < cLine) (hg : X.A.guards = some []) : CallR X (.builtin "repr") (rReprO X.K) := by
  intro pins s σ H xs us Q I r h
  unfold rReprO at h
  obtain ⟨v, d, rfl, hd, F, q⟩ := h
  have hsz : d.shown.length ≤ sizeLine := Nat.le_trans F.sh.ln (by decide)
  have hdp : d.depth ≤ 60 := F.sh.dp
  cases r with
  | cons r1 r2 =>
  cases r2
  cases hd with
  | dat hd =>
    cases hd with
    | non =>
      cases r1
      exact PySem.P.repr_of_none ⟨.str "None", H, I.tok _, ⟨_, rfl⟩, by simpa [PyData.shown] using q⟩
    | bl b =>
      cases r1
      refine PySem.P.repr_of_bool ⟨.str (if b then "True" else "False"), H, I.tok _, ⟨_, by cases b <;> rfl⟩, ?_⟩
      cases b <;> simpa [PyData.shown] using q
    | int i =>
      obtain ⟨t, rfl⟩ := r1
      exact PySem.P.repr_of_int (F.it i rfl) ⟨.str (toString i), H, I.tok _, ⟨_, rfl⟩, by simpa [PyData.shown] using q⟩
    | str x =>
      obtain ⟨t, rfl⟩ := r1
      have e : (PyData.str x).shown = reprText x := by simp [PyData.shown]
      rw [e] at q hsz
      exact PySem.P.repr_of_str ⟨.str (reprText x), H, I.tok _, ⟨_, rfl⟩, q⟩ hsz
    | @lst a xs ds h1 h2 =>
      cases r1
      have hd : Dp X.K H (.ref a) (.list ds) := .lst h1 h2
      obtain ⟨as, rd⟩ := Dp.reads I _ _ _ hd rfl
      exact repr_of_reads' rd F.sh.ok (fun hh => by rw [Dp.noDict hd] at hh; cases hh) hg (by omega) (fun _ _ e => e) (fun h' u tk hk => ⟨.str _, H, I.kept hk, ⟨u, rfl⟩, q⟩) hsz
    | @tup a xs ds h1 h2 =>
      cases r1
      have hd : Dp X.K H (.ref a) (.tuple ds) := .tup h1 h2
      obtain ⟨as, rd⟩ := Dp.reads I _ _ _ hd rfl
      exact repr_of_reads' rd F.sh.ok (fun hh => by rw [Dp.noDict hd] at hh; cases hh) hg (by omega) (fun _ _ e => e) (fun h' u tk hk => ⟨.str _, H, I.kept hk, ⟨u, rfl⟩, q⟩) hsz
  | @dic0 a e =>
    cases r1
    obtain ⟨_, nm, vs, kv, o, es, ep, e1, ⟨e2, e3⟩, e4, _, pr, _⟩ := dk_of I.hok e
    cases kv
    have z : es.toList = [] := by
      generalize es.toList = l at pr ⊢
      cases pr
      rfl
    have rd : Reads s.heap (.ref a) (.dict []) (a :: [] ++ []) := .dict e1 e2 e4 (by rw [z]; exact .nil) (by rw [z]; exact .nil)
    exact repr_of_reads' rd F.sh.ok (fun _ hm => by simp at hm; rw [hm] at nm; simp at nm) hg (by omega) (fun _ _ e => e) (fun h' u tk hk => ⟨.str _, H, I.kept hk, ⟨u, rfl⟩, q⟩) hsz
  | @dic1 a k i e =>
    cases r1
    obtain ⟨_, nm, vs, kv, o, es, ep, e1, ⟨e2, e3⟩, e4, _, pr, _⟩ := dk_of I.hok e
    cases kv with
    | @cons _ q' _ _ hk hr =>
      cases hr
      obtain ⟨k1, v1⟩ := q'
      obtain ⟨rfl, t, rfl⟩ := hk
      obtain ⟨el, z, kk, vv⟩ : ∃ el, es.toList = [el] ∧ (mixKind X.prog X.w).is (.inr k) el.key = true ∧ el.val = .int i t := by
        generalize es.toList = l at pr
        cases pr with
        | cons h1 h2 h3 =>
          cases h3
          exact ⟨_, rfl, h1, h2⟩
      obtain ⟨i0, t0, z0, _⟩ | ⟨x0, t0, z0, z1⟩ := keyIs_shape (k := .inr k) (v := el.key) kk
      · cases z0
      · cases z0
        have rd : Reads s.heap (.ref a) (.dict [(.str k, .int i)]) (a :: ([] ++ []) ++ ([] ++ [])) :=
          .dict e1 e2 e4 (by rw [z]; exact .cons (show Reads s.heap el.key (.str k) [] by rw [z1]; exact .str _ _) .nil) (by rw [z]; exact .cons (show Reads s.heap el.val (.int i) [] by rw [vv]; exact .int _ _) .nil)
        exact repr_of_reads' rd F.sh.ok (fun _ hm => by simp at hm; rw [hm] at nm; simp at nm) hg (by omega) (fun _ _ e => e) (fun h' u tk hk => ⟨.str _, H, I.kept hk, ⟨u, rfl⟩, q⟩) hsz
theorem call_reprOK (K : PySem.W.Frag) (hu : X.A.units + 64 < cLine) (hg : X.A.guards = some []) (h : X.K = K := by rfl) : CallR X (.builtin "repr") (rReprO K) := h ▸ call_reprO hu hg
end
theorem reprO_of {K : PySem.W.Frag} {H : Hp} {v : V} {d : PyData} {Q : VK} (o : Odd K H v d) (F : Fine d) (q : Q (.str d.shown) H) : rReprO K [v] H Q := by
  unfold rReprO
  exact ⟨v, d, rfl, o, F, q⟩
section
variable {K : PySem.W.Frag} {a D dd C : Addr} {cls : Value} {d : Option Addr} {f : Str} {y : V} {H : Hp} {b : Bool} {Q : VK}
theorem rIsO_ref (k : Kept K cls d f y D dd H) (hk : PySem.W.kitOne K (.ref D) (.ref C) = some b) (q : Q (.bl b) H) : rIsO K a cls d [.ref a, .ref C] H Q := by
  unfold rIsO
  exact ⟨D, dd, f, y, _, _, b, rfl, k, fun _ r => r, hk, q⟩
theorem rIsO_ty {T : String} (k : Kept K cls d f y D dd H) (hk : PySem.W.kitOne K (.ref D) (.type T) = some b) (q : Q (.bl b) H) : rIsO K a cls d [.ref a, .ty T] H Q := by
  unfold rIsO
  exact ⟨D, dd, f, y, _, _, b, rfl, k, fun _ r => r, hk, q⟩
end
end RV
/-! Promises of the program where it refuses: which error, what it keeps. -/
namespace RV
open PySem L2 PyProof.Rows TL
/-! ### defs that may let an error out -/
section
variable {P : Program} {w : World} {K : PySem.W.Frag} {mg : Str → Option Value} {base : Heap} {k : Nat} {f : Addr} {fd : FuncData} {ps : List Str} {sp sp1 sp2 : Sp}
def orS (sp1 sp2 : Sp) : Sp := fun vs H Q E => sp1 vs H Q E ∨ sp2 vs H Q E
theorem fok_or (h1 : FnOk P w K mg base CX0 k f fd ps sp1) (h2 : FnOk P w K mg base (L2.CX P w) k f fd ps sp2) : FnOk P w K mg base (L2.CX P w) k f fd ps (orS sp1 sp2) := by
  refine ⟨fun vs H Q E h => h.elim (h1.len _ _ _ _) (h2.len _ _ _ _), fun A outer s H args us vs Q E hr e0 hb r h => ?_⟩
  rcases h with h | h
  · refine codeAny_mono (h1.run A outer s H args us vs Q E hr e0 hb r h) fun x s' hq => ?_
    cases x with
    | error e => exact hq.elim
    | ok fl => cases fl <;> exact hq
  · exact h2.run A outer s H args us vs Q E hr e0 hb r h
/-- a function of the module that may refuse -/
def Fx (P : Program) (w : World) (K : PySem.W.Frag) (mg : Str → Option Value) (base : Heap) (x : Str) (k : Nat) (ps : List Str) (sp : Sp) : Prop :=
  ∃ f fd, mg x = some (.ref f) ∧ PySem.W.keepIn K (.ref f) = true ∧ Binds K fd ps [] ∧ FnOk P w K mg base (L2.CX P w) k f fd ps sp
def MtdX (P : Program) (w : World) (K : PySem.W.Frag) (mg : Str → Option Value) (base : Heap) (C : Addr) (m : Str) (k : Nat) (ps : List Str) (sp : Sp) : Prop :=
  Cls K C ∧ ∃ f fd, Meth K C m f ∧ Binds K fd ps [] ∧ FnOk P w K mg base (L2.CX P w) k f fd ps sp
theorem Fx.irr {x : Str} (h : Fx P w K mg base x k ps sp) : Fx P w K mg base x k ps (Irr sp) := by
  obtain ⟨f, fd, a, b, c, F⟩ := h
  exact ⟨f, fd, a, b, c, F.imp fun _ _ _ _ z => irr_of z⟩
theorem MtdX.irr {C : Addr} {m : Str} (h : MtdX P w K mg base C m k ps sp) : MtdX P w K mg base C m k ps (Irr sp) := by
  obtain ⟨c, f, fd, a, b, F⟩ := h
  exact ⟨c, f, fd, a, b, F.imp fun _ _ _ _ z => irr_of z⟩
end
section
variable {X : Cx} {x m : Str} {C : Addr} {k : Nat} {ps : List Str} {sp : Sp} {e o : Expr} {es : List Expr} {t : TA} {ta : TE} {p pos apos : Pos} {E : XK} {W : WX}
theorem pe_fx (h : Fx X.prog X.w X.K X.mg X.base x k ps sp) (hr : Room k X.A) (hx : Passes (L2.CX X.prog X.w) X E) (ha : PA X (e :: es) t) (hg : Gl X x := by rfl) (hdb : (x == ("__debug__" : Str)) = false := by decide)
    (he : starEach (e :: es) X.env = (false, eval e X.env) :: starEach es X.env := by rfl) (hpl : (backTo pos (starEach es X.env)).any (·.1) = false := by rfl) :
    PE X (.Call (.Name x p) (e :: es) [] pos) (tCall sp [] E t) := by
  obtain ⟨f, fd, hm, hk, hb, F⟩ := h
  exact pe_call F hr hg hm hk hb .nil hx ha hdb he hpl
theorem pe_fxW (h : Fx X.prog X.w X.K X.mg X.base x k ps sp) (hr : Room k X.A) (tk : Takes X W) (ha : PA X (e :: es) t) (hg : Gl X x := by rfl) (hdb : (x == ("__debug__" : Str)) = false := by decide)
    (he : starEach (e :: es) X.env = (false, eval e X.env) :: starEach es X.env := by rfl) (hpl : (backTo pos (starEach es X.env)).any (·.1) = false := by rfl) :
    PE X (.Call (.Name x p) (e :: es) [] pos) (tCallSD sp [] (WE W) t) := by
  obtain ⟨f, fd, hm, hk, hb, F⟩ := h
  exact pe_callSD F hr hg hm hk hb .nil (passAt tk) ha hdb he hpl
theorem pe_mtdX {pl : Sem Bool} (h : MtdX X.prog X.w X.K X.mg X.base C m k ps sp) (hr : Room k X.A) (hx : Passes (L2.CX X.prog X.w) X E) (he : PE X o ta) (ha : PA X (e :: es) t)
    (hst : starEach (e :: es) X.env = (false, eval e X.env) :: starEach es X.env := by rfl) (hpl : (backTo pos (starEach es X.env)).any (·.1) = false := by rfl)
    (ht : eval (.Call (.Attribute o m apos) (e :: es) [] pos) X.env = (do
      let ov ← eval o X.env
      standAt apos.atName
      let (f, first) ← holding [ov] (getMethod ov m pl)
      callWith pos f first (backTo pos (starEach (e :: es) X.env)) (backToKw pos (keywordEach [] X.env))) := by rfl) :
    PE X (.Call (.Attribute o m apos) (e :: es) [] pos) (tMeth C m sp [] E ta t) := by
  obtain ⟨c, f, fd, hm, hb, F⟩ := h
  exact pe_meth he c hm F hr hb .nil hx ha hst hpl ht
end
/-! ### the types of odd values -/
def odT : PyData → Value
  | .none => .type "NoneType"
  | .bool _ => .type "bool"
  | .int _ => .type "int"
  | .str _ => .type "str"
  | .list _ => .type "list"
  | .tuple _ => .type "tuple"
  | .dict _ => .type "dict"
def isS : PyData → Bool
  | .str _ => true
  | _ => false
def isT : PyData → Bool
  | .tuple _ => true
  | _ => false
theorem tyx_lst {K : PySem.W.Frag} {H : Hp} {a : Addr} {xs : List V} (h : SqL K H a xs) : TyX K H (.ref a) (.type "list") := by
  rcases h with (h | ⟨o, h⟩) | ⟨o, its, n, h, hc, _⟩
  · exact .base (.lst h)
  · exact .base (.frz h)
  · exact .kList h hc
theorem Odd.ty {K : PySem.W.Frag} {H : Hp} {v : V} {d : PyData} (h : Odd K H v d) : TyX K H v (odT d) := by
  cases h with
  | dat h =>
    cases h with
    | non => exact .base .non
    | bl b => exact .base (.bl b)
    | int i => exact .base (.int i)
    | str x => exact .base (.str x)
    | lst h _ => exact tyx_lst h
    | tup h _ => exact tyx_tup h
  | dic0 e => exact .base (.dK e)
  | dic1 e => exact .base (.dK e)
theorem kit_odS (K : PySem.W.Frag) (d : PyData) : PySem.W.kitOne K (odT d) (.type "str") = some (isS d) := by
  cases d <;> exact kit_ty (by rfl)
theorem kit_odT (K : PySem.W.Frag) (d : PyData) : PySem.W.kitOne K (odT d) (.type "tuple") = some (isT d) := by
  cases d <;> exact kit_ty (by rfl)
/-- no built-in value is one of the class at C -/
def Alien (K : PySem.W.Frag) (C : Addr) : Prop := ∀ d : PyData, PySem.W.kitOne K (odT d) (.ref C) = some false
/-! ### what is refused -/
/-- the error of the class at C that keeps v is let out -/
def ErrS (C : Addr) (v : V) (H : Hp) (E : XK) : Prop := ∀ d H', Same H H' → H' d = some (.xd [("given", v)]) → E (.ref C) (some d) H'
theorem ErrS.same {C : Addr} {v : V} {H H1 : Hp} {E : XK} (h : ErrS C v H E) (s : Same H H1) : ErrS C v H1 E := fun d H' s1 e => h d H' (s.trans s1) e
theorem ErrS.new {C : Addr} {v : V} {H : Hp} {E : XK} (h : ErrS C v H E) {d : Addr} (n : H d = none) : E (.ref C) (some d) (upd H d (.xd [("given", v)])) := h d _ (fun b o q => by rw [upd_ne (ne_of_none q n)]; exact q) upd_same
/-- is it a bound, are these faults -/
def bdB : PyData → Bool
  | .int i => decide (0 ≤ i) && decide (i ≤ 3)
  | _ => false
def ftB : PyData → Bool
  | .tuple [.int a, .int b, .int c] => bdB (.int a) && bdB (.int b) && bdB (.int c) && decide (a ≤ b)
  | _ => false
section
variable (K : PySem.W.Frag) (CN CP CM CE CU CF : Addr)
def BadNet (v : V) (H : Hp) : Prop := ∃ d, Odd K H v d
def BadNm (v : V) (H : Hp) (ns : List Str) : Prop := ∃ d, Odd K H v d ∧ ∀ y, d = .str y → y ∉ ns
def BadFt (v : V) (H : Hp) : Prop := ∃ d, Odd K H v d ∧ ftB d = false
theorem BadNet.same {K : PySem.W.Frag} {v : V} {H H' : Hp} (h : BadNet K v H) (s : Same H H') : BadNet K v H' := h.imp fun _ o => o.same s
theorem BadNm.same {K : PySem.W.Frag} {v : V} {H H' : Hp} {ns : List Str} (h : BadNm K v H ns) (s : Same H H') : BadNm K v H' ns := h.imp fun _ o => ⟨o.1.same s, o.2⟩
theorem BadFt.same {K : PySem.W.Frag} {v : V} {H H' : Hp} (h : BadFt K v H) (s : Same H H') : BadFt K v H' := h.imp fun _ o => ⟨o.1.same s, o.2⟩
def sp_chnX : Sp := fun vs H _ E => ∃ v, vs = [v] ∧ BadNet K v H ∧ ErrS CE v H E
def sp_indexO : Sp := fun vs H Q _ => ∃ (t : Addr) (us : List PU) (v : V), vs = [.ref t, v] ∧ Tps K CP H t us ∧ us.length ≤ 12 ∧ BadNm K v H ((sn us).map (·.1)) ∧ ∀ H', Same H H' → Q .non H'
def sp_gpipeX : Sp := fun vs H _ E => ∃ (x : Addr) (ps : List P3) (ms : List M3) (v : V), vs = [.ref x, v] ∧ NetR K CN CP CM H x ps ms ∧ ps.length ≤ 12 ∧ BadNm K v H (ps.map (·.1)) ∧ ErrS CU v H E
def sp_isbO : Sp := fun vs H Q _ => ∃ (v : V) (d : PyData), vs = [v] ∧ Odd K H v d ∧ Q (.bl (bdB d)) H
def sp_arfO : Sp := fun vs H Q _ => ∃ v, vs = [v] ∧ BadFt K v H ∧ ∀ H', Same H H' → Q (.bl false) H'
def sp_chfX : Sp := fun vs H _ E => ∃ v, vs = [v] ∧ BadFt K v H ∧ ErrS CF v H E
/-- the net, or the name -/
def sp_twoX : Sp := fun vs H _ E => ∃ (n v : V), vs = [n, v] ∧ ((BadNet K n H ∧ ErrS CE n H E) ∨
  (∃ (x : Addr) (ps : List P3) (ms : List M3), n = .ref x ∧ NetR K CN CP CM H x ps ms ∧ ps.length ≤ 12 ∧ BadNm K v H (ps.map (·.1)) ∧ ErrS CU v H E))
/-- the net, or the name, or the faults -/
def sp_threeX : Sp := fun vs H _ E => ∃ (n v f : V), vs = [n, v, f] ∧ ((BadNet K n H ∧ ErrS CE n H E) ∨
  (∃ (x : Addr) (ps : List P3) (ms : List M3), n = .ref x ∧ NetR K CN CP CM H x ps ms ∧ ps.length ≤ 12 ∧ BadNm K v H (ps.map (·.1)) ∧ ErrS CU v H E) ∨
  (∃ (x : Addr) (ps : List P3) (ms : List M3) (y : Str), n = .ref x ∧ v = .str y ∧ NetR K CN CP CM H x ps ms ∧ ps.length ≤ 12 ∧ y ∈ ps.map (·.1) ∧ BadFt K f H ∧ ErrS CF f H E))
end
end RV
/-! Values that are no faults, as the law sees them. -/
namespace RV
open PySem L2 PyProof.Rows TL
/-- the texts of the bounds -/
def dig4 : List V := [.str "0", .str "1", .str "2", .str "3"]
/-- shown as a bound exactly if it is one -/
structure Bnd (d : PyData) : Prop where
  fine : Fine d
  bd : inV (.str d.shown) dig4 = bdB d
/-- what may be handed over as faults -/
structure FitD (d : PyData) : Prop where
  fine : Fine d
  el : ∀ ds, d = .tuple ds → ∀ e ∈ ds, Bnd e
theorem inO {K : PySem.W.Frag} {d : PyData} {H : Hp} {q : Addr} {R : VK} (hb : Bnd d) (nq : H q = none) (kk : ∀ H3, Same H H3 → R (.bl (bdB d)) H3) : rIn K false (.str d.shown) (.ref q) (upd H q (.lst dig4)) R := ⟨q, dig4, rfl, .inl (SqL.of upd_same), rfl, by rfl, by
  rw [if_neg (by decide), hb.bd]
  exact kk _ (same_new nq)⟩
def sp_fit (K : PySem.W.Frag) : Sp := fun vs H Q _ => ∃ (v : V) (d : PyData), vs = [v] ∧ Odd K H v d ∧ FitD d ∧ ∀ H', Same H H' → Q (.bl (ftB d)) H'
end RV
/-! Odd values of the law: that they are small, that they are shown as they should. -/
namespace RV
open PySem L2 PyProof.Rows TL
/-! ### plain texts -/
def Low (x : Str) : Prop := ∀ c ∈ cd x, c < 1000
theorem low_c {x : Str} (h : (cd x).all (fun c => decide (c < 1000)) = true) : Low x := fun c hc => of_decide_eq_true (List.all_eq_true.mp h c hc)
theorem low_nm {x : Str} (h : IsNm x) : Low x := fun c hc => by
  have q := List.all_eq_true.mp (isNm_all h) c hc
  simp only [tailC, lowC, digC, Bool.or_eq_true, Bool.and_eq_true, decide_eq_true_eq] at q
  omega
theorem low_app {x y : Str} (a : Low x) (b : Low y) : Low (x ++ y) := fun c hc => by
  rw [cd_app] at hc
  exact (List.mem_append.mp hc).elim (a c) (b c)
theorem low_joinL : ∀ {xs : List Str}, (∀ x ∈ xs, Low x) → ∀ c ∈ joinL [10] (xs.map tl), c < 1000
  | [], _, c, hc => by simp [joinL] at hc
  | [x], h, c, hc => h x List.mem_cons_self c (by simpa [joinL] using hc)
  | x :: y :: ys, h, c, hc => by
    have hc : c ∈ tl x ++ ([10] ++ joinL [10] ((y :: ys).map tl)) := hc
    rcases List.mem_append.mp hc with hc | hc
    · exact h x List.mem_cons_self c hc
    · rcases List.mem_append.mp hc with hc | hc
      · rw [List.mem_singleton.mp hc]
        decide
      · exact low_joinL (fun z hz => h z (List.mem_cons_of_mem _ hz)) c hc
theorem low_join {xs : List Str} (h : ∀ x ∈ xs, Low x) : Low (Txt.join "\n" xs) := fun c hc => by
  rw [cd_tl, join_eq, tl_join, show tl "\n" = [10] from cd_nl] at hc
  exact low_joinL h c hc
theorem low_netT {ps : List P3} {ms : List M3} (hp : PNm ps) (hm : MNm ms) : Low (netT ps ms) := by
  refine low_join fun x hx => ?_
  have c1 : Low Str.empty := low_c (by decide +kernel)
  have c2 : Low "pipe " := low_c (by decide +kernel)
  have c3 : Low " " := low_c (by decide +kernel)
  have c4 : Low "meter " := low_c (by decide +kernel)
  have c5 : ∀ b, Low (mseal b) := fun b => by cases b <;> exact low_c (by decide +kernel)
  rcases List.mem_append.mp hx with h | h
  · obtain ⟨q, hq, rfl⟩ := List.mem_map.mp h
    exact low_app (low_app (low_app (low_app (low_app (low_app c1 c2) (low_nm (hp q hq).1)) c3) (low_nm (hp q hq).2.1)) c3) (low_nm (hp q hq).2.2)
  · obtain ⟨q, hq, rfl⟩ := List.mem_map.mp h
    exact low_app (low_app (low_app (low_app (low_app c1 c4) (low_nm (hm q hq).1)) c3) (low_nm (hm q hq).2)) (c5 _)
/-! ### the signs of a shown text -/
def Sg (l : List Nat) : Prop := ∀ c ∈ l, c < 0x110000
theorem sg_char (c : Char) : c.toNat < 0x110000 := by
  have h := c.valid
  have e : c.toNat = c.val.toNat := rfl
  rw [e]
  rcases h with h | ⟨_, h⟩
  · omega
  · exact h
theorem sg_hex (w c : Nat) : Sg (List.replicate (w - ((Nat.toDigits 16 c).map Char.toNat).length) 48 ++ (Nat.toDigits 16 c).map Char.toNat) := fun d hd => by
  rcases List.mem_append.mp hd with h | h
  · rw [(List.mem_replicate.mp h).2]
    decide
  · obtain ⟨k, _, rfl⟩ := List.mem_map.mp h
    exact sg_char k
theorem sg_app {a b : List Nat} (x : Sg a) (y : Sg b) : Sg (a ++ b) := fun c hc => (List.mem_append.mp hc).elim (x c) (y c)
theorem sg_c {l : List Nat} (h : l.all (fun c => decide (c < 0x110000)) = true) : Sg l := fun c hc => of_decide_eq_true (List.all_eq_true.mp h c hc)
theorem sg_reprChar {q c : Nat} (h : c < 0x110000) : Sg (Builtin.Str.reprChar q c) := by
  unfold Builtin.Str.reprChar
  dsimp only
  have two : ∀ {a : Nat}, a < 0x110000 → Sg [92, a] := fun {a} ha d hd => by
    simp only [List.mem_cons, List.not_mem_nil, or_false] at hd
    rcases hd with rfl | rfl
    · decide
    · exact ha
  split
  · exact two h
  split
  · exact two (by decide)
  split
  · exact two (by decide)
  split
  · exact two (by decide)
  split
  · intro d hd
    rw [List.mem_singleton.mp hd]
    exact h
  split
  · exact sg_app (two (by decide)) (sg_hex _ _)
  split
  · exact sg_app (two (by decide)) (sg_hex _ _)
  · exact sg_app (two (by decide)) (sg_hex _ _)
theorem sg_fold {q : Nat} : ∀ (l : List Nat) (acc : Array Nat), Sg l → Sg acc.toList → Sg (l.foldl (fun out c => out ++ (Builtin.Str.reprChar q c).toArray) acc).toList
  | [], _, _, h => h
  | c :: l, acc, hl, h => sg_fold l _ (fun d hd => hl d (List.mem_cons_of_mem _ hd)) (by
      rw [Array.toList_append]
      exact sg_app h (by simpa using sg_reprChar (hl c List.mem_cons_self)))
theorem ok_sg {x : Str} : PyData.strOk x = true ↔ Sg (cd x) := by
  unfold PyData.strOk Sg cd
  rw [← Array.all_toList, List.all_eq_true]
  constructor
  · intro h c hc
    exact of_decide_eq_true (h c hc)
  · intro h c hc
    exact decide_eq_true (h c hc)
theorem ok_repr {x : Str} (h : Low x) : PyData.strOk (reprText x) = true := by
  rw [ok_sg]
  have q : ∀ {d : Nat}, d = reprQuote x → d < 0x110000 := fun {d} e => by
    rw [e]
    unfold reprQuote
    split <;> decide
  unfold reprText
  show Sg ((x.cps.foldl (fun out c => out ++ (Builtin.Str.reprChar (reprQuote x) c).toArray) #[reprQuote x]).push (reprQuote x)).toList
  rw [Array.toList_push, ← Array.foldl_toList]
  refine sg_app (sg_fold _ _ (fun c hc => Nat.lt_trans (h c hc) (by decide)) fun c hc => ?_) fun c hc => ?_
  · exact q (by simpa using hc)
  · exact q (List.mem_singleton.mp hc)
theorem fine_str {x : Str} (h : Low x) (hl : x.length ≤ 90000) : Fine (.str x) := by
  have e : (PyData.str x).shown = reprText x := by simp [PyData.shown]
  refine ⟨⟨by simp [PyData.showable], by simp [PyData.depth], ?_⟩, fun i e => (by cases e), by rw [e]; exact ok_repr h⟩
  have h1 := StrLaws.reprText_len x fun c hc => Nat.lt_trans (h c hc) (by decide)
  rw [e]
  omega
theorem ok_tup1 {x : Str} (h : Low x) : PyData.strOk (PyData.tuple [.str x]).shown = true := by
  have e : (PyData.tuple [.str x]).shown = tupleText [reprText x] := by simp [PyData.shown, PyData.shownAll]
  rw [e, ok_sg]
  have e2 : tupleText [reprText x] = ("(" : Str) ++ reprText x ++ (",)" : Str) := rfl
  rw [e2, cd_app, cd_app]
  exact sg_app (sg_app (sg_c (by decide +kernel)) (ok_sg.mp (ok_repr h))) (sg_c (by decide +kernel))
theorem ok_lst1 {x : Str} (h : Low x) : PyData.strOk (PyData.list [.str x]).shown = true := by
  have e : (PyData.list [.str x]).shown = listText [reprText x] := by simp [PyData.shown, PyData.shownAll]
  rw [e, ok_sg]
  have e2 : listText [reprText x] = (("[" : Str) ++ ("" : Str) ++ reprText x) ++ ("]" : Str) := rfl
  rw [e2, cd_app, cd_app, cd_app]
  exact sg_app (sg_app (sg_app (sg_c (by decide +kernel)) (sg_c (by decide +kernel))) (ok_sg.mp (ok_repr h))) (sg_c (by decide +kernel))
/-! ### values without a letter -/
def fineB (d : PyData) : Bool := PyData.strOk d.shown && d.showable && decide (d.depth ≤ 60) && decide (d.shown.length ≤ 1000000) && (match d with | .int i => decide (i.natAbs.log2 < 1920) | _ => true)
theorem fine_by {d : PyData} (h : fineB d = true) : Fine d := by
  unfold fineB at h
  simp only [Bool.and_eq_true, decide_eq_true_eq] at h
  obtain ⟨⟨⟨⟨h0, h1⟩, h2⟩, h3⟩, h4⟩ := h
  refine ⟨⟨h1, h2, h3⟩, fun i e => ?_, h0⟩
  subst e
  exact of_decide_eq_true h4
def bndB (d : PyData) : Bool := fineB d && (inV (.str d.shown) dig4 == bdB d)
theorem bnd_by {d : PyData} (h : bndB d = true) : Bnd d := by
  unfold bndB at h
  simp only [Bool.and_eq_true, beq_iff_eq] at h
  exact ⟨fine_by h.1, h.2⟩
def fitB (d : PyData) : Bool := fineB d && (match d with | .tuple ds => ds.all bndB | _ => true)
theorem fit_by {d : PyData} (h : fitB d = true) : FitD d := by
  unfold fitB at h
  rw [Bool.and_eq_true] at h
  refine ⟨fine_by h.1, fun ds e x hx => ?_⟩
  subst e
  exact bnd_by (List.all_eq_true.mp h.2 x hx)
def fltD (i j : Int) : PyData := .tuple [.int i, .int 3, .int j]
theorem fit_flt {i j : Int} (h0 : 0 ≤ i) (h1 : i < 4) (h2 : 0 ≤ j) (h3 : j < 4) : FitD (fltD i j) := by
  have e1 : i = 0 ∨ i = 1 ∨ i = 2 ∨ i = 3 := by omega
  have e2 : j = 0 ∨ j = 1 ∨ j = 2 ∨ j = 3 := by omega
  rcases e1 with rfl | rfl | rfl | rfl <;> rcases e2 with rfl | rfl | rfl | rfl <;> exact fit_by (by decide +kernel)
theorem sz3 {α : Type} {xs : List α} (k : Nat) (h : xs.length = k) (hk : k ≤ 100 := by decide) : xs.length ≤ sizeLine := by
  rw [h, sizeLine_eq]
  omega
/-! ### the ledger -/
theorem Has.off {a p : Addr} {n : Nat} {L : List (Addr × HO)} {H0 H : Hp} (h : Has H0 a n L H) (e : H p = none) : p ≠ a := fun z => by
  obtain ⟨x, y, w, q, _⟩ := h.well
  rw [z, q] at e
  cases e
theorem upd_two {H : Hp} {p : Addr} {o o' : HO} : upd (upd H p o) p o' = upd H p o' := by
  funext b
  by_cases hb : b = p
  · rw [hb, upd_same, upd_same]
  · rw [upd_ne hb, upd_ne hb, upd_ne hb]
theorem Has.rebase {a : Addr} {n : Nat} {L : List (Addr × HO)} {H0 H : Hp} (h : Has H0 a n L H) : Has H a n L H := ⟨Grow.refl a H, h.well, h.here⟩
theorem merge1 (k : Key) (v : V) : L2.mergeK [] [(k, v)] = [(k, v)] := by
  first
    | rfl
    | simp [L2.mergeK, L2.putK]
theorem same_del {a : Addr} {H H' : Hp} (s : Same (L2.del H a) H') : Same (L2.del H a) (L2.del H' a) := fun b o e => by
  by_cases hb : b = a
  · rw [hb, del_same] at e
    cases e
  · rw [del_ne hb]
    exact s b o e
/-- what stands, the well aside -/
theorem Has.rest {a p : Addr} {n : Nat} {L : List (Addr × HO)} {H0 H : Hp} {o : HO} (h : Has H0 a n L H) (m : (p, o) ∈ L) : del H a p = some o := by
  rw [del_ne (h.here _ m).1]
  exact (h.here _ m).2
theorem grow_del {a : Addr} {H H' : Hp} (g : Grow a H H') : Same (del H a) H' := fun b o e => by
  by_cases hb : b = a
  · rw [hb, del_same] at e
    cases e
  · rw [del_ne hb] at e
    exact g b o hb e
theorem NetR.del {K : PySem.W.Frag} {CN CP CM x a : Addr} {H : Hp} {ps : List P3} {ms : List M3} {vs : List V} (h : NetR K CN CP CM H x ps ms) (e : H a = some (.lst vs)) : NetR K CN CP CM (L2.del H a) x ps ms := by
  have off : ∀ {b : Addr} {o : HO}, H b = some o → (∀ vs, o ≠ .lst vs) → L2.del H a b = some o := fun {b o} q ne => by
    rw [del_ne (fun z => by
      rw [z, e] at q
      exact ne vs (Option.some.inj q).symm)]
    exact q
  have sq : ∀ {t : Addr} {xs : List V}, SqT K H t xs → SqT K (L2.del H a) t xs := fun {t xs} q => by
    rcases q with (q | ⟨o, q⟩) | q
    · exact .inl (.inl (off q fun vs z => by cases z))
    · exact .inl (.inr ⟨o, off q fun vs z => by cases z⟩)
    · exact .inr q
  obtain ⟨dx, tp, tm, pu, mu, e1, h1, h2, e2, e3⟩ := h.ex
  refine ⟨dx, tp, tm, pu, mu, off e1 (fun vs z => by cases z), ⟨sq h1.t, fun u hu => ?_⟩, ⟨sq h2.t, fun u hu => ?_⟩, e2, e3⟩
  · obtain ⟨d, q⟩ := h1.o u hu
    exact ⟨d, off q fun vs z => by cases z⟩
  · obtain ⟨d, q⟩ := h2.o u hu
    exact ⟨d, off q fun vs z => by cases z⟩
end RV
/-! The odd values that the law hands over. -/
namespace RV
open PySem L2 PyProof.Rows TL
def strU (y : Str) : V × PyData := (.str y, .str y)
def oddU (l0 d0 t0 t1 l1 : Addr) (g T : Str) : List (V × PyData) := [(.non, .none), (.int 0, .int 0), (.bl true, .bool true), strU "", (.ref l0, .list []), (.ref d0, .dict []), (.ref t0, .tuple []), strU "P", (.ref t1, .tuple [.str g]), (.ref l1, .list [.str g]),
  strU (g ++ "?"), strU T, (.int (-1), .int (-1))]
def extU (d1 t2 : Addr) (g : Str) : List (V × PyData) := [(.ref d1, .dict [(.str "pipes", .int 1)]), (.ref t2, .tuple [.list []]), strU (g ++ "z")]
def othU (l0 d0 t0 t1 l1 d1 t2 : Addr) (g T : Str) (pl gs : List Str) : List (V × PyData) := oddU l0 d0 t0 t1 l1 g T ++ pl.map strU ++ gs.map strU ++ extU d1 t2 g
def ben1 (b1 b2 b3 b4 b5 b6 b7 b8 : Addr) : List (V × PyData) := [(.ref b1, .tuple [.int 0, .int 0]), (.ref b2, .tuple [.int 1, .int 0, .int 0]), (.ref b3, .tuple [.int 0, .int 4, .int 0]), (.ref b4, .tuple [.int 0, .int 0, .int 4]), (.ref b5, .tuple [.int (-1), .int 0, .int 0]),
  (.ref b6, .list [.int 0, .int 0, .int 0]), (.non, .none), (.ref b7, .tuple [.int 0, .int 0, .bool true]), (.ref b8, .tuple [.int 0, .int 1, .str "0"])]
def ben2 (c1 c2 c3 c5 c6 c7 : Addr) : List (V × PyData) := [(.ref c1, .tuple [.int 2, .int 1, .int 0]), (.ref c2, .tuple [.int 0, .int 0, .int 0, .int 0]), strU "000", (.int 0, .int 0), (.ref c3, .tuple [.bool false, .int 0, .int 0]), (.ref c5, .tuple [.list [], .int 0, .int 0]),
  (.ref c6, .tuple [.int 0, .int 0, .int (-1)]), (.ref c7, .tuple [.int 4, .int 4, .int 0])]
def ben3 (e2 e3 e4 : Addr) : List (V × PyData) := [(.ref e2, .tuple [.tuple [.int 0], .int 0, .int 0]), (.ref e3, .dict []), (.ref e4, .tuple [.int 3, .int 2, .int 3])]
def GoodO (K : PySem.W.Frag) (H : Hp) (us : List (V × PyData)) : Prop := ∀ u ∈ us, Odd K H u.1 u.2 ∧ Fine u.2
def GoodF (K : PySem.W.Frag) (H : Hp) (us : List (V × PyData)) : Prop := ∀ u ∈ us, Odd K H u.1 u.2 ∧ FitD u.2
section
variable {K : PySem.W.Frag} {H : Hp}
theorem GoodO.app {us vs : List (V × PyData)} (a : GoodO K H us) (b : GoodO K H vs) : GoodO K H (us ++ vs) := fun u hu => (List.mem_append.mp hu).elim (a u) (b u)
theorem GoodF.app {us vs : List (V × PyData)} (a : GoodF K H us) (b : GoodF K H vs) : GoodF K H (us ++ vs) := fun u hu => (List.mem_append.mp hu).elim (a u) (b u)
theorem goodO_cons {v : V} {d : PyData} {us : List (V × PyData)} (o : Odd K H v d) (f : Fine d) (r : GoodO K H us) : GoodO K H ((v, d) :: us) := fun x hx => by
  rcases List.mem_cons.mp hx with rfl | hx
  · exact ⟨o, f⟩
  · exact r x hx
theorem goodO_nil : GoodO K H [] := fun _ h => nomatch h
theorem goodF_cons {v : V} {d : PyData} {us : List (V × PyData)} (o : Odd K H v d) (f : FitD d) (r : GoodF K H us) : GoodF K H ((v, d) :: us) := fun x hx => by
  rcases List.mem_cons.mp hx with rfl | hx
  · exact ⟨o, f⟩
  · exact r x hx
theorem goodF_nil : GoodF K H [] := fun _ h => nomatch h
theorem goodO_str {ys : List Str} (h : ∀ y ∈ ys, IsNm y) : GoodO K H (ys.map strU) := fun u hu => by
  obtain ⟨y, hy, rfl⟩ := List.mem_map.mp hu
  have hl := isNm_len (h y hy)
  rw [← cd_len] at hl
  exact ⟨.dat (.str y), fine_str (low_nm (h y hy)) (by omega)⟩
theorem oddU_ok {l0 d0 t0 t1 l1 : Addr} {g T : Str} (e0 : H l0 = some (.lst [])) (e1 : H d0 = some (.dK [])) (e2 : H t0 = some (.tup [])) (e3 : H t1 = some (.tup [.str g])) (e4 : H l1 = some (.lst [.str g])) (hg : IsNm g) (hT : Low T) (lT : T.length ≤ 90000) : GoodO K H (oddU l0 d0 t0 t1 l1 g T) := by
  have gl := isNm_len hg
  rw [← cd_len] at gl
  have one : ∀ d ∈ [PyData.str g], Shw d 0 100 := fun d hd => by
    rw [List.mem_singleton.mp hd]
    exact (short_nm hg).shw
  have q1 : ("?" : Str).length = 1 := by decide +kernel
  refine goodO_cons (.dat .non) (fine_by (by decide +kernel)) (goodO_cons (.dat (.int 0)) (fine_by (by decide +kernel)) (goodO_cons (.dat (.bl true)) (fine_by (by decide +kernel)) (goodO_cons (.dat (.str "")) (fine_by (by decide +kernel))
    (goodO_cons (.dat (.lst (SqL.of e0) .nil)) (fine_by (by decide +kernel)) (goodO_cons (.dic0 e1) (fine_by (by decide +kernel)) (goodO_cons (.dat (.tup (SqT.of e2) .nil)) (fine_by (by decide +kernel)) (goodO_cons (.dat (.str "P")) (fine_by (by decide +kernel))
    (goodO_cons (.dat (.tup (SqT.of e3) (.cons (.str g) .nil))) ⟨(shw_tuple one).mono (by decide) (by show (100 + 2) * 1 + 3 ≤ 1000000; decide), fun i e => (by cases e), ok_tup1 (low_nm hg)⟩ (goodO_cons (.dat (.lst (SqL.of e4) (.cons (.str g) .nil))) ⟨(shw_list one).mono (by decide) (by show (100 + 2) * 1 + 3 ≤ 1000000; decide), fun i e => (by cases e), ok_lst1 (low_nm hg)⟩
    (goodO_cons (.dat (.str _)) (fine_str (low_app (low_nm hg) (low_c (by decide +kernel))) ?_) (goodO_cons (.dat (.str T)) (fine_str hT lT) (goodO_cons (.dat (.int (-1))) (fine_by (by decide +kernel)) goodO_nil))))))))))))
  rw [cd_len, cd_app, List.length_append, ← cd_len, ← cd_len, q1]
  omega
theorem extU_ok {d1 l2 t2 : Addr} {g : Str} (e0 : H d1 = some (.dK [(.inr "pipes", .int 1)])) (e1 : H l2 = some (.lst [])) (e2 : H t2 = some (.tup [.ref l2])) (hg : IsNm g) : GoodO K H (extU d1 t2 g) := by
  have gl := isNm_len hg
  rw [← cd_len] at gl
  have q1 : ("z" : Str).length = 1 := by decide +kernel
  refine goodO_cons (.dic1 e0) (fine_by (by decide +kernel)) (goodO_cons (.dat (.tup (SqT.of e2) (.cons (.lst (SqL.of e1) .nil) .nil))) (fine_by (by decide +kernel)) (goodO_cons (.dat (.str _)) (fine_str (low_app (low_nm hg) (low_c (by decide +kernel))) ?_) goodO_nil))
  rw [cd_len, cd_app, List.length_append, ← cd_len, ← cd_len, q1]
  omega
theorem ben1_ok {b1 b2 b3 b4 b5 b6 b7 b8 : Addr} (e1 : H b1 = some (.tup [.int 0, .int 0])) (e2 : H b2 = some (.tup [.int 1, .int 0, .int 0])) (e3 : H b3 = some (.tup [.int 0, .int 4, .int 0])) (e4 : H b4 = some (.tup [.int 0, .int 0, .int 4])) (e5 : H b5 = some (.tup [.int (-1), .int 0, .int 0]))
    (e6 : H b6 = some (.lst [.int 0, .int 0, .int 0])) (e7 : H b7 = some (.tup [.int 0, .int 0, .bl true])) (e8 : H b8 = some (.tup [.int 0, .int 1, .str "0"])) : GoodF K H (ben1 b1 b2 b3 b4 b5 b6 b7 b8) :=
  goodF_cons (.dat (.tup (SqT.of e1) (.cons (.int _) (.cons (.int _) .nil)))) (fit_by (by decide +kernel)) (goodF_cons (.dat (.tup (SqT.of e2) (.cons (.int _) (.cons (.int _) (.cons (.int _) .nil))))) (fit_by (by decide +kernel)) (goodF_cons (.dat (.tup (SqT.of e3) (.cons (.int _) (.cons (.int _) (.cons (.int _) .nil))))) (fit_by (by decide +kernel))
  (goodF_cons (.dat (.tup (SqT.of e4) (.cons (.int _) (.cons (.int _) (.cons (.int _) .nil))))) (fit_by (by decide +kernel)) (goodF_cons (.dat (.tup (SqT.of e5) (.cons (.int _) (.cons (.int _) (.cons (.int _) .nil))))) (fit_by (by decide +kernel)) (goodF_cons (.dat (.lst (SqL.of e6) (.cons (.int _) (.cons (.int _) (.cons (.int _) .nil))))) (fit_by (by decide +kernel))
  (goodF_cons (.dat .non) (fit_by (by decide +kernel)) (goodF_cons (.dat (.tup (SqT.of e7) (.cons (.int _) (.cons (.int _) (.cons (.bl _) .nil))))) (fit_by (by decide +kernel)) (goodF_cons (.dat (.tup (SqT.of e8) (.cons (.int _) (.cons (.int _) (.cons (.str _) .nil))))) (fit_by (by decide +kernel)) goodF_nil))))))))
theorem ben2_ok {c1 c2 c3 c4 c5 c6 c7 : Addr} (e1 : H c1 = some (.tup [.int 2, .int 1, .int 0])) (e2 : H c2 = some (.tup [.int 0, .int 0, .int 0, .int 0])) (e3 : H c3 = some (.tup [.bl false, .int 0, .int 0])) (e4 : H c4 = some (.lst [])) (e5 : H c5 = some (.tup [.ref c4, .int 0, .int 0]))
    (e6 : H c6 = some (.tup [.int 0, .int 0, .int (-1)])) (e7 : H c7 = some (.tup [.int 4, .int 4, .int 0])) : GoodF K H (ben2 c1 c2 c3 c5 c6 c7) :=
  goodF_cons (.dat (.tup (SqT.of e1) (.cons (.int _) (.cons (.int _) (.cons (.int _) .nil))))) (fit_by (by decide +kernel)) (goodF_cons (.dat (.tup (SqT.of e2) (.cons (.int _) (.cons (.int _) (.cons (.int _) (.cons (.int _) .nil)))))) (fit_by (by decide +kernel)) (goodF_cons (.dat (.str _)) (fit_by (by decide +kernel))
  (goodF_cons (.dat (.int _)) (fit_by (by decide +kernel)) (goodF_cons (.dat (.tup (SqT.of e3) (.cons (.bl _) (.cons (.int _) (.cons (.int _) .nil))))) (fit_by (by decide +kernel)) (goodF_cons (.dat (.tup (SqT.of e5) (.cons (.lst (SqL.of e4) .nil) (.cons (.int _) (.cons (.int _) .nil))))) (fit_by (by decide +kernel))
  (goodF_cons (.dat (.tup (SqT.of e6) (.cons (.int _) (.cons (.int _) (.cons (.int _) .nil))))) (fit_by (by decide +kernel)) (goodF_cons (.dat (.tup (SqT.of e7) (.cons (.int _) (.cons (.int _) (.cons (.int _) .nil))))) (fit_by (by decide +kernel)) goodF_nil)))))))
theorem ben3_ok {e1 e2 e3 e4 : Addr} (h1 : H e1 = some (.tup [.int 0])) (h2 : H e2 = some (.tup [.ref e1, .int 0, .int 0])) (h3 : H e3 = some (.dK [])) (h4 : H e4 = some (.tup [.int 3, .int 2, .int 3])) : GoodF K H (ben3 e2 e3 e4) :=
  goodF_cons (.dat (.tup (SqT.of h2) (.cons (.tup (SqT.of h1) (.cons (.int _) .nil)) (.cons (.int _) (.cons (.int _) .nil))))) (fit_by (by decide +kernel)) (goodF_cons (.dic0 h3) (fit_by (by decide +kernel)) (goodF_cons (.dat (.tup (SqT.of h4) (.cons (.int _) (.cons (.int _) (.cons (.int _) .nil))))) (fit_by (by decide +kernel)) goodF_nil))
end
/-! ### what is drawn in a turn -/
/-- the net, or an odd value -/
def FO (K : PySem.W.Frag) (x : Addr) (v : V) (H : Hp) : Prop := v = .ref x ∨ ∃ d, Odd K H v d ∧ Fine d
/-- a name, or any other value -/
def FB (K : PySem.W.Frag) (v : V) (d : PyData) (H : Hp) : Prop := Odd K H v d ∧ Fine d
/-- faults, fit or not -/
def FF (K : PySem.W.Frag) (a : Addr) (v : V) (d : PyData) (Hs H : Hp) : Prop := FitD d ∧ (Odd K Hs v d ∨ ∃ (T : Addr) (i j : Int), v = .ref T ∧ d = fltD i j ∧ T ≠ a ∧ H T = some (.tup [.int i, .int 3, .int j]))
theorem FF.grow {K : PySem.W.Frag} {a : Addr} {v : V} {d : PyData} {Hs H H' : Hp} (f : FF K a v d Hs H) (g : Grow a H H') : FF K a v d Hs H' := by
  obtain ⟨h, o | ⟨T, i, j, e1, e2, ne, e⟩⟩ := f
  · exact ⟨h, .inl o⟩
  · exact ⟨h, .inr ⟨T, i, j, e1, e2, ne, g _ _ ne e⟩⟩
theorem FF.odd {K : PySem.W.Frag} {a : Addr} {v : V} {d : PyData} {Hs H : Hp} (f : FF K a v d Hs H) (s : Same Hs H) : Odd K H v d := by
  obtain ⟨h, o | ⟨T, i, j, rfl, rfl, ne, e⟩⟩ := f
  · exact o.same s
  · exact .dat (.tup (SqT.of e) (.cons (.int _) (.cons (.int _) (.cons (.int _) .nil))))
/-- what is due -/
def badB (d : PyData) (ns : List Str) : Bool := match d with
  | .str y => !decide (y ∈ ns)
  | _ => true
def due3 (way : Nat) (d : PyData) : Str × Str := if 1 < way ∧ ftB d = false then ("faults", d.shown) else ("none", "None")
def due2 (ns : List Str) (d : PyData) (k : Str × Str) : Str × Str := if badB d ns = true then ("name", d.shown) else k
/-- a told triple -/
def DueAt (H : Hp) (v : V) (k : Str × Str) : Prop := ∃ t, v = .ref t ∧ H t = some (.tup [.str k.1, .str k.2, .bl true])
theorem DueAt.same {H H' : Hp} {v : V} {k : Str × Str} (h : DueAt H v k) (s : Same H H') : DueAt H' v k := by
  obtain ⟨t, e, h⟩ := h
  exact ⟨t, e, s _ _ h⟩
/-- what is told of a net with a name and faults -/
def ToldN (K : PySem.W.Frag) (CN CP CM : Addr) (way : Nat) (n v ft : V) (H : Hp) (kind txt : Str) : Prop :=
  (∃ (x : Addr) (ps : List P3) (ms : List M3) (d : PyData), n = .ref x ∧ NetR K CN CP CM H x ps ms ∧ ps.length ≤ 12 ∧ Odd K H v d ∧ (∀ y, d = .str y → y ∉ ps.map (·.1)) ∧ Fine d ∧ kind = "name" ∧ txt = d.shown) ∨
  (∃ (x : Addr) (ps : List P3) (ms : List M3) (y : Str) (d : PyData), n = .ref x ∧ v = .str y ∧ NetR K CN CP CM H x ps ms ∧ ps.length ≤ 12 ∧ y ∈ ps.map (·.1) ∧ 1 < way ∧ Odd K H ft d ∧ ftB d = false ∧ Fine d ∧ kind = "faults" ∧ txt = d.shown) ∨
  (∃ (x : Addr) (ps : List P3) (ms : List M3) (y : Str), n = .ref x ∧ v = .str y ∧ NetR K CN CP CM H x ps ms ∧ POk ps ∧ MOk ps ms ∧ y ∈ ps.map (·.1) ∧ (1 < way → ∃ (t : Addr) (a b c : Int), ft = .ref t ∧ SqT K H t [.int a, .int b, .int c] ∧ Flt a b c) ∧ kind = "none" ∧ txt = "None")
theorem flt_of {K : PySem.W.Frag} {H : Hp} {v : V} {d : PyData} (o : Odd K H v d) (h : ftB d = true) : ∃ (t : Addr) (a b c : Int), v = .ref t ∧ SqT K H t [.int a, .int b, .int c] ∧ Flt a b c := by
  unfold ftB at h
  split at h
  · rename_i i j l
    cases o with
    | dat o =>
      cases o with
      | @tup t xs _ h1 h2 =>
        cases h2 with
        | cons p1 r =>
        cases r with
        | cons p2 r =>
        cases r with
        | cons p3 r =>
        cases r
        cases p1
        cases p2
        cases p3
        simp only [bdB, Bool.and_eq_true, decide_eq_true_eq] at h
        obtain ⟨⟨⟨⟨a0, a3⟩, b0, b3⟩, c0, c3⟩, ab⟩ := h
        exact ⟨t, i, j, l, rfl, h1, a0, ab, b3, c0, c3⟩
  · cases h
theorem told_of {K : PySem.W.Frag} {CN CP CM x : Addr} {H : Hp} {way : Nat} {v10 v11 : V} {d10 d11 : PyData} {ps : List P3} {ms : List M3} (nr : NetR K CN CP CM H x ps ms) (po : POk ps) (mo : MOk ps ms) (o10 : Odd K H v10 d10) (f10 : Fine d10) (o11 : Odd K H v11 d11) (f11 : Fine d11) :
    ∀ k, k = due2 (ps.map (·.1)) d10 (due3 way d11) → ToldN K CN CP CM way (.ref x) v10 v11 H k.1 k.2 := by
  rintro k rfl
  by_cases hb : badB d10 (ps.map (·.1)) = true
  · rw [due2, if_pos hb]
    exact .inl ⟨x, ps, ms, d10, rfl, nr, po.ln, o10, (fun y e hy => by
      subst e
      have : badB (.str y) (ps.map (·.1)) = !decide (y ∈ ps.map (·.1)) := rfl
      rw [this, decide_eq_true hy] at hb
      cases hb), f10, rfl, rfl⟩
  · rw [due2, if_neg hb]
    obtain ⟨y, rfl, hy⟩ : ∃ y, d10 = .str y ∧ y ∈ ps.map (·.1) := by
      cases d10 with
      | str y =>
        refine ⟨y, rfl, Decidable.byContradiction fun z => hb ?_⟩
        show (!decide (y ∈ ps.map (·.1))) = true
        rw [decide_eq_false z]
        rfl
      | _ => exact absurd rfl hb
    obtain rfl : v10 = .str y := by
      cases o10 with
      | dat o => cases o; rfl
    by_cases hf : 1 < way ∧ ftB d11 = false
    · rw [due3, if_pos hf]
      exact .inr (.inl ⟨x, ps, ms, y, d11, rfl, rfl, nr, po.ln, hy, hf.1, o11, hf.2, f11, rfl, rfl⟩)
    · rw [due3, if_neg hf]
      refine .inr (.inr ⟨x, ps, ms, y, rfl, rfl, nr, po, mo, hy, fun w1 => flt_of o11 ?_, rfl, rfl⟩)
      cases q : ftB d11 with
      | true => rfl
      | false => exact absurd ⟨w1, q⟩ hf
theorem shaped3 {k t : Str} (a : PyData.strOk k = true) (b : PyData.strOk t = true) : SeqAt.shaped (.tuple [.str k, .str t, .bool true]) = true := by
  simp [SeqAt.shaped, PyData.canLay0, PyData.canLayAll0, PyData.depth, PyData.depthAll, a, b]
end RV
namespace RV
open PySem L2
def top (i : Nat) : Stmt := PySem.Challenge.pw_ringvotes_k32_errors_of_strengths_in_ord.main.body.getD i (.Pass ⟨0, 0, 0, 0⟩)
abbrev s_is_number : Stmt := top 4
abbrev sc_is_number_N : List Str := ["value"]
theorem sc_is_number : FnScope sc_is_number_N ["value"] (defScope s_is_number) := ⟨rfl, rfl, rfl, by decide +kernel, rfl, by decide +kernel, by decide +kernel⟩
abbrev s_is_name : Stmt := top 5
abbrev sc_is_name_N : List Str := ["value", "letter"]
theorem sc_is_name : FnScope sc_is_name_N ["value"] (defScope s_is_name) := ⟨rfl, rfl, rfl, by decide +kernel, rfl, by decide +kernel, by decide +kernel⟩
abbrev s_InvalidFaults___init__ : Stmt := inClass (top 12) 0
abbrev sc_InvalidFaults___init___N : List Str := ["self", "given"]
theorem sc_InvalidFaults___init__ : FnScope sc_InvalidFaults___init___N ["self", "given"] (defScope s_InvalidFaults___init__) := ⟨rfl, rfl, rfl, by decide +kernel, rfl, by decide +kernel, by decide +kernel⟩
abbrev s_NotANet___init__ : Stmt := inClass (top 15) 0
abbrev sc_NotANet___init___N : List Str := ["self", "given"]
theorem sc_NotANet___init__ : FnScope sc_NotANet___init___N ["self", "given"] (defScope s_NotANet___init__) := ⟨rfl, rfl, rfl, by decide +kernel, rfl, by decide +kernel, by decide +kernel⟩
abbrev s_UnknownName___init__ : Stmt := inClass (top 19) 0
abbrev sc_UnknownName___init___N : List Str := ["self", "given"]
theorem sc_UnknownName___init__ : FnScope sc_UnknownName___init___N ["self", "given"] (defScope s_UnknownName___init__) := ⟨rfl, rfl, rfl, by decide +kernel, rfl, by decide +kernel, by decide +kernel⟩
abbrev s_Pipe___init__ : Stmt := inClass (top 25) 0
abbrev sc_Pipe___init___N : List Str := ["self", "name", "start", "end"]
theorem sc_Pipe___init__ : FnScope sc_Pipe___init___N ["self", "name", "start", "end"] (defScope s_Pipe___init__) := ⟨rfl, rfl, rfl, by decide +kernel, rfl, by decide +kernel, by decide +kernel⟩
abbrev s_Pipe_name : Stmt := inClass (top 25) 1
abbrev sc_Pipe_name_N : List Str := ["self"]
theorem sc_Pipe_name : FnScope sc_Pipe_name_N ["self"] (defScope s_Pipe_name) := ⟨rfl, rfl, rfl, by decide +kernel, rfl, by decide +kernel, by decide +kernel⟩
abbrev s_Pipe_start : Stmt := inClass (top 25) 2
abbrev sc_Pipe_start_N : List Str := ["self"]
theorem sc_Pipe_start : FnScope sc_Pipe_start_N ["self"] (defScope s_Pipe_start) := ⟨rfl, rfl, rfl, by decide +kernel, rfl, by decide +kernel, by decide +kernel⟩
abbrev s_Pipe_end : Stmt := inClass (top 25) 3
abbrev sc_Pipe_end_N : List Str := ["self"]
theorem sc_Pipe_end : FnScope sc_Pipe_end_N ["self"] (defScope s_Pipe_end) := ⟨rfl, rfl, rfl, by decide +kernel, rfl, by decide +kernel, by decide +kernel⟩
abbrev s_Pipe___eq__ : Stmt := inClass (top 25) 4
abbrev sc_Pipe___eq___N : List Str := ["self", "other"]
theorem sc_Pipe___eq__ : FnScope sc_Pipe___eq___N ["self", "other"] (defScope s_Pipe___eq__) := ⟨rfl, rfl, rfl, by decide +kernel, rfl, by decide +kernel, by decide +kernel⟩
abbrev s_Meter___init__ : Stmt := inClass (top 26) 0
abbrev sc_Meter___init___N : List Str := ["self", "name", "at", "sealed"]
theorem sc_Meter___init__ : FnScope sc_Meter___init___N ["self", "name", "at", "sealed"] (defScope s_Meter___init__) := ⟨rfl, rfl, rfl, by decide +kernel, rfl, by decide +kernel, by decide +kernel⟩
abbrev s_Meter_name : Stmt := inClass (top 26) 1
abbrev sc_Meter_name_N : List Str := ["self"]
theorem sc_Meter_name : FnScope sc_Meter_name_N ["self"] (defScope s_Meter_name) := ⟨rfl, rfl, rfl, by decide +kernel, rfl, by decide +kernel, by decide +kernel⟩
abbrev s_Meter_at : Stmt := inClass (top 26) 2
abbrev sc_Meter_at_N : List Str := ["self"]
theorem sc_Meter_at : FnScope sc_Meter_at_N ["self"] (defScope s_Meter_at) := ⟨rfl, rfl, rfl, by decide +kernel, rfl, by decide +kernel, by decide +kernel⟩
abbrev s_Meter_sealed : Stmt := inClass (top 26) 3
abbrev sc_Meter_sealed_N : List Str := ["self"]
theorem sc_Meter_sealed : FnScope sc_Meter_sealed_N ["self"] (defScope s_Meter_sealed) := ⟨rfl, rfl, rfl, by decide +kernel, rfl, by decide +kernel, by decide +kernel⟩
abbrev s_Meter___eq__ : Stmt := inClass (top 26) 4
abbrev sc_Meter___eq___N : List Str := ["self", "other"]
theorem sc_Meter___eq__ : FnScope sc_Meter___eq___N ["self", "other"] (defScope s_Meter___eq__) := ⟨rfl, rfl, rfl, by decide +kernel, rfl, by decide +kernel, by decide +kernel⟩
abbrev s_Net___init__ : Stmt := inClass (top 27) 0
abbrev sc_Net___init___N : List Str := ["self", "pipes", "meters"]
theorem sc_Net___init__ : FnScope sc_Net___init___N ["self", "pipes", "meters"] (defScope s_Net___init__) := ⟨rfl, rfl, rfl, by decide +kernel, rfl, by decide +kernel, by decide +kernel⟩
abbrev s_Net_read : Stmt := inClass (top 27) 1
abbrev sc_Net_read_N : List Str := ["cls", "text", "net"]
theorem sc_Net_read : FnScope sc_Net_read_N ["cls", "text"] (defScope s_Net_read) := ⟨rfl, rfl, rfl, by decide +kernel, rfl, by decide +kernel, by decide +kernel⟩
abbrev s_Net_pipes : Stmt := inClass (top 27) 2
abbrev sc_Net_pipes_N : List Str := ["self"]
theorem sc_Net_pipes : FnScope sc_Net_pipes_N ["self"] (defScope s_Net_pipes) := ⟨rfl, rfl, rfl, by decide +kernel, rfl, by decide +kernel, by decide +kernel⟩
abbrev s_Net_meters : Stmt := inClass (top 27) 3
abbrev sc_Net_meters_N : List Str := ["self"]
theorem sc_Net_meters : FnScope sc_Net_meters_N ["self"] (defScope s_Net_meters) := ⟨rfl, rfl, rfl, by decide +kernel, rfl, by decide +kernel, by decide +kernel⟩
abbrev s_Net_places : Stmt := inClass (top 27) 4
abbrev sc_Net_places_N : List Str := ["self", "part", "place"]
theorem sc_Net_places : FnScope sc_Net_places_N ["self"] (defScope s_Net_places) := ⟨rfl, rfl, rfl, by decide +kernel, rfl, by decide +kernel, by decide +kernel⟩
abbrev s_Net_pipe : Stmt := inClass (top 27) 5
abbrev sc_Net_pipe_N : List Str := ["self", "name", "index"]
theorem sc_Net_pipe : FnScope sc_Net_pipe_N ["self", "name"] (defScope s_Net_pipe) := ⟨rfl, rfl, rfl, by decide +kernel, rfl, by decide +kernel, by decide +kernel⟩
abbrev s_Net_meter : Stmt := inClass (top 27) 6
abbrev sc_Net_meter_N : List Str := ["self", "name", "index"]
theorem sc_Net_meter : FnScope sc_Net_meter_N ["self", "name"] (defScope s_Net_meter) := ⟨rfl, rfl, rfl, by decide +kernel, rfl, by decide +kernel, by decide +kernel⟩
abbrev s_Net___add__ : Stmt := inClass (top 27) 7
abbrev sc_Net___add___N : List Str := ["self", "other", "index"]
theorem sc_Net___add__ : FnScope sc_Net___add___N ["self", "other"] (defScope s_Net___add__) := ⟨rfl, rfl, rfl, by decide +kernel, rfl, by decide +kernel, by decide +kernel⟩
abbrev s_Net___sub__ : Stmt := inClass (top 27) 8
abbrev sc_Net___sub___N : List Str := ["self", "other", "index"]
theorem sc_Net___sub__ : FnScope sc_Net___sub___N ["self", "other"] (defScope s_Net___sub__) := ⟨rfl, rfl, rfl, by decide +kernel, rfl, by decide +kernel, by decide +kernel⟩
abbrev s_Net___contains__ : Stmt := inClass (top 27) 9
abbrev sc_Net___contains___N : List Str := ["self", "x"]
theorem sc_Net___contains__ : FnScope sc_Net___contains___N ["self", "x"] (defScope s_Net___contains__) := ⟨rfl, rfl, rfl, by decide +kernel, rfl, by decide +kernel, by decide +kernel⟩
abbrev s_Net___len__ : Stmt := inClass (top 27) 10
abbrev sc_Net___len___N : List Str := ["self"]
theorem sc_Net___len__ : FnScope sc_Net___len___N ["self"] (defScope s_Net___len__) := ⟨rfl, rfl, rfl, by decide +kernel, rfl, by decide +kernel, by decide +kernel⟩
abbrev s_Net___str__ : Stmt := inClass (top 27) 11
abbrev sc_Net___str___N : List Str := ["self"]
theorem sc_Net___str__ : FnScope sc_Net___str___N ["self"] (defScope s_Net___str__) := ⟨rfl, rfl, rfl, by decide +kernel, rfl, by decide +kernel, by decide +kernel⟩
abbrev s_Net___repr__ : Stmt := inClass (top 27) 12
abbrev sc_Net___repr___N : List Str := ["self"]
theorem sc_Net___repr__ : FnScope sc_Net___repr___N ["self"] (defScope s_Net___repr__) := ⟨rfl, rfl, rfl, by decide +kernel, rfl, by decide +kernel, by decide +kernel⟩
abbrev s_Net___eq__ : Stmt := inClass (top 27) 13
abbrev sc_Net___eq___N : List Str := ["self", "other"]
theorem sc_Net___eq__ : FnScope sc_Net___eq___N ["self", "other"] (defScope s_Net___eq__) := ⟨rfl, rfl, rfl, by decide +kernel, rfl, by decide +kernel, by decide +kernel⟩
abbrev s_check_names : Stmt := top 28
abbrev sc_check_names_N : List Str := ["values", "value"]
theorem sc_check_names : FnScope sc_check_names_N ["values"] (defScope s_check_names) := ⟨rfl, rfl, rfl, by decide +kernel, rfl, by decide +kernel, by decide +kernel⟩
abbrev s_check_pipes : Stmt := top 29
abbrev sc_check_pipes_N : List Str := ["pipes", "names", "index", "part"]
theorem sc_check_pipes : FnScope sc_check_pipes_N ["pipes"] (defScope s_check_pipes) := ⟨rfl, rfl, rfl, by decide +kernel, rfl, by decide +kernel, by decide +kernel⟩
abbrev s_check_meters : Stmt := top 30
abbrev sc_check_meters_N : List Str := ["meters", "pipes", "names", "index", "part"]
theorem sc_check_meters : FnScope sc_check_meters_N ["meters", "pipes"] (defScope s_check_meters) := ⟨rfl, rfl, rfl, by decide +kernel, rfl, by decide +kernel, by decide +kernel⟩
abbrev s_index_of : Stmt := top 31
abbrev sc_index_of_N : List Str := ["parts", "name", "index", "part"]
theorem sc_index_of : FnScope sc_index_of_N ["parts", "name"] (defScope s_index_of) := ⟨rfl, rfl, rfl, by decide +kernel, rfl, by decide +kernel, by decide +kernel⟩
abbrev s_lines : Stmt := top 32
abbrev sc_lines_N : List Str := ["pipes", "meters", "part"]
theorem sc_lines : FnScope sc_lines_N ["pipes", "meters"] (defScope s_lines) := ⟨rfl, rfl, rfl, by decide +kernel, rfl, by decide +kernel, by decide +kernel⟩
abbrev s_pipe_line : Stmt := top 33
abbrev sc_pipe_line_N : List Str := ["part"]
theorem sc_pipe_line : FnScope sc_pipe_line_N ["part"] (defScope s_pipe_line) := ⟨rfl, rfl, rfl, by decide +kernel, rfl, by decide +kernel, by decide +kernel⟩
abbrev s_meter_line : Stmt := top 34
abbrev sc_meter_line_N : List Str := ["part", "seal"]
theorem sc_meter_line : FnScope sc_meter_line_N ["part"] (defScope s_meter_line) := ⟨rfl, rfl, rfl, by decide +kernel, rfl, by decide +kernel, by decide +kernel⟩
abbrev s_rows_in : Stmt := top 35
abbrev sc_rows_in_N : List Str := ["text", "line"]
theorem sc_rows_in : FnScope sc_rows_in_N ["text"] (defScope s_rows_in) := ⟨rfl, rfl, rfl, by decide +kernel, rfl, by decide +kernel, by decide +kernel⟩
abbrev s_pipes_in : Stmt := top 36
abbrev sc_pipes_in_N : List Str := ["text", "rows", "row"]
theorem sc_pipes_in : FnScope sc_pipes_in_N ["text"] (defScope s_pipes_in) := ⟨rfl, rfl, rfl, by decide +kernel, rfl, by decide +kernel, by decide +kernel⟩
abbrev s_meters_in : Stmt := top 37
abbrev sc_meters_in_N : List Str := ["text", "rows", "row"]
theorem sc_meters_in : FnScope sc_meters_in_N ["text"] (defScope s_meters_in) := ⟨rfl, rfl, rfl, by decide +kernel, rfl, by decide +kernel, by decide +kernel⟩
abbrev s_check_net : Stmt := top 39
abbrev sc_check_net_N : List Str := ["net"]
theorem sc_check_net : FnScope sc_check_net_N ["net"] (defScope s_check_net) := ⟨rfl, rfl, rfl, by decide +kernel, rfl, by decide +kernel, by decide +kernel⟩
abbrev s_check_pipe : Stmt := top 40
abbrev sc_check_pipe_N : List Str := ["net", "pipe"]
theorem sc_check_pipe : FnScope sc_check_pipe_N ["net", "pipe"] (defScope s_check_pipe) := ⟨rfl, rfl, rfl, by decide +kernel, rfl, by decide +kernel, by decide +kernel⟩
abbrev s_check_faults : Stmt := top 41
abbrev sc_check_faults_N : List Str := ["faults"]
theorem sc_check_faults : FnScope sc_check_faults_N ["faults"] (defScope s_check_faults) := ⟨rfl, rfl, rfl, by decide +kernel, rfl, by decide +kernel, by decide +kernel⟩
abbrev s_is_bound : Stmt := top 42
abbrev sc_is_bound_N : List Str := ["value"]
theorem sc_is_bound : FnScope sc_is_bound_N ["value"] (defScope s_is_bound) := ⟨rfl, rfl, rfl, by decide +kernel, rfl, by decide +kernel, by decide +kernel⟩
abbrev s_are_faults : Stmt := top 43
abbrev sc_are_faults_N : List Str := ["value", "number"]
theorem sc_are_faults : FnScope sc_are_faults_N ["value"] (defScope s_are_faults) := ⟨rfl, rfl, rfl, by decide +kernel, rfl, by decide +kernel, by decide +kernel⟩
abbrev s_meters_at : Stmt := top 45
abbrev sc_meters_at_N : List Str := ["net", "name", "part"]
theorem sc_meters_at : FnScope sc_meters_at_N ["net", "name"] (defScope s_meters_at) := ⟨rfl, rfl, rfl, by decide +kernel, rfl, by decide +kernel, by decide +kernel⟩
abbrev s_sealed_at : Stmt := top 46
abbrev sc_sealed_at_N : List Str := ["net", "name", "part"]
theorem sc_sealed_at : FnScope sc_sealed_at_N ["net", "name"] (defScope s_sealed_at) := ⟨rfl, rfl, rfl, by decide +kernel, rfl, by decide +kernel, by decide +kernel⟩
abbrev s_shortest_ways : Stmt := top 47
abbrev sc_shortest_ways_N : List Str := ["net", "pipe", "ways", "links", "_", "start", "end", "many", "amounts"]
theorem sc_shortest_ways : FnScope sc_shortest_ways_N ["net", "pipe"] (defScope s_shortest_ways) := ⟨rfl, rfl, rfl, by decide +kernel, rfl, by decide +kernel, by decide +kernel⟩
abbrev s_links : Stmt := top 48
abbrev sc_links_N : List Str := ["net", "pipe", "links", "index", "part", "many"]
theorem sc_links : FnScope sc_links_N ["net", "pipe"] (defScope s_links) := ⟨rfl, rfl, rfl, by decide +kernel, rfl, by decide +kernel, by decide +kernel⟩
abbrev s_amounts : Stmt := top 49
abbrev sc_amounts_N : List Str := ["net", "index", "amount", "at"]
theorem sc_amounts : FnScope sc_amounts_N ["net", "index", "amount"] (defScope s_amounts) := ⟨rfl, rfl, rfl, by decide +kernel, rfl, by decide +kernel, by decide +kernel⟩
abbrev s_lead_on : Stmt := top 50
abbrev sc_lead_on_N : List Str := ["ways", "start", "end", "many", "amounts", "length", "flow", "here", "more"]
theorem sc_lead_on : FnScope sc_lead_on_N ["ways", "start", "end", "many", "amounts"] (defScope s_lead_on) := ⟨rfl, rfl, rfl, by decide +kernel, rfl, by decide +kernel, by decide +kernel⟩
abbrev s_is_flow : Stmt := top 52
abbrev sc_is_flow_N : List Str := ["net", "value", "amount", "place"]
theorem sc_is_flow : FnScope sc_is_flow_N ["net", "value"] (defScope s_is_flow) := ⟨rfl, rfl, rfl, by decide +kernel, rfl, by decide +kernel, by decide +kernel⟩
abbrev s_readings_of : Stmt := top 53
abbrev sc_readings_of_N : List Str := ["net", "flow", "amounts", "part", "amount"]
theorem sc_readings_of : FnScope sc_readings_of_N ["net", "flow"] (defScope s_readings_of) := ⟨rfl, rfl, rfl, by decide +kernel, rfl, by decide +kernel, by decide +kernel⟩
abbrev s_kept_at : Stmt := top 54
abbrev sc_kept_at_N : List Str := ["net", "flow", "place", "comes", "goes", "part", "amount"]
theorem sc_kept_at : FnScope sc_kept_at_N ["net", "flow", "place"] (defScope s_kept_at) := ⟨rfl, rfl, rfl, by decide +kernel, rfl, by decide +kernel, by decide +kernel⟩
abbrev s_strength : Stmt := top 56
abbrev sc_strength_N : List Str := ["net", "pipe", "way"]
theorem sc_strength : FnScope sc_strength_N ["net", "pipe"] (defScope s_strength) := ⟨rfl, rfl, rfl, by decide +kernel, rfl, by decide +kernel, by decide +kernel⟩
abbrev s_ring_through : Stmt := top 57
abbrev sc_ring_through_N : List Str := ["net", "pipe", "way", "part", "amount"]
theorem sc_ring_through : FnScope sc_ring_through_N ["net", "pipe"] (defScope s_ring_through) := ⟨rfl, rfl, rfl, by decide +kernel, rfl, by decide +kernel, by decide +kernel⟩
abbrev s_can_tell : Stmt := top 58
abbrev sc_can_tell_N : List Str := ["net", "pipe", "faults", "least"]
theorem sc_can_tell : FnScope sc_can_tell_N ["net", "pipe", "faults"] (defScope s_can_tell) := ⟨rfl, rfl, rfl, by decide +kernel, rfl, by decide +kernel, by decide +kernel⟩
abbrev s_misleading : Stmt := top 59
abbrev sc_misleading_N : List Str := ["net", "pipe", "faults", "still", "ring", "readings", "_"]
theorem sc_misleading : FnScope sc_misleading_N ["net", "pipe", "faults"] (defScope s_misleading) := ⟨rfl, rfl, rfl, by decide +kernel, rfl, by decide +kernel, by decide +kernel⟩
abbrev s_way_back : Stmt := top 60
abbrev sc_way_back_N : List Str := ["net", "pipe"]
theorem sc_way_back : FnScope sc_way_back_N ["net", "pipe"] (defScope s_way_back) := ⟨rfl, rfl, rfl, by decide +kernel, rfl, by decide +kernel, by decide +kernel⟩
abbrev s_seen_in_both : Stmt := top 61
abbrev sc_seen_in_both_N : List Str := ["net", "ring", "faults", "healed", "_", "silent", "readings", "met", "amount"]
theorem sc_seen_in_both : FnScope sc_seen_in_both_N ["net", "ring", "faults"] (defScope s_seen_in_both) := ⟨rfl, rfl, rfl, by decide +kernel, rfl, by decide +kernel, by decide +kernel⟩
abbrev s_well : Stmt := top 63
abbrev sc_well_N : List Str := ["_law_script", "_law_k", "_law_cell", "_law_mixed", "_law_other"]
theorem sc_well : FnScope sc_well_N ["_law_script", "_law_k"] (defScope s_well) := ⟨rfl, rfl, rfl, by decide +kernel, rfl, by decide +kernel, by decide +kernel⟩
abbrev s_dip : Stmt := top 64
abbrev sc_dip_N : List Str := ["_law_well_here", "_law_many", "_law_digit"]
theorem sc_dip : FnScope sc_dip_N ["_law_well_here", "_law_many"] (defScope s_dip) := ⟨rfl, rfl, rfl, by decide +kernel, rfl, by decide +kernel, by decide +kernel⟩
abbrev s_names : Stmt := top 65
abbrev sc_names_N : List Str := ["_law_well_here", "_law_many", "_law_words", "_law_signs", "_law_found", "_law_k", "_law_size", "_law_word", "_law_spare", "_law_j", "_law_one"]
theorem sc_names : FnScope sc_names_N ["_law_well_here", "_law_many"] (defScope s_names) := ⟨rfl, rfl, rfl, by decide +kernel, rfl, by decide +kernel, by decide +kernel⟩
abbrev s_model : Stmt := top 66
abbrev sc_model_N : List Str := ["_law_well_here", "_law_most", "_law_more", "_law_count", "_law_size", "_law_places", "_law_titles", "_law_pipes", "_law_gauges", "_law_k", "_law_start", "_law_even", "_law_names_here", "_law_at"]
theorem sc_model : FnScope sc_model_N ["_law_well_here", "_law_most", "_law_more"] (defScope s_model) := ⟨rfl, rfl, rfl, by decide +kernel, rfl, by decide +kernel, by decide +kernel⟩
abbrev s_text : Stmt := top 67
abbrev sc_text_N : List Str := ["_law_model_here", "_law_lines", "_law_one", "_law_begin", "_law_finish", "_law_gauge", "_law_seal"]
theorem sc_text : FnScope sc_text_N ["_law_model_here"] (defScope s_text) := ⟨rfl, rfl, rfl, by decide +kernel, rfl, by decide +kernel, by decide +kernel⟩
abbrev s_called : Stmt := top 68
abbrev sc_called_N : List Str := ["_law_way", "_law_net", "_law_pipe", "_law_faults"]
theorem sc_called : FnScope sc_called_N ["_law_way", "_law_net", "_law_pipe", "_law_faults"] (defScope s_called) := ⟨rfl, rfl, rfl, by decide +kernel, rfl, by decide +kernel, by decide +kernel⟩
abbrev s_told : Stmt := top 69
abbrev sc_told_N : List Str := ["_law_way", "_law_net", "_law_pipe", "_law_faults", "_law_found", "_law_fine", "e"]
theorem sc_told : FnScope sc_told_N ["_law_way", "_law_net", "_law_pipe", "_law_faults"] (defScope s_told) := ⟨rfl, rfl, rfl, by decide +kernel, rfl, by decide +kernel, by decide +kernel⟩
abbrev s_faults_fit : Stmt := top 70
abbrev sc_faults_fit_N : List Str := ["_law_value", "_law_one"]
theorem sc_faults_fit : FnScope sc_faults_fit_N ["_law_value"] (defScope s_faults_fit) := ⟨rfl, rfl, rfl, by decide +kernel, rfl, by decide +kernel, by decide +kernel⟩
abbrev s_right : Stmt := top 71
abbrev sc_right_N : List Str := ["_law_well_here", "_law_model_here", "_law_net", "_law_good", "_law_titles", "_law_odd", "_law_others", "_law_bent", "_law_turn", "_law_one", "_law_two", "_law_three", "_law_way", "_law_due", "_law_gauge"]
theorem sc_right : FnScope sc_right_N ["_law_well_here"] (defScope s_right) := ⟨rfl, rfl, rfl, by decide +kernel, rfl, by decide +kernel, by decide +kernel⟩
abbrev s_law : Stmt := top 72
abbrev sc_law_N : List Str := ["_law_script", "_law_k"]
theorem sc_law : FnScope sc_law_N ["_law_script"] (defScope s_law) := ⟨rfl, rfl, rfl, by decide +kernel, rfl, by decide +kernel, by decide +kernel⟩
end RV
namespace RV
open PySem L2
section
variable {P : Program} {w : World} {K : PySem.W.Frag} {mg : Str → Option Value} {base : Heap}
theorem ok_is_name {f : Addr} {fd : FuncData} (F : Fun K "is_name" "is_name" s_is_name f fd) (T : Blt mg) (C : Cst mg) : FnOk P w K mg base CX0 1 f fd ["value"] (sp_is_name K) := by
  refine F.ok sc_is_name (fun vs H Q E h => ?_) (fun cdv A outer s H vs Q E hr h => ?_)
  · obtain ⟨_, rfl, _⟩ := h
    rfl
  · obtain ⟨v, rfl, k⟩ := h
    refine ⟨_, (pss_cons (ps_if (PW.pt (pw_or (pt_not (pt_val (pe_callB call_isi (by rfl) T.b_isinstance (by decide +kernel) (pa_cons (pv 0) (pa_cons (pe_bltn (v := .ty "str") (by rfl) T.b_str (by decide +kernel) rfl) pa_nil))))) (pw_or1 (pt_not (pt_chain op_le op_le pe_int (pe_callB call_len_str (by rfl) T.b_len (by decide +kernel) (pa_cons (pv 0) pa_nil)) (pe_gI C.c__LONGEST_NAME)))))) (pss_one (ps_ret pe_bl)) pss_nil)
      (pss_one (ps_ret (pe_and (pe_cmpR op_in_sign (pe_ix ix_str (pv 0) pe_int (fun _ _ => rfl)) (pe_gS C.c__LETTERS) (by rfl)) (pe_one (pe_callB (cr_all rfl) (by rfl) T.b_all (by decide +kernel) (pa_cons (pe_lc (own := [("letter", 1)]) (g := gName 1) (tt := tYes) rfl sc_is_name.nd (pi_str (pv 0)) (blkOk_by (N := sc_is_name_N) (sc := defScope s_is_name) (by decide +kernel)) (fun _ _ _ _ _ => pg_name (i := 1) sc_is_name.nd rfl (Or.inl rfl)) (fun _ _ _ _ _ => pts_nil) (fun _ _ _ _ _ => (pe_cmpR op_in_sign (pv 1) (pe_op op_add_str (pe_gS C.c__LETTERS) (pe_gS C.c__DIGITS)) (by rfl)))) pa_nil))))))), ?_⟩
    rcases k with ⟨x, rfl, hx, k⟩ | ⟨t, ty, kt, k⟩
    · refine ⟨_, rfl, _, _, .type "str", .type "str", true, rfl, .ty _, .base (.str x), kit_ty (by decide +kernel), true, rfl, ?_⟩
      refine iteF ⟨_, rfl, _, rfl, hx, _, _, rfl, rfl, _, rfl, ?_⟩
      have out : isNm (cd x) = false → Q (.bl false) H := fun e => e ▸ k H (Same.refl H)
      refine ite2 (fun h1 => ?_) (fun h1 => ?_)
      · refine ⟨_, _, rfl, rfl, _, rfl, ?_⟩
        have h1' := of_decide_eq_true h1
        cases e8 : decide ((x.length : Int) ≤ 8) with
        | false =>
          refine out ?_
          cases q : isNm (cd x) with
          | false => rfl
          | true =>
            have := isNm_len q
            rw [← cd_len] at this
            have h8 := of_decide_eq_false e8
            omega
        | true =>
          have h8 := of_decide_eq_true e8
          obtain ⟨c, r, ec⟩ : ∃ c r, cd x = c :: r := by
            cases e : cd x with
            | nil =>
              rw [cd_len, e] at h1'
              simp at h1'
            | cons c r => exact ⟨c, r, rfl⟩
          have hr7 : r.length ≤ 7 := by
            rw [cd_len, ec, List.length_cons] at h8
            omega
          refine ⟨_, rfl, x, _, c, rfl, rfl, hx, atI_nat (j := 0) (by show (cd x)[0]? = some c; rw [ec]; rfl), c, _, rfl, rfl, _, rfl, ?_⟩
          have el : decide (c ∈ cd "abcdefghijklmnopqrstuvwxyz") = lowC c := low_in c
          refine ite2 (fun hl => ?_) (fun hl => ?_)
          · have hl' : lowC c = true := el.symm.trans hl
            refine ⟨_, rfl, x, rfl, fun D nD => lc_str (z := x) (fun i H' => Same H H' ∧ H' D = some (.lst ((((cd x).take i).map tailC).map V.bl))) ⟨fun b o e => by rw [upd_ne (ne_of_none e nD)]; exact e, upd_same⟩ ?_ ?_⟩
            · rintro i d H6 hi ⟨s6, h6⟩
              refine ⟨rfl, _, rfl, _, _, rfl, rfl, by decide, d, _, rfl, rfl, _, h6, ?_, ?_⟩
              · rw [List.length_map, List.length_map, List.length_take, ← cd_len]
                exact Nat.lt_of_lt_of_le (show _ < 1000 by omega) (by decide)
              · refine ⟨fun b o e => by rw [upd_ne (ne_of_none e nD)]; exact s6 b o e, ?_⟩
                rw [upd_same]
                obtain ⟨hl6, e'⟩ := List.getElem?_eq_some_iff.mp hi
                rw [List.take_succ_eq_append_getElem hl6, e', List.map_append, List.map_append]
                show some (HO.lst (_ ++ [V.bl (decide (d ∈ cd (("abcdefghijklmnopqrstuvwxyz" : Str) ++ ("0123456789" : Str))))])) = _
                rw [tail_in]
                rfl
            · rintro H6 ⟨s6, h6⟩
              rw [List.take_of_length_le (Nat.le_refl _)] at h6
              refine ⟨D, _, rfl, SqL.of h6, ?_⟩
              have e : isNm (cd x) = ((cd x).map tailC).all id := by
                rw [ec]
                show (lowC c && r.all tailC && decide (r.length ≤ 7)) = (tailC c && (r.map tailC).all id)
                rw [hl', tail_of_low hl', decide_eq_true hr7, List.all_map]
                simp
              have := k H6 s6
              rwa [e] at this
          · refine out ?_
            have hl' : lowC c = false := by
              rw [← el]
              exact Bool.eq_false_iff.mpr hl
            rw [ec]
            simp [isNm, hl']
      · refine ⟨_, rfl, ?_⟩
        refine out ?_
        cases q : isNm (cd x) with
        | false => rfl
        | true =>
          have := isNm_len q
          rw [← cd_len] at this
          exact absurd (decide_eq_true (by omega)) h1
    · refine ⟨_, rfl, _, _, t, .type "str", false, rfl, .ty _, ty, kt, false, rfl, ?_⟩
      exact iteT (iteT k)
end
end RV
namespace RV
open PySem L2
section
variable {P : Program} {w : World} {K : PySem.W.Frag} {mg : Str → Option Value} {base : Heap}
theorem ok_check_names {f : Addr} {fd : FuncData} (F : Fun K "_check_names" "_check_names" s_check_names f fd) (h_is_name : Fn P w K mg base "is_name" 1 ["value"] (Irr (sp_is_name K))) : FnOk P w K mg base CX0 2 f fd ["values"] (sp_check K) := by
  refine F.ok sc_check_names (fun vs H Q E h => ?_) (fun cdv A outer s H vs Q E hr h => ?_)
  · obtain ⟨_, _, rfl, _⟩ := h
    rfl
  · obtain ⟨t, xs, rfl, ht, hx, k⟩ := h
    refine ⟨_, (pss_one (ps_for PassesOwn.never rfl (pi_tup (pv 0)) (pg_name (i := 1) sc_check_names.nd rfl (Or.inl rfl)) (pss_one (ps_if (pt_not (pt_val (pe_fn h_is_name (hr.mono (by decide)) (pa_cons (pv 1) pa_nil)))) (pss_one ps_never) pss_nil)))), ?_⟩
    have sqt : ∀ {H'}, Same H H' → SqT K H' t (xs.map V.str) := fun e => by
      rcases ht with (h | ⟨o, h⟩) | h
      · exact .inl (.inl (e _ _ h))
      · exact .inl (.inr ⟨o, e _ _ h⟩)
      · exact .inr h
    refine ⟨_, rfl, t, rfl, ⟨_, ht⟩, for_tup (K := K) (a := t) (xs := xs.map V.str) (fun i σ H' => Same H H' ∧ ∃ o, σ = [some (.ref t), o]) ⟨Same.refl H, none, rfl⟩ (fun _ _ _ _ h => sqt h.1) ?_ ?_⟩
    · rintro i v σ H' hi ⟨sm, o, rfl⟩
      obtain ⟨y, rfl, hy⟩ : ∃ y, v = V.str y ∧ y ∈ xs := by
        rw [List.getElem?_map] at hi
        cases e : xs[i]? with
        | none => rw [e] at hi; cases hi
        | some y => rw [e] at hi; exact ⟨y, (Option.some.inj hi).symm, List.mem_of_getElem? e⟩
      have hn := hx y hy
      have hl := isNm_len hn
      rw [← cd_len] at hl
      refine ⟨_, rfl, irr ⟨_, rfl, .inl ⟨y, rfl, szn (by omega), fun H2 s2 => ?_⟩⟩⟩
      rw [show isNm (cd y) = true from hn]
      exact ⟨true, rfl, sm.trans s2, _, rfl⟩
    · rintro σ H' ⟨sm, o, rfl⟩
      exact k H' sm
theorem ok_Pipe_i {C f : Addr} {fd : FuncData} (F : Fun K "__init__" "Pipe.__init__" s_Pipe___init__ f fd) (T : PClass K mg C) (h_check_names : Fn P w K mg base "_check_names" 2 ["values"] (Irr (sp_check K))) : FnOk P w K mg base CX0 3 f fd ["self", "name", "start", "end"] (sp_Pipe C) := by
  refine F.ok sc_Pipe___init__ (fun vs H Q E h => ?_) (fun cdv A outer s H vs Q E hr h => ?_)
  · obtain ⟨_, _, _, _, _, rfl, _⟩ := h
    rfl
  · obtain ⟨x, dx, n, st, e, rfl, hx, hn, hs, he, hne, k⟩ := h
    refine ⟨_, (pss_cons (ps_expr (pe_fn h_check_names (hr.mono (by decide)) (pa_cons (pe_tup (pa_cons (pv 1) (pa_cons (pv 2) (pa_cons (pv 3) pa_nil)))) pa_nil)))
      (pss_cons (ps_if (pt_cmpR op_eq (pv 3) (pv 2) (nomark _)) (pss_one ps_never) pss_nil)
      (pss_cons (ps_fld (pv 0) (pv 1) rfl)
      (pss_cons (ps_fld (pv 0) (pv 2) rfl)
      (pss_one (ps_fld (pv 0) (pv 3) rfl)))))), ?_⟩
    refine ⟨_, rfl, _, rfl, _, rfl, (by show 3 ≤ sizeLine; decide), fun p np => irr ⟨p, [n, st, e], rfl, SqT.of upd_same, ?_, fun H1 s1 => ?_⟩⟩
    · intro y hy
      simp only [List.mem_cons, List.not_mem_nil, or_false] at hy
      rcases hy with rfl | rfl | rfl
      · exact hn
      · exact hs
      · exact he
    have hx1 := s1 _ _ (show (upd H p (.tup ([n, st, e].map V.str))) x = _ by rw [upd_ne (ne_of_none hx np)]; exact hx)
    refine ⟨_, rfl, _, rfl, rfl, _, rfl, ?_⟩
    refine ite2 (fun q => absurd (of_decide_eq_true q) fun z => hne (V.str.inj z)) (fun _ => ?_)
    refine ⟨_, rfl, _, rfl, x, C, dx, _, rfl, hx1, T.x.cl, T.n1, (by show 0 < 1000; decide), ?_⟩
    refine ⟨_, rfl, _, rfl, x, C, dx, _, rfl, upd_same, T.x.cl, T.n2, (by have := putF_len "_name" (.str n) []; simp at this ⊢; omega), ?_⟩
    refine ⟨_, rfl, _, rfl, x, C, dx, _, rfl, upd_same, T.x.cl, T.n3, (by have := putF_len "_name" (.str n) []; have := putF_len "_start" (.str st) (putF "_name" (.str n) []); simp at *; omega), ?_⟩
    refine k _ (fun b o hb eb => ?_) ⟨dx, upd_same⟩
    rw [upd_ne hb, upd_ne hb, upd_ne hb]
    exact s1 _ _ (by rw [upd_ne (ne_of_none eb np)]; exact eb)
theorem ok_Meter_i {C f : Addr} {fd : FuncData} {kws : List (Str × V)} (F : FunD K "__init__" "Meter.__init__" (defArgs s_Meter___init__) (defBody s_Meter___init__) (defScope s_Meter___init__) [] kws f fd) (T : MClass K mg C) (h_check_names : Fn P w K mg base "_check_names" 2 ["values"] (Irr (sp_check K))) : FnOk P w K mg base CX0 3 f fd ["self", "name", "at", "sealed"] (sp_Meter C) := by
  refine F.ok sc_Meter___init__ (fun vs H Q E h => ?_) (fun cdv A outer s H vs Q E hr h => ?_)
  · obtain ⟨_, _, _, _, _, rfl, _⟩ := h
    rfl
  · obtain ⟨x, dx, n, a, z, rfl, hx, hn, ha, k⟩ := h
    refine ⟨_, (pss_cons (ps_expr (pe_fn h_check_names (hr.mono (by decide)) (pa_cons (pe_tup (pa_cons (pv 1) (pa_cons (pv 2) pa_nil))) pa_nil)))
      (pss_cons (ps_if (PW.pt (pw_and (pt_cmpR op_isnot_bl (pv 3) pe_bl (nomark _)) (pw_and1 (pt_cmpR op_isnot_bl (pv 3) pe_bl (nomark _))))) (pss_one ps_never) pss_nil)
      (pss_cons (ps_fld (pv 0) (pv 1) rfl)
      (pss_cons (ps_fld (pv 0) (pv 2) rfl)
      (pss_one (ps_fld (pv 0) (pv 3) rfl)))))), ?_⟩
    refine ⟨_, rfl, _, rfl, (by show 2 ≤ sizeLine; decide), fun p np => irr ⟨p, [n, a], rfl, SqT.of upd_same, ?_, fun H1 s1 => ?_⟩⟩
    · intro y hy
      simp only [List.mem_cons, List.not_mem_nil, or_false] at hy
      rcases hy with rfl | rfl
      · exact hn
      · exact ha
    have hx1 := s1 _ _ (show (upd H p (.tup ([n, a].map V.str))) x = _ by rw [upd_ne (ne_of_none hx np)]; exact hx)
    have rest : tSeq (sFld K (tVar 0) (tVar 1) "_name") (tSeq (sFld K (tVar 0) (tVar 2) "_at") (sFld K (tVar 0) (tVar 3) "_sealed")) { nx := fun _ H' => Q .non H', rt := Q } [some (.ref x), some (.str n), some (.str a), some (.bl z)] H1 := by
      refine ⟨_, rfl, _, rfl, x, C, dx, _, rfl, hx1, T.x.cl, T.n1, (by show 0 < 1000; decide), ?_⟩
      refine ⟨_, rfl, _, rfl, x, C, dx, _, rfl, upd_same, T.x.cl, T.n2, (by have := putF_len "_name" (.str n) []; simp at this ⊢; omega), ?_⟩
      refine ⟨_, rfl, _, rfl, x, C, dx, _, rfl, upd_same, T.x.cl, T.n3, (by have := putF_len "_name" (.str n) []; have := putF_len "_at" (.str a) (putF "_name" (.str n) []); simp at *; omega), ?_⟩
      refine k _ (fun b o hb eb => ?_) ⟨dx, upd_same⟩
      rw [upd_ne hb, upd_ne hb, upd_ne hb]
      exact s1 _ _ (by rw [upd_ne (ne_of_none eb np)]; exact eb)
    refine ⟨_, rfl, _, _, rfl, rfl, _, rfl, ?_⟩
    cases z with
    | true => exact rest
    | false => exact ⟨_, rfl, _, _, rfl, rfl, _, rfl, rest⟩
theorem ok_Pipe_q {C f : Addr} {fd : FuncData} (F : Fun K "__eq__" "Pipe.__eq__" s_Pipe___eq__ f fd) (T : PClass K mg C) (B : Blt mg) : FnOk P w K mg base CX0 1 f fd ["self", "other"] (sp_Peq C) := by
  refine F.ok sc_Pipe___eq__ (fun vs H Q E h => ?_) (fun cdv A outer s H vs Q E hr h => ?_)
  · obtain ⟨_, _, _, _, rfl, _⟩ := h
    rfl
  · obtain ⟨a, b, ⟨n, st, e⟩, ⟨n', s', e'⟩, rfl, ⟨dx, ha⟩, ⟨dy, hb⟩, k⟩ := h
    refine ⟨_, (pss_one (ps_ret (pe_and (pe_callB call_isi (by rfl) B.b_isinstance (by decide +kernel) (pa_cons (pv 1) (pa_cons (pe_gC T.k) pa_nil))) (pe_and (pe_cmpR op_eq (pe_fld (pv 0) rfl) (pe_fld (pv 1) rfl) (nomark _)) (pe_and (pe_cmpR op_eq (pe_fld (pv 0) rfl) (pe_fld (pv 1) rfl) (nomark _)) (pe_one (pe_cmpR op_eq (pe_fld (pv 0) rfl) (pe_fld (pv 1) rfl) (nomark _)))))))), ?_⟩
    have dd : decide ((n, st, e) = (n', s', e')) = decide (n = n' ∧ st = s' ∧ e = e') := by simp only [Prod.mk.injEq]
    rw [dd] at k
    refine ⟨_, rfl, _, _, _, .ref C, true, rfl, .own C, T.x.ty hb, T.me, true, rfl, iteT ?_⟩
    refine ⟨_, rfl, a, C, dx, _, _, rfl, ha, T.x.cl, T.n1, pipeF_n _ _ _, _, rfl, b, C, dy, _, _, rfl, hb, T.x.cl, T.n1, pipeF_n _ _ _, rfl, _, rfl, ?_⟩
    refine ite2 (fun h1 => ?_) (fun h1 => ?_)
    · have e1 : n = n' := V.str.inj (of_decide_eq_true h1)
      refine ⟨_, rfl, a, C, dx, _, _, rfl, ha, T.x.cl, T.n2, pipeF_s _ _ _, _, rfl, b, C, dy, _, _, rfl, hb, T.x.cl, T.n2, pipeF_s _ _ _, rfl, _, rfl, ?_⟩
      refine ite2 (fun h2 => ?_) (fun h2 => ?_)
      · have e2 : st = s' := V.str.inj (of_decide_eq_true h2)
        refine ⟨_, rfl, a, C, dx, _, _, rfl, ha, T.x.cl, T.n3, pipeF_e _ _ _, _, rfl, b, C, dy, _, _, rfl, hb, T.x.cl, T.n3, pipeF_e _ _ _, rfl, ?_⟩
        have e3 : decide (V.str e = V.str e') = decide (n = n' ∧ st = s' ∧ e = e') := by
          subst e1 e2
          by_cases q : e = e' <;> simp [q]
        show Q (.bl (decide (V.str e = V.str e'))) H
        rw [e3]
        exact k
      · have : decide (n = n' ∧ st = s' ∧ e = e') = false := decide_eq_false fun z => h2 (decide_eq_true (congrArg V.str z.2.1))
        rw [← this]
        exact k
    · have : decide (n = n' ∧ st = s' ∧ e = e') = false := decide_eq_false fun z => h1 (decide_eq_true (congrArg V.str z.1))
      rw [← this]
      exact k
theorem ok_Meter_q {C f : Addr} {fd : FuncData} (F : Fun K "__eq__" "Meter.__eq__" s_Meter___eq__ f fd) (T : MClass K mg C) (B : Blt mg) : FnOk P w K mg base CX0 1 f fd ["self", "other"] (sp_Meq C) := by
  refine F.ok sc_Meter___eq__ (fun vs H Q E h => ?_) (fun cdv A outer s H vs Q E hr h => ?_)
  · obtain ⟨_, _, _, _, rfl, _⟩ := h
    rfl
  · obtain ⟨a, b, ⟨n, st, e⟩, ⟨n', s', e'⟩, rfl, ⟨dx, ha⟩, ⟨dy, hb⟩, k⟩ := h
    refine ⟨_, (pss_one (ps_ret (pe_and (pe_callB call_isi (by rfl) B.b_isinstance (by decide +kernel) (pa_cons (pv 1) (pa_cons (pe_gC T.k) pa_nil))) (pe_and (pe_cmpR op_eq (pe_fld (pv 0) rfl) (pe_fld (pv 1) rfl) (nomark _)) (pe_and (pe_cmpR op_eq (pe_fld (pv 0) rfl) (pe_fld (pv 1) rfl) (nomark _)) (pe_one (pe_cmpR op_eq (pe_fld (pv 0) rfl) (pe_fld (pv 1) rfl) (nomark _)))))))), ?_⟩
    have dd : decide ((n, st, e) = (n', s', e')) = decide (n = n' ∧ st = s' ∧ e = e') := by simp only [Prod.mk.injEq]
    rw [dd] at k
    refine ⟨_, rfl, _, _, _, .ref C, true, rfl, .own C, T.x.ty hb, T.me, true, rfl, iteT ?_⟩
    refine ⟨_, rfl, a, C, dx, _, _, rfl, ha, T.x.cl, T.n1, metF_n _ _ _, _, rfl, b, C, dy, _, _, rfl, hb, T.x.cl, T.n1, metF_n _ _ _, rfl, _, rfl, ?_⟩
    refine ite2 (fun h1 => ?_) (fun h1 => ?_)
    · have e1 : n = n' := V.str.inj (of_decide_eq_true h1)
      refine ⟨_, rfl, a, C, dx, _, _, rfl, ha, T.x.cl, T.n2, metF_a _ _ _, _, rfl, b, C, dy, _, _, rfl, hb, T.x.cl, T.n2, metF_a _ _ _, rfl, _, rfl, ?_⟩
      refine ite2 (fun h2 => ?_) (fun h2 => ?_)
      · have e2 : st = s' := V.str.inj (of_decide_eq_true h2)
        refine ⟨_, rfl, a, C, dx, _, _, rfl, ha, T.x.cl, T.n3, metF_z _ _ _, _, rfl, b, C, dy, _, _, rfl, hb, T.x.cl, T.n3, metF_z _ _ _, rfl, ?_⟩
        have e3 : decide (V.bl e = V.bl e') = decide (n = n' ∧ st = s' ∧ e = e') := by
          subst e1 e2
          by_cases q : e = e' <;> simp [q]
        show Q (.bl (decide (V.bl e = V.bl e'))) H
        rw [e3]
        exact k
      · have : decide (n = n' ∧ st = s' ∧ e = e') = false := decide_eq_false fun z => h2 (decide_eq_true (congrArg V.str z.2.1))
        rw [← this]
        exact k
    · have : decide (n = n' ∧ st = s' ∧ e = e') = false := decide_eq_false fun z => h1 (decide_eq_true (congrArg V.str z.1))
      rw [← this]
      exact k
theorem ok_Pipe_name {C f : Addr} {fd : FuncData} (F : Fun K "name" "Pipe.name" s_Pipe_name f fd) (T : PClass K mg C) : FnOk P w K mg base CX0 1 f fd ["self"] (sp_pn C) := by
  refine F.ok sc_Pipe_name (fun vs H Q E h => ?_) (fun cdv A outer s H vs Q E hr h => ?_)
  · obtain ⟨_, _, rfl, _⟩ := h
    rfl
  · obtain ⟨a, q, rfl, ⟨dx, ha⟩, k⟩ := h
    refine ⟨_, (pss_one (ps_ret (pe_fld (pv 0) rfl))), ?_⟩
    exact ⟨_, rfl, a, C, dx, _, _, rfl, ha, T.x.cl, T.n1, pipeF_n _ _ _, k⟩
theorem ok_Pipe_start {C f : Addr} {fd : FuncData} (F : Fun K "start" "Pipe.start" s_Pipe_start f fd) (T : PClass K mg C) : FnOk P w K mg base CX0 1 f fd ["self"] (sp_ps C) := by
  refine F.ok sc_Pipe_start (fun vs H Q E h => ?_) (fun cdv A outer s H vs Q E hr h => ?_)
  · obtain ⟨_, _, rfl, _⟩ := h
    rfl
  · obtain ⟨a, q, rfl, ⟨dx, ha⟩, k⟩ := h
    refine ⟨_, (pss_one (ps_ret (pe_fld (pv 0) rfl))), ?_⟩
    exact ⟨_, rfl, a, C, dx, _, _, rfl, ha, T.x.cl, T.n2, pipeF_s _ _ _, k⟩
theorem ok_Pipe_end {C f : Addr} {fd : FuncData} (F : Fun K "end" "Pipe.end" s_Pipe_end f fd) (T : PClass K mg C) : FnOk P w K mg base CX0 1 f fd ["self"] (sp_pe C) := by
  refine F.ok sc_Pipe_end (fun vs H Q E h => ?_) (fun cdv A outer s H vs Q E hr h => ?_)
  · obtain ⟨_, _, rfl, _⟩ := h
    rfl
  · obtain ⟨a, q, rfl, ⟨dx, ha⟩, k⟩ := h
    refine ⟨_, (pss_one (ps_ret (pe_fld (pv 0) rfl))), ?_⟩
    exact ⟨_, rfl, a, C, dx, _, _, rfl, ha, T.x.cl, T.n3, pipeF_e _ _ _, k⟩
theorem ok_Meter_name {C f : Addr} {fd : FuncData} (F : Fun K "name" "Meter.name" s_Meter_name f fd) (T : MClass K mg C) : FnOk P w K mg base CX0 1 f fd ["self"] (sp_mn C) := by
  refine F.ok sc_Meter_name (fun vs H Q E h => ?_) (fun cdv A outer s H vs Q E hr h => ?_)
  · obtain ⟨_, _, rfl, _⟩ := h
    rfl
  · obtain ⟨a, q, rfl, ⟨dx, ha⟩, k⟩ := h
    refine ⟨_, (pss_one (ps_ret (pe_fld (pv 0) rfl))), ?_⟩
    exact ⟨_, rfl, a, C, dx, _, _, rfl, ha, T.x.cl, T.n1, metF_n _ _ _, k⟩
theorem ok_Meter_at {C f : Addr} {fd : FuncData} (F : Fun K "at" "Meter.at" s_Meter_at f fd) (T : MClass K mg C) : FnOk P w K mg base CX0 1 f fd ["self"] (sp_ma C) := by
  refine F.ok sc_Meter_at (fun vs H Q E h => ?_) (fun cdv A outer s H vs Q E hr h => ?_)
  · obtain ⟨_, _, rfl, _⟩ := h
    rfl
  · obtain ⟨a, q, rfl, ⟨dx, ha⟩, k⟩ := h
    refine ⟨_, (pss_one (ps_ret (pe_fld (pv 0) rfl))), ?_⟩
    exact ⟨_, rfl, a, C, dx, _, _, rfl, ha, T.x.cl, T.n2, metF_a _ _ _, k⟩
theorem ok_Meter_sealed {C f : Addr} {fd : FuncData} (F : Fun K "sealed" "Meter.sealed" s_Meter_sealed f fd) (T : MClass K mg C) : FnOk P w K mg base CX0 1 f fd ["self"] (sp_mz C) := by
  refine F.ok sc_Meter_sealed (fun vs H Q E h => ?_) (fun cdv A outer s H vs Q E hr h => ?_)
  · obtain ⟨_, _, rfl, _⟩ := h
    rfl
  · obtain ⟨a, q, rfl, ⟨dx, ha⟩, k⟩ := h
    refine ⟨_, (pss_one (ps_ret (pe_fld (pv 0) rfl))), ?_⟩
    exact ⟨_, rfl, a, C, dx, _, _, rfl, ha, T.x.cl, T.n3, metF_z _ _ _, k⟩
end
end RV
namespace RV
open PySem L2
section
variable {P : Program} {w : World} {K : PySem.W.Frag} {mg : Str → Option Value} {base : Heap} {CN CP CM : Addr}
theorem ok_index_of {f : Addr} {fd : FuncData} (F : Fun K "_index_of" "_index_of" s_index_of f fd) (T : Blt mg) (T2 : Blt2 mg) (h_pn : Prp P w K mg base CP "name" 1 (Irr (sp_pn CP))) : FnOk P w K mg base CX0 3 f fd ["parts", "name"] (sp_index K CP) := by
  refine F.ok sc_index_of (fun vs H Q E h => ?_) (fun cdv A outer s H vs Q E hr h => ?_)
  · obtain ⟨_, _, _, rfl, _⟩ := h
    rfl
  · obtain ⟨t, us, y, rfl, ht, hl, hy, k⟩ := h
    refine ⟨_, (pss_cons (ps_if (pt_not (pt_val (pe_callB call_isi (by rfl) T.b_isinstance (by decide +kernel) (pa_cons (pv 1) (pa_cons (pe_bltn (v := .ty "str") (by rfl) T.b_str (by decide +kernel) rfl) pa_nil))))) (pss_one (ps_ret pe_non)) pss_nil)
      (pss_cons (ps_for PassesOwn.never rfl (pi_enumT (by rfl) T2.b_enumerate (pa_cons (pv 0) pa_nil)) (pg_tup (by rfl) (pgs_cons (pg_name (i := 2) sc_index_of.nd rfl (Or.inl rfl)) (pgs_cons (pg_name (i := 3) sc_index_of.nd rfl (Or.inl rfl)) pgs_nil))) (pss_one (ps_if (pt_cmpR op_eq (pe_propN h_pn (hr.mono (by decide)) (pv 3)) (pv 1) (nomark _)) (pss_one (ps_ret (pv 2))) pss_nil)))
      (pss_one (ps_ret pe_non)))), ?_⟩
    refine ⟨_, rfl, _, _, .type "str", .type "str", true, rfl, .ty _, .base (.str _), kit_ty (by decide +kernel), true, rfl, iteF ?_⟩
    refine ⟨_, rfl, t, _, rfl, ht.t, for_enumT (xs := rf us) (fun i σ H' => (∃ o2 o3, σ = [some (.ref t), some (.str y), o2, o3]) ∧ Same H H' ∧ ∀ j q, j < i → (sn us)[j]? = some q → q.1 ≠ y) ⟨⟨none, none, rfl⟩, fun _ _ e => e, fun j q hj => absurd hj (Nat.not_lt_zero j)⟩ ?_ ?_ ?_⟩
    · rintro i σ H1 _ ⟨_, s1, _⟩
      exact ht.t.ext s1
    · rintro i x σ H1 T' hx' ⟨⟨o1, o2, rfl⟩, s1, hj⟩ nT
      rw [rf, List.getElem?_map] at hx'
      cases hu : us[i]? with
      | none => rw [hu] at hx'; cases hx'
      | some u =>
        rw [hu] at hx'
        obtain rfl : V.ref u.1 = x := Option.some.inj hx'
        have hm := List.mem_of_getElem? hu
        have s2 : Same H (upd H1 T' (.tup [.int (i : Nat), .ref u.1])) := fun b o e => by
          rw [upd_ne (ne_of_none (s1 b o e) nT)]
          exact s1 b o e
        obtain ⟨dx, ex⟩ := (ht.o u hm).ext s2
        refine ⟨T', _, rfl, SqT.of upd_same, rfl, _, _, rfl, _, _, rfl, rfl, ?_⟩
        refine ⟨_, rfl, u.1, dx, _, rfl, ex, irr ⟨u.1, u.2, rfl, ⟨dx, ex⟩, _, rfl, rfl, _, rfl, ?_⟩⟩
        refine ite2 (fun hq => ⟨_, rfl, k _ _ (by rw [sn, List.getElem?_map, hu]; exact congrArg some (V.str.inj (of_decide_eq_true hq))) s2⟩) fun hne => ?_
        refine ⟨⟨_, _, rfl⟩, s2, fun j q hji hq => ?_⟩
        by_cases e : j = i
        · subst e
          rw [sn, List.getElem?_map, hu] at hq
          obtain rfl : u.2 = q := Option.some.inj hq
          exact fun z => hne (decide_eq_true (congrArg V.str z))
        · exact hj j q (by omega) hq
    · rintro σ H1 ⟨⟨o1, o2, rfl⟩, s1, hj⟩
      obtain ⟨q, hq, e⟩ := List.mem_map.mp hy
      obtain ⟨j, hlt, ej⟩ := List.mem_iff_getElem.mp hq
      exact absurd e (hj j q (by rw [rf_len]; rwa [sn_len] at hlt) (by rw [List.getElem?_eq_getElem hlt, ej]))
/-- how many pipes and meters there may be -/
structure Cst3 (mg : Str → Option Value) : Prop where
  pipes : ∃ u, mg "MOST_PIPES" = some u ∧ RelV (.int 12) u
  meters : ∃ u, mg "MOST_METERS" = some u ∧ RelV (.int 12) u
theorem ok_check_pipes {f : Addr} {fd : FuncData} (F : Fun K "_check_pipes" "_check_pipes" s_check_pipes f fd) (T : Blt mg) (T2 : Blt2 mg) (C3 : Cst3 mg) (PC : PClass K mg CP) (h_pn : Prp P w K mg base CP "name" 1 (Irr (sp_pn CP))) : FnOk P w K mg base CX0 3 f fd ["pipes"] (sp_chkP K CP) := by
  refine F.ok sc_check_pipes (fun vs H Q E h => ?_) (fun cdv A outer s H vs Q E hr h => ?_)
  · obtain ⟨_, _, rfl, _⟩ := h
    rfl
  · obtain ⟨t, us, rfl, ht, po, k⟩ := h
    refine ⟨_, (pss_cons (ps_if (PW.pt (pw_or (pt_not (pt_val (pe_callB call_isi (by rfl) T.b_isinstance (by decide +kernel) (pa_cons (pv 0) (pa_cons (pe_bltn (v := .ty "tuple") (by rfl) T2.b_tuple (by decide +kernel) rfl) pa_nil))))) (pw_or1 (pt_not (pt_truth (pv 0) (by intro _; rfl)))))) (pss_one ps_never) pss_nil)
      (pss_cons (ps_set (i := 1) sc_check_pipes.nd rfl (Or.inl rfl) (pe_lst pa_nil))
      (pss_one (ps_for PassesOwn.never rfl (pi_enumT (by rfl) T2.b_enumerate (pa_cons (pv 0) pa_nil)) (pg_tup (by rfl) (pgs_cons (pg_name (i := 2) sc_check_pipes.nd rfl (Or.inl rfl)) (pgs_cons (pg_name (i := 3) sc_check_pipes.nd rfl (Or.inl rfl)) pgs_nil))) (pss_cons (ps_if (PW.pt (pw_or (pt_not (pt_val (pe_callB call_isi (by rfl) T.b_isinstance (by decide +kernel) (pa_cons (pv 3) (pa_cons (pe_gC PC.k) pa_nil))))) (pw_or (pt_cmpR op_in_seq (pe_propN h_pn (hr.mono (by decide)) (pv 3)) (pv 1) (by rfl)) (pw_or1 (pt_cmpR op_ge (pv 2) (pe_gI C3.pipes) (nomark _)))))) (pss_one ps_never) pss_nil) (pss_one (ps_expr (pe_bm PySem.F.plainAttrs_list PySem.F.slot_list_append PySem.F.type_list_append mt_append (pv 1) (pa_cons (pe_propN h_pn (hr.mono (by decide)) (pv 3)) pa_nil))))))))), ?_⟩
    refine ⟨_, rfl, _, _, .type "tuple", .type "tuple", true, rfl, .ty _, tyx_tup ht.t, kit_ty (by decide +kernel), true, rfl, iteF ?_⟩
    have une : (rf us).isEmpty = false := by
      cases us with
      | nil => exact absurd rfl po.n0
      | cons u us => rfl
    refine ⟨_, rfl, true, .inr (.inl ⟨rf us, ht.t, by rw [une]; rfl⟩), iteF ?_⟩
    refine ⟨by decide, fun nl nn => ?_⟩
    have ul : us.length ≤ 12 := by rw [← sn_len]; exact po.ln
    dsimp only [gName]
    refine ⟨_, rfl, t, _, rfl, ht.t.ext (fun b o e => by rw [upd_ne (ne_of_none e nn)]; exact e), for_enumT (xs := rf us) (fun i σ H' => (∃ o2 o3, σ = [some (.ref t), some (.ref nl), o2, o3]) ∧ Same H H' ∧ H' nl = some (.lst ((((sn us).take i).map (·.1)).map V.str))) ⟨⟨none, none, rfl⟩, fun b o e => by rw [upd_ne (ne_of_none e nn)]; exact e, upd_same⟩ ?_ ?_ ?_⟩
    · rintro i σ H1 _ ⟨_, s1, _⟩
      exact ht.t.ext s1
    · rintro i x σ H1 T' hx' ⟨⟨o1, o2, rfl⟩, s1, e1⟩ nT
      rw [rf, List.getElem?_map] at hx'
      cases hu : us[i]? with
      | none => rw [hu] at hx'; cases hx'
      | some u =>
        rw [hu] at hx'
        obtain rfl : V.ref u.1 = x := Option.some.inj hx'
        have hm := List.mem_of_getElem? hu
        have hlt := (List.getElem?_eq_some_iff.mp hu).1
        have s2 : Same H (upd H1 T' (.tup [.int (i : Nat), .ref u.1])) := fun b o e => by
          rw [upd_ne (ne_of_none (s1 b o e) nT)]
          exact s1 b o e
        have e2 := (upd_ne (o := .tup [.int (i : Nat), .ref u.1]) (ne_of_none e1 nT)).trans e1
        obtain ⟨dx, ex⟩ := (ht.o u hm).ext s2
        have hsn : (sn us)[i]? = some u.2 := by rw [sn, List.getElem?_map, hu]; rfl
        refine ⟨T', _, rfl, SqT.of upd_same, rfl, _, _, rfl, _, _, rfl, rfl, ?_⟩
        refine ⟨_, rfl, _, _, _, .ref CP, true, rfl, .own CP, PC.x.ty ex, PC.me, true, rfl, iteF ?_⟩
        refine ⟨_, rfl, u.1, dx, _, rfl, ex, irr ⟨u.1, u.2, rfl, ⟨dx, ex⟩, _, rfl, nl, _, rfl, .inl (SqL.of e2), rfl, strs_flat _, ?_⟩⟩
        rw [inV_str, decide_eq_false (nodup_take po.nd hsn)]
        refine ⟨_, rfl, iteF ⟨_, rfl, _, _, rfl, rfl, _, rfl, ?_⟩⟩
        refine ite2 (fun h => ?_) fun _ => ?_
        · have := of_decide_eq_true h
          omega
        refine ⟨_, rfl, .inl ⟨rfl, _, SqL.of e2⟩, _, rfl, u.1, dx, _, rfl, ex, irr ⟨u.1, u.2, rfl, ⟨dx, ex⟩, nl, _, _, rfl, rfl, e2, ?_, ⟨_, _, rfl⟩, fun b o e => ?_, ?_⟩⟩
        · rw [List.length_map, List.length_map]
          exact Nat.lt_of_le_of_lt (List.length_take_le _ _) (Nat.lt_of_lt_of_le (show i < 13 by omega) (by decide))
        · rw [upd_ne (ne_of_none e nn)]
          exact s2 b o e
        · rw [upd_same, List.take_add_one, hsn]
          simp
    · rintro σ H1 ⟨⟨o1, o2, rfl⟩, s1, _⟩
      exact k H1 s1
end
end RV
namespace RV
open PySem L2
section
variable {P : Program} {w : World} {K : PySem.W.Frag} {mg : Str → Option Value} {base : Heap} {CN CP CM : Addr}
theorem ok_check_meters {f : Addr} {fd : FuncData} (F : Fun K "_check_meters" "_check_meters" s_check_meters f fd) (T : Blt mg) (T2 : Blt2 mg) (C3 : Cst3 mg) (MC : MClass K mg CM) (h_mn : Prp P w K mg base CM "name" 1 (Irr (sp_mn CM))) (h_ma : Prp P w K mg base CM "at" 1 (Irr (sp_ma CM))) (h_index_of : Fn P w K mg base "_index_of" 3 ["parts", "name"] (Irr (sp_index K CP))) : FnOk P w K mg base CX0 4 f fd ["meters", "pipes"] (sp_chkM K CP CM) := by
  refine F.ok sc_check_meters (fun vs H Q E h => ?_) (fun cdv A outer s H vs Q E hr h => ?_)
  · obtain ⟨_, _, _, _, rfl, _⟩ := h
    rfl
  · obtain ⟨t, tp, us, pu, rfl, ht, hp, pl, mo, k⟩ := h
    refine ⟨_, (pss_cons (ps_if (pt_not (pt_val (pe_callB call_isi (by rfl) T.b_isinstance (by decide +kernel) (pa_cons (pv 0) (pa_cons (pe_bltn (v := .ty "tuple") (by rfl) T2.b_tuple (by decide +kernel) rfl) pa_nil))))) (pss_one ps_never) pss_nil)
      (pss_cons (ps_set (i := 2) sc_check_meters.nd rfl (Or.inl rfl) (pe_lst pa_nil))
      (pss_one (ps_for PassesOwn.never rfl (pi_enumT (by rfl) T2.b_enumerate (pa_cons (pv 0) pa_nil)) (pg_tup (by rfl) (pgs_cons (pg_name (i := 3) sc_check_meters.nd rfl (Or.inl rfl)) (pgs_cons (pg_name (i := 4) sc_check_meters.nd rfl (Or.inl rfl)) pgs_nil))) (pss_cons (ps_if (PW.pt (pw_or (pt_not (pt_val (pe_callB call_isi (by rfl) T.b_isinstance (by decide +kernel) (pa_cons (pv 4) (pa_cons (pe_gC MC.k) pa_nil))))) (pw_or (pt_cmpR op_in_seq (pe_propN h_mn (hr.mono (by decide)) (pv 4)) (pv 2) (by rfl)) (pw_or1 (pt_cmpR op_ge (pv 3) (pe_gI C3.meters) (nomark _)))))) (pss_one ps_never) pss_nil) (pss_cons (ps_if (pt_cmpR op_isN (pe_fn h_index_of (hr.mono (by decide)) (pa_cons (pv 1) (pa_cons (pe_propN h_ma (hr.mono (by decide)) (pv 4)) pa_nil))) pe_non (nomark _)) (pss_one ps_never) pss_nil) (pss_one (ps_expr (pe_bm PySem.F.plainAttrs_list PySem.F.slot_list_append PySem.F.type_list_append mt_append (pv 2) (pa_cons (pe_propN h_mn (hr.mono (by decide)) (pv 4)) pa_nil)))))))))), ?_⟩
    refine ⟨_, rfl, _, _, .type "tuple", .type "tuple", true, rfl, .ty _, tyx_tup ht.t, kit_ty (by decide +kernel), true, rfl, iteF ?_⟩
    refine ⟨by decide, fun nl nn => ?_⟩
    have ul : us.length ≤ 12 := by rw [← sn_len]; exact mo.ln
    dsimp only [gName]
    refine ⟨_, rfl, t, _, rfl, ht.t.ext (fun b o e => by rw [upd_ne (ne_of_none e nn)]; exact e), for_enumT (xs := rf us) (fun i σ H' => (∃ o3 o4, σ = [some (.ref t), some (.ref tp), some (.ref nl), o3, o4]) ∧ Same H H' ∧ H' nl = some (.lst ((((sn us).take i).map (·.1)).map V.str))) ⟨⟨none, none, rfl⟩, fun b o e => by rw [upd_ne (ne_of_none e nn)]; exact e, upd_same⟩ ?_ ?_ ?_⟩
    · rintro i σ H1 _ ⟨_, s1, _⟩
      exact ht.t.ext s1
    · rintro i x σ H1 T' hx' ⟨⟨o1, o2, rfl⟩, s1, e1⟩ nT
      rw [rf, List.getElem?_map] at hx'
      cases hu : us[i]? with
      | none => rw [hu] at hx'; cases hx'
      | some u =>
        rw [hu] at hx'
        obtain rfl : V.ref u.1 = x := Option.some.inj hx'
        have hm := List.mem_of_getElem? hu
        have hlt := (List.getElem?_eq_some_iff.mp hu).1
        have s2 : Same H (upd H1 T' (.tup [.int (i : Nat), .ref u.1])) := fun b o e => by
          rw [upd_ne (ne_of_none (s1 b o e) nT)]
          exact s1 b o e
        have e2 := (upd_ne (o := .tup [.int (i : Nat), .ref u.1]) (ne_of_none e1 nT)).trans e1
        have mu := (ht.o u hm).ext s2
        obtain ⟨dx, ex⟩ := id mu
        have hsn : (sn us)[i]? = some u.2 := by rw [sn, List.getElem?_map, hu]; rfl
        refine ⟨T', _, rfl, SqT.of upd_same, rfl, _, _, rfl, _, _, rfl, rfl, ?_⟩
        refine ⟨_, rfl, _, _, _, .ref CM, true, rfl, .own CM, MC.x.ty ex, MC.me, true, rfl, iteF ?_⟩
        refine ⟨_, rfl, u.1, dx, _, rfl, ex, irr ⟨u.1, u.2, rfl, mu, _, rfl, nl, _, rfl, .inl (SqL.of e2), rfl, strs_flat _, ?_⟩⟩
        rw [inV_str, decide_eq_false (nodup_take mo.nd hsn)]
        refine ⟨_, rfl, iteF ⟨_, rfl, _, _, rfl, rfl, _, rfl, ?_⟩⟩
        refine ite2 (fun h => ?_) fun _ => ?_
        · have := of_decide_eq_true h
          omega
        refine ⟨_, rfl, _, rfl, u.1, dx, _, rfl, ex, irr ⟨u.1, u.2, rfl, mu, irr ⟨tp, pu, u.2.2.1, rfl, hp.ext s2, pl, mo.on u.2 (List.mem_of_getElem? hsn), fun ix H2 _ s3 => ?_⟩⟩⟩
        refine ⟨rfl, _, rfl, iteF ?_⟩
        have e3 := s3 _ _ e2
        have mu3 := mu.ext s3
        obtain ⟨dx3, ex3⟩ := id mu3
        refine ⟨_, rfl, .inl ⟨rfl, _, SqL.of e3⟩, _, rfl, u.1, dx3, _, rfl, ex3, irr ⟨u.1, u.2, rfl, mu3, nl, _, _, rfl, rfl, e3, ?_, ⟨_, _, rfl⟩, fun b o e => ?_, ?_⟩⟩
        · rw [List.length_map, List.length_map]
          exact Nat.lt_of_le_of_lt (List.length_take_le _ _) (Nat.lt_of_lt_of_le (show i < 13 by omega) (by decide))
        · rw [upd_ne (ne_of_none e nn)]
          exact s3 _ _ (s2 b o e)
        · rw [upd_same, List.take_add_one, hsn]
          simp
    · rintro σ H1 ⟨⟨o1, o2, rfl⟩, s1, _⟩
      exact k H1 s1
theorem ok_Net_i {f : Addr} {fd : FuncData} {pds : List V} {kws : List (Str × V)} (F : FunD K "__init__" "Net.__init__" (defArgs s_Net___init__) (defBody s_Net___init__) (defScope s_Net___init__) pds kws f fd) (T : NClass K mg CN) (h_check_pipes : Fn P w K mg base "_check_pipes" 3 ["pipes"] (Irr (sp_chkP K CP))) (h_check_meters : Fn P w K mg base "_check_meters" 4 ["meters", "pipes"] (Irr (sp_chkM K CP CM))) : FnOk P w K mg base CX0 5 f fd ["self", "pipes", "meters"] (sp_Net K CN CP CM) := by
  refine F.ok sc_Net___init__ (fun vs H Q E h => ?_) (fun cdv A outer s H vs Q E hr h => ?_)
  · obtain ⟨_, _, _, _, _, _, rfl, _⟩ := h
    rfl
  · obtain ⟨x, dx, tp, tm, pu, mu, rfl, hx, hp, hm, po, mo, k⟩ := h
    refine ⟨_, (pss_cons (ps_expr (pe_fn h_check_pipes (hr.mono (by decide)) (pa_cons (pv 1) pa_nil)))
      (pss_cons (ps_expr (pe_fn h_check_meters (hr.mono (by decide)) (pa_cons (pv 2) (pa_cons (pv 1) pa_nil))))
      (pss_cons (ps_fld (pv 0) (pv 1) rfl)
      (pss_one (ps_fld (pv 0) (pv 2) rfl))))), ?_⟩
    refine ⟨_, rfl, irr ⟨tp, pu, rfl, hp, po, fun H1 s1 => ?_⟩⟩
    refine ⟨_, rfl, _, rfl, irr ⟨tm, tp, mu, pu, rfl, hm.ext s1, hp.ext s1, by rw [← sn_len]; exact po.ln, mo, fun H2 s2 => ?_⟩⟩
    have hx2 := s2 _ _ (s1 _ _ hx)
    refine ⟨_, rfl, _, rfl, x, CN, dx, _, rfl, hx2, T.x.cl, T.n1, (by show 0 < 1000; decide), ?_⟩
    refine ⟨_, rfl, _, rfl, x, CN, dx, _, rfl, upd_same, T.x.cl, T.n2, (by have := putF_len "_pipes" (.ref tp) []; simp at this ⊢; omega), ?_⟩
    refine k _ (fun b o hb eb => ?_) ⟨dx, upd_same⟩
    rw [upd_ne hb, upd_ne hb]
    exact s2 _ _ (s1 _ _ eb)
/-- the tuple of a net's pipes, of a net's meters -/
def sp_npi (CN : Addr) : Sp := fun vs H Q _ => ∃ (a dx tp tm : Addr), vs = [.ref a] ∧ H a = some (.ins CN dx (netF tp tm)) ∧ Q (.ref tp) H
def sp_nme (CN : Addr) : Sp := fun vs H Q _ => ∃ (a dx tp tm : Addr), vs = [.ref a] ∧ H a = some (.ins CN dx (netF tp tm)) ∧ Q (.ref tm) H
def sp_nlen (K : PySem.W.Frag) (CN : Addr) : Sp := fun vs H Q _ => ∃ (a dx tp tm : Addr) (xs : List V), vs = [.ref a] ∧ H a = some (.ins CN dx (netF tp tm)) ∧ SqT K H tp xs ∧ ∃ n : Nat, n = xs.length ∧ n < 2 ^ 62 ∧ Q (.int n) H
theorem ok_Net_p {f : Addr} {fd : FuncData} (F : Fun K "pipes" "Net.pipes" s_Net_pipes f fd) (T : NClass K mg CN) : FnOk P w K mg base CX0 1 f fd ["self"] (sp_npi CN) := by
  refine F.ok sc_Net_pipes (fun vs H Q E h => ?_) (fun cdv A outer s H vs Q E hr h => ?_)
  · obtain ⟨_, _, _, _, rfl, _⟩ := h
    rfl
  · obtain ⟨a, dx, tp, tm, rfl, ha, k⟩ := h
    refine ⟨_, (pss_one (ps_ret (pe_fld (pv 0) rfl))), ?_⟩
    exact ⟨_, rfl, a, CN, dx, _, _, rfl, ha, T.x.cl, T.n1, netF_p _ _, k⟩
theorem ok_Net_m {f : Addr} {fd : FuncData} (F : Fun K "meters" "Net.meters" s_Net_meters f fd) (T : NClass K mg CN) : FnOk P w K mg base CX0 1 f fd ["self"] (sp_nme CN) := by
  refine F.ok sc_Net_meters (fun vs H Q E h => ?_) (fun cdv A outer s H vs Q E hr h => ?_)
  · obtain ⟨_, _, _, _, rfl, _⟩ := h
    rfl
  · obtain ⟨a, dx, tp, tm, rfl, ha, k⟩ := h
    refine ⟨_, (pss_one (ps_ret (pe_fld (pv 0) rfl))), ?_⟩
    exact ⟨_, rfl, a, CN, dx, _, _, rfl, ha, T.x.cl, T.n2, netF_m _ _, k⟩
theorem ok_Net_l {f : Addr} {fd : FuncData} (F : Fun K "__len__" "Net.__len__" s_Net___len__ f fd) (T : NClass K mg CN) (B : Blt mg) : FnOk P w K mg base CX0 1 f fd ["self"] (sp_nlen K CN) := by
  refine F.ok sc_Net___len__ (fun vs H Q E h => ?_) (fun cdv A outer s H vs Q E hr h => ?_)
  · obtain ⟨_, _, _, _, _, rfl, _⟩ := h
    rfl
  · obtain ⟨a, dx, tp, tm, xs, rfl, ha, ht, n, en, nb, k⟩ := h
    refine ⟨_, (pss_one (ps_ret (pe_callB call_len_seq (by rfl) B.b_len (by decide +kernel) (pa_cons (pe_fld (pv 0) rfl) pa_nil)))), ?_⟩
    refine ⟨_, rfl, a, CN, dx, _, _, rfl, ha, T.x.cl, T.n1, netF_p _ _, tp, xs, rfl, .inr ht, ?_⟩
    rw [← en]
    exact k
end
end RV
namespace RV
open PySem L2 TL
section
variable {P : Program} {w : World} {K : PySem.W.Frag} {mg : Str → Option Value} {base : Heap} {CN CP CM : Addr}
theorem ok_pipe_line {f : Addr} {fd : FuncData} (F : Fun K "_pipe_line" "_pipe_line" s_pipe_line f fd) (h_pn : Prp P w K mg base CP "name" 1 (Irr (sp_pn CP))) (h_ps : Prp P w K mg base CP "start" 1 (Irr (sp_ps CP))) (h_pe : Prp P w K mg base CP "end" 1 (Irr (sp_pe CP))) : FnOk P w K mg base CX0 3 f fd ["part"] (sp_pline CP) := by
  refine F.ok sc_pipe_line (fun vs H Q E h => ?_) (fun cdv A outer s H vs Q E hr h => ?_)
  · obtain ⟨_, _, rfl, _⟩ := h
    rfl
  · obtain ⟨a, q, rfl, ha, h1, h2, h3, k⟩ := h
    refine ⟨_, (pss_one (ps_ret (pe_joined (.cons pe_str (.cons (pe_fmt (pe_propN h_pn (hr.mono (by decide)) (pv 0))) (.cons pe_str (.cons (pe_fmt (pe_propN h_ps (hr.mono (by decide)) (pv 0))) (.cons pe_str (.cons (pe_fmt (pe_propN h_pe (hr.mono (by decide)) (pv 0))) .nil))))))))), ?_⟩
    obtain ⟨dx, ea⟩ := id ha
    have l1 := nm8 h1
    have l2 := nm8 h2
    have l3 := nm8 h3
    have e1 : Str.length " " = 1 := by decide +kernel
    have e2 : Str.length Str.empty = 0 := by decide +kernel
    have e3 : Str.length "pipe " = 5 := by decide +kernel
    refine ⟨_, rfl, ?_, _, rfl, a, dx, _, rfl, ea, irr ⟨a, q, rfl, ha, .inl ⟨_, rfl, szn (by omega), _, rfl, ?_, _, rfl, ?_, _, rfl, a, dx, _, rfl, ea, irr ⟨a, q, rfl, ha, .inl ⟨_, rfl, szn (by omega), _, rfl, ?_, _, rfl, ?_, _, rfl, a, dx, _, rfl, ea, irr ⟨a, q, rfl, ha, .inl ⟨_, rfl, szn (by omega), _, rfl, ?_, k⟩⟩⟩⟩⟩⟩⟩
    all_goals (repeat rw [sl_app]); rw [e2, e3]; try rw [e1]
    all_goals exact szn (by omega)
theorem ok_meter_line {f : Addr} {fd : FuncData} (F : Fun K "_meter_line" "_meter_line" s_meter_line f fd) (h_mn : Prp P w K mg base CM "name" 1 (Irr (sp_mn CM))) (h_ma : Prp P w K mg base CM "at" 1 (Irr (sp_ma CM))) (h_mz : Prp P w K mg base CM "sealed" 1 (Irr (sp_mz CM))) : FnOk P w K mg base CX0 3 f fd ["part"] (sp_mline CM) := by
  refine F.ok sc_meter_line (fun vs H Q E h => ?_) (fun cdv A outer s H vs Q E hr h => ?_)
  · obtain ⟨_, _, rfl, _⟩ := h
    rfl
  · obtain ⟨a, q, rfl, ha, h1, h2, k⟩ := h
    refine ⟨_, (pss_cons (ps_set (i := 1) sc_meter_line.nd rfl (Or.inl rfl) (pe_ifExp (pt_val (pe_propN h_mz (hr.mono (by decide)) (pv 0))) pe_str pe_str))
      (pss_one (ps_ret (pe_joined (.cons pe_str (.cons (pe_fmt (pe_propN h_mn (hr.mono (by decide)) (pv 0))) (.cons pe_str (.cons (pe_fmt (pe_propN h_ma (hr.mono (by decide)) (pv 0))) (.cons (pe_fmt (pv 1)) .nil))))))))), ?_⟩
    obtain ⟨dx, ea⟩ := id ha
    have l1 := nm8 h1
    have l2 := nm8 h2
    have e1 : Str.length " " = 1 := by decide +kernel
    have e2 : Str.length Str.empty = 0 := by decide +kernel
    have e3 : Str.length "meter " = 6 := by decide +kernel
    have e4 : ∀ z, (mseal z).length ≤ 7 := fun z => by
      cases z
      · show Str.length "" ≤ 7
        decide +kernel
      · show Str.length " sealed" ≤ 7
        decide +kernel
    have l4 := e4 q.2.2
    refine seq_of (fun σ' H' => σ' = [some (.ref a), some (.str (mseal q.2.2))] ∧ H' = H) ?rest (fun N hN => ?main)
    case main =>
      refine ⟨_, rfl, a, dx, _, rfl, ea, irr ⟨a, q, rfl, ha, q.2.2, rfl, ?_⟩⟩
      cases hz : q.2.2 with
      | true => exact iteT (hN _ _ ⟨by rw [hz]; rfl, rfl⟩)
      | false => exact iteF (hN _ _ ⟨by rw [hz]; rfl, rfl⟩)
    rintro σ1 H1 ⟨rfl, rfl⟩
    refine ⟨_, rfl, ?_, _, rfl, a, dx, _, rfl, ea, irr ⟨a, q, rfl, ha, .inl ⟨_, rfl, szn (by omega), _, rfl, ?_, _, rfl, ?_, _, rfl, a, dx, _, rfl, ea, irr ⟨a, q, rfl, ha, .inl ⟨_, rfl, szn (by omega), _, rfl, ?_, _, rfl, .inl ⟨_, rfl, szn (by omega), _, rfl, ?_, k⟩⟩⟩⟩⟩⟩
    all_goals (repeat rw [sl_app]); rw [e2, e3]; try rw [e1]
    all_goals exact szn (by omega)
end
end RV
namespace RV
open PySem L2 TL
section
variable {P : Program} {w : World} {K : PySem.W.Frag} {mg : Str → Option Value} {base : Heap} {CN CP CM : Addr}
theorem ok_lines {f : Addr} {fd : FuncData} (F : Fun K "_lines" "_lines" s_lines f fd) (h_pipe_line : Fn P w K mg base "_pipe_line" 3 ["part"] (Irr (sp_pline CP))) (h_meter_line : Fn P w K mg base "_meter_line" 3 ["part"] (Irr (sp_mline CM))) : FnOk P w K mg base CX0 4 f fd ["pipes", "meters"] (sp_lines K CP CM) := by
  refine F.ok sc_lines (fun vs H Q E h => ?_) (fun cdv A outer s H vs Q E hr h => ?_)
  · obtain ⟨_, _, _, _, rfl, _⟩ := h
    rfl
  · obtain ⟨tp, tm, pu, mu, rfl, hp, hm, np, nm, pl, ml, k⟩ := h
    refine ⟨_, (pss_one (ps_ret (pe_op op_cat (pe_lc (own := [("part", 2)]) (g := gName 2) (tt := tYes) rfl sc_lines.nd (pi_tup (pv 0)) (blkOk_by (N := sc_lines_N) (sc := defScope s_lines) (by decide +kernel)) (fun _ _ _ _ _ => pg_name (i := 2) sc_lines.nd rfl (Or.inl rfl)) (fun _ _ _ _ _ => pts_nil) (fun _ _ _ _ _ => (pe_fn h_pipe_line (hr.mono (by decide)) (pa_cons (pv 2) pa_nil)))) (pe_lc (own := [("part", 2)]) (g := gName 2) (tt := tYes) rfl sc_lines.nd (pi_tup (pv 1)) (blkOk_by (N := sc_lines_N) (sc := defScope s_lines) (by decide +kernel)) (fun _ _ _ _ _ => pg_name (i := 2) sc_lines.nd rfl (Or.inl rfl)) (fun _ _ _ _ _ => pts_nil) (fun _ _ _ _ _ => (pe_fn h_meter_line (hr.mono (by decide)) (pa_cons (pv 2) pa_nil))))))), ?_⟩
    refine ⟨_, rfl, tp, rfl, ⟨_, hp.t⟩, fun D nD => lc_to (xs := rf pu) (((sn pu).map pline).map V.str) (by rw [List.length_map, List.length_map, sn_len, rf_len]) walk_tup nD (by rw [rf_len]; omega) (fun H' s' => hp.t.ext s') (fun _ => rfl) (fun j x y hx hy H2 s2 R kR => ?_) fun H2 s2 hD => ?_⟩
    · rw [rf, List.getElem?_map] at hx
      cases hu : pu[j]? with
      | none => rw [hu] at hx; cases hx
      | some u =>
        rw [hu] at hx
        obtain rfl : V.ref u.1 = x := Option.some.inj hx
        rw [List.getElem?_map, List.getElem?_map, sn, List.getElem?_map, hu] at hy
        obtain rfl : V.str (pline u.2) = y := Option.some.inj hy
        have hm := List.mem_of_getElem? hu
        have n := np u.2 (List.mem_map.mpr ⟨u, hm, rfl⟩)
        exact ⟨_, rfl, irr ⟨u.1, u.2, rfl, (hp.o u hm).ext s2, n.1, n.2.1, n.2.2, kR _ (Same.refl _)⟩⟩
    refine ⟨_, rfl, tm, rfl, ⟨_, hm.t.ext s2⟩, fun D2 nD2 => lc_to (xs := rf mu) (((sn mu).map mline).map V.str) (by rw [List.length_map, List.length_map, sn_len, rf_len]) walk_tup nD2 (by rw [rf_len]; omega) (fun H' s' => (hm.t.ext s2).ext s') (fun _ => rfl) (fun j x y hx hy H3 s3 R kR => ?_) fun H3 s3 hD2 => ?_⟩
    · rw [rf, List.getElem?_map] at hx
      cases hu : mu[j]? with
      | none => rw [hu] at hx; cases hx
      | some u =>
        rw [hu] at hx
        obtain rfl : V.ref u.1 = x := Option.some.inj hx
        rw [List.getElem?_map, List.getElem?_map, sn, List.getElem?_map, hu] at hy
        obtain rfl : V.str (mline u.2) = y := Option.some.inj hy
        have hmu := List.mem_of_getElem? hu
        have n := nm u.2 (List.mem_map.mpr ⟨u, hmu, rfl⟩)
        exact ⟨_, rfl, irr ⟨u.1, u.2, rfl, ((hm.o u hmu).ext s2).ext s3, n.1, n.2, kR _ (Same.refl _)⟩⟩
    refine ⟨D, D2, _, _, rfl, rfl, s3 _ _ hD, hD2, ?_, fun lo nlo => ?_⟩
    · simp only [List.length_map, sn_len]
      exact Nat.le_trans (show pu.length + mu.length ≤ 40 by omega) (by decide)
    · refine k lo _ ⟨fun b o e => ?_, fun p hp => ?_⟩
      · rw [upd_ne (ne_of_none (s3 _ _ (s2 _ _ e)) nlo)]
        exact s3 _ _ (s2 _ _ e)
      · rw [List.mem_singleton.mp hp]
        refine ⟨?_, by rw [upd_same, netL, List.map_append]⟩
        show H lo = none
        cases e : H lo with
        | none => rfl
        | some o => rw [s3 _ _ (s2 _ _ e)] at nlo; cases nlo
theorem ok_Net_s {f : Addr} {fd : FuncData} (F : Fun K "__str__" "Net.__str__" s_Net___str__ f fd) (T : NClass K mg CN) (h_lines : Fn P w K mg base "_lines" 4 ["pipes", "meters"] (Irr (sp_lines K CP CM))) : FnOk P w K mg base CX0 5 f fd ["self"] (sp_nstr K CN CP CM) := by
  refine F.ok sc_Net___str__ (fun vs H Q E h => ?_) (fun cdv A outer s H vs Q E hr h => ?_)
  · obtain ⟨_, _, _, rfl, _⟩ := h
    rfl
  · obtain ⟨x, ps, ms, rfl, hx, np, nm, pl, ml, k⟩ := h
    refine ⟨_, (pss_one (ps_ret (pe_join pe_str (pe_fn h_lines (hr.mono (by decide)) (pa_cons (pe_fld (pv 0) rfl) (pa_cons (pe_fld (pv 0) rfl) pa_nil)))))), ?_⟩
    obtain ⟨dx, tp, tm, pu, mu, ex, hp, hm, rfl, rfl⟩ := hx.ex
    refine ⟨⟨_, rfl⟩, _, rfl, x, CN, dx, _, _, rfl, ex, T.x.cl, T.n1, netF_p _ _, _, rfl, x, CN, dx, _, _, rfl, ex, T.x.cl, T.n2, netF_m _ _, irr ⟨tp, tm, pu, mu, rfl, hp, hm, np, nm, by rw [← sn_len]; exact pl, by rw [← sn_len]; exact ml, fun m H' kp => ⟨_, m, netL (sn pu) (sn mu), rfl, rfl, .inl (SqL.of (kp.at List.mem_cons_self)), ?_, k H' kp.sm⟩⟩⟩
    have h1 := netL_sum np nm
    have h2 : (netL (sn pu) (sn mu)).length = (sn pu).length + (sn mu).length := by rw [netL, List.length_append, List.length_map, List.length_map]
    have h3 : Str.length "\n" = 1 := by decide +kernel
    rw [h3]
    omega
end
end RV
namespace RV
open PySem L2 TL
section
variable {P : Program} {w : World} {K : PySem.W.Frag} {mg : Str → Option Value} {base : Heap} {CN CP CM : Addr}
theorem ok_Net_q {f : Addr} {fd : FuncData} (F : Fun K "__eq__" "Net.__eq__" s_Net___eq__ f fd) (T : NClass K mg CN) (B : Blt mg) (oP : OwnEq P w K mg base CP 1 (sp_Peq CP)) (oM : OwnEq P w K mg base CM 1 (sp_Meq CM)) : FnOk P w K mg base CX0 4 f fd ["self", "other"] (sp_Neq K CN CP CM) := by
  refine F.ok sc_Net___eq__ (fun vs H Q E h => ?_) (fun cdv A outer s H vs Q E hr h => ?_)
  · obtain ⟨_, _, _, _, _, rfl, _⟩ := h
    rfl
  · obtain ⟨a, b, ps, ms, ms', rfl, ha, hb, hor, k⟩ := h
    refine ⟨_, (pss_one (ps_ret (pe_and (pe_callB call_isi (by rfl) B.b_isinstance (by decide +kernel) (pa_cons (pv 1) (pa_cons (pe_gC T.k) pa_nil))) (pe_and (pe_cmpR (op_eqTup (rc_pipes oP) (hr.mono (by decide))) (pe_fld (pv 0) rfl) (pe_fld (pv 1) rfl) (nomark _)) (pe_one (pe_cmpR (op_eqTup (rc_meters oM) (hr.mono (by decide))) (pe_fld (pv 0) rfl) (pe_fld (pv 1) rfl) (nomark _))))))), ?_⟩
    obtain ⟨dx, tp, tm, pu, mu, ex, hp, hm, e1, e2⟩ := ha.ex
    obtain ⟨dx', tp', tm', pu', mu', ex', hp', hm', e1', e2'⟩ := hb.ex
    refine ⟨_, rfl, _, _, _, .ref CN, true, rfl, .own CN, T.x.ty ex', T.me, true, rfl, iteT ?_⟩
    refine ⟨_, rfl, a, CN, dx, _, _, rfl, ex, T.x.cl, T.n1, netF_p _ _, _, rfl, b, CN, dx', _, _, rfl, ex', T.x.cl, T.n1, netF_p _ _, .inl ⟨dtup_of hp.t hp'.t (e1.trans e1'.symm) fun i u v hu hv e => ?_, fun H1 s1 => ⟨true, rfl, iteT ?_⟩⟩⟩
    · obtain ⟨dy, ey⟩ := hp.o u (List.mem_of_getElem? hu)
      obtain ⟨dz, ez⟩ := hp'.o v (List.mem_of_getElem? hv)
      exact ⟨u.1, v.1, dy, dz, _, _, rfl, rfl, ey, ez, u.2, ⟨dy, ey⟩, by rw [e]; exact ⟨dz, ez⟩⟩
    refine ⟨_, rfl, a, CN, dx, _, _, rfl, s1 _ _ ex, T.x.cl, T.n2, netF_m _ _, _, rfl, b, CN, dx', _, _, rfl, s1 _ _ ex', T.x.cl, T.n2, netF_m _ _, ?_⟩
    have hm1 := hm.ext s1
    have hm1' := hm'.ext s1
    by_cases e : ms = ms'
    · refine .inl ⟨dtup_of hm1.t hm1'.t (e2.trans (e.trans e2'.symm)) fun i u v hu hv e => ?_, fun H2 s2 => ?_⟩
      · obtain ⟨dy, ey⟩ := hm1.o u (List.mem_of_getElem? hu)
        obtain ⟨dz, ez⟩ := hm1'.o v (List.mem_of_getElem? hv)
        exact ⟨u.1, v.1, dy, dz, _, _, rfl, rfl, ey, ez, u.2, ⟨dy, ey⟩, by rw [e]; exact ⟨dz, ez⟩⟩
      · have := k H2 fun b o e => s2 b o (s1 b o e)
        rwa [decide_eq_true e] at this
    · have hl1 : (rf mu).length = ms.length := by rw [rf_len, ← sn_len, e2]
      have hl2 : (rf mu').length = ms'.length := by rw [rf_len, ← sn_len, e2']
      refine .inr ⟨tm, tm', _, _, rfl, rfl, hm1.t, hm1'.t, ?_, ?_, ?_⟩
      · rw [hl1, hl2, List.length_eq_zero_iff, List.length_eq_zero_iff]
        exact hor.resolve_left e
      · rw [hl1, hl2]
        rcases hor.resolve_left e with z | z
        · subst z
          intro q
          exact e (List.length_eq_zero_iff.mp q.symm).symm
        · subst z
          intro q
          exact e (List.length_eq_zero_iff.mp q)
      · have := k H1 s1
        rwa [decide_eq_false e] at this
theorem ok_rows_in {f : Addr} {fd : FuncData} (F : Fun K "_rows_in" "_rows_in" s_rows_in f fd) : FnOk P w K mg base CX0 1 f fd ["text"] sp_rows := by
  refine F.ok sc_rows_in (fun vs H Q E h => ?_) (fun cdv A outer s H vs Q E hr h => ?_)
  · obtain ⟨_, _, rfl, _⟩ := h
    rfl
  · obtain ⟨ps, ms, rfl, ok, k⟩ := h
    refine ⟨_, (pss_one (ps_ret (pe_lc (own := [("line", 1)]) (g := gName 1) (tt := tYes) rfl sc_rows_in.nd (pi_list (pe_split (pv 0) pe_str)) (blkOk_by (N := sc_rows_in_N) (sc := defScope s_rows_in) (by decide +kernel)) (fun _ _ _ _ _ => pg_name (i := 1) sc_rows_in.nd rfl (Or.inl rfl)) (fun _ _ _ _ _ => pts_nil) (fun _ _ _ _ _ => (pe_split (pv 1) pe_str))))), ?_⟩
    have tl := netT_len ok.pn ok.mn ok.pl ok.ml
    refine ⟨_, rfl, ⟨_, rfl⟩, _, _, rfl, rfl, by decide +kernel, Nat.le_trans (show _ ≤ 5010 by omega) (by decide), fun p np => ?_⟩
    rw [split_netT ok.n0 ok.pn ok.mn]
    have s1 : Same H (upd H p (.lst ((netL ps ms).map V.str))) := fun b o e => (upd_ne (ne_of_none e np)).trans e
    have hll : ((netL ps ms).map V.str).length = ps.length + ms.length := by rw [List.length_map, netL, List.length_append, List.length_map, List.length_map]
    have hl1 : SqL K (upd H p (.lst ((netL ps ms).map V.str))) p ((netL ps ms).map V.str) := SqL.of upd_same
    have := ok.pl
    have := ok.ml
    refine ⟨p, rfl, ⟨_, hl1⟩, fun D nD => lc_new (β := RU) (xs := (netL ps ms).map V.str) (fun u => .ref u.1) (fun j u H' => H' u.1 = some (.lst (u.2.map V.str)) ∧ u.1 ≠ D ∧ (rowsL ps ms)[j]? = some u.2) walk_list nD (by omega) (fun H' s' => hl1.ext s') (fun _ => rfl) (fun j u H' H'' s' z => ⟨s' _ _ z.1, z.2⟩) (fun j u H' acc acc' _ z => ⟨by rw [upd_ne z.2.1]; exact z.1, z.2⟩) (fun j x hx H2 s2 hD R kR => ?_) fun us H2 s2 ul up hD => ?_⟩
    · rw [List.getElem?_map] at hx
      cases hu : (netL ps ms)[j]? with
      | none => rw [hu] at hx; cases hx
      | some z =>
        rw [hu] at hx
        obtain rfl : V.str z = x := Option.some.inj hx
        obtain ⟨row, er, hl, es⟩ : ∃ row, (rowsL ps ms)[j]? = some row ∧ z.length ≤ 40 ∧ Txt.split z " " = row := by
          unfold netL at hu
          unfold rowsL
          rw [List.getElem?_append] at hu ⊢
          rw [List.length_map] at hu ⊢
          split at hu
          · rename_i hlt
            rw [if_pos hlt]
            rw [List.getElem?_map] at hu ⊢
            cases hq : ps[j]? with
            | none => rw [hq] at hu; cases hu
            | some q =>
              rw [hq] at hu
              obtain rfl : pline q = z := Option.some.inj hu
              have n := ok.pn q (List.mem_of_getElem? hq)
              exact ⟨_, rfl, pline_len n.1 n.2.1 n.2.2, split_pline n.1 n.2.1 n.2.2⟩
          · rename_i hlt
            rw [if_neg hlt]
            rw [List.getElem?_map] at hu ⊢
            cases hq : ms[j - ps.length]? with
            | none => rw [hq] at hu; cases hu
            | some q =>
              rw [hq] at hu
              obtain rfl : mline q = z := Option.some.inj hu
              have n := ok.mn q (List.mem_of_getElem? hq)
              exact ⟨_, rfl, mline_len n.1 n.2, split_mline n.1 n.2⟩
        obtain ⟨acc, eD⟩ := hD
        refine ⟨_, rfl, ⟨_, rfl⟩, _, _, rfl, rfl, by decide +kernel, szn (by omega), fun t nt => ?_⟩
        rw [es]
        exact kR (t, row) _ (fun b o e => (upd_ne (ne_of_none e nt)).trans e) ⟨upd_same, fun e => (by rw [show t = D from e, eD] at nt; cases nt), er⟩
    · refine k D us H2 (fun b o e => s2 b o (s1 b o e)) ⟨hD, fun u hu => ?_⟩ (List.ext_getElem? fun j => ?_)
      · obtain ⟨j, hj, e⟩ := List.mem_iff_getElem.mp hu
        exact (up j u (by rw [List.getElem?_eq_getElem hj, e])).1
      · rw [sn, List.getElem?_map]
        cases e : us[j]? with
        | some u => exact (up j u e).2.2.symm
        | none =>
          rw [List.getElem?_eq_none_iff] at e
          rw [List.getElem?_eq_none (by rw [rowsL, List.length_append, List.length_map, List.length_map]; omega)]
          rfl
end
end RV
namespace RV
open PySem L2 TL
section
variable {P : Program} {w : World} {K : PySem.W.Frag} {mg : Str → Option Value} {base : Heap} {CN CP CM : Addr}
theorem ok_pipes_in {f : Addr} {fd : FuncData} (F : Fun K "_pipes_in" "_pipes_in" s_pipes_in f fd) (T : Blt mg) (T2 : Blt2 mg) (h_rows_in : Fn P w K mg base "_rows_in" 1 ["text"] (Irr sp_rows)) (h_Pipe : Mkr P w K mg base "Pipe" CP 3 (Irr (sp_Pipe CP)) []) : FnOk P w K mg base CX0 5 f fd ["text"] (sp_pin K CP) := by
  refine F.ok sc_pipes_in (fun vs H Q E h => ?_) (fun cdv A outer s H vs Q E hr h => ?_)
  · obtain ⟨_, _, rfl, _⟩ := h
    rfl
  · obtain ⟨ps, ms, rfl, ok, po, k⟩ := h
    refine ⟨_, (pss_cons (ps_setLc (i := 1) (own := [("row", 2)]) (g := gName 2) rfl sc_pipes_in.nd rfl rfl (sw_true rfl rfl rfl (by decide +kernel)) (pi_list (pe_fn h_rows_in (hr.mono (by decide)) (pa_cons (pv 0) pa_nil))) (blkOk_by (N := sc_pipes_in_N) (sc := defScope s_pipes_in) (by decide +kernel)) (fun _ _ _ _ _ => pg_name (i := 2) sc_pipes_in.nd rfl (Or.inl rfl)) (fun _ _ _ _ _ => pts_one (PW.pt (pw_and (pt_cmpR op_eq (pe_ix ix_listK (pv 2) pe_int (fun _ _ => rfl)) pe_str (nomark _)) (pw_and1 (pt_cmpR op_eq (pe_callB call_lenK (by rfl) T.b_len (by decide +kernel) (pa_cons (pv 2) pa_nil)) pe_int (nomark _)))))) (fun _ _ _ _ _ => (pv 2)))
      (pss_one (ps_ret (pe_callTy call_tuple_of (by rfl) T2.b_tuple (by decide +kernel) (pa_cons (pe_lc (own := [("row", 2)]) (g := gName 2) (tt := tYes) rfl sc_pipes_in.nd (pi_list (pv 1)) (blkOk_by (N := sc_pipes_in_N) (sc := defScope s_pipes_in) (by decide +kernel)) (fun _ _ _ _ _ => pg_name (i := 2) sc_pipes_in.nd rfl (Or.inl rfl)) (fun _ _ _ _ _ => pts_nil) (fun _ _ _ _ _ => (pe_mk h_Pipe (hr.mono (by decide)) (pa_cons (pe_ix ix_listK (pv 2) pe_int (fun _ _ => rfl)) (pa_cons (pe_ix ix_listK (pv 2) pe_int (fun _ _ => rfl)) (pa_cons (pe_ix ix_listK (pv 2) pe_int (fun _ _ => rfl)) pa_nil)))))) pa_nil))))), ?_⟩
    refine ⟨_, rfl, irr ⟨ps, ms, rfl, ok, fun l us H1 s1 rw1 er => ⟨l, rfl, ⟨_, SqL.of rw1.l⟩, fun D nD => ?_⟩⟩⟩
    have hl1 : SqL K H1 l (rf us) := SqL.of rw1.l
    have ul : us.length ≤ 40 := by
      rw [← sn_len, er, rowsL, List.length_append, List.length_map, List.length_map]
      have := ok.pl
      have := ok.ml
      omega
    have row_of : ∀ u ∈ us, (∃ q, u.2 = prow q) ∨ ∃ q, u.2 = mrow q := fun u hu => by
      have : u.2 ∈ rowsL ps ms := by rw [← er]; exact List.mem_map.mpr ⟨u, hu, rfl⟩
      rcases List.mem_append.mp this with h | h
      · obtain ⟨q, _, e⟩ := List.mem_map.mp h
        exact .inl ⟨q, e.symm⟩
      · obtain ⟨q, _, e⟩ := List.mem_map.mp h
        exact .inr ⟨q, e.symm⟩
    refine lc_keep (us := us) (fun u => isP u.2) walk_list nD (by omega) (fun H' s' => hl1.ext s') (fun _ => rfl) (fun u hu H2 s2 R kR => ?_) (fun u hu H2 R r => ⟨_, rfl, r⟩) fun H2 s2 hD => ?_
    · have eu := s2 _ _ (rw1.o u hu)
      rcases row_of u hu with ⟨q, e⟩ | ⟨q, e⟩
      · rw [e] at eu
        have kR' := kR H2 (Same.refl H2)
        rw [e, isP_p] at kR'
        refine ⟨_, rfl, u.1, _, 0, _, rfl, rfl, SqL.of eu, rfl, rfl, _, rfl, ite2 (fun _ => ?_) fun h => absurd (decide_eq_true rfl) h⟩
        exact ⟨_, rfl, u.1, _, rfl, .inl (SqL.of eu), rfl, _, rfl, kR'⟩
      · have kR' := kR H2 (Same.refl H2)
        rw [e, isP_m] at kR'
        obtain ⟨r, er⟩ : ∃ r : List Str, mrow q = ("meter" : Str) :: r := by unfold mrow; split <;> exact ⟨_, rfl⟩
        rw [e, er] at eu
        refine ⟨_, rfl, u.1, _, 0, .str "meter", rfl, rfl, SqL.of eu, atI_nat (j := 0) rfl, rfl, _, rfl, ite2 (fun h => ?_) fun _ => kR'⟩
        exact absurd (V.str.inj (of_decide_eq_true h)).symm p_ne_m
    generalize hfu : us.filter (fun u => isP u.2) = fu at hD
    have efu : sn fu = ps.map prow := by rw [← hfu, sn_filter, er, rows_p]
    have ofu : ∀ u ∈ fu, H2 u.1 = some (.lst (u.2.map V.str)) := fun u hu => s2 _ _ (rw1.o u (List.mem_filter.mp (by rw [hfu]; exact hu : u ∈ us.filter (fun u => isP u.2)) |>.1))
    have lfu : fu.length = ps.length := by rw [← sn_len, efu, List.length_map]
    have hl2 : SqL K H2 D (rf fu) := SqL.of hD
    dsimp only [gName]
    refine ⟨_, rfl, D, rfl, ⟨_, hl2⟩, fun D2 nD2 => lc_new (β := PU) (xs := rf fu) (fun u => .ref u.1) (fun j u H' => PipeAt CP H' u.1 u.2 ∧ ps[j]? = some u.2) walk_list nD2 (by rw [rf_len, lfu]; have := ok.pl; omega) (fun H' s' => hl2.ext s') (fun _ => rfl) (fun j u H' H'' s' z => ⟨z.1.ext s', z.2⟩) (fun j u H' acc acc' e z => ⟨z.1.gro e Grow.put, z.2⟩) (fun j x hx H3 s3 hD3 R kR => ?_) fun bs H3 s3 bl bp hD3 => ?_⟩
    · obtain ⟨u, hu, rfl⟩ := rf_get hx
      have hs := sn_get hu
      rw [efu, List.getElem?_map] at hs
      cases hq : ps[j]? with
      | none => rw [hq] at hs; cases hs
      | some q =>
        rw [hq] at hs
        have e : u.2 = prow q := (Option.some.inj hs).symm
        have eu := s3 _ _ (ofu u (List.mem_of_getElem? hu))
        rw [e] at eu
        obtain ⟨n1, n2, n3, n4⟩ := po.nm q (List.mem_of_getElem? hq)
        refine ⟨_, rfl, u.1, _, 1, _, rfl, rfl, SqL.of eu, rfl, _, rfl, u.1, _, 2, _, rfl, rfl, SqL.of eu, rfl, _, rfl, u.1, _, 3, _, rfl, rfl, SqL.of eu, rfl, ?_⟩
        exact fun x dx hx hd ne => Pipe_kp n1 n2 n3 n4 hx hd ne fun H4 s4 pa => kR (x, q) H4 s4 ⟨pa, hq⟩
    · refine ⟨D2, _, rfl, .inl ⟨SqL.of hD3, fun t nt => ?_⟩⟩
      have s4 : Same H3 (upd H3 t (.tup (bs.map fun u => .ref u.1))) := fun b o e => (upd_ne (ne_of_none e nt)).trans e
      refine k t bs _ (fun b o e => s4 b o (s3 b o (s2 b o (s1 b o e)))) ⟨SqT.of upd_same, fun u hu => ?_⟩ (List.ext_getElem? fun j => ?_)
      · obtain ⟨j, hj, e⟩ := List.mem_iff_getElem.mp hu
        exact (bp j u (by rw [List.getElem?_eq_getElem hj, e])).1.ext s4
      · cases e : bs[j]? with
        | some u => rw [sn_get e]; exact (bp j u e).2.symm
        | none =>
          rw [List.getElem?_eq_none_iff] at e
          rw [rf_len, lfu] at bl
          rw [List.getElem?_eq_none (by rw [sn_len]; omega), List.getElem?_eq_none (by omega)]
theorem ok_meters_in {f : Addr} {fd : FuncData} (F : Fun K "_meters_in" "_meters_in" s_meters_in f fd) (T : Blt mg) (T2 : Blt2 mg) (h_rows_in : Fn P w K mg base "_rows_in" 1 ["text"] (Irr sp_rows)) (h_MeterK : MkrK P w K mg base "Meter" CM 3 2 ["sealed"] (Irr (sp_Meter CM)) gM2) : FnOk P w K mg base CX0 5 f fd ["text"] (sp_min K CM) := by
  refine F.ok sc_meters_in (fun vs H Q E h => ?_) (fun cdv A outer s H vs Q E hr h => ?_)
  · obtain ⟨_, _, rfl, _⟩ := h
    rfl
  · obtain ⟨ps, ms, rfl, ok, k⟩ := h
    refine ⟨_, (pss_cons (ps_setLc (i := 1) (own := [("row", 2)]) (g := gName 2) rfl sc_meters_in.nd rfl rfl (sw_true rfl rfl rfl (by decide +kernel)) (pi_list (pe_fn h_rows_in (hr.mono (by decide)) (pa_cons (pv 0) pa_nil))) (blkOk_by (N := sc_meters_in_N) (sc := defScope s_meters_in) (by decide +kernel)) (fun _ _ _ _ _ => pg_name (i := 2) sc_meters_in.nd rfl (Or.inl rfl)) (fun _ _ _ _ _ => pts_one (PW.pt (pw_and (pt_cmpR op_eq (pe_ix ix_listK (pv 2) pe_int (fun _ _ => rfl)) pe_str (nomark _)) (pw_and1 (pt_cmpR (op_inK (K := K)) (pe_callB call_lenK (by rfl) T.b_len (by decide +kernel) (pa_cons (pv 2) pa_nil)) (pe_tup (pa_cons pe_int (pa_cons pe_int pa_nil))) (by rfl)))))) (fun _ _ _ _ _ => (pv 2)))
      (pss_one (ps_ret (pe_callTy call_tuple_of (by rfl) T2.b_tuple (by decide +kernel) (pa_cons (pe_lc (own := [("row", 2)]) (g := gName 2) (tt := tYes) rfl sc_meters_in.nd (pi_list (pv 1)) (blkOk_by (N := sc_meters_in_N) (sc := defScope s_meters_in) (by decide +kernel)) (fun _ _ _ _ _ => pg_name (i := 2) sc_meters_in.nd rfl (Or.inl rfl)) (fun _ _ _ _ _ => pts_nil) (fun _ _ _ _ _ => (pe_mkK h_MeterK (hr.mono (by decide)) (pa_cons (pe_ix ix_listK (pv 2) pe_int (fun _ _ => rfl)) (pa_cons (pe_ix ix_listK (pv 2) pe_int (fun _ _ => rfl)) pa_nil)) (pk_cons (pe_cmpR op_eq (pe_callB call_lenK (by rfl) T.b_len (by decide +kernel) (pa_cons (pv 2) pa_nil)) pe_int (nomark _)) pk_nil)))) pa_nil))))), ?_⟩
    refine ⟨_, rfl, irr ⟨ps, ms, rfl, ok, fun l us H1 s1 rw1 er => ⟨l, rfl, ⟨_, SqL.of rw1.l⟩, fun D nD => ?_⟩⟩⟩
    have hl1 : SqL K H1 l (rf us) := SqL.of rw1.l
    have ul : us.length ≤ 40 := by
      rw [← sn_len, er, rowsL, List.length_append, List.length_map, List.length_map]
      have := ok.pl
      have := ok.ml
      omega
    have row_of : ∀ u ∈ us, (∃ q, u.2 = prow q) ∨ ∃ q, u.2 = mrow q := fun u hu => by
      have : u.2 ∈ rowsL ps ms := by rw [← er]; exact List.mem_map.mpr ⟨u, hu, rfl⟩
      rcases List.mem_append.mp this with h | h
      · obtain ⟨q, _, e⟩ := List.mem_map.mp h
        exact .inl ⟨q, e.symm⟩
      · obtain ⟨q, _, e⟩ := List.mem_map.mp h
        exact .inr ⟨q, e.symm⟩
    refine lc_keep (us := us) (fun u => isM u.2) walk_list nD (by omega) (fun H' s' => hl1.ext s') (fun _ => rfl) (fun u hu H2 s2 R kR => ?_) (fun u hu H2 R r => ⟨_, rfl, r⟩) fun H2 s2 hD => ?_
    · have eu := s2 _ _ (rw1.o u hu)
      rcases row_of u hu with ⟨q, e⟩ | ⟨q, e⟩
      · rw [e] at eu
        have kR' := kR H2 (Same.refl H2)
        rw [e, isM_p] at kR'
        refine ⟨_, rfl, u.1, _, 0, .str "pipe", rfl, rfl, SqL.of eu, rfl, rfl, _, rfl, ite2 (fun h => ?_) fun _ => kR'⟩
        exact absurd (V.str.inj (of_decide_eq_true h)) p_ne_m
      · obtain ⟨r, er, lr⟩ : ∃ r : List Str, mrow q = ("meter" : Str) :: r ∧ (r.length = 2 ∨ r.length = 3) := by
          unfold mrow
          split
          · exact ⟨_, rfl, .inr rfl⟩
          · exact ⟨_, rfl, .inl rfl⟩
        have em : isM u.2 = true := by rw [e, isM_m]
        rw [e, er] at eu
        refine ⟨_, rfl, u.1, _, 0, .str "meter", rfl, rfl, SqL.of eu, atI_nat (j := 0) rfl, rfl, _, rfl, ite2 (fun _ => ?_) fun h => absurd (decide_eq_true rfl) h⟩
        refine ⟨_, rfl, u.1, _, rfl, .inl (SqL.of eu), (by show 2 ≤ sizeLine; decide), fun t nt => ⟨t, _, rfl, .inr (SqT.of upd_same), rfl, rfl, ?_⟩⟩
        have kR' := kR _ (fun b o e => (upd_ne (o := .tup [.int 3, .int 4]) (ne_of_none e nt)).trans e)
        rw [em] at kR'
        have ev : inV (V.int ((List.map V.str (("meter" : Str) :: r)).length : Nat)) [V.int 3, V.int 4] = true := by
          rw [List.length_map, List.length_cons]
          rcases lr with z | z <;> rw [z] <;> rfl
        refine ⟨_, rfl, ?_⟩
        rw [ev]
        exact kR'
    generalize hfu : us.filter (fun u => isM u.2) = fu at hD
    have efu : sn fu = ms.map mrow := by rw [← hfu, sn_filter, er, rows_m]
    have ofu : ∀ u ∈ fu, H2 u.1 = some (.lst (u.2.map V.str)) := fun u hu => s2 _ _ (rw1.o u (List.mem_filter.mp (by rw [hfu]; exact hu : u ∈ us.filter (fun u => isM u.2)) |>.1))
    have lfu : fu.length = ms.length := by rw [← sn_len, efu, List.length_map]
    have hl2 : SqL K H2 D (rf fu) := SqL.of hD
    dsimp only [gName]
    refine ⟨_, rfl, D, rfl, ⟨_, hl2⟩, fun D2 nD2 => lc_new (β := MU) (xs := rf fu) (fun u => .ref u.1) (fun j u H' => MetAt CM H' u.1 u.2 ∧ ms[j]? = some u.2) walk_list nD2 (by rw [rf_len, lfu]; have := ok.ml; omega) (fun H' s' => hl2.ext s') (fun _ => rfl) (fun j u H' H'' s' z => ⟨z.1.ext s', z.2⟩) (fun j u H' acc acc' e z => ⟨z.1.gro e Grow.put, z.2⟩) (fun j x hx H3 s3 hD3 R kR => ?_) fun bs H3 s3 bl bp hD3 => ?_⟩
    · obtain ⟨u, hu, rfl⟩ := rf_get hx
      have hs := sn_get hu
      rw [efu, List.getElem?_map] at hs
      cases hq : ms[j]? with
      | none => rw [hq] at hs; cases hs
      | some q =>
        rw [hq] at hs
        have e : u.2 = mrow q := (Option.some.inj hs).symm
        have eu := s3 _ _ (ofu u (List.mem_of_getElem? hu))
        obtain ⟨n1, n2⟩ := ok.mn q (List.mem_of_getElem? hq)
        obtain ⟨r, er, lr⟩ : ∃ r : List Str, mrow q = ("meter" : Str) :: q.1 :: q.2.1 :: r ∧ decide ((r.length + 3 : Nat) = 4) = q.2.2 := by
          unfold mrow
          split
          · rename_i hz
            exact ⟨_, rfl, by rw [hz]; rfl⟩
          · rename_i hz
            exact ⟨_, rfl, by simp at hz; rw [hz]; rfl⟩
        rw [e, er] at eu
        refine ⟨_, rfl, u.1, _, 1, .str q.1, rfl, rfl, SqL.of eu, atI_nat (j := 1) rfl, _, rfl, u.1, _, 2, .str q.2.1, rfl, rfl, SqL.of eu, atI_nat (j := 2) rfl, ?_⟩
        refine ⟨_, rfl, u.1, _, rfl, .inl (SqL.of eu), rfl, rfl, rfl, ?_⟩
        have ez : decide (V.int ((List.map V.str (("meter" : Str) :: q.1 :: q.2.1 :: r)).length : Nat) = V.int 4) = q.2.2 := by
          rw [← lr, List.length_map, List.length_cons, List.length_cons, List.length_cons]
          refine decide_eq_decide.mpr ⟨fun h => ?_, fun h => ?_⟩
          · have := V.int.inj h
            omega
          · congr 1
            omega
        rw [ez]
        exact fun x dx hx hd ne => Meter_kp n1 n2 hx hd ne fun H4 s4 pa => kR (x, q) H4 s4 ⟨pa, hq⟩
    · refine ⟨D2, _, rfl, .inl ⟨SqL.of hD3, fun t nt => ?_⟩⟩
      have s4 : Same H3 (upd H3 t (.tup (bs.map fun u => .ref u.1))) := fun b o e => (upd_ne (ne_of_none e nt)).trans e
      refine k t bs _ (fun b o e => s4 b o (s3 b o (s2 b o (s1 b o e)))) ⟨SqT.of upd_same, fun u hu => ?_⟩ (List.ext_getElem? fun j => ?_)
      · obtain ⟨j, hj, e⟩ := List.mem_iff_getElem.mp hu
        exact (bp j u (by rw [List.getElem?_eq_getElem hj, e])).1.ext s4
      · cases e : bs[j]? with
        | some u => rw [sn_get e]; exact (bp j u e).2.symm
        | none =>
          rw [List.getElem?_eq_none_iff] at e
          rw [rf_len, lfu] at bl
          rw [List.getElem?_eq_none (by rw [sn_len]; omega), List.getElem?_eq_none (by omega)]
theorem ok_Net_r {f : Addr} {fd : FuncData} (F : Fun K "read" "Net.read" s_Net_read f fd) (T : Blt mg) (h_Net : Mkr P w K mg base "Net" CN 5 (Irr (sp_Net K CN CP CM)) []) (h_pipes_in : Fn P w K mg base "_pipes_in" 5 ["text"] (Irr (sp_pin K CP))) (h_meters_in : Fn P w K mg base "_meters_in" 5 ["text"] (Irr (sp_min K CM))) (h_str : OwnM P w K mg base CN "__str__" 5 (Irr (sp_nstr K CN CP CM))) : FnOk P w K mg base CX0 8 f fd ["cls", "text"] (sp_nread K CN CP CM) := by
  refine F.ok sc_Net_read (fun vs H Q E h => ?_) (fun cdv A outer s H vs Q E hr h => ?_)
  · obtain ⟨_, _, rfl, _⟩ := h
    rfl
  · obtain ⟨ps, ms, rfl, po, mo, k⟩ := h
    refine ⟨_, (pss_cons (ps_if (pt_not (pt_val (pe_callB call_isi (by rfl) T.b_isinstance (by decide +kernel) (pa_cons (pv 1) (pa_cons (pe_bltn (v := .ty "str") (by rfl) T.b_str (by decide +kernel) rfl) pa_nil))))) (pss_one ps_never) pss_nil)
      (pss_cons (ps_try_thru0 (pss_one (ps_set (i := 2) sc_Net_read.nd rfl (Or.inl rfl) (pe_mkL (i := 0) h_Net (hr.mono (by decide)) rfl (Or.inl rfl) (pa_cons (pe_fn h_pipes_in (hr.mono (by decide)) (pa_cons (pv 1) pa_nil)) (pa_cons (pe_fn h_meters_in (hr.mono (by decide)) (pa_cons (pv 1) pa_nil)) pa_nil))))))
      (pss_cons (ps_if (pt_cmpR op_ne (pe_callTy (call_strO h_str (hr.mono (by decide))) (by rfl) T.b_str (by decide +kernel) (pa_cons (pv 2) pa_nil)) (pv 1) (nomark _)) (pss_one ps_never) pss_nil)
      (pss_one (ps_ret (pv 2)))))), ?_⟩
    have ok := TOk.of po mo
    refine ⟨_, rfl, _, _, .type "str", .type "str", true, rfl, .ty _, .base (.str _), kit_ty (by decide +kernel), true, rfl, iteF ?_⟩
    refine ⟨rfl, _, rfl, irr ⟨ps, ms, rfl, ok, po, fun tp pu H1 s1 hp ep => ⟨_, rfl, irr ⟨ps, ms, rfl, ok, fun tm mu H2 s2 hm em => ?_⟩⟩⟩⟩
    have hp2 := hp.ext s2
    refine fun x dx hx hd ne => Net_kp hp2 hm (ep ▸ po) (by rw [ep, em]; exact mo) hx hd ne fun H3 s3 hn => ?_
    rw [ep, em] at hn
    obtain ⟨dx', tp', tm', pu', mu', ex, _⟩ := id hn.ex
    refine ⟨_, rfl, x, dx', _, rfl, ex, irr ⟨x, ps, ms, rfl, hn, ok.pn, ok.mn, ok.pl, ok.ml, fun H4 s4 => ?_⟩⟩
    refine ⟨_, rfl, _, rfl, rfl, _, rfl, ?_⟩
    refine ite2 (fun h => ?_) (fun _ => ?_)
    · simp at h
    exact ⟨_, rfl, k x H4 (fun b o e => s4 b o (s3 b o (s2 b o (s1 b o e)))) (hn.ext s4)⟩
end
end RV
namespace RV
open PySem L2
/-! Net(p, m); Meter(n, a, sealed=z); Net.read(text=t) -/
theorem chainN {f t0 : Addr} {K : PySem.W.Frag} {fd : FuncData} (F : FunD K "__init__" "Net.__init__" (defArgs s_Net___init__) (defBody s_Net___init__) (defScope s_Net___init__) [.ref t0] [] f fd) : ∃ ds, Vals [] ds ∧ Binds K fd ["self", "pipes", "meters"] ds := by
  refine FunD.binds1 F 3 1 (by simp) rfl fun T kV doc pm an cdv ct us its h1 h2 => ?_
  match us, h1, its, h2 with
  | [x, y, z], _, [d], _ => exact ⟨_, rfl, rfl⟩
def gM2' (us ws : List Value) : List Value := match us, ws with
  | [x, n, a], [z] => [x, n, a, z]
  | _, _ => []
theorem gM2_rel {vs : List V} {us : List Value} {zs : List V} {ws : List Value} (r1 : Vals vs us) (r2 : Vals zs ws) : Vals (gM2 vs zs) (gM2' us ws) := by
  cases r1 with
  | nil => cases r2 <;> exact .nil
  | cons a1 r1 =>
    cases r1 with
    | nil => cases r2 <;> exact .nil
    | cons a2 r1 =>
      cases r1 with
      | nil => cases r2 <;> exact .nil
      | cons a3 r1 =>
        cases r1 with
        | cons a4 r1 => cases r2 <;> exact .nil
        | nil =>
          cases r2 with
          | nil => exact .nil
          | cons b r2 =>
            cases r2 with
            | nil => exact .cons a1 (.cons a2 (.cons a3 (.cons b .nil)))
            | cons c r2 => exact .nil
theorem kbM2 {f : Addr} {K : PySem.W.Frag} {fd : FuncData} (F : FunD K "__init__" "Meter.__init__" (defArgs s_Meter___init__) (defBody s_Meter___init__) (defScope s_Meter___init__) [] [("sealed", V.bl false)] f fd) :
    KBn K fd ["self", "name", "at", "sealed"] 3 ["sealed"] gM2' gM2 := by
  refine ⟨fun s us ws X h1 h2 => ?_, gM2_rel⟩
  obtain ⟨oc, od, dV, kV, doc, pm, an, cdv, ct, osl, rfl, lk, hcd, hD, hK⟩ := F.ex
  rcases hD with ⟨_, rfl⟩ | ⟨e, _⟩
  · match us, h1, ws, h2 with
    | [x, n, a], _, [z], _ => exact BindsTo.of_eq rfl
  · exact absurd rfl e
def gR' (us ws : List Value) : List Value := match us, ws with
  | [x], [t] => [x, t]
  | _, _ => []
theorem gR_rel {vs : List V} {us : List Value} {zs : List V} {ws : List Value} (r1 : Vals vs us) (r2 : Vals zs ws) : Vals (gR vs zs) (gR' us ws) := by
  cases r1 with
  | nil => exact .nil
  | cons a r =>
    cases r with
    | cons b r => exact .nil
    | nil =>
      cases r2 with
      | nil => exact .nil
      | cons c r2 =>
        cases r2 with
        | nil => exact .cons a (.cons c .nil)
        | cons d r2 => exact .nil
theorem kbNR {f : Addr} {K : PySem.W.Frag} {fd : FuncData} (F : Fun K "read" "Net.read" s_Net_read f fd) : KBn K fd ["cls", "text"] 1 ["text"] gR' gR := by
  refine ⟨fun s us ws X h1 h2 => ?_, gR_rel⟩
  obtain ⟨oc, od, kV, doc, pm, an, cdv, ct, osl, rfl, lk, hcd⟩ := F.ex
  match us, h1, ws, h2 with
  | [x], _, [t], _ => exact BindsTo.of_eq rfl
end RV
namespace RV
open PySem L2
theorem cutV_int (ns : List Int) (a b : Option Int) : ∃ ms : List Int, cutV (ns.map V.int) a b = ms.map V.int ∧ ms.length ≤ ns.length := by
  unfold cutV
  rw [List.length_map, ← List.map_drop, ← List.map_take]
  refine ⟨_, rfl, ?_⟩
  rw [List.length_take, List.length_drop]
  omega
section
variable {P : Program} {w : World} {K : PySem.W.Frag} {mg : Str → Option Value} {base : Heap}
/-- the well of the laws over scripts -/
theorem ok_well2 {f : Addr} {fd : FuncData} (F : Fun K "_law_well" "_law_well" s_well f fd) (T : Blt mg) : FnOk P w K mg base CX0 1 f fd ["_law_script", "_law_k"] (sp_well K) := by
  refine F.ok sc_well (fun vs H Q E h => ?_) (fun cdv A outer s H vs Q E hr h => ?_)
  · obtain ⟨_, _, _, rfl, _⟩ := h
    rfl
  · obtain ⟨c, ns, i, rfl, hS, hl, hi, k⟩ := h
    refine ⟨_, (pss_cons (ps_set (i := 2) sc_well.nd rfl (Or.inl rfl) (pe_ifExp (pt_cmpR op_lt (pv 1) (pe_callB call_len_seq (by rfl) T.b_len (by decide +kernel) (pa_cons (pv 0) pa_nil)) (nomark _)) (pe_ix ix_list (pv 0) (pv 1) (fun _ _ => rfl)) pe_int))
      (pss_cons (ps_set (i := 3) sc_well.nd rfl (Or.inl rfl) (pe_op op_add pe_int (pe_op op_mul pe_int (pv 1))))
      (pss_cons (ps_for PassesOwn.never rfl (pi_list (pe_slice sl_list (pv 0) po_none (po_some pe_int))) (pg_name (i := 4) sc_well.nd rfl (Or.inl rfl)) (pss_one (ps_set (i := 3) sc_well.nd rfl (Or.inl rfl) (pe_op op_mod (pe_callTy call_int1 (by rfl) T.b_int (by decide +kernel) (pa_cons (pe_op op_add (pe_op op_add (pe_op op_mul (pv 3) pe_int) (pe_op op_mod (pe_callTy call_int1 (by rfl) T.b_int (by decide +kernel) (pa_cons (pv 4) pa_nil)) pe_int)) pe_int) pa_nil)) pe_int))))
      (pss_cons (ps_set (i := 3) sc_well.nd rfl (Or.inl rfl) (pe_op op_mod (pe_callTy call_int1 (by rfl) T.b_int (by decide +kernel) (pa_cons (pe_op op_add (pe_op op_add (pe_op op_mul (pv 3) pe_int) (pe_op op_mod (pe_callTy call_int1 (by rfl) T.b_int (by decide +kernel) (pa_cons (pv 2) pa_nil)) pe_int)) pe_int) pa_nil)) pe_int))
      (pss_one (ps_ret (pe_lst (pa_cons (pv 3) (pa_cons (pe_ifExp (pt_cmpR op_ge (pe_callB call_abs (by rfl) T.b_abs (by decide +kernel) (pa_cons (pv 2) pa_nil)) (pe_op op_pow pe_int pe_int) (nomark _)) (pe_callB call_abs (by rfl) T.b_abs (by decide +kernel) (pa_cons (pv 2) pa_nil)) pe_int) (pa_cons pe_int pa_nil)))))))))), ?_⟩
    refine seq_of (fun σ' H' => ∃ z : Int, σ' = [some (.ref c), some (.int i), some (.int z), none, none] ∧ H' = H) ?rest (fun N hN => ?main)
    case main =>
      refine tif_int (b := decide ((i : Int) < ns.length)) (fun R r => ⟨_, rfl, _, rfl, c, _, rfl, .inl hS, _, _, rfl, rfl, _, rfl, by rw [List.length_map]; exact r⟩) (fun hb => ?_) (fun hb => ?_) (fun z => hN _ _ ⟨z, rfl, rfl⟩)
      · have hlt : (i : Int) < ns.length := of_decide_eq_true hb
        have hlt' : i < ns.length := by omega
        exact ⟨ns[i], fun R r => ⟨_, rfl, _, rfl, c, _, _, _, rfl, rfl, hS, atI_nat (by rw [List.getElem?_map, List.getElem?_eq_getElem hlt']; rfl), r⟩⟩
      · exact ⟨0, fun R r => r⟩
    rintro σ1 H1 ⟨z, rfl, rfl⟩
    refine ⟨_, rfl, _, _, rfl, rfl, .inl ⟨by decide, by decide⟩, _, _, rfl, rfl, ?_⟩
    dsimp only [gName]
    refine ⟨_, rfl, _, rfl, c, _, rfl, hS, fun p np => ?_⟩
    obtain ⟨ms, em, lm⟩ := cutV_int ns none (some 4)
    rw [em]
    have s1 : Same H1 (upd H1 p (.lst (ms.map V.int))) := fun b o e => (upd_ne (ne_of_none e np)).trans e
    have hp : SqL K (upd H1 p (.lst (ms.map V.int))) p (ms.map V.int) := SqL.of upd_same
    revert s1 hp
    generalize upd H1 p (.lst (ms.map V.int)) = H2
    intro s1 hp
    refine ⟨p, rfl, ⟨_, hp⟩, for_list (K := K) (a := p) (xs := ms.map V.int) (fun j σ H' => H' = H2 ∧ ∃ (y : Int) (o : Option V), σ = [some (.ref c), some (.int i), some (.int z), some (.int y), o]) ⟨rfl, _, none, rfl⟩ (fun j σ H' _ h => by rw [h.1]; exact hp) ?_ ?_⟩
    · rintro j y σ H' hj ⟨rfl, y', o, rfl⟩
      obtain ⟨u, rfl⟩ : ∃ u, y = V.int u := by
        rw [List.getElem?_map] at hj
        cases e : ms[j]? with
        | none => rw [e] at hj; cases hj
        | some u => rw [e] at hj; exact ⟨u, (Option.some.inj hj).symm⟩
      dsimp only [gName]
      exact ⟨_, rfl, _, _, rfl, rfl, .inr ⟨by decide, by decide⟩, _, rfl, .inl ⟨_, rfl, _, _, rfl, rfl, (by show (0 : Int) < 2147483587; decide), _, _, rfl, rfl, _, _, rfl, rfl, .inl ⟨_, rfl, _, _, rfl, rfl, (by show (0 : Int) < 2147483629; decide), rfl, _, _, rfl⟩⟩⟩
    · rintro σ H' ⟨rfl, y, o, rfl⟩
      refine ⟨_, rfl, _, _, rfl, rfl, .inr ⟨by decide, by decide⟩, _, rfl, .inl ⟨_, rfl, _, _, rfl, rfl, (by show (0 : Int) < 2147483579; decide), _, _, rfl, rfl, _, _, rfl, rfl, .inl ⟨_, rfl, _, _, rfl, rfl, (by show (0 : Int) < 2147483629; decide), ?_⟩⟩⟩
      dsimp only [gName]
      generalize hx : (y * 69621 + z % 2147483579 + 5) % 2147483629 = x
      have hx0 : 0 ≤ x ∧ x < 2147483629 := by subst hx; omega
      refine ⟨_, rfl, _, rfl, _, rfl, _, _, rfl, rfl, ⟨by decide, by decide, by decide⟩, _, _, rfl, rfl, _, rfl, ?_⟩
      have out : ∀ y : Int, 0 ≤ y → ∀ p, H' p = none → Q (.ref p) (upd H' p (.lst [.int x, .int y, .int 0])) := fun y hy q nq =>
        k q _ (by
          cases e : H1 q with
          | none => rfl
          | some o => rw [s1 _ _ e] at nq; cases nq) (fun b o e => (upd_ne (ne_of_none (s1 b o e) nq)).trans (s1 b o e)) ⟨_, _, _, upd_same, hx0, hy, by omega⟩
      have hz : (0 : Int) ≤ if z < 0 then -z else z := by split <;> omega
      refine ite2 (fun _ => ?_) (fun _ => ?_)
      · exact ⟨_, rfl, _, rfl, (by show 3 ≤ sizeLine; decide), out _ hz⟩
      · exact ⟨(by show 3 ≤ sizeLine; decide), out _ (by decide)⟩
theorem ok_dip2 {f : Addr} {fd : FuncData} (F : Fun K "_law_dip" "_law_dip" s_dip f fd) (T : Blt mg) : FnOk P w K mg base CX0 1 f fd ["_law_well_here", "_law_many"] sp_dip := by
  refine F.ok sc_dip (fun vs H Q E h => ?_) (fun cdv A outer s H vs Q E hr h => ?_)
  · obtain ⟨_, _, _, rfl, _⟩ := h
    rfl
  · obtain ⟨a, m, n, rfl, ⟨x, y, z, e, hx, hy, hz⟩, hn, hm, hm2, k⟩ := h
    refine ⟨_, (pss_cons (ps_if (pt_cmpR op_gt (pe_ix ix_list (pv 0) pe_int (fun _ _ => rfl)) pe_int (nomark _)) (pss_cons (ps_asg (pe_callB call_divmodW (by rfl) T.b_divmod (by decide +kernel) (pa_cons (pe_ix ix_list (pv 0) pe_int (fun _ _ => rfl)) (pa_cons (pv 1) pa_nil))) (pg_tup (by rfl) (pgs_cons (pg_sub (pv 0) pe_int set_list) (pgs_cons (pg_name (i := 2) sc_dip.nd rfl (Or.inl rfl)) pgs_nil)))) (pss_one (ps_ret (pv 2)))) pss_nil)
      (pss_cons (ps_asg (pe_op op_add (pe_ix ix_list (pv 0) pe_int (fun _ _ => rfl)) pe_int) (pg_sub (pv 0) pe_int set_list))
      (pss_cons (ps_asg (pe_op op_mod (pe_callTy call_int1 (by rfl) T.b_int (by decide +kernel) (pa_cons (pe_op op_add (pe_op op_add (pe_op op_mul (pe_ix ix_list (pv 0) pe_int (fun _ _ => rfl)) pe_int) (pe_op op_mul (pe_op op_mul pe_int (pe_ix ix_list (pv 0) pe_int (fun _ _ => rfl))) (pe_ix ix_list (pv 0) pe_int (fun _ _ => rfl)))) pe_int) pa_nil)) pe_int) (pg_sub (pv 0) pe_int set_list))
      (pss_one (ps_ret (pe_op op_mod (pe_callTy call_int1 (by rfl) T.b_int (by decide +kernel) (pa_cons (pe_op op_fdiv (pe_ix ix_list (pv 0) pe_int (fun _ _ => rfl)) pe_int) pa_nil)) (pv 1))))))), ?_⟩
    refine ⟨_, rfl, a, _, 1, _, rfl, rfl, SqL.of e, rfl, _, _, rfl, rfl, _, rfl, ?_⟩
    refine ite2 (fun hp => ?_) (fun _ => ?_)
    · refine ⟨_, rfl, a, _, 1, _, rfl, rfl, SqL.of e, rfl, _, rfl, _, _, rfl, ⟨hm, ?_⟩, fun p np => ?_⟩
      · refine PyProof.noPylong_of_log2 ?_
        have q := PySem.Flt.log2_lt_of (n := m.natAbs) (k := 200) (by decide) (by omega)
        omega
      · have npa : a ≠ p := fun w => by rw [← w, e] at np; cases np
        refine ⟨p, _, rfl, SqT.of upd_same, rfl, _, _, rfl, ⟨_, rfl, a, _, _, 1, rfl, rfl, Eq.trans (upd_ne npa) e, rfl, _, _, rfl, ⟨rfl, _, rfl, ?_⟩⟩⟩
        refine k _ _ (Int.emod_nonneg _ (by omega)) (Int.emod_lt_of_pos _ hm) (fun b o hb eb => ?_) ⟨_, _, _, upd_same, hx, Int.ediv_nonneg hy (by omega), hz.1, by omega⟩
        rw [upd_ne hb, upd_ne (ne_of_none eb np)]
        exact eb
    · refine ⟨_, rfl, a, _, 2, _, rfl, rfl, SqL.of e, rfl, _, _, rfl, rfl, _, rfl, a, _, _, 2, rfl, rfl, e, rfl, ?_⟩
      refine ⟨_, rfl, a, _, 0, _, rfl, rfl, SqL.of upd_same, rfl, _, _, rfl, rfl, .inr ⟨by decide, by decide⟩, _, rfl, a, _, 2, _, rfl, rfl, SqL.of upd_same, rfl, _, _, rfl, rfl, .inl ⟨by decide, by decide⟩, _, rfl, a, _, 2, _, rfl, rfl, SqL.of upd_same, rfl, _, _, rfl, rfl, .inl ⟨?_, ?_⟩,
        _, _, rfl, rfl, _, _, rfl, rfl, .inl ⟨_, rfl, _, _, rfl, rfl, (by show (0 : Int) < 2147483629; decide), _, rfl, a, _, _, 0, rfl, rfl, upd_same, rfl, ?_⟩⟩
      · omega
      · omega
      refine ⟨_, rfl, a, _, 0, _, rfl, rfl, SqL.of upd_same, rfl, _, _, rfl, rfl, ⟨by decide, by decide⟩, .inl ⟨_, rfl, _, rfl, _, _, rfl, rfl, hm, ?_⟩⟩
      refine k _ _ (Int.emod_nonneg _ (by omega)) (Int.emod_lt_of_pos _ hm) (fun b o hb eb => by rw [upd_ne hb, upd_ne hb]; exact eb) ⟨_, _, _, upd_same, ⟨by omega, by omega⟩, hy, by omega, by omega⟩
end
end RV
namespace RV
open PySem L2 TL
section
variable {P : Program} {w : World} {K : PySem.W.Frag} {mg : Str → Option Value} {base : Heap}
theorem ok_names {f : Addr} {fd : FuncData} (F : Fun K "_law_names" "_law_names" s_names f fd) (T : Blt mg) (h_dip : Fn P w K mg base "_law_dip" 1 ["_law_well_here", "_law_many"] (Irr sp_dip)) : FnOk P w K mg base CX0 2 f fd ["_law_well_here", "_law_many"] sp_names := by
  refine F.ok sc_names (fun vs H Q E h => ?_) (fun cdv A outer s H vs Q E hr h => ?_)
  · obtain ⟨_, _, _, rfl, _⟩ := h
    rfl
  · obtain ⟨a, n, m, rfl, wl, hn, hm, k⟩ := h
    refine ⟨_, (pss_cons (ps_set (i := 2) sc_names.nd rfl (Or.inl rfl) (pe_lst (pa_cons pe_str (pa_cons pe_str (pa_cons pe_str (pa_cons pe_str (pa_cons pe_str (pa_cons pe_str (pa_cons pe_str (pa_cons pe_str (pa_cons pe_str (pa_cons pe_str pa_nil))))))))))))
      (pss_cons (ps_asg (pe_tup (pa_cons pe_str (pa_cons (pe_lst pa_nil) pa_nil))) (pg_tup (by rfl) (pgs_cons (pg_name (i := 3) sc_names.nd rfl (Or.inr rfl)) (pgs_cons (pg_name (i := 4) sc_names.nd rfl (Or.inr rfl)) pgs_nil))))
      (pss_cons (ps_for PassesOwn.never rfl (pi_range1 rfl T.b_range (pa_cons (pv 1) pa_nil)) (pg_name (i := 5) sc_names.nd rfl (Or.inl rfl)) (pss_cons (ps_set (i := 6) sc_names.nd rfl (Or.inl rfl) (pe_ifExp (pt_cmpR op_eq (pe_fn h_dip (hr.mono (by decide)) (pa_cons (pv 0) (pa_cons pe_int pa_nil))) pe_int (nomark _)) (pe_fn h_dip (hr.mono (by decide)) (pa_cons (pv 0) (pa_cons pe_int pa_nil))) (pe_fn h_dip (hr.mono (by decide)) (pa_cons (pv 0) (pa_cons pe_int pa_nil))))) (pss_cons (ps_set (i := 7) sc_names.nd rfl (Or.inl rfl) (pe_op op_add_str (pe_ix ix_str (pv 3) (pe_fn h_dip (hr.mono (by decide)) (pa_cons (pv 0) (pa_cons pe_int pa_nil))) (fun _ _ => rfl)) (pe_join pe_str (pe_lc (own := [("_law_j", 9)]) (g := gName 9) (tt := tYes) rfl sc_names.nd (pi_range1 rfl T.b_range (pa_cons (pv 6) pa_nil)) (blkOk_by (N := sc_names_N) (sc := defScope s_names) (by decide +kernel)) (fun _ _ _ _ _ => pg_name (i := 9) sc_names.nd rfl (Or.inl rfl)) (fun _ _ _ _ _ => pts_nil) (fun _ _ _ _ _ => (pe_ix ix_str (pv 3) (pe_fn h_dip (hr.mono (by decide)) (pa_cons (pv 0) (pa_cons pe_int pa_nil))) (fun _ _ => rfl))))))) (pss_cons (ps_if (pt_cmpR op_eq (pe_fn h_dip (hr.mono (by decide)) (pa_cons (pv 0) (pa_cons pe_int pa_nil))) pe_int (nomark _)) (pss_one (ps_set (i := 7) sc_names.nd rfl (Or.inl rfl) (pe_ix ix_list (pv 2) (pe_fn h_dip (hr.mono (by decide)) (pa_cons (pv 0) (pa_cons pe_int pa_nil))) (fun _ _ => rfl)))) pss_nil) (pss_cons (ps_set (i := 8) sc_names.nd rfl (Or.inl rfl) (pe_op op_cat (pe_lst (pa_cons (pv 7) pa_nil)) (pe_lc (own := [("_law_j", 9)]) (g := gName 9) (tt := tYes) rfl sc_names.nd (pi_range1 rfl T.b_range (pa_cons (pv 1) pa_nil)) (blkOk_by (N := sc_names_N) (sc := defScope s_names) (by decide +kernel)) (fun _ _ _ _ _ => pg_name (i := 9) sc_names.nd rfl (Or.inl rfl)) (fun _ _ _ _ _ => pts_nil) (fun _ _ _ _ _ => (pe_op op_add_str pe_str (pe_callTy call_str_int (by rfl) T.b_str (by decide +kernel) (pa_cons (pv 9) pa_nil))))))) (pss_one (ps_expr (pe_bm PySem.F.plainAttrs_list PySem.F.slot_list_append PySem.F.type_list_append mt_append (pv 4) (pa_cons (pe_ix ix_list (pe_lc (own := [("_law_one", 10)]) (g := gName 10) rfl sc_names.nd (pi_list (pv 8)) (blkOk_by (N := sc_names_N) (sc := defScope s_names) (by decide +kernel)) (fun _ _ _ _ _ => pg_name (i := 10) sc_names.nd rfl (Or.inl rfl)) (fun _ _ _ _ _ => pts_one (pt_cmpR (op_notInK (K := K)) (pv 10) (pv 4) (by rfl))) (fun _ _ _ _ _ => (pv 10))) pe_int (fun _ _ => rfl)) pa_nil)))))))))
      (pss_one (ps_ret (pv 4)))))), ?_⟩
    refine ⟨(by show 10 ≤ sizeLine; decide), fun W0 nW0 => ?_⟩
    have h1 := (Has.start wl).new (o := .lst (words2.map V.str)) nW0
    dsimp only [gName]
    refine ⟨by decide, fun fl f0 => ⟨(by show 2 ≤ sizeLine; decide), fun T0 nT0 => ⟨T0, _, rfl, SqT.of upd_same, rfl, _, _, rfl, _, _, rfl, rfl, ?_⟩⟩⟩
    have h2 := (h1.new (o := .lst []) f0).new (o := .tup [.str signs, .ref fl]) nT0
    have fl0 : H fl = none := h1.none0 f0
    have nWf : W0 ≠ fl := fun e => by rw [← e, upd_same] at f0; cases f0
    dsimp only
    refine ⟨_, rfl, m, rfl, by omega, by omega, for_range (lo := 0) (n := m) (fun j σ H' => ∃ (xs : List Str) (o5 o6 o7 o8 o9 o10 : Option V), σ = [some (.ref a), some (.int m), some (.ref W0), some (.str signs), some (.ref fl), o5, o6, o7, o8, o9, o10] ∧
      xs.length = j ∧ xs.Nodup ∧ (∀ x ∈ xs, IsNm x) ∧ Has H a (n + 14 * j) [(fl, .lst (xs.map V.str)), (W0, .lst (words2.map V.str))] H') ?_ ?_ ?_⟩
    · exact ⟨[], _, _, _, _, _, _, rfl, rfl, .nil, fun _ hx => (nomatch hx), h2.sub fun p hp => by
        simp only [List.map_nil, List.mem_cons, List.not_mem_nil, or_false] at hp ⊢
        rcases hp with z | z
        · exact .inr (.inl z)
        · exact .inr (.inr z)⟩
    · rintro j σ H2 hj ⟨xs, o5, o6, o7, o8, o9, o10, rfl, xl, xd, xn, h3⟩
      have mW : (W0, HO.lst (words2.map V.str)) ∈ [(fl, HO.lst (xs.map V.str)), (W0, HO.lst (words2.map V.str))] := List.mem_cons_of_mem _ List.mem_cons_self
      dsimp only [gName]
      -- how long
      refine seq_of (fun σ' H' => ∃ sz : Nat, sz ≤ 7 ∧ σ' = [some (.ref a), some (.int m), some (.ref W0), some (.str signs), some (.ref fl), some (.int (0 + (j : Int))), some (.int (sz : Int)), o7, o8, o9, o10] ∧ Has H a (n + 14 * j + 2) [(fl, .lst (xs.map V.str)), (W0, .lst (words2.map V.str))] H') ?rest1 (fun N hN => ?main1)
      case main1 =>
        refine ⟨_, rfl, dip_step h3 (by omega) (by decide) (by decide) fun r H3 _ _ h4 => ⟨rfl, _, rfl, ite2 (fun _ => ?_) fun _ => ?_⟩⟩
        · refine ⟨_, rfl, dip_step h4 (by omega) (by decide) (by decide) fun r H4 r0 r1 h5 => ?_⟩
          obtain ⟨q, rfl⟩ := Int.eq_ofNat_of_zero_le r0
          exact hN _ _ ⟨q, by omega, rfl, h5⟩
        · refine ⟨_, rfl, dip_step h4 (by omega) (by decide) (by decide) fun r H4 r0 r1 h5 => ?_⟩
          obtain ⟨q, rfl⟩ := Int.eq_ofNat_of_zero_le r0
          exact hN _ _ ⟨q, by omega, rfl, h5⟩
      rintro σ1 H3 ⟨sz, hsz, rfl, h4⟩
      -- the word
      refine seq_of (fun σ' H' => ∃ x : Str, IsNm x ∧ σ' = [some (.ref a), some (.int m), some (.ref W0), some (.str signs), some (.ref fl), some (.int (0 + (j : Int))), some (.int (sz : Int)), some (.str x), o8, o9, o10] ∧ Has H a (n + 14 * j + 10) [(fl, .lst (xs.map V.str)), (W0, .lst (words2.map V.str))] H') ?rest2 (fun N hN => ?main2)
      case main2 =>
        refine ⟨_, rfl, _, rfl, dip_step h4 (by omega) (by decide) (by decide) fun r H4 r0 r1 h5 => ?_⟩
        obtain ⟨c, hc, lc⟩ := at_low r0 r1
        refine ⟨signs, _, c, rfl, rfl, by decide, hc, ⟨_, rfl⟩, _, rfl, sz, rfl, by omega, by omega, fun D nD => lc_range (lo := 0) (n := sz) (fun i H' => ∃ cs : List Nat, cs.length = i ∧ (∀ x ∈ cs, tailC x = true) ∧ Has H a (n + 14 * j + 3 + i) [(fl, .lst (xs.map V.str)), (W0, .lst (words2.map V.str))] H' ∧ H' D = some (.lst ((cs.map fun x => (⟨#[x]⟩ : Str)).map V.str))) ?_ ?_ ?_⟩
        · exact ⟨[], rfl, fun _ hx => (nomatch hx), h5.put (h5.none0 nD) (h5.free nD) (h5.ne nD), upd_same⟩
        · rintro i H5 hi ⟨cs, cl, ct, h6, eD⟩
          refine ⟨rfl, _, rfl, _, rfl, dip_step (Has.start h6.well) (by omega) (by decide) (by decide) fun r H6 r0 r1 hx => ?_⟩
          have h7 := h6.grow hx.gr hx.well
          obtain ⟨c6, hc6, lc6⟩ := at_tail r0 r1
          have eD6 := hx.gr D _ (h5.ne nD) eD
          refine ⟨signs, _, c6, rfl, rfl, by decide, hc6, _, eD6, ?_, cs ++ [c6], by rw [List.length_append, cl]; rfl, fun x hx => ?_, ?_, ?_⟩
          · rw [List.length_map, List.length_map, cl]
            exact Nat.lt_of_lt_of_le (show i < 8 by omega) (by decide)
          · exact (List.mem_append.mp hx).elim (ct x) fun z => by rw [List.mem_singleton.mp z]; exact lc6
          · exact (h7.put (h5.none0 nD) (fun q hq => h5.free nD q hq) (h5.ne nD)).wm (by omega)
          · rw [upd_same, List.map_append, List.map_append]
            rfl
        · rintro H5 ⟨cs, cl, ct, h6, eD⟩
          have e0 : Str.length "" = 0 := by decide +kernel
          have sl1 : ∀ cs : List Nat, ((cs.map fun x => (⟨#[x]⟩ : Str)).map (·.length)).sum = cs.length := by
            intro cs
            induction cs with
            | nil => rfl
            | cons x cs ih =>
              rw [List.map_cons, List.map_cons, List.sum_cons, ih, List.length_cons]
              show 1 + cs.length = _
              omega
          have nm := isNm_join lc ct (by omega)
          have ln := nm8 nm
          rw [sl_app] at ln
          refine ⟨_, D, cs.map (fun x => (⟨#[x]⟩ : Str)), rfl, rfl, .inl (SqL.of eD), ?_, _, _, rfl, rfl, szn (by omega), hN _ _ ⟨_, nm, rfl, h6.wm (by omega)⟩⟩
          rw [sl1, e0]
          omega
      rintro σ2 H4 ⟨x, hx, rfl, h5⟩
      refine seq_of (fun σ' H' => ∃ x : Str, IsNm x ∧ σ' = [some (.ref a), some (.int m), some (.ref W0), some (.str signs), some (.ref fl), some (.int (0 + (j : Int))), some (.int (sz : Int)), some (.str x), o8, o9, o10] ∧ Has H a (n + 14 * j + 12) [(fl, .lst (xs.map V.str)), (W0, .lst (words2.map V.str))] H') ?rest3 (fun N hN => ?main3)
      case main3 =>
        refine ⟨_, rfl, dip_step h5 (by omega) (by decide) (by decide) fun r H5 _ _ h6 => ⟨rfl, _, rfl, ite2 (fun _ => ?_) fun _ => hN _ _ ⟨x, hx, rfl, h6.wm (by omega)⟩⟩⟩
        refine ⟨_, rfl, _, rfl, dip_step h6 (by omega) (by decide) (by decide) fun r H6 r0 r1 h7 => ?_⟩
        obtain ⟨y, hy, hyn, _⟩ := at_of_list words2_nm r0 (by exact r1)
        refine ⟨W0, _, r, .str y, rfl, rfl, SqL.of (h7.at mW), ?_, hN _ _ ⟨y, hyn, rfl, h7.wm (by omega)⟩⟩
        unfold atI at hy ⊢
        rw [List.length_map]
        revert hy
        cases ixN words2.length r with
        | none => intro hy; cases hy
        | some i =>
          intro hy
          show (words2.map V.str)[i]? = _
          rw [List.getElem?_map, show words2[i]? = some y from hy]
          rfl
      rintro σ3 H5 ⟨x, hx, rfl, h6⟩
      -- the spare ones
      refine ⟨_, rfl, (by show 1 ≤ sizeLine; decide), fun p np => ?_⟩
      have h7 := h6.new (o := .lst [.str x]) np
      refine ⟨_, rfl, m, rfl, by omega, by omega, fun D nD => lc_range (lo := 0) (n := m) (fun i H' => Has H a (n + 14 * j + 12) [(p, .lst [.str x]), (fl, .lst (xs.map V.str)), (W0, .lst (words2.map V.str))] H' ∧ H' D = some (.lst (((List.range i).map zn).map V.str))) ?_ ?_ ?_⟩
      · exact ⟨h7.put (h7.none0 nD) (h7.free nD) (h7.ne nD), upd_same⟩
      · rintro i H6 hi ⟨h8, eD⟩
        have nz := nm8 (zn_nm (j := i) (by omega))
        rw [zn, sl_app] at nz
        refine ⟨rfl, _, rfl, (0 + (i : Int)), rfl, ?_, _, _, rfl, rfl, szn (by rw [Int.zero_add]; exact Nat.le_trans nz.2 (by decide)), _, eD, ?_, ?_, ?_⟩
        · have q := PySem.Flt.log2_lt_of (n := (0 + (i : Int)).natAbs) (k := 200) (by decide) (by omega)
          omega
        · rw [List.length_map, List.length_map, List.length_range]
          exact Nat.lt_of_lt_of_le (show i < 20 by omega) (by decide)
        · exact h8.put (h7.none0 nD) (h7.free nD) (h7.ne nD)
        · rw [upd_same, List.range_succ, List.map_append, List.map_append, Int.zero_add]
          rfl
      rintro H6 ⟨h8, eD⟩
      refine ⟨p, D, _, _, rfl, rfl, h8.at List.mem_cons_self, eD, ?_, fun sp nsp => ?_⟩
      · rw [List.length_map, List.length_map, List.length_range]
        exact Nat.le_trans (show 1 + m ≤ 20 by omega) (by decide)
      have h9 := (h8.new (o := .lst ((x :: (List.range m).map zn).map V.str)) nsp)
      dsimp only [gName]
      have mF : (fl, HO.lst (xs.map V.str)) ∈ [(sp, HO.lst ((x :: (List.range m).map zn).map V.str)), (p, HO.lst [.str x]), (fl, HO.lst (xs.map V.str)), (W0, HO.lst (words2.map V.str))] := List.mem_cons_of_mem _ (List.mem_cons_of_mem _ List.mem_cons_self)
      have esp : SqL K _ sp ((x :: (List.range m).map zn).map V.str) := SqL.of (h9.at List.mem_cons_self)
      have ylen : ((x :: (List.range m).map zn).map V.str).length ≤ 1000 := by
        rw [List.length_map, List.length_cons, List.length_map, List.length_range]
        omega
      refine ⟨_, rfl, .inl ⟨rfl, _, SqL.of (h9.at mF)⟩, _, rfl, sp, rfl, ⟨_, esp⟩, fun D2 nD2 => lc_keepV (xs := (x :: (List.range m).map zn).map V.str) (fun v => !inV v (xs.map V.str)) walk_list nD2 ylen (fun H' s' => esp.ext s') (fun _ => rfl) (fun v hv H7 s7 R kR => ?_) (fun v hv H7 R r => ⟨_, rfl, r⟩) fun H7 s7 hD2 => ?_⟩
      · obtain ⟨y, _, rfl⟩ := List.mem_map.mp hv
        exact ⟨_, rfl, _, rfl, fl, _, rfl, .inl (SqL.of (s7 _ _ (h9.at mF))), rfl, strs_flat _, _, rfl, kR⟩
      -- the first that is not there
      have h10 := h9.same s7
      have ef : ((x :: (List.range m).map zn).map V.str).filter (fun v => !inV v (xs.map V.str)) = ((x :: (List.range m).map zn).filter fun y => !decide (y ∈ xs)).map V.str := by
        rw [List.filter_map]
        congr 1
        exact List.filter_congr fun y _ => by rw [Function.comp, inV_str]
      rw [ef] at hD2
      obtain ⟨y, ys, hys⟩ : ∃ y ys, ((x :: (List.range m).map zn).filter fun y => !decide (y ∈ xs)) = y :: ys := by
        cases e : ((x :: (List.range m).map zn).filter fun y => !decide (y ∈ xs)) with
        | cons y ys => exact ⟨y, ys, rfl⟩
        | nil =>
          obtain ⟨i, hi, hz⟩ := zn_free (xs := xs) (m := m) (by omega) (by omega)
          have : zn i ∈ ((x :: (List.range m).map zn).filter fun y => !decide (y ∈ xs)) := List.mem_filter.mpr ⟨List.mem_cons_of_mem _ (List.mem_map.mpr ⟨i, List.mem_range.mpr hi, rfl⟩), by simp [hz]⟩
          rw [e] at this
          cases this
      have hy : y ∈ (x :: (List.range m).map zn) ∧ y ∉ xs := by
        have : y ∈ ((x :: (List.range m).map zn).filter fun y => !decide (y ∈ xs)) := by rw [hys]; exact List.mem_cons_self
        have := List.mem_filter.mp this
        exact ⟨this.1, by simpa using this.2⟩
      have hyn : IsNm y := by
        rcases List.mem_cons.mp hy.1 with z | z
        · rw [z]; exact hx
        · obtain ⟨i, hi, rfl⟩ := List.mem_map.mp z
          exact zn_nm (by have := List.mem_range.mp hi; omega)
      rw [hys] at hD2
      refine ⟨D2, _, 0, .str y, rfl, rfl, SqL.of hD2, atI_nat (j := 0) rfl, fl, _, _, rfl, rfl, h10.at mF, ?_, xs ++ [y], _, _, _, _, _, _, rfl, by rw [List.length_append, xl]; rfl, nodup_snoc xd hy.2, fun z hz => ?_, ?_⟩
      · rw [List.length_map, xl]
        exact Nat.lt_of_lt_of_le (show j < 20 by omega) (by decide)
      · exact (List.mem_append.mp hz).elim (xn z) fun w => by rw [List.mem_singleton.mp w]; exact hyn
      · rw [List.map_append]
        have h11 : Has H a (n + 14 * j + 12) [(fl, .lst (xs.map V.str)), (W0, .lst (words2.map V.str))] H7 := h10.sub fun q hq => List.mem_cons_of_mem _ (List.mem_cons_of_mem _ hq)
        exact (h11.reset fl0 fun q hq => by rw [List.mem_singleton.mp hq]; exact nWf).wm (by omega)
    · rintro σ H4 ⟨xs, o5, o6, o7, o8, o9, o10, rfl, xl, xd, xn, h5⟩
      exact ⟨_, rfl, k fl xs H4 fl0 (h5.here _ List.mem_cons_self).1 h5.gr (h5.well.mono (by omega)) (h5.at List.mem_cons_self) xl xd xn⟩
end
end RV
namespace RV
open PySem L2 TL
section
variable {P : Program} {w : World} {K : PySem.W.Frag} {mg : Str → Option Value} {base : Heap}
theorem ok_model {f : Addr} {fd : FuncData} (F : Fun K "_law_model" "_law_model" s_model f fd) (T : Blt mg) (h_dip : Fn P w K mg base "_law_dip" 1 ["_law_well_here", "_law_many"] (Irr sp_dip)) (h_names : Fn P w K mg base "_law_names" 2 ["_law_well_here", "_law_many"] (Irr sp_names)) : FnOk P w K mg base CX0 3 f fd ["_law_well_here", "_law_most", "_law_more"] sp_model := by
  refine F.ok sc_model (fun vs H Q E h => ?_) (fun cdv A outer s H vs Q E hr h => ?_)
  · obtain ⟨_, _, _, _, rfl, _⟩ := h
    rfl
  · obtain ⟨a, n, most, more, rfl, wl, hn, m2, m12, o12, k⟩ := h
    refine ⟨_, (pss_cons (ps_par (i := 3) (j := 4) (by rfl) sc_model.nd rfl rfl (by decide) rfl rfl (pa_cons (pe_op op_add pe_int (pe_fn h_dip (hr.mono (by decide)) (pa_cons (pv 0) (pa_cons pe_int pa_nil)))) (pa_cons (pe_op op_add pe_int (pe_fn h_dip (hr.mono (by decide)) (pa_cons (pv 0) (pa_cons (pe_op op_sub (pv 1) pe_int) pa_nil)))) pa_nil)) (by rfl))
      (pss_cons (ps_asg (pe_tup (pa_cons (pe_fn h_names (hr.mono (by decide)) (pa_cons (pv 0) (pa_cons (pv 3) pa_nil))) (pa_cons (pe_fn h_names (hr.mono (by decide)) (pa_cons (pv 0) (pa_cons (pv 4) pa_nil))) (pa_cons (pe_lst pa_nil) (pa_cons (pe_lst pa_nil) pa_nil))))) (pg_tup (by rfl) (pgs_cons (pg_name (i := 5) sc_model.nd rfl (Or.inl rfl)) (pgs_cons (pg_name (i := 6) sc_model.nd rfl (Or.inl rfl)) (pgs_cons (pg_name (i := 7) sc_model.nd rfl (Or.inl rfl)) (pgs_cons (pg_name (i := 8) sc_model.nd rfl (Or.inl rfl)) pgs_nil))))))
      (pss_cons (ps_for PassesOwn.never rfl (pi_range1 rfl T.b_range (pa_cons (pv 4) pa_nil)) (pg_name (i := 9) sc_model.nd rfl (Or.inl rfl)) (pss_cons (ps_set (i := 10) sc_model.nd rfl (Or.inl rfl) (pe_fn h_dip (hr.mono (by decide)) (pa_cons (pv 0) (pa_cons (pv 3) pa_nil)))) (pss_one (ps_expr (pe_bm PySem.F.plainAttrs_list PySem.F.slot_list_append PySem.F.type_list_append mt_append (pv 7) (pa_cons (pe_tup (pa_cons (pe_ix ix_list (pv 6) (pv 9) (fun _ _ => rfl)) (pa_cons (pv 10) (pa_cons (pe_op op_mod (pe_callTy call_int1 (by rfl) T.b_int (by decide +kernel) (pa_cons (pe_op op_add (pe_op op_add (pv 10) pe_int) (pe_fn h_dip (hr.mono (by decide)) (pa_cons (pv 0) (pa_cons (pe_op op_sub (pv 3) pe_int) pa_nil)))) pa_nil)) (pv 3)) pa_nil)))) pa_nil))))))
      (pss_cons (ps_set (i := 11) sc_model.nd rfl (Or.inl rfl) (pe_cmpR op_eq (pe_fn h_dip (hr.mono (by decide)) (pa_cons (pv 0) (pa_cons pe_int pa_nil))) pe_int (nomark _)))
      (pss_cons (ps_set (i := 12) sc_model.nd rfl (Or.inl rfl) (pe_fn h_names (hr.mono (by decide)) (pa_cons (pv 0) (pa_cons (pe_ifExp (pt_val (pv 11)) (pe_callB (call_min2 rfl) (by rfl) T.b_min (by decide +kernel) (pa_cons (pv 2) (pa_cons (pv 4) pa_nil))) (pe_fn h_dip (hr.mono (by decide)) (pa_cons (pv 0) (pa_cons (pe_op op_add (pv 2) pe_int) pa_nil)))) pa_nil))))
      (pss_cons (ps_for PassesOwn.never rfl (pi_range1 rfl T.b_range (pa_cons (pe_callB call_len_seq (by rfl) T.b_len (by decide +kernel) (pa_cons (pv 12) pa_nil)) pa_nil)) (pg_name (i := 9) sc_model.nd rfl (Or.inl rfl)) (pss_cons (ps_set (i := 13) sc_model.nd rfl (Or.inl rfl) (pe_ifExp (pt_val (pv 11)) (pv 9) (pe_fn h_dip (hr.mono (by decide)) (pa_cons (pv 0) (pa_cons (pv 4) pa_nil))))) (pss_one (ps_expr (pe_bm PySem.F.plainAttrs_list PySem.F.slot_list_append PySem.F.type_list_append mt_append (pv 8) (pa_cons (pe_tup (pa_cons (pe_ix ix_list (pv 12) (pv 9) (fun _ _ => rfl)) (pa_cons (pv 13) (pa_cons (pe_cmpR op_eq (pe_fn h_dip (hr.mono (by decide)) (pa_cons (pv 0) (pa_cons pe_int pa_nil))) pe_int (nomark _)) pa_nil)))) pa_nil))))))
      (pss_one (ps_ret (pe_lst (pa_cons (pv 5) (pa_cons (pv 7) (pa_cons (pv 8) pa_nil)))))))))))), ?_⟩
    have h0 := Has.start wl
    refine ⟨_, rfl, dip_step h0 (by omega) (by decide) (by decide) fun r H1 r0 r1 h1 => ⟨_, _, rfl, rfl, _, rfl, _, rfl, _, _, rfl, rfl, dip_step h1 (by omega) (by omega) (by omega) fun r' H2 r0' r1' h2 => ⟨_, _, rfl, rfl, _, _, rfl, ?_⟩⟩⟩
    obtain ⟨cn, rfl⟩ := Int.eq_ofNat_of_zero_le r0
    obtain ⟨sz, rfl⟩ := Int.eq_ofNat_of_zero_le r0'
    dsimp only
    generalize hcount : 2 + cn = count
    generalize hsize : 2 + sz = size
    rw [show (2 : Int) + (cn : Int) = (count : Int) by omega, show (2 : Int) + (sz : Int) = (size : Int) by omega]
    have c2 : 2 ≤ count ∧ count ≤ 4 := by omega
    have s2 : 2 ≤ size ∧ size ≤ most := by omega
    clear h0 h1 hcount hsize r1 r1'
    -- the names
    refine ⟨_, rfl, _, rfl, irr ⟨a, _, count, rfl, h2.well, by omega, by omega, fun lp pl H3 np pa g3 w3 ep pll pld pln => ?_⟩⟩
    have h3 := (h2.grow g3 w3).add pa ep
    refine ⟨_, rfl, _, rfl, irr ⟨a, _, size, rfl, w3, by omega, by omega, fun lt tl H4 nt ta g4 w4 et tll tld tln => ?_⟩⟩
    have h4 := (h3.grow g4 w4).add ta et
    refine ⟨by decide, fun lq nq => ⟨by decide, fun lg ng => ⟨(by show 4 ≤ sizeLine; decide), fun T0 nT0 => ⟨T0, _, rfl, SqT.of upd_same, rfl, _, _, rfl, _, _, rfl, _, _, rfl, _, _, rfl, rfl, ?_⟩⟩⟩⟩
    have h5 := ((h4.new (o := .lst []) nq).new (o := .lst []) ng).new (o := .tup [.ref lp, .ref lt, .ref lq, .ref lg]) nT0
    have q0 : H lq = none := h4.none0 nq
    have g0 : H lg = none := (h4.new (o := .lst []) nq).none0 ng
    have nlp : lp ≠ lq := h4.free nq (lp, .lst (pl.map V.str)) (List.mem_cons_of_mem _ List.mem_cons_self)
    have nlt : lt ≠ lq := h4.free nq (lt, .lst (tl.map V.str)) List.mem_cons_self
    have ngp : lp ≠ lg := (h4.new (o := .lst []) nq).free ng (lp, .lst (pl.map V.str)) (List.mem_cons_of_mem _ (List.mem_cons_of_mem _ List.mem_cons_self))
    have nqg : lq ≠ lg := fun e => by rw [← e, upd_same] at ng; cases ng
    dsimp only
    -- the pipes
    have tn : ∀ {j : Nat} (h : j < tl.length), atI (tl.map V.str) (0 + (j : Int)) = some (V.str tl[j]) := fun {j} h => by
      rw [Int.zero_add]
      exact atI_nat (by rw [List.getElem?_map, List.getElem?_eq_getElem h]; rfl)
    refine ⟨_, rfl, size, rfl, by omega, by omega, for_range (lo := 0) (n := size) (fun j σ H' => ∃ (pu : List QU) (o9 o10 : Option V), σ = [some (.ref a), some (.int most), some (.int more), some (.int (count : Int)), some (.int (size : Int)), some (.ref lp), some (.ref lt), some (.ref lq), some (.ref lg), o9, o10, none, none, none] ∧
      pu.length = j ∧ (sn pu).map (·.1) = tl.take j ∧ (∀ q ∈ sn pu, q.2.1 < count ∧ q.2.2 < count ∧ q.2.1 ≠ q.2.2) ∧ Has H a (n + 402 + 2 * j) ((lq, .lst (rf pu)) :: (lp, .lst (pl.map V.str)) :: (lt, .lst (tl.map V.str)) :: (lg, .lst []) :: pu.map fun u => (u.1, oQ u.2)) H') ?_ ?_ ?_⟩
    · refine ⟨[], none, none, rfl, rfl, rfl, fun _ hq => (nomatch hq), (h5.sub fun p hp => ?_).wm (by omega)⟩
      simp only [rf, List.map_nil, List.mem_cons, List.not_mem_nil, or_false] at hp ⊢
      rcases hp with z | z | z | z
      · exact .inr (.inr (.inl z))
      · exact .inr (.inr (.inr (.inr z)))
      · exact .inr (.inr (.inr (.inl z)))
      · exact .inr (.inl z)
    · rintro j σ H6 hj ⟨pu, o9, o10, rfl, ul, un, uq, h6⟩
      have hjt : j < tl.length := by omega
      have mT : (lt, HO.lst (tl.map V.str)) ∈ (lq, HO.lst (rf pu)) :: (lp, HO.lst (pl.map V.str)) :: (lt, HO.lst (tl.map V.str)) :: (lg, HO.lst []) :: pu.map fun u => (u.1, oQ u.2) := List.mem_cons_of_mem _ (List.mem_cons_of_mem _ List.mem_cons_self)
      dsimp only [gName]
      refine ⟨_, rfl, _, rfl, dip_step h6 (by omega) (by omega) (by omega) fun r H7 r0 r1 h7 => ?_⟩
      obtain ⟨p1, rfl⟩ := Int.eq_ofNat_of_zero_le r0
      dsimp only [gName]
      refine ⟨_, rfl, .inl ⟨rfl, _, SqL.of (h7.at List.mem_cons_self)⟩, _, rfl, _, rfl, lt, _, _, _, rfl, rfl, SqL.of (h7.at mT), tn hjt, _, rfl, _, rfl, _, _, rfl, rfl, _, rfl, _, rfl, _, _, rfl, rfl, dip_step h7 (by omega) (by omega) (by omega) fun r' H8 r0' r1' h8 => ?_⟩
      obtain ⟨p2, rfl⟩ := Int.eq_ofNat_of_zero_le r0'
      have hp1 : p1 < count := by omega
      have hp2 : p2 + 1 < count := by omega
      have em : ((p1 : Int) + 1 + (p2 : Int)) % (count : Int) = (((p1 + (1 + p2)) % count : Nat) : Int) := by
        rw [show (p1 : Int) + 1 + (p2 : Int) = ((p1 + (1 + p2) : Nat) : Int) by omega]
        exact (Int.natCast_emod (p1 + (1 + p2)) count).symm
      refine ⟨_, _, rfl, rfl, .inl ⟨_, rfl, _, rfl, _, _, rfl, rfl, (by show (0 : Int) < (count : Int); omega), (by show 3 ≤ sizeLine; decide), fun tt nt => ?_⟩⟩
      dsimp only
      rw [em]
      have h9 := h8.new (o := oQ (tl[j], p1, (p1 + (1 + p2)) % count)) nt
      refine ⟨lq, _, _, rfl, rfl, h9.at (List.mem_cons_of_mem _ List.mem_cons_self), ?_, pu ++ [(tt, tl[j], p1, (p1 + (1 + p2)) % count)], _, _, rfl, by rw [List.length_append, ul]; rfl, ?_, fun q hq => ?_, ?_⟩
      · rw [rf_len, ul]
        exact Nat.lt_of_lt_of_le (show j < 20 by omega) (by decide)
      · rw [sn, List.map_append, List.map_append]
        show (sn pu).map (·.1) ++ [tl[j]] = _
        rw [un, List.take_add_one, List.getElem?_eq_getElem hjt]
        rfl
      · rw [sn, List.map_append] at hq
        rcases List.mem_append.mp hq with z | z
        · exact uq q z
        · rw [List.mem_singleton.mp z]
          exact ⟨hp1, Nat.mod_lt _ (by omega), fun e => step_ne hp1 hp2 e.symm⟩
      · have e : rf (pu ++ [(tt, tl[j], p1, (p1 + (1 + p2)) % count)]) = rf pu ++ [.ref tt] := by rw [rf, List.map_append]; rfl
        rw [e]
        have h10 : Has H a (n + 402 + 2 * j + 1 + 1) ((lq, .lst (rf pu)) :: (lp, .lst (pl.map V.str)) :: (lt, .lst (tl.map V.str)) :: (lg, .lst []) :: (pu ++ [(tt, tl[j], p1, (p1 + (1 + p2)) % count)]).map fun u => (u.1, oQ u.2)) _ := h9.sub fun p hp => by
          rw [List.map_append] at hp
          simp only [List.mem_cons, List.mem_append, List.map_cons, List.map_nil, List.not_mem_nil, or_false] at hp ⊢
          rcases hp with z | z | z | z | z | z
          · exact .inr (.inl z)
          · exact .inr (.inr (.inl z))
          · exact .inr (.inr (.inr (.inl z)))
          · exact .inr (.inr (.inr (.inr (.inl z))))
          · exact .inr (.inr (.inr (.inr (.inr z))))
          · exact .inl z
        refine (h10.reset q0 fun q hq => ?_).wm (by omega)
        rcases List.mem_cons.mp hq with rfl | hq'
        · exact nlp
        rcases List.mem_cons.mp hq' with rfl | hq'
        · exact nlt
        rcases List.mem_cons.mp hq' with rfl | hq'
        · exact nqg.symm
        · obtain ⟨u, hu, rfl⟩ := List.mem_map.mp hq'
          exact h10.apart (List.mem_cons_of_mem _ hq) List.mem_cons_self (fun e => nomatch e)
    rintro σ H6 ⟨pu, o9, o10, rfl, ul, un, uq, h6⟩
    replace h6 : Has H a (n + 500) ((lq, .lst (rf pu)) :: (lp, .lst (pl.map V.str)) :: (lg, .lst []) :: pu.map fun u => (u.1, oQ u.2)) H6 := (h6.sub fun p hp => by
      simp only [List.mem_cons] at hp ⊢
      rcases hp with z | z | z | z
      · exact .inl z
      · exact .inr (.inl z)
      · exact .inr (.inr (.inr (.inl z)))
      · exact .inr (.inr (.inr (.inr z)))).wm (by omega)
    -- even or not
    refine ⟨_, rfl, dip_step h6 (by omega) (by decide) (by decide) fun r H7 _ _ h7 => ⟨rfl, ?_⟩⟩
    generalize decide (V.int r = V.int 0) = even
    dsimp only [gName]
    refine seq_of (fun σ' H' => ∃ (ln : Addr) (gl : List Str), σ' = [some (.ref a), some (.int most), some (.int more), some (.int (count : Int)), some (.int (size : Int)), some (.ref lp), some (.ref lt), some (.ref lq), some (.ref lg), o9, o10, some (.bl even), some (.ref ln), none] ∧
      gl.length ≤ more ∧ (even = true → gl.length ≤ size) ∧ gl.Nodup ∧ (∀ x ∈ gl, IsNm x) ∧ ln ≠ lg ∧ Has H a (n + 702) ((ln, .lst (gl.map V.str)) :: (lq, .lst (rf pu)) :: (lp, .lst (pl.map V.str)) :: (lg, .lst []) :: pu.map fun u => (u.1, oQ u.2)) H') ?rest (fun N hN => ?main)
    case main =>
      have mg' : (lg, HO.lst []) ∈ (lq, HO.lst (rf pu)) :: (lp, HO.lst (pl.map V.str)) :: (lg, HO.lst []) :: pu.map fun u => (u.1, oQ u.2) := List.mem_cons_of_mem _ (List.mem_cons_of_mem _ List.mem_cons_self)
      have fin : ∀ {gm : Nat} {H8 : Hp} {n' : Nat}, n' ≤ n + 502 → gm ≤ more → (even = true → gm ≤ size) → Has H a n' ((lq, .lst (rf pu)) :: (lp, .lst (pl.map V.str)) :: (lg, .lst []) :: pu.map fun u => (u.1, oQ u.2)) H8 → ∀ (ln : Addr) (gl : List Str) H9, H8 ln = none → ln ≠ a → Grow a H8 H9 → WellAt H9 a (n' + 200) → H9 ln = some (.lst (gl.map V.str)) → gl.length = gm → gl.Nodup → (∀ x ∈ gl, IsNm x) →
          N [some (.ref a), some (.int most), some (.int more), some (.int (count : Int)), some (.int (size : Int)), some (.ref lp), some (.ref lt), some (.ref lq), some (.ref lg), o9, o10, some (.bl even), some (.ref ln), none] H9 := fun {gm H8 n'} hn' h1 h2 h8 ln gl H9 nn na g9 w9 el ll ld lnm =>
        hN _ _ ⟨ln, gl, rfl, by omega, fun e => by have := h2 e; omega, ld, lnm, fun e => (by have := h8.at mg'; rw [← e, nn] at this; cases this), (((h8.grow g9 w9).add na el)).wm (by omega)⟩
      refine ⟨_, rfl, _, rfl, _, rfl, ?_⟩
      cases even with
      | true =>
        refine iteT ⟨_, rfl, _, rfl, _, _, rfl, irr ⟨a, _, min more size, ?_, h7.well, by omega, by omega, fun ln gl H9 nn na g9 w9 el ll ld lnm => fin (by omega) (by omega) (fun _ => by omega) h7 ln gl H9 nn na g9 w9 el ll ld lnm⟩⟩
        simp only [List.append_nil, List.cons.injEq, and_true, true_and]
        congr 1
        split <;> omega
      | false =>
        refine iteF ⟨_, rfl, _, rfl, _, _, rfl, rfl, dip_step h7 (by omega) (by omega) (by omega) fun r H8 r0 r1 h8 => ?_⟩
        obtain ⟨gm, rfl⟩ := Int.eq_ofNat_of_zero_le r0
        exact irr ⟨a, _, gm, rfl, h8.well, by omega, by omega, fun ln gl H9 nn na g9 w9 el ll ld lnm => fin (by omega) (by omega) (fun e => nomatch e) h8 ln gl H9 nn na g9 w9 el ll ld lnm⟩
    rintro σ1 H7 ⟨ln, gl, rfl, gl1, gl2, gld, gln, nlg, h8⟩
    have gn : ∀ {j : Nat} (h : j < gl.length), atI (gl.map V.str) (0 + (j : Int)) = some (V.str gl[j]) := fun {j} h => by
      rw [Int.zero_add]
      exact atI_nat (by rw [List.getElem?_map, List.getElem?_eq_getElem h]; rfl)
    refine ⟨_, rfl, ln, _, rfl, .inl (SqL.of (h8.at List.mem_cons_self)), ?_⟩
    rw [List.length_map]
    refine ⟨gl.length, rfl, by omega, by omega, for_range (lo := 0) (n := gl.length) (fun j σ H' => ∃ (gu : List GU) (o9 o13 : Option V), σ = [some (.ref a), some (.int most), some (.int more), some (.int (count : Int)), some (.int (size : Int)), some (.ref lp), some (.ref lt), some (.ref lq), some (.ref lg), o9, o10, some (.bl even), some (.ref ln), o13] ∧
      gu.length = j ∧ (sn gu).map (·.1) = gl.take j ∧ (∀ g ∈ sn gu, g.2.1 < size) ∧ Has H a (n + 702 + 2 * j) ((lg, .lst (rf gu)) :: (ln, .lst (gl.map V.str)) :: (lq, .lst (rf pu)) :: (lp, .lst (pl.map V.str)) :: ((pu.map fun u => (u.1, oQ u.2)) ++ gu.map fun u => (u.1, oG u.2))) H') ?_ ?_ ?_⟩
    · refine ⟨[], _, _, rfl, rfl, rfl, fun _ hq => (nomatch hq), (h8.sub fun p hp => ?_).wm (by omega)⟩
      simp only [rf, List.map_nil, List.append_nil, List.mem_cons] at hp ⊢
      rcases hp with z | z | z | z | z
      · exact .inr (.inr (.inr (.inl z)))
      · exact .inl z
      · exact .inr (.inl z)
      · exact .inr (.inr (.inl z))
      · exact .inr (.inr (.inr (.inr z)))
    · rintro j σ H9 hj ⟨gu, o9', o13, rfl, gul, gun, guq, h9⟩
      dsimp only [gName]
      refine seq_of (fun σ' H' => ∃ p : Nat, p < size ∧ σ' = [some (.ref a), some (.int most), some (.int more), some (.int (count : Int)), some (.int (size : Int)), some (.ref lp), some (.ref lt), some (.ref lq), some (.ref lg), some (.int (0 + (j : Int))), o10, some (.bl even), some (.ref ln), some (.int (p : Int))] ∧
        Has H a (n + 702 + 2 * j + 1) ((lg, .lst (rf gu)) :: (ln, .lst (gl.map V.str)) :: (lq, .lst (rf pu)) :: (lp, .lst (pl.map V.str)) :: ((pu.map fun u => (u.1, oQ u.2)) ++ gu.map fun u => (u.1, oG u.2))) H') ?rest2 (fun N hN => ?main2)
      case main2 =>
        refine ⟨_, rfl, _, rfl, ?_⟩
        cases even with
        | true =>
          refine iteT ⟨_, rfl, hN _ _ ⟨j, by have := gl2 rfl; omega, ?_, h9.wm (by omega)⟩⟩
          show _ = _
          rw [Int.zero_add]
          rfl
        | false =>
          refine iteF ⟨_, rfl, _, rfl, dip_step h9 (by omega) (by omega) (by omega) fun r H10 r0 r1 h10 => ?_⟩
          obtain ⟨p, rfl⟩ := Int.eq_ofNat_of_zero_le r0
          exact hN _ _ ⟨p, by omega, rfl, h10⟩
      rintro σ2 H10 ⟨p, hp, rfl, h10⟩
      have mL : (ln, HO.lst (gl.map V.str)) ∈ (lg, HO.lst (rf gu)) :: (ln, HO.lst (gl.map V.str)) :: (lq, HO.lst (rf pu)) :: (lp, HO.lst (pl.map V.str)) :: ((pu.map fun u => (u.1, oQ u.2)) ++ gu.map fun u => (u.1, oG u.2)) := List.mem_cons_of_mem _ List.mem_cons_self
      refine ⟨_, rfl, .inl ⟨rfl, _, SqL.of (h10.at List.mem_cons_self)⟩, _, rfl, _, rfl, ln, _, _, _, rfl, rfl, SqL.of (h10.at mL), gn hj, _, rfl, _, rfl, dip_step h10 (by omega) (by decide) (by decide) fun r H11 _ _ h11 => ⟨rfl, ?_⟩⟩
      generalize decide (V.int r = V.int 0) = shut
      refine ⟨(by show 3 ≤ sizeLine; decide), fun tt nt => ?_⟩
      have h12 := h11.new (o := oG (gl[j], p, shut)) nt
      refine ⟨lg, _, _, rfl, rfl, h12.at (List.mem_cons_of_mem _ List.mem_cons_self), ?_, gu ++ [(tt, gl[j], p, shut)], _, _, rfl, by rw [List.length_append, gul]; rfl, ?_, fun g hg => ?_, ?_⟩
      · rw [rf_len, gul]
        exact Nat.lt_of_lt_of_le (show j < 20 by omega) (by decide)
      · rw [sn, List.map_append, List.map_append]
        show (sn gu).map (·.1) ++ [gl[j]] = _
        rw [gun, List.take_add_one, List.getElem?_eq_getElem hj]
        rfl
      · rw [sn, List.map_append] at hg
        rcases List.mem_append.mp hg with z | z
        · exact guq g z
        · rw [List.mem_singleton.mp z]
          exact hp
      · have e : rf (gu ++ [(tt, gl[j], p, shut)]) = rf gu ++ [.ref tt] := by rw [rf, List.map_append]; rfl
        rw [e]
        have h13 : Has H a (n + 702 + 2 * j + 1 + 1) ((lg, .lst (rf gu)) :: (ln, .lst (gl.map V.str)) :: (lq, .lst (rf pu)) :: (lp, .lst (pl.map V.str)) :: ((pu.map fun u => (u.1, oQ u.2)) ++ (gu ++ [(tt, gl[j], p, shut)]).map fun u => (u.1, oG u.2))) _ := h12.sub fun p hp => by
          rw [List.map_append] at hp
          simp only [List.mem_cons, List.mem_append, List.map_cons, List.map_nil, List.not_mem_nil, or_false] at hp ⊢
          rcases hp with z | z | z | z | z | z | z
          · exact .inr (.inl z)
          · exact .inr (.inr (.inl z))
          · exact .inr (.inr (.inr (.inl z)))
          · exact .inr (.inr (.inr (.inr (.inl z))))
          · exact .inr (.inr (.inr (.inr (.inr (.inl z)))))
          · exact .inr (.inr (.inr (.inr (.inr (.inr z)))))
          · exact .inl z
        refine (h13.reset g0 fun q hq => ?_).wm (by omega)
        rcases List.mem_cons.mp hq with rfl | hq'
        · exact nlg
        rcases List.mem_cons.mp hq' with rfl | hq'
        · exact nqg
        rcases List.mem_cons.mp hq' with rfl | hq'
        · exact ngp
        rcases List.mem_append.mp hq' with hq' | hq'
        · obtain ⟨u, hu, rfl⟩ := List.mem_map.mp hq'
          exact h13.apart (List.mem_cons_of_mem _ hq) List.mem_cons_self (fun e => nomatch e)
        · obtain ⟨u, hu, rfl⟩ := List.mem_map.mp hq'
          exact h13.apart (List.mem_cons_of_mem _ hq) List.mem_cons_self (fun e => nomatch e)
    rintro σ3 H9 ⟨gu, o9', o13, rfl, gul, gun, guq, h9⟩
    refine ⟨_, rfl, _, rfl, _, rfl, (by show 3 ≤ sizeLine; decide), fun l nl => ?_⟩
    have h14 := h9.new (o := .lst [.ref lp, .ref lq, .ref lg]) nl
    rw [List.take_length] at gun
    have unt : (sn pu).map (·.1) = tl := by rw [un, ← tll, List.take_length]
    refine k l lp lq lg pl pu gu _ ((h14.sub fun p hp => ?_).wm (by omega)) ⟨by show 2 ≤ pl.length; omega, by show pl.length ≤ 4; omega, pln, pld, by show 2 ≤ (sn pu).length; rw [sn_len]; omega, by show (sn pu).length ≤ most; rw [sn_len]; omega, fun q hq => ?_, by show ((sn pu).map (·.1)).Nodup; rw [unt]; exact tld, by show (sn gu).length ≤ more; rw [sn_len]; omega, fun g hg => ?_, by show ((sn gu).map (·.1)).Nodup; rw [gun]; exact gld⟩
    · simp only [lM, List.mem_cons] at hp ⊢
      rcases hp with z | z | z | z | z
      · exact .inl z
      · exact .inr (.inr (.inr (.inr (.inl z))))
      · exact .inr (.inr (.inr (.inl z)))
      · exact .inr (.inl z)
      · exact .inr (.inr (.inr (.inr (.inr z))))
    · have hq1 : q.1 ∈ tl := by rw [← unt]; exact List.mem_map.mpr ⟨q, hq, rfl⟩
      obtain ⟨b1, b2, b3⟩ := uq q hq
      exact ⟨tln _ hq1, by show q.2.1 < pl.length; omega, by show q.2.2 < pl.length; omega, b3⟩
    · have hg1 : g.1 ∈ gl := by rw [← gun]; exact List.mem_map.mpr ⟨g, hg, rfl⟩
      exact ⟨gln _ hg1, by show g.2.1 < (sn pu).length; rw [sn_len, ul]; exact guq g hg⟩
end
end RV
namespace RV
open PySem L2 TL
section
variable {P : Program} {w : World} {K : PySem.W.Frag} {mg : Str → Option Value} {base : Heap}
theorem ok_mtext {f : Addr} {fd : FuncData} (F : Fun K "_law_text" "_law_text" s_text f fd) : FnOk P w K mg base CX0 1 f fd ["_law_model_here"] sp_mtext := by
  refine F.ok sc_text (fun vs H Q E h => ?_) (fun cdv A outer s H vs Q E hr h => ?_)
  · obtain ⟨_, _, _, _, rfl, _⟩ := h
    rfl
  · obtain ⟨l, M, most, more, rfl, md, ok, m12, o12, k⟩ := h
    refine ⟨_, (pss_cons (ps_set (i := 1) sc_text.nd rfl (Or.inl rfl) (pe_lst pa_nil))
      (pss_cons (ps_for PassesOwn.never rfl (pi_list (pe_ix ix_list (pv 0) pe_int (fun _ _ => rfl))) (pg_name (i := 2) sc_text.nd rfl (Or.inl rfl)) (pss_cons (ps_par (i := 3) (j := 4) (by rfl) sc_text.nd rfl rfl (by decide) rfl rfl (pa_cons (pe_ix ix_list (pe_ix ix_list (pv 0) pe_int (fun _ _ => rfl)) (pe_ix ix_tup (pv 2) pe_int (fun _ _ => rfl)) (fun _ _ => rfl)) (pa_cons (pe_ix ix_list (pe_ix ix_list (pv 0) pe_int (fun _ _ => rfl)) (pe_ix ix_tup (pv 2) pe_int (fun _ _ => rfl)) (fun _ _ => rfl)) pa_nil)) (by rfl)) (pss_one (ps_expr (pe_bm PySem.F.plainAttrs_list PySem.F.slot_list_append PySem.F.type_list_append mt_append (pv 1) (pa_cons (pe_op op_add_str (pe_op op_add_str (pe_op op_add_str (pe_op op_add_str (pe_op op_add_str pe_str (pe_ix ix_tup (pv 2) pe_int (fun _ _ => rfl))) pe_str) (pv 3)) pe_str) (pv 4)) pa_nil))))))
      (pss_cons (ps_for PassesOwn.never rfl (pi_list (pe_ix ix_list (pv 0) pe_int (fun _ _ => rfl))) (pg_name (i := 5) sc_text.nd rfl (Or.inl rfl)) (pss_cons (ps_set (i := 6) sc_text.nd rfl (Or.inl rfl) (pe_ifExp (pt_truth (pe_ix ix_tup (pv 5) pe_int (fun _ _ => rfl)) (by intro _; rfl)) pe_str pe_str)) (pss_one (ps_expr (pe_bm PySem.F.plainAttrs_list PySem.F.slot_list_append PySem.F.type_list_append mt_append (pv 1) (pa_cons (pe_op op_add_str (pe_op op_add_str (pe_op op_add_str (pe_op op_add_str pe_str (pe_ix ix_tup (pv 5) pe_int (fun _ _ => rfl))) pe_str) (pe_ix ix_tup (pe_ix ix_list (pe_ix ix_list (pv 0) pe_int (fun _ _ => rfl)) (pe_ix ix_tup (pv 5) pe_int (fun _ _ => rfl)) (fun _ _ => rfl)) pe_int (fun _ _ => rfl))) (pv 6)) pa_nil))))))
      (pss_one (ps_ret (pe_join pe_str (pv 1))))))), ?_⟩
    obtain ⟨lp, lq, lg, pu, gu, e1, e2, kp⟩ := md.ex
    have ekl : H l = some (.lst [.ref lp, .ref lq, .ref lg]) := kp (l, _) List.mem_cons_self
    have ekp : H lp = some (.lst (M.pl.map V.str)) := kp (lp, _) (List.mem_cons_of_mem _ List.mem_cons_self)
    have ekq : H lq = some (.lst (rf pu)) := kp (lq, _) (List.mem_cons_of_mem _ (List.mem_cons_of_mem _ List.mem_cons_self))
    have ekg : H lg = some (.lst (rf gu)) := kp (lg, _) (List.mem_cons_of_mem _ (List.mem_cons_of_mem _ (List.mem_cons_of_mem _ List.mem_cons_self)))
    have eku : ∀ u ∈ pu, H u.1 = some (oQ u.2) := fun u hu => kp (u.1, _) (List.mem_cons_of_mem _ (List.mem_cons_of_mem _ (List.mem_cons_of_mem _ (List.mem_cons_of_mem _ (List.mem_append_left _ (List.mem_map.mpr ⟨u, hu, rfl⟩))))))
    have ekv : ∀ u ∈ gu, H u.1 = some (oG u.2) := fun u hu => kp (u.1, _) (List.mem_cons_of_mem _ (List.mem_cons_of_mem _ (List.mem_cons_of_mem _ (List.mem_cons_of_mem _ (List.mem_append_right _ (List.mem_map.mpr ⟨u, hu, rfl⟩))))))
    have po := ok.po m12
    have mo := ok.mo o12
    have ul : pu.length ≤ 12 := by rw [← sn_len, e1]; exact Nat.le_trans ok.qm m12
    have gl : gu.length ≤ 12 := by rw [← sn_len, e2]; exact Nat.le_trans ok.gm o12
    have atp : ∀ {i : Nat} (h : i < M.pl.length), atI (M.pl.map V.str) (i : Int) = some (V.str (M.pl.getD i "")) := fun {i} h => atI_nat (by rw [List.getElem?_map, List.getElem?_eq_getElem h, getD_lt h]; rfl)
    have ep1 : Str.length " " = 1 := by decide +kernel
    have ep5 : Str.length "pipe " = 5 := by decide +kernel
    have ep6 : Str.length "meter " = 6 := by decide +kernel
    refine ⟨by decide, fun ll nl => ?_⟩
    have s0 : Same H (upd H ll (.lst [])) := fun b o e => (upd_ne (ne_of_none e nl)).trans e
    dsimp only [gName]
    refine ⟨_, rfl, l, _, 1, _, rfl, rfl, SqL.of (s0 _ _ ekl), rfl, lq, rfl, ⟨_, SqL.of (s0 _ _ ekq)⟩, for_list (xs := rf pu) (fun j σ H' => (∃ o2 o3 o4, σ = [some (.ref l), some (.ref ll), o2, o3, o4, none, none]) ∧ Same H H' ∧ H' ll = some (.lst (((M.ps.take j).map pline).map V.str))) ⟨⟨none, none, none, rfl⟩, s0, upd_same⟩ (fun j σ H' _ z => SqL.of (z.2.1 _ _ ekq)) ?_ ?_⟩
    · rintro j y σ H1 hy ⟨⟨o2, o3, o4, rfl⟩, s1, eL⟩
      obtain ⟨u, hu, rfl⟩ := rf_get hy
      have hsg := sn_get hu
      rw [e1] at hsg
      have hm := List.mem_of_getElem? hsg
      obtain ⟨n1, n2, n3, n4⟩ := ok.qn _ hm
      have eu := s1 _ _ (eku u (List.mem_of_getElem? hu))
      have hps : M.ps[j]? = some (u.2.1, M.pl.getD u.2.2.1 "", M.pl.getD u.2.2.2 "") := by rw [Mod.ps, List.getElem?_map, hsg]; rfl
      obtain ⟨b1, b2, b3, _⟩ := po.nm _ (List.mem_of_getElem? hps)
      have l1 := nm8 b1
      have l2 := nm8 b2
      have l3 := nm8 b3
      dsimp only at l1 l2 l3
      dsimp only [gName]
      refine ⟨_, rfl, l, _, 0, _, rfl, rfl, SqL.of (s1 _ _ ekl), rfl, _, rfl, u.1, _, 1, _, rfl, rfl, SqT.of eu, rfl, lp, _, _, _, rfl, rfl, SqL.of (s1 _ _ ekp), atp n2, ?_⟩
      refine ⟨_, rfl, l, _, 0, _, rfl, rfl, SqL.of (s1 _ _ ekl), rfl, _, rfl, u.1, _, 2, _, rfl, rfl, SqT.of eu, rfl, lp, _, _, _, rfl, rfl, SqL.of (s1 _ _ ekp), atp n3, _, _, rfl, ?_⟩
      dsimp only
      refine ⟨_, rfl, .inl ⟨rfl, _, SqL.of eL⟩, _, rfl, u.1, _, 0, .str u.2.1, rfl, rfl, SqT.of eu, rfl, _, _, rfl, rfl, ?_, _, _, rfl, rfl, ?_, _, rfl, _, _, rfl, rfl, ?_, _, _, rfl, rfl, ?_, _, rfl, _, _, rfl, rfl, ?_, ?_⟩
      · rw [ep5]; exact szn (by omega)
      · rw [sl_app, ep5, ep1]; exact szn (by omega)
      · rw [sl_app, sl_app, ep5, ep1]; exact szn (by omega)
      · rw [sl_app, sl_app, sl_app, ep5, ep1]; exact szn (by omega)
      · rw [sl_app, sl_app, sl_app, sl_app, ep5, ep1]; exact szn (by omega)
      rw [pline_app2]
      refine ⟨ll, _, _, rfl, rfl, eL, ?_, ⟨_, _, _, rfl⟩, fun b o e => ?_, ?_⟩
      · rw [List.length_map, List.length_map]
        have := List.length_take_le' j M.ps
        have := po.ln
        exact Nat.lt_of_le_of_lt (show _ ≤ 20 by omega) (by decide)
      · rw [upd_ne (ne_of_none e nl)]
        exact s1 _ _ e
      · rw [upd_same, List.take_add_one, hps, List.map_append, List.map_append]
        rfl
    rintro σ H1 ⟨⟨o2, o3, o4, rfl⟩, s1, eL⟩
    rw [rf_len, show pu.length = M.ps.length by rw [Mod.ps, List.length_map, ← e1, sn_len], List.take_length] at eL
    have ens : M.ms.length = gu.length := by rw [Mod.ms, List.length_map, ← e2, sn_len]
    dsimp only [gName]
    refine ⟨_, rfl, l, _, 2, _, rfl, rfl, SqL.of (s1 _ _ ekl), rfl, lg, rfl, ⟨_, SqL.of (s1 _ _ ekg)⟩, for_list (xs := rf gu) (fun j σ H' => (∃ o2 o3 o4 o5 o6, σ = [some (.ref l), some (.ref ll), o2, o3, o4, o5, o6]) ∧ Same H H' ∧ H' ll = some (.lst ((M.ps.map pline).map V.str ++ ((M.ms.take j).map mline).map V.str))) ⟨⟨_, _, _, _, _, rfl⟩, s1, by rw [eL]; simp⟩ (fun j σ H' _ z => SqL.of (z.2.1 _ _ ekg)) ?_ ?_⟩
    · rintro j y σ H2 hy ⟨⟨o2, o3, o4, o5, o6, rfl⟩, s2, eL2⟩
      obtain ⟨u, hu, rfl⟩ := rf_get hy
      have hsg := sn_get hu
      rw [e2] at hsg
      have hm := List.mem_of_getElem? hsg
      obtain ⟨n1, n2⟩ := ok.gn _ hm
      have eu := s2 _ _ (ekv u (List.mem_of_getElem? hu))
      have hms : M.ms[j]? = some (u.2.1, (M.qs.getD u.2.2.1 ("", 0, 0)).1, u.2.2.2) := by rw [Mod.ms, List.getElem?_map, hsg]; rfl
      obtain ⟨b1, b2⟩ := mo.nm _ (List.mem_of_getElem? hms)
      have l1 := nm8 b1
      have l2 := nm8 b2
      dsimp only at l1 l2
      have hqu : u.2.2.1 < pu.length := by rw [← sn_len, e1]; exact n2
      have eq1 := sn_get (List.getElem?_eq_getElem hqu)
      rw [e1] at eq1
      have eq2 : M.qs.getD u.2.2.1 ("", 0, 0) = (pu[u.2.2.1]).2 := by rw [List.getD, eq1]; rfl
      have epq := s2 _ _ (eku _ (List.getElem_mem hqu))
      rw [eq2] at hms l2
      have atq : atI (rf pu) ((u.2.2.1 : Nat) : Int) = some (V.ref (pu[u.2.2.1]).1) := atI_nat (by rw [rf, List.getElem?_map, List.getElem?_eq_getElem hqu]; rfl)
      have e3 : (mseal u.2.2.2).length ≤ 7 := by cases u.2.2.2 <;> decide +kernel
      dsimp only [gName]
      refine ⟨_, rfl, u.1, _, 2, .bl u.2.2.2, rfl, rfl, SqT.of eu, rfl, u.2.2.2, rfl, ?_⟩
      have ez0 : Str.length "" = 0 := by decide +kernel
      have ez7 : Str.length " sealed" = 7 := by decide +kernel
      have ed := mline_app (u.2.1, (pu[u.2.2.1]).2.1, u.2.2.2)
      dsimp only at ed
      cases hz : u.2.2.2
      refine iteF ?_
      rotate_left
      refine iteT ?_
      all_goals
        rw [hz] at ed hms
        dsimp only [gName]
        refine ⟨_, rfl, .inl ⟨rfl, _, SqL.of eL2⟩, _, rfl, u.1, _, 0, .str u.2.1, rfl, rfl, SqT.of eu, rfl, _, _, rfl, rfl, ?_, _, _, rfl, rfl, ?_, ?_⟩
        · rw [ep6]; exact szn (by omega)
        · rw [sl_app, ep6, ep1]; exact szn (by omega)
        refine ⟨_, rfl, l, _, 1, _, rfl, rfl, SqL.of (s2 _ _ ekl), rfl, _, rfl, u.1, _, 1, _, rfl, rfl, SqT.of eu, rfl, lq, _, _, _, rfl, rfl, SqL.of (s2 _ _ ekq), atq, _, _, 0, .str (pu[u.2.2.1]).2.1, rfl, rfl, SqT.of epq, rfl, _, _, rfl, rfl, ?_, _, rfl, _, _, rfl, rfl, ?_, ?_⟩
        · rw [sl_app, sl_app, ep6, ep1]; exact szn (by omega)
        · rw [sl_app, sl_app, sl_app, ep6, ep1]; first | rw [ez0] | rw [ez7]
          exact szn (by omega)
        refine ⟨ll, _, _, rfl, rfl, eL2, ?_, ⟨_, _, _, _, _, rfl⟩, fun b o e => ?_, ?_⟩
        · simp only [List.length_append, List.length_map]
          have h1 := List.length_take_le' j M.ms
          have h2 := po.ln
          have h3 := mo.ln
          exact Nat.lt_of_le_of_lt (show _ ≤ 30 by omega) (by decide)
        · rw [upd_ne (ne_of_none e nl)]
          exact s2 _ _ e
        · rw [upd_same, List.take_add_one, hms, List.map_append, List.map_append, List.append_assoc]
          exact congrArg (fun z => some (HO.lst (_ ++ (_ ++ [V.str z])))) ed
    rintro σ H2 ⟨⟨o2, o3, o4, o5, o6, rfl⟩, s2, eL2⟩
    rw [rf_len, ← ens, List.take_length, ← List.map_append] at eL2
    have pn : PNm M.ps := fun p hp => ⟨(po.nm p hp).1, (po.nm p hp).2.1, (po.nm p hp).2.2.1⟩
    have mn : MNm M.ms := fun p hp => mo.nm p hp
    have h1 := netL_sum pn mn
    have h2 : (netL M.ps M.ms).length = M.ps.length + M.ms.length := by rw [netL, List.length_append, List.length_map, List.length_map]
    have h3 : Str.length "\n" = 1 := by decide +kernel
    have h4 := po.ln
    have h5 := mo.ln
    refine ⟨⟨_, rfl⟩, _, rfl, _, ll, netL M.ps M.ms, rfl, rfl, .inl (SqL.of eL2), ?_, k _ s2⟩
    rw [h3]
    omega
end
end RV
namespace RV
open PySem L2 TL
section
variable {P : Program} {w : World} {K : PySem.W.Frag} {mg : Str → Option Value} {base : Heap} {CN CP CM : Addr}
theorem ok_gpipe {f : Addr} {fd : FuncData} (F : Fun K "pipe" "Net.pipe" s_Net_pipe f fd) (NC : NClass K mg CN) (h_index_of : Fn P w K mg base "_index_of" 3 ["parts", "name"] (Irr (sp_index K CP))) : FnOk P w K mg base CX0 4 f fd ["self", "name"] (sp_gpipe K CN CP CM) := by
  refine F.ok sc_Net_pipe (fun vs H Q E h => ?_) (fun cdv A outer s H vs Q E hr h => ?_)
  · obtain ⟨_, _, _, _, rfl, _⟩ := h
    rfl
  · obtain ⟨x, ps, ms, y, rfl, nr, hl, hy, k⟩ := h
    refine ⟨_, (pss_cons (ps_set (i := 2) sc_Net_pipe.nd rfl (Or.inl rfl) (pe_fn h_index_of (hr.mono (by decide)) (pa_cons (pe_fld (pv 0) rfl) (pa_cons (pv 1) pa_nil))))
      (pss_cons (ps_if (pt_cmpR op_isN (pv 2) pe_non (nomark _)) (pss_one ps_never) pss_nil)
      (pss_one (ps_ret (pe_ix ix_tup (pe_fld (pv 0) rfl) (pv 2) (fun _ _ => rfl)))))), ?_⟩
    obtain ⟨dx, tp, tm, pu, mu, ex, hp, hm, rfl, rfl⟩ := nr.ex
    refine ⟨_, rfl, x, CN, dx, _, _, rfl, ex, NC.x.cl, NC.n1, netF_p _ _, _, rfl, irr ⟨tp, pu, y, rfl, hp, by rw [sn_len] at hl; exact hl, hy, fun i H1 hi s1 => ?_⟩⟩
    refine ⟨_, rfl, rfl, _, rfl, iteF ?_⟩
    have ex1 := s1 _ _ ex
    have hp1 := hp.ext s1
    cases hu : pu[i]? with
    | none => rw [sn, List.getElem?_map, hu] at hi; cases hi
    | some u =>
      have hu2 : (sn pu)[i]? = some u.2 := sn_get hu
      rw [hu2] at hi
      refine ⟨_, rfl, x, CN, dx, _, _, rfl, ex1, NC.x.cl, NC.n1, netF_p _ _, _, rfl, tp, _, _, _, rfl, rfl, hp1.t, atI_nat (j := i) (by rw [rf, List.getElem?_map, hu]; rfl), ?_⟩
      exact k u.1 i u.2 H1 hu2 (Option.some.inj hi) s1 (hp1.o u (List.mem_of_getElem? hu))
theorem ok_chkn {f : Addr} {fd : FuncData} (F : Fun K "check_net" "check_net" s_check_net f fd) (T : Blt mg) (NC : NClass K mg CN) : FnOk P w K mg base CX0 1 f fd ["net"] (sp_chkn K CN CP CM) := by
  refine F.ok sc_check_net (fun vs H Q E h => ?_) (fun cdv A outer s H vs Q E hr h => ?_)
  · obtain ⟨_, _, _, rfl, _⟩ := h
    rfl
  · obtain ⟨x, ps, ms, rfl, nr, k⟩ := h
    refine ⟨_, (pss_one (ps_if (pt_not (pt_val (pe_callB call_isi (by rfl) T.b_isinstance (by decide +kernel) (pa_cons (pv 0) (pa_cons (pe_gC NC.k) pa_nil))))) (pss_one ps_never) pss_nil)), ?_⟩
    obtain ⟨dx, tp, tm, pu, mu, ex, hp, hm, rfl, rfl⟩ := nr.ex
    exact ⟨_, rfl, _, _, _, .ref CN, true, rfl, .own CN, NC.x.ty ex, NC.me, true, rfl, iteF k⟩
theorem ok_chkp {f : Addr} {fd : FuncData} (F : Fun K "check_pipe" "check_pipe" s_check_pipe f fd) (h_gpipe : Mtd P w K mg base CN "pipe" 4 ["self", "name"] (Irr (sp_gpipe K CN CP CM))) : FnOk P w K mg base CX0 5 f fd ["net", "pipe"] (sp_chkp K CN CP CM) := by
  refine F.ok sc_check_pipe (fun vs H Q E h => ?_) (fun cdv A outer s H vs Q E hr h => ?_)
  · obtain ⟨_, _, _, _, rfl, _⟩ := h
    rfl
  · obtain ⟨x, ps, ms, y, rfl, nr, hl, hy, k⟩ := h
    refine ⟨_, (pss_one (ps_expr (pe_mtd h_gpipe (hr.mono (by decide)) (pv 0) (pa_cons (pv 1) pa_nil)))), ?_⟩
    obtain ⟨dx, tp, tm, pu, mu, ex, hp, hm, e1, e2⟩ := id nr.ex
    refine ⟨_, rfl, x, dx, _, rfl, ex, rfl, _, rfl, irr ⟨x, ps, ms, y, rfl, nr, hl, hy, fun a i q H1 hi hq s1 pa => k H1 s1⟩⟩
theorem ok_mat {f : Addr} {fd : FuncData} (F : Fun K "meters_at" "meters_at" s_meters_at f fd) (h_nm : Prp P w K mg base CN "meters" 1 (Irr (sp_nme CN))) (h_ma : Prp P w K mg base CM "at" 1 (Irr (sp_ma CM))) : FnOk P w K mg base CX0 3 f fd ["net", "name"] (sp_mat K CN CP CM) := by
  refine F.ok sc_meters_at (fun vs H Q E h => ?_) (fun cdv A outer s H vs Q E hr h => ?_)
  · obtain ⟨_, _, _, _, rfl, _⟩ := h
    rfl
  · obtain ⟨x, ps, ms, y, rfl, nr, hl, k⟩ := h
    refine ⟨_, (pss_one (ps_ret (pe_lc (own := [("part", 2)]) (g := gName 2) rfl sc_meters_at.nd (pi_tup (pe_propN h_nm (hr.mono (by decide)) (pv 0))) (blkOk_by (N := sc_meters_at_N) (sc := defScope s_meters_at) (by decide +kernel)) (fun _ _ _ _ _ => pg_name (i := 2) sc_meters_at.nd rfl (Or.inl rfl)) (fun _ _ _ _ _ => pts_one (pt_cmpR op_eq (pe_propN h_ma (hr.mono (by decide)) (pv 2)) (pv 1) (nomark _))) (fun _ _ _ _ _ => (pv 2))))), ?_⟩
    obtain ⟨dx, tp, tm, pu, mu, ex, hp, hm, rfl, rfl⟩ := nr.ex
    have ml : mu.length ≤ 12 := by rw [sn_len] at hl; exact hl
    refine ⟨_, rfl, x, dx, _, rfl, ex, irr ⟨x, dx, tp, tm, rfl, ex, tm, rfl, ⟨_, hm.t⟩, fun D nD => lc_keep (fun u : MU => decide (u.2.2.1 = y)) walk_tup nD (by omega) (fun H' s' => hm.t.ext s') (fun _ => rfl) (fun u hu H2 s2 R kR => ?_) (fun u hu H2 R kR => ⟨_, rfl, kR⟩) fun H2 s2 hD => ?_⟩⟩
    · have mu2 := (hm.o u hu).ext s2
      obtain ⟨dx2, ex2⟩ := id mu2
      refine ⟨_, rfl, u.1, dx2, _, rfl, ex2, irr ⟨u.1, u.2, rfl, mu2, _, rfl, rfl, _, rfl, ?_⟩⟩
      rw [decV]
      exact kR H2 (Same.refl _)
    · refine k D _ H2 s2 hD (fun u hu => (hm.o u (List.mem_filter.mp hu).1).ext s2) ?_
      rw [sn, onP, sn, List.filter_map]
      rfl
theorem ok_sat {f : Addr} {fd : FuncData} (F : Fun K "sealed_at" "sealed_at" s_sealed_at f fd) (h_mat : Fn P w K mg base "meters_at" 3 ["net", "name"] (Irr (sp_mat K CN CP CM))) (h_mn : Prp P w K mg base CM "name" 1 (Irr (sp_mn CM))) (h_mz : Prp P w K mg base CM "sealed" 1 (Irr (sp_mz CM))) : FnOk P w K mg base CX0 4 f fd ["net", "name"] (sp_sat K CN CP CM) := by
  refine F.ok sc_sealed_at (fun vs H Q E h => ?_) (fun cdv A outer s H vs Q E hr h => ?_)
  · obtain ⟨_, _, _, _, rfl, _⟩ := h
    rfl
  · obtain ⟨x, ps, ms, y, rfl, nr, hl, k⟩ := h
    refine ⟨_, (pss_one (ps_ret (pe_lc (own := [("part", 2)]) (g := gName 2) rfl sc_sealed_at.nd (pi_list (pe_fn h_mat (hr.mono (by decide)) (pa_cons (pv 0) (pa_cons (pv 1) pa_nil)))) (blkOk_by (N := sc_sealed_at_N) (sc := defScope s_sealed_at) (by decide +kernel)) (fun _ _ _ _ _ => pg_name (i := 2) sc_sealed_at.nd rfl (Or.inl rfl)) (fun _ _ _ _ _ => pts_one (pt_val (pe_propN h_mz (hr.mono (by decide)) (pv 2)))) (fun _ _ _ _ _ => (pe_propN h_mn (hr.mono (by decide)) (pv 2)))))), ?_⟩
    refine ⟨_, rfl, _, rfl, irr ⟨x, ps, ms, y, rfl, nr, hl, fun l us H1 s1 hL hu e1 => ?_⟩⟩
    have ul : us.length ≤ 12 := by
      rw [← sn_len, e1]
      exact Nat.le_trans (List.length_filter_le _ _) hl
    refine ⟨l, rfl, ⟨_, SqL.of hL⟩, fun D nD => ?_⟩
    refine lc_keepF (fun u : MU => u.2.2.2) (fun u => V.str u.2.1) walk_list nD (by omega) (fun H' s' => SqL.of (s' _ _ hL)) (fun _ => rfl) (fun u hm H2 s2 R kR => ?_) (fun u hm H2 s2 R kR => ?_) fun H2 s2 hD => ?_
    · have mu2 := (hu u hm).ext s2
      obtain ⟨dx2, ex2⟩ := id mu2
      exact ⟨_, rfl, u.1, dx2, _, rfl, ex2, irr ⟨u.1, u.2, rfl, mu2, _, rfl, kR H2 (Same.refl _)⟩⟩
    · have mu2 := (hu u hm).ext s2
      obtain ⟨dx2, ex2⟩ := id mu2
      exact ⟨_, rfl, u.1, dx2, _, rfl, ex2, irr ⟨u.1, u.2, rfl, mu2, kR⟩⟩
    · refine k D _ H2 (s1.trans s2) hD ?_
      rw [seP, ← e1, sn, List.filter_map, List.map_eq_nil_iff, List.map_eq_nil_iff]
      exact Iff.rfl
end
end RV
namespace RV
open PySem L2 TL
theorem decN (j : Nat) : ∀ o : Option Nat, decide (V.int (j : Nat) = vN o) = decide (o = some j)
  | none => by simp [vN]
  | some k => by
    simp only [vN, V.int.injEq, Option.some.injEq]
    exact decide_eq_decide.mpr (by omega)
section
variable {P : Program} {w : World} {K : PySem.W.Frag} {mg : Str → Option Value} {base : Heap} {CN CP CM : Addr}
theorem ok_amt {f : Addr} {fd : FuncData} (F : Fun K "_amounts" "_amounts" s_amounts f fd) (T : Blt mg) (T2 : Blt2 mg) (h_np : Prp P w K mg base CN "pipes" 1 (Irr (sp_npi CN))) : FnOk P w K mg base CX0 3 f fd ["net", "index", "amount"] (sp_amt K CN CP CM) := by
  refine F.ok sc_amounts (fun vs H Q E h => ?_) (fun cdv A outer s H vs Q E hr h => ?_)
  · obtain ⟨_, _, _, _, _, rfl, _⟩ := h
    rfl
  · obtain ⟨x, ps, ms, o, c, rfl, nr, hl, k⟩ := h
    refine ⟨_, (pss_one (ps_ret (pe_callTy call_tuple_of (by rfl) T2.b_tuple (by decide +kernel) (pa_cons (pe_lc (own := [("at", 3)]) (g := gName 3) (tt := tYes) rfl sc_amounts.nd (pi_range1 rfl T.b_range (pa_cons (pe_callB call_len_seq (by rfl) T.b_len (by decide +kernel) (pa_cons (pe_propN h_np (hr.mono (by decide)) (pv 0)) pa_nil)) pa_nil)) (blkOk_by (N := sc_amounts_N) (sc := defScope s_amounts) (by decide +kernel)) (fun _ _ _ _ _ => pg_name (i := 3) sc_amounts.nd rfl (Or.inl rfl)) (fun _ _ _ _ _ => pts_nil) (fun _ _ _ _ _ => (pe_ifExp (pt_cmpR op_eq (pv 3) (pv 1) (nomark _)) (pv 2) pe_int))) pa_nil)))), ?_⟩
    obtain ⟨dx, tp, tm, pu, mu, ex, hp, hm, rfl, rfl⟩ := nr.ex
    have pl : pu.length ≤ 12 := by rw [sn_len] at hl; exact hl
    refine ⟨_, rfl, x, dx, _, rfl, ex, irr ⟨x, dx, tp, tm, rfl, ex, tp, _, rfl, .inr hp.t, pu.length, by rw [rf_len], by omega, by omega, fun D nD => lc_to (xs := rgL pu.length) ((un pu.length o c).map V.int) (by rw [rgL_len, List.length_map, un, List.length_map, List.length_range]) walk_rgL nD (by rw [rgL_len]; omega) (fun _ _ => True.intro) (fun _ => rfl) (fun j x y hx hy H2 s2 R kR => ?_) fun H2 s2 hD => ?_⟩⟩
    · obtain ⟨rfl, hj⟩ := rgL_get hx
      have ey : y = V.int (if o = some j then c else 0) := by
        rw [un, List.map_map, List.getElem?_map, List.getElem?_range hj] at hy
        exact (Option.some.inj hy).symm
      refine ⟨_, rfl, _, rfl, by cases o <;> rfl, _, rfl, ?_⟩
      rw [decN]
      by_cases e : o = some j
      · rw [if_pos e] at ey
        rw [decide_eq_true e]
        exact iteT ⟨_, rfl, ey ▸ kR H2 (Same.refl _)⟩
      · rw [if_neg e] at ey
        rw [decide_eq_false e]
        exact iteF (ey ▸ kR H2 (Same.refl _))
    · refine ⟨D, _, rfl, .inl ⟨SqL.of hD, fun t nt => ?_⟩⟩
      refine k t _ (fun b o e => (upd_ne (ne_of_none (s2 _ _ e) nt)).trans (s2 _ _ e)) ?_
      rw [upd_same, sn_len]
theorem ok_lnks {f : Addr} {fd : FuncData} (F : Fun K "_links" "_links" s_links f fd) (T : Blt mg) (T2 : Blt2 mg) (h_np : Prp P w K mg base CN "pipes" 1 (Irr (sp_npi CN))) (h_pn : Prp P w K mg base CP "name" 1 (Irr (sp_pn CP))) (h_ps : Prp P w K mg base CP "start" 1 (Irr (sp_ps CP))) (h_pe : Prp P w K mg base CP "end" 1 (Irr (sp_pe CP)))
    (h_sat : Fn P w K mg base "sealed_at" 4 ["net", "name"] (Irr (sp_sat K CN CP CM))) (h_mat : Fn P w K mg base "meters_at" 3 ["net", "name"] (Irr (sp_mat K CN CP CM))) (h_amt : Fn P w K mg base "_amounts" 3 ["net", "index", "amount"] (Irr (sp_amt K CN CP CM))) : FnOk P w K mg base CX0 5 f fd ["net", "pipe"] (sp_lnks K CN CP CM) := by
  refine F.ok sc_links (fun vs H Q E h => ?_) (fun cdv A outer s H vs Q E hr h => ?_)
  · obtain ⟨_, _, _, _, rfl, _⟩ := h
    rfl
  · obtain ⟨x, ps, ms, y, rfl, nr, pl, ml, k⟩ := h
    refine ⟨_, (pss_cons (ps_set (i := 2) sc_links.nd rfl (Or.inl rfl) (pe_lst pa_nil))
      (pss_cons (ps_for PassesOwn.never rfl (pi_enumT (by rfl) T2.b_enumerate (pa_cons (pe_propN h_np (hr.mono (by decide)) (pv 0)) pa_nil)) (pg_tup (by rfl) (pgs_cons (pg_name (i := 3) sc_links.nd rfl (Or.inl rfl)) (pgs_cons (pg_name (i := 4) sc_links.nd rfl (Or.inl rfl)) pgs_nil))) (pss_one (ps_if (PW.pt (pw_and (pt_cmpR op_ne (pe_propN h_pn (hr.mono (by decide)) (pv 4)) (pv 1) (nomark _)) (pw_and1 (pt_not (pt_truth (pe_fn h_sat (hr.mono (by decide)) (pa_cons (pv 0) (pa_cons (pe_propN h_pn (hr.mono (by decide)) (pv 4)) pa_nil))) (by intro _; rfl)))))) (pss_cons (ps_set (i := 5) sc_links.nd rfl (Or.inl rfl) (pe_callB call_len_seq (by rfl) T.b_len (by decide +kernel) (pa_cons (pe_fn h_mat (hr.mono (by decide)) (pa_cons (pv 0) (pa_cons (pe_propN h_pn (hr.mono (by decide)) (pv 4)) pa_nil))) pa_nil))) (pss_cons (ps_expr (pe_bm PySem.F.plainAttrs_list PySem.F.slot_list_append PySem.F.type_list_append mt_append (pv 2) (pa_cons (pe_tup (pa_cons (pe_propN h_ps (hr.mono (by decide)) (pv 4)) (pa_cons (pe_propN h_pe (hr.mono (by decide)) (pv 4)) (pa_cons (pv 5) (pa_cons (pe_fn h_amt (hr.mono (by decide)) (pa_cons (pv 0) (pa_cons (pv 3) (pa_cons pe_int pa_nil)))) pa_nil))))) pa_nil))) (pss_one (ps_expr (pe_bm PySem.F.plainAttrs_list PySem.F.slot_list_append PySem.F.type_list_append mt_append (pv 2) (pa_cons (pe_tup (pa_cons (pe_propN h_pe (hr.mono (by decide)) (pv 4)) (pa_cons (pe_propN h_ps (hr.mono (by decide)) (pv 4)) (pa_cons (pv 5) (pa_cons (pe_fn h_amt (hr.mono (by decide)) (pa_cons (pv 0) (pa_cons (pv 3) (pa_cons (pe_un un_neg pe_int) pa_nil)))) pa_nil))))) pa_nil)))))) pss_nil)))
      (pss_one (ps_ret (pv 2))))), ?_⟩
    obtain ⟨dx, tp, tm, pu, mu, ex, hp, hm, ep, em⟩ := id nr.ex
    have pul : pu.length ≤ 12 := by rw [← sn_len, ep]; exact pl
    refine ⟨by decide, fun l nl => ?_⟩
    have s0 : Same H (upd H l (.lst [])) := fun b o e => (upd_ne (ne_of_none e nl)).trans e
    dsimp only [gName]
    refine ⟨_, rfl, x, dx, _, rfl, s0 _ _ ex, irr ⟨x, dx, tp, tm, rfl, s0 _ _ ex, tp, _, rfl, hp.t.ext s0, for_enumT (xs := rf pu) (fun i σ H' => ∃ (us : List (Addr × L4)) (o3 o4 o5 : Option V), σ = [some (.ref x), some (.str y), some (.ref l), o3, o4, o5] ∧ Same H H' ∧ H' l = some (.lst (rf us)) ∧ (∀ u ∈ us, LkAt H' u.1 u.2) ∧ sn us = lkF ps.length ms y 0 (ps.take i)) ⟨[], none, none, none, rfl, s0, upd_same, fun u hu => (nomatch hu), rfl⟩ ?_ ?_ ?_⟩⟩
    · rintro i σ H1 _ ⟨_, _, _, _, _, s1, _⟩
      exact hp.t.ext s1
    · rintro i v σ H1 T' hv ⟨us, o3, o4, o5, rfl, s1, hL, hat, hsn⟩ nT
      obtain ⟨u, hu, rfl⟩ := rf_get hv
      have hpi : ps[i]? = some u.2 := ep ▸ sn_get hu
      have hm := List.mem_of_getElem? hu
      have s1b : Same H1 (upd H1 T' (.tup [.int (i : Nat), .ref u.1])) := fun b o e => (upd_ne (ne_of_none e nT)).trans e
      have s2 : Same H (upd H1 T' (.tup [.int (i : Nat), .ref u.1])) := s1.trans s1b
      have pa := (hp.o u hm).ext s2
      obtain ⟨dp, edp⟩ := id pa
      refine ⟨T', _, rfl, SqT.of upd_same, rfl, _, _, rfl, _, _, rfl, rfl, ?_⟩
      refine ⟨_, rfl, u.1, dp, _, rfl, edp, irr ⟨u.1, u.2, rfl, pa, _, rfl, ?_⟩⟩
      refine ⟨rfl, _, rfl, ?_⟩
      rw [decV]
      have hL2 := s1b _ _ hL
      have hat2 : ∀ q ∈ us, LkAt (upd H1 T' (.tup [.int (i : Nat), .ref u.1])) q.1 q.2 := fun q hq => (hat q hq).ext s1b
      have lus : us.length ≤ 24 := by
        rw [← sn_len, hsn]
        have h1 := lkF_len ps.length ms y 0 (ps.take i)
        have h2 := List.length_take_le' i ps
        omega
      have skip : ∀ H', Same (upd H1 T' (.tup [.int (i : Nat), .ref u.1])) H' → ¬ (u.2.1 ≠ y ∧ seP ms u.2.1 = []) → ∃ (us : List (Addr × L4)) (a3 a4 a5 : Option V), (([some (V.ref x), some (V.str y), some (V.ref l), o3, o4, o5].set 3 (some (V.int ↑i))).set 4 (some (V.ref u.fst))) = [some (.ref x), some (.str y), some (.ref l), a3, a4, a5] ∧ Same H H' ∧ H' l = some (.lst (rf us)) ∧ (∀ u ∈ us, LkAt H' u.1 u.2) ∧ sn us = lkF ps.length ms y 0 (ps.take (i + 1)) := fun H' s' no =>
        ⟨us, some (.int i), some (.ref u.1), o5, rfl, s2.trans s', s' _ _ hL2, fun q hq => (hat2 q hq).ext s', by rw [lkF_take hpi, lks, if_neg no, List.append_nil]; exact hsn⟩
      refine ite2 (fun h1 => ?_) fun h1 => ?_
      · have hne : u.2.1 ≠ y := by simpa using h1
        refine ⟨_, rfl, _, rfl, u.1, dp, _, rfl, edp, irr ⟨u.1, u.2, rfl, pa, irr ⟨x, ps, ms, u.2.1, rfl, nr.ext s2, ml, fun l2 xs H3 s3 h3 hiff => ?_⟩⟩⟩
        refine ⟨!xs.isEmpty, .inl ⟨xs, SqL.of h3, rfl⟩, ?_⟩
        cases xs with
        | cons v vs =>
          obtain ⟨q1, q2, q3, q4, q5⟩ := skip H3 s3 fun z => nomatch hiff.mpr z.2
          exact iteF ⟨q1, q2, q3, q4, q5⟩
        | nil =>
          have hse := hiff.mp rfl
          have pa3 := pa.ext s3
          obtain ⟨dp3, ed3⟩ := id pa3
          refine iteT ⟨_, rfl, _, rfl, u.1, dp3, _, rfl, ed3, irr ⟨u.1, u.2, rfl, pa3, irr ⟨x, ps, ms, u.2.1, rfl, nr.ext (s2.trans s3), ml, fun l3 mus H4 s4 h4 hm4 em4 => ?_⟩⟩⟩
          have emany : (rf mus).length = wtP ms u.2.1 := by rw [rf_len, wtP, ← em4, sn_len]
          refine ⟨l3, _, rfl, .inl (SqL.of h4), ?_⟩
          rw [emany]
          dsimp only [gName]
          have s4b : Same H H4 := (s2.trans s3).trans s4
          have hL4 := s4 _ _ (s3 _ _ hL2)
          have pa4 := pa3.ext s4
          obtain ⟨dp4, ed4⟩ := id pa4
          refine ⟨_, rfl, .inl ⟨rfl, _, SqL.of hL4⟩, _, rfl, u.1, dp4, _, rfl, ed4, irr ⟨u.1, u.2, rfl, pa4, _, rfl, u.1, dp4, _, rfl, ed4, irr ⟨u.1, u.2, rfl, pa4, _, rfl, _, rfl, _, rfl, irr ⟨x, ps, ms, some i, 1, rfl, nr.ext s4b, pl, fun t1 H5 s5 h5 => ⟨(by show 4 ≤ sizeLine; decide), fun T1 nT1 => ?_⟩⟩⟩⟩⟩
          have hL5 := s5 _ _ hL4
          have s5b : Same H5 (upd H5 T1 (.tup [.str u.2.2.1, .str u.2.2.2, .int (wtP ms u.2.1 : Nat), .ref t1])) := fun b o e => (upd_ne (ne_of_none e nT1)).trans e
          refine ⟨l, _, _, rfl, rfl, s5b _ _ hL5, by rw [rf_len]; exact Nat.lt_of_le_of_lt lus (by decide), ?_⟩
          have s6 : Same H (upd (upd H5 T1 (.tup [.str u.2.2.1, .str u.2.2.2, .int (wtP ms u.2.1 : Nat), .ref t1])) l (.lst (rf us ++ [.ref T1]))) := fun b o e => (upd_ne (ne_of_none e nl)).trans (s5b _ _ (s5 _ _ (s4b _ _ e)))
          have lk1 : LkAt (upd H5 T1 (.tup [.str u.2.2.1, .str u.2.2.2, .int (wtP ms u.2.1 : Nat), .ref t1])) T1 (u.2.2.1, u.2.2.2, wtP ms u.2.1, un ps.length (some i) 1) := ⟨t1, upd_same, s5b _ _ h5⟩
          have hat6 : ∀ q ∈ us ++ [(T1, (u.2.2.1, u.2.2.2, wtP ms u.2.1, un ps.length (some i) 1))], LkAt (upd (upd H5 T1 (.tup [.str u.2.2.1, .str u.2.2.2, .int (wtP ms u.2.1 : Nat), .ref t1])) l (.lst (rf us ++ [.ref T1]))) q.1 q.2 := fun q hq => by
            refine LkAt.put ?_ (s5b _ _ hL5)
            rcases List.mem_append.mp hq with hq | hq
            · exact ((((hat2 q hq).ext s3).ext s4).ext s5).ext s5b
            · rw [List.mem_singleton.mp hq]
              exact lk1
          generalize hH6 : upd (upd H5 T1 (.tup [.str u.2.2.1, .str u.2.2.2, .int (wtP ms u.2.1 : Nat), .ref t1])) l (.lst (rf us ++ [.ref T1])) = H6 at s6 hat6
          have hL6 : H6 l = some (.lst (rf us ++ [.ref T1])) := by rw [← hH6, upd_same]
          have pa6 := (hp.o u hm).ext s6
          obtain ⟨dp6, ed6⟩ := id pa6
          refine ⟨_, rfl, .inl ⟨rfl, _, SqL.of hL6⟩, _, rfl, u.1, dp6, _, rfl, ed6, irr ⟨u.1, u.2, rfl, pa6, _, rfl, u.1, dp6, _, rfl, ed6, irr ⟨u.1, u.2, rfl, pa6, _, rfl, _, rfl, _, rfl, _, rfl, irr ⟨x, ps, ms, some i, -1, rfl, nr.ext s6, pl, fun t2 H7 s7 h7 => ⟨(by show 4 ≤ sizeLine; decide), fun T2 nT2 => ?_⟩⟩⟩⟩⟩
          have hL7 := s7 _ _ hL6
          have s7b : Same H7 (upd H7 T2 (.tup [.str u.2.2.2, .str u.2.2.1, .int (wtP ms u.2.1 : Nat), .ref t2])) := fun b o e => (upd_ne (ne_of_none e nT2)).trans e
          refine ⟨l, _, _, rfl, rfl, s7b _ _ hL7, by rw [List.length_append, rf_len]; exact Nat.lt_of_le_of_lt (show _ ≤ 25 by simp; omega) (by decide), ?_⟩
          refine ⟨us ++ [(T1, (u.2.2.1, u.2.2.2, wtP ms u.2.1, un ps.length (some i) 1)), (T2, (u.2.2.2, u.2.2.1, wtP ms u.2.1, un ps.length (some i) (-1)))], _, _, _, rfl, fun b o e => (upd_ne (ne_of_none e nl)).trans (s7b _ _ (s7 _ _ (s6 _ _ e))), ?_, fun q hq => LkAt.put ?_ (s7b _ _ hL7), ?_⟩
          · rw [upd_same]
            simp [rf]
          · rw [show us ++ [(T1, (u.2.2.1, u.2.2.2, wtP ms u.2.1, un ps.length (some i) 1)), (T2, (u.2.2.2, u.2.2.1, wtP ms u.2.1, un ps.length (some i) (-1)))] = (us ++ [(T1, (u.2.2.1, u.2.2.2, wtP ms u.2.1, un ps.length (some i) 1))]) ++ [(T2, (u.2.2.2, u.2.2.1, wtP ms u.2.1, un ps.length (some i) (-1)))] by simp] at hq
            rcases List.mem_append.mp hq with hq | hq
            · exact ((hat6 q hq).ext s7).ext s7b
            · rw [List.mem_singleton.mp hq]
              exact ⟨t2, upd_same, s7b _ _ h7⟩
          · rw [lkF_take hpi, lks, if_pos ⟨hne, hse⟩, ← hsn]
            simp [sn]
      · obtain ⟨q1, q2, q3, q4, q5⟩ := skip _ (Same.refl _) fun z => h1 (by simpa using z.1)
        exact iteF ⟨q1, q2, q3, q4, q5⟩
    · rintro σ H1 ⟨us, o3, o4, o5, rfl, s1, hL, hat, hsn⟩
      rw [rf_len, show pu.length = ps.length by rw [← ep, sn_len], List.take_length] at hsn
      exact ⟨_, rfl, k l us H1 s1 hL hat hsn⟩
end
end RV
namespace RV
open PySem L2 TL
section
variable {P : Program} {w : World} {K : PySem.W.Frag} {mg : Str → Option Value} {base : Heap} {CN CP CM : Addr}
theorem ok_lead {f : Addr} {fd : FuncData} (F : Fun K "_lead_on" "_lead_on" s_lead_on f fd) (hz : mg "zip" = none) (T2 : Blt2 mg) : FnOk P w K mg base CX0 1 f fd ["ways", "start", "end", "many", "amounts"] sp_lead := by
  refine F.ok sc_lead_on (fun vs H Q E h => ?_) (fun cdv A outer s H vs Q E hr h => ?_)
  · obtain ⟨_, _, _, _, _, _, _, _, _, _, _, rfl, _⟩ := h
    rfl
  · obtain ⟨d, t, a, b, m, n, fs, kvs, g, Z, Z', rfl, ed, et, fn, n12, kl, dw0, zk, zn, k⟩ := h
    have dw := dw0.imp zk
    have hu : (A.deeper (PyProof.Rows.envOfC "_lead_on" (defScope s_lead_on) s.heap.objs.size f cdv)).units + 1 < cLine := by have := hr.units; omega
    refine ⟨_, (pss_cons (ps_if (pt_cmp (pc_dnotin hu (pv 1) (pv 0))) (pss_one ps_retN) pss_nil)
      (pss_cons (ps_asg (pe_dget hu (pv 0) (pv 1) (fun _ _ => rfl)) (pg_tup (by rfl) (pgs_cons (pg_name (i := 5) sc_lead_on.nd rfl (Or.inl rfl)) (pgs_cons (pg_name (i := 6) sc_lead_on.nd rfl (Or.inl rfl)) pgs_nil))))
      (pss_one (ps_if (PW.pt (pw_or (pt_cmp (pc_dnotin hu (pv 2) (pv 0))) (pw_or1 (pt_cmpR op_lt (pe_op op_add (pv 5) (pv 3)) (pe_ix ix_tup (pe_dget hu (pv 0) (pv 2) (fun _ _ => rfl)) pe_int (fun _ _ => rfl)) (nomark _))))) (pss_one (ps_dput hu (pv 0) (pv 2) (pe_tup (pa_cons (pe_op op_add (pv 5) (pv 3)) (pa_cons (pe_callTy call_tuple_of (by rfl) T2.b_tuple (by decide +kernel) (pa_cons (pe_lc (own := [("here", 7), ("more", 8)]) (g := gPr K 7 8) (tt := tYes) rfl sc_lead_on.nd (RZ.pi_zipA (by rfl) hz (pa_cons (pv 6) (pa_cons (pv 4) pa_nil))) (blkOk_by (N := sc_lead_on_N) (sc := defScope s_lead_on) (by decide +kernel)) (fun _ _ _ _ _ => pg_tupK (by rfl) (pgs_cons (pg_name (i := 7) sc_lead_on.nd rfl (Or.inl rfl)) (pgs_cons (pg_name (i := 8) sc_lead_on.nd rfl (Or.inl rfl)) pgs_nil))) (fun _ _ _ _ _ => pts_nil) (fun _ _ _ _ _ => (pe_op op_add (pv 7) (pv 8)))) pa_nil)) pa_nil))) (by rfl))) pss_nil)))), ?_⟩
    have ga : ∀ (x : Str) (H' : Hp), H' d = some (.dK kvs) → DGet H' d (.str x) (valV kvs (.inr x)) := fun x H' e => DGet.k (k := Sum.inr x) e
    cases hga : g a with
    | none =>
      refine ⟨_, rfl, _, rfl, d, _, rfl, ga a H ed, ?_⟩
      rw [dw.z a hga]
      exact ⟨_, rfl, iteT (k kvs H (fun _ _ _ e => e) ed (Nat.le_succ _) (by rw [ld_n (e := (a, b, m)) hga]; exact dw))⟩
    | some da =>
      obtain ⟨ea, ta, fa, va, ha1, ha2, ha3, ha4⟩ := dw0.s a da hga
      refine ⟨_, rfl, _, rfl, d, _, rfl, ga a H ed, ?_⟩
      rw [va]
      refine ⟨_, rfl, iteF ⟨_, rfl, _, rfl, d, _, rfl, by rw [← va]; exact ga a H ed, ?_⟩⟩
      refine ⟨ea, _, rfl, SqT.of ha1, rfl, _, _, rfl, _, _, rfl, rfl, ?_⟩
      dsimp only
      unfold tIfS
      have hless : (∃ db, g b = some db ∧ ¬ da + m < db) ∨ (g b = none ∨ ∃ d', g b = some d' ∧ da + m < d') := by
        cases hgb : g b with
        | none => exact .inr (.inl rfl)
        | some db =>
          by_cases c : da + m < db
          · exact .inr (.inr ⟨db, rfl, c⟩)
          · exact .inl ⟨db, rfl, c⟩
      refine tst_of (fun v H' => H' = H ∧ ((v = true ∧ (g b = none ∨ ∃ d', g b = some d' ∧ da + m < d')) ∨ (v = false ∧ ∃ db, g b = some db ∧ ¬ da + m < db))) ?ret ?tst
      case tst =>
        intro Q' kq
        cases hgb : g b with
        | none =>
          refine ⟨_, rfl, _, rfl, d, _, rfl, ga b H ed, ?_⟩
          rw [dw.z b hgb]
          exact ⟨_, rfl, iteT (kq _ _ ⟨rfl, .inl ⟨rfl, .inl hgb⟩⟩)⟩
        | some db =>
          obtain ⟨eb, tb, fb, vb, hb1, hb2, hb3, _⟩ := dw.s b db hgb
          refine ⟨_, rfl, _, rfl, d, _, rfl, ga b H ed, ?_⟩
          rw [vb]
          refine ⟨_, rfl, iteF ?_⟩
          refine ⟨_, rfl, _, rfl, _, _, rfl, rfl, _, rfl, _, rfl, d, _, rfl, by rw [← vb]; exact ga b H ed, eb, _, 0, _, rfl, rfl, SqT.of hb1, rfl, ?_⟩
          refine ⟨_, _, rfl, rfl, _, rfl, ?_⟩
          refine kq _ _ ⟨rfl, ?_⟩
          by_cases c : da + m < db
          · exact .inl ⟨decide_eq_true (by omega), .inr ⟨db, hgb, c⟩⟩
          · exact .inr ⟨decide_eq_false (by omega), db, hgb, c⟩
      case ret =>
        rintro v H' ⟨rfl, hv⟩
        rcases hv with ⟨rfl, hv⟩ | ⟨rfl, db, hgb, c⟩
        · refine iteT ?_
          refine ⟨_, rfl, _, rfl, _, _, rfl, rfl, _, rfl, _, rfl, ta, t, fa.map V.int, fs.map V.int, rfl, .inr ⟨SqT.of ha2, SqT.of et, ?_⟩⟩
          refine fun D nD => L2.lc_it (walk_zipT (K := K) (xs := fa.map V.int) (ys := fs.map V.int) (n := n) (by simp [ha3, fn])) (fun i H2 => Same H' H2 ∧ H2 D = some (.lst (((List.zipWith (· + ·) fa fs).take i).map V.int))) ⟨fun b o e => (upd_ne (ne_of_none e nD)).trans e, upd_same⟩ (fun i H2 _ z => ⟨(SqT.of ha2).ext z.1, (SqT.of et).ext z.1⟩) (fun i x Ha Hb hi hv y => ?_) (fun H2 hv => ?_)
          · obtain ⟨s1, eD⟩ := hv
            obtain ⟨T, p, q, rfl, nT, rfl, hp, hq⟩ := y
            dsimp only at hp hq
            have hi1 : i < fa.length := by omega
            have hi2 : i < fs.length := by omega
            rw [List.getElem?_map, List.getElem?_eq_getElem hi1] at hp
            rw [List.getElem?_map, List.getElem?_eq_getElem hi2] at hq
            obtain rfl : V.int fa[i] = p := Option.some.inj hp
            obtain rfl : V.int fs[i] = q := Option.some.inj hq
            have eT : upd Ha T (.tup [V.int fa[i], V.int fs[i]]) D = some (.lst (((List.zipWith (· + ·) fa fs).take i).map V.int)) := by rw [upd_ne (ne_of_none eD nT)]; exact eD
            have sT : Same H' (upd Ha T (.tup [V.int fa[i], V.int fs[i]])) := fun b o e => (upd_ne (ne_of_none (s1 _ _ e) nT)).trans (s1 _ _ e)
            refine ⟨T, _, rfl, SqT.of upd_same, rfl, _, _, rfl, _, _, rfl, ⟨rfl, ⟨rfl, ?_⟩⟩⟩
            have e0 : ∀ (σ : L2.St) (H : Hp) (R : Bool → Hp → Prop), R true H → tYes σ H R := fun _ _ _ r => r
            refine e0 _ _ _ ?_
            simp only [↓reduceIte]
            refine ⟨_, rfl, _, rfl, _, _, rfl, rfl, _, eT, ?_, fun b o e => (upd_ne (ne_of_none e nD)).trans (sT _ _ e), ?_⟩
            · rw [List.length_map]
              exact Nat.lt_of_le_of_lt (List.length_take_le _ _) (Nat.lt_of_lt_of_le (show i < 13 by omega) (by decide))
            · rw [upd_same, List.take_add_one, List.getElem?_zipWith, List.getElem?_eq_getElem hi1, List.getElem?_eq_getElem hi2, List.map_append]
              rfl
          · obtain ⟨s1, eD⟩ := hv
            have zl : (List.zipWith (· + ·) fa fs).length = n := by rw [List.length_zipWith, ha3, fn, Nat.min_self]
            rw [← zl, List.take_length] at eD
            refine ⟨D, _, rfl, .inl ⟨SqL.of eD, fun l nl => ⟨(by show 2 ≤ sizeLine; decide), fun e2 ne2 => ?_⟩⟩⟩
            have s2 : Same H' (upd (upd H2 l (.tup ((List.zipWith (· + ·) fa fs).map V.int))) e2 (.tup [.int ((da : Int) + (m : Int)), .ref l])) := fun b o e => (upd_ne (ne_of_none ((upd_ne (ne_of_none (s1 _ _ e) nl)).trans (s1 _ _ e)) ne2)).trans ((upd_ne (ne_of_none (s1 _ _ e) nl)).trans (s1 _ _ e))
            refine ⟨_, rfl, _, rfl, d, _, rfl, DPut.k (k := Sum.inr b) (s2 _ _ ed) ?_, ?_⟩
            · exact Nat.lt_of_le_of_lt kl (by decide)
            have dw2 := dw.ext s2
            have dw3 : DW n Z' _ _ (fun x => if x = b then some (da + m) else g x) := dw2.put (e := e2) (t := l) (b := b) (c := da + m) (by rw [upd_same, Int.natCast_add]) (by rw [upd_ne (ne_of_none upd_same ne2)]; exact upd_same) zl (zn da fa ha3 hga ha4 hv)
            have s3 : ∀ p o, p ≠ d → upd (upd H2 l (.tup ((List.zipWith (· + ·) fa fs).map V.int))) e2 (.tup [.int ((da : Int) + (m : Int)), .ref l]) p = some o → upd (upd (upd H2 l (.tup ((List.zipWith (· + ·) fa fs).map V.int))) e2 (.tup [.int ((da : Int) + (m : Int)), .ref l])) d (.dK (putK kvs (.inr b) (.ref e2))) p = some o := fun p o hp e => (upd_ne hp).trans e
            refine k (putK kvs (.inr b) (.ref e2)) _ (fun p o hp e => s3 p o hp (s2 _ _ e)) upd_same (length_putK _ _ _) ?_
            rw [ld_p (e := (a, b, m)) hga hv]
            exact dw3.keep ⟨kvs, s2 _ _ ed⟩ s3
        · exact iteF (k kvs H' (fun _ _ _ e => e) ed (Nat.le_succ _) (by rw [ld_k (e := (a, b, m)) hga hgb c]; exact dw))
end
end RV
namespace RV
open PySem L2 TL
/-- all but the dict stays -/
def SB (d : Addr) (H H' : Hp) : Prop := ∀ b o, b ≠ d → H b = some o → H' b = some o
theorem SB.trans {d : Addr} {H H1 H2 : Hp} (h : SB d H H1) (h' : SB d H1 H2) : SB d H H2 := fun b o n e => h' b o n (h b o n e)
theorem un_len (n : Nat) (o : Option Nat) (c : Int) : (un n o c).length = n := by rw [un, List.length_map, List.length_range]
theorem lkF_fl (n : Nat) (ms : List M3) (y : Str) : ∀ (s : Nat) (ps : List P3), ∀ l ∈ lkF n ms y s ps, l.2.2.2.length = n
  | _, [], l, h => nomatch h
  | s, p :: ps, l, h => by
    rw [lkF] at h
    rcases List.mem_append.mp h with h | h
    · unfold lks at h
      split at h
      · rcases List.mem_cons.mp h with rfl | h
        · exact un_len _ _ _
        · obtain rfl := List.mem_singleton.mp h
          exact un_len _ _ _
      · exact nomatch h
    · exact lkF_fl n ms y (s + 1) ps l h
theorem LkAt.sb {H H' : Hp} {a d : Addr} {l : L4} {q : List (Key × V)} (h : LkAt H a l) (e : H d = some (.dK q)) (s : SB d H H') : LkAt H' a l := by
  obtain ⟨t, h1, h2⟩ := h
  exact ⟨t, s _ _ (fun z => by rw [z, e] at h1; cases h1) h1, s _ _ (fun z => by rw [z, e] at h2; cases h2) h2⟩
section
variable {P : Program} {w : World} {K : PySem.W.Frag} {mg : Str → Option Value} {base : Heap} {CN CP CM : Addr}
theorem ok_ways {f : Addr} {fd : FuncData} (F : Fun K "shortest_ways" "shortest_ways" s_shortest_ways f fd) (h_gpipe : Mtd P w K mg base CN "pipe" 4 ["self", "name"] (Irr (sp_gpipe K CN CP CM))) (h_np : Prp P w K mg base CN "pipes" 1 (Irr (sp_npi CN))) (h_pe : Prp P w K mg base CP "end" 1 (Irr (sp_pe CP)))
    (h_amt : Fn P w K mg base "_amounts" 3 ["net", "index", "amount"] (Irr (sp_amt K CN CP CM))) (h_lnks : Fn P w K mg base "_links" 5 ["net", "pipe"] (Irr (sp_lnks K CN CP CM))) (h_lead : Fn P w K mg base "_lead_on" 1 ["ways", "start", "end", "many", "amounts"] (Irr sp_lead)) : FnOk P w K mg base CX0 6 f fd ["net", "pipe"] (sp_ways K CN CP CM) := by
  refine F.ok sc_shortest_ways (fun vs H Q E h => ?_) (fun cdv A outer s H vs Q E hr h => ?_)
  · obtain ⟨_, _, _, _, _, rfl, _⟩ := h
    rfl
  · obtain ⟨x, ps, ms, y, Z, rfl, nr, pl, ml, hy, zo, k⟩ := h
    refine ⟨_, (pss_cons (ps_set (i := 2) sc_shortest_ways.nd rfl (Or.inl rfl) (pe_disp (pps_cons (pe_propN h_pe (hr.mono (by decide)) (pe_mtd h_gpipe (hr.mono (by decide)) (pv 0) (pa_cons (pv 1) pa_nil))) (pe_tup (pa_cons pe_int (pa_cons (pe_fn h_amt (hr.mono (by decide)) (pa_cons (pv 0) (pa_cons pe_non (pa_cons pe_int pa_nil)))) pa_nil))) pps_nil) rfl rfl (by simp) (by simp)))
      (pss_cons (ps_set (i := 3) sc_shortest_ways.nd rfl (Or.inl rfl) (pe_fn h_lnks (hr.mono (by decide)) (pa_cons (pv 0) (pa_cons (pv 1) pa_nil))))
      (pss_cons (ps_for PassesOwn.never rfl (pi_tup (pe_propN h_np (hr.mono (by decide)) (pv 0))) (pg_name (i := 4) sc_shortest_ways.nd rfl (Or.inl rfl)) (pss_one (ps_for PassesOwn.never rfl (pi_list (pv 3)) (pg_tup (by rfl) (pgs_cons (pg_name (i := 5) sc_shortest_ways.nd rfl (Or.inl rfl)) (pgs_cons (pg_name (i := 6) sc_shortest_ways.nd rfl (Or.inl rfl)) (pgs_cons (pg_name (i := 7) sc_shortest_ways.nd rfl (Or.inl rfl)) (pgs_cons (pg_name (i := 8) sc_shortest_ways.nd rfl (Or.inl rfl)) pgs_nil))))) (pss_one (ps_expr (pe_fn h_lead (hr.mono (by decide)) (pa_cons (pv 2) (pa_cons (pv 5) (pa_cons (pv 6) (pa_cons (pv 7) (pa_cons (pv 8) pa_nil)))))))))))
      (pss_one (ps_ret (pv 2)))))), ?_⟩
    obtain ⟨dx, tp, tm, pu, mu, ex, hp, hm, ep, em⟩ := id nr.ex
    have pul : pu.length = ps.length := by rw [← ep, sn_len]
    intro d nd
    have s0 : Same H (upd H d (.dK [])) := fun b o e => (upd_ne (ne_of_none e nd)).trans e
    refine ⟨_, rfl, x, dx, _, rfl, s0 _ _ ex, rfl, _, rfl, irr ⟨x, ps, ms, y, rfl, nr.ext s0, pl, hy, fun a i q H1 hi hq s1 pa => ?_⟩⟩
    obtain ⟨dp, edp⟩ := id pa
    refine ⟨a, dp, _, rfl, edp, irr ⟨a, q, rfl, pa, ?_⟩⟩
    have s1b : Same H H1 := s0.trans s1
    refine ⟨_, rfl, irr ⟨x, ps, ms, none, 0, rfl, nr.ext s1b, pl, fun t1 H2 s2 h2 => ⟨(by show 2 ≤ sizeLine; decide), fun T1 nT1 => ?_⟩⟩⟩
    have s2b : Same H2 (upd H2 T1 (.tup [.int 0, .ref t1])) := fun b o e => (upd_ne (ne_of_none e nT1)).trans e
    have ed : upd H2 T1 (.tup [.int 0, .ref t1]) d = some (.dK []) := s2b _ _ (s2 _ _ (s1 _ _ upd_same))
    refine ⟨ed, [(.inr q.2.2, .ref T1)], rfl, by simp, ?_⟩
    dsimp only [gName]
    have dw0 : DW ps.length (Z (g0 q.2.2)) (upd H2 T1 (.tup [.int 0, .ref t1])) (putK [] (.inr q.2.2) (.ref T1)) (g0 q.2.2) := DW.new upd_same (s2b _ _ h2) (un_len _ _ _) (zo.st i q hi hq)
    have sb3 : SB d (upd H2 T1 (.tup [.int 0, .ref t1])) (upd (upd H2 T1 (.tup [.int 0, .ref t1])) d (.dK (putK [] (.inr q.2.2) (.ref T1)))) := fun b o n e => (upd_ne n).trans e
    have dw1 := dw0.keep ⟨_, ed⟩ sb3
    have s3 : Same H (upd (upd H2 T1 (.tup [.int 0, .ref t1])) d (.dK (putK [] (.inr q.2.2) (.ref T1)))) := fun b o e => sb3 _ _ (ne_of_none e nd) (s2b _ _ (s2 _ _ (s1b _ _ e)))
    have ed3 : upd (upd H2 T1 (.tup [.int 0, .ref t1])) d (.dK (putK [] (.inr q.2.2) (.ref T1))) d = some (.dK (putK [] (.inr q.2.2) (.ref T1))) := upd_same
    rw [show mergeK [] [((Sum.inr q.2.2 : Key), V.ref T1)] = putK [] (.inr q.2.2) (.ref T1) from rfl]
    clear sb3 dw0 ed
    revert dw1 s3 ed3
    generalize upd (upd H2 T1 (.tup [.int 0, .ref t1])) d (.dK (putK [] (.inr q.2.2) (.ref T1))) = H3
    intro dw1 s3 ed3
    refine ⟨_, rfl, _, rfl, irr ⟨x, ps, ms, y, rfl, nr.ext s3, pl, ml, fun ll us H4 s4 eL hat hsn => ?_⟩⟩
    dsimp only [gName]
    have ed4 := s4 _ _ ed3
    have dw4 := dw1.ext s4
    have s4b : Same H H4 := s3.trans s4
    have edx := s4b _ _ ex
    have lus : us.length ≤ 24 := by
      rw [← sn_len, hsn]
      have h1 := lkF_len ps.length ms y 0 ps
      unfold lkA
      omega
    have hL : (lkA ps ms y).map lk3 = us.map fun u => lk3 u.2 := by rw [← hsn, sn, List.map_map]; rfl
    have sbx : ∀ {H'}, SB d H4 H' → Same H H' := fun z b o e => z _ _ (ne_of_none e nd) (s4b _ _ e)
    have nl : ll ≠ d := fun z => by rw [z, ed4] at eL; cases eL
    refine ⟨_, rfl, x, dx, _, rfl, edx, irr ⟨x, dx, tp, tm, rfl, edx, tp, rfl, ⟨_, hp.t.ext s4b⟩, for_tup (xs := rf pu) (fun j σ H' => ∃ (kvs : List (Key × V)) (o4 o5 o6 o7 o8 : Option V), σ = [some (.ref x), some (.str y), some (.ref d), some (.ref ll), o4, o5, o6, o7, o8] ∧ SB d H4 H' ∧ H' d = some (.dK kvs) ∧ kvs.length ≤ 1 + 24 * j ∧ DW ps.length (Z (turns ((lkA ps ms y).map lk3) j (g0 q.2.2))) H' kvs (turns ((lkA ps ms y).map lk3) j (g0 q.2.2))) ⟨_, none, none, none, none, none, rfl, fun _ _ _ e => e, ed4, by simp [putK], dw4⟩ ?_ ?_ ?_⟩⟩
    · rintro j σ H5 _ ⟨_, _, _, _, _, _, _, sb, _⟩
      exact hp.t.ext (sbx sb)
    · rintro j v σ H5 hv ⟨kvs, o4, o5, o6, o7, o8, rfl, sb5, ed5, kl5, dw5⟩
      have hj : j < 12 := by
        have := (List.getElem?_eq_some_iff.mp hv).1
        rw [rf_len] at this
        omega
      dsimp only [gName]
      refine ⟨_, rfl, ll, rfl, ⟨_, SqL.of (sb5 _ _ nl eL)⟩, for_list (xs := rf us) (fun i σ H' => ∃ (kvs : List (Key × V)) (o5 o6 o7 o8 : Option V), σ = [some (.ref x), some (.str y), some (.ref d), some (.ref ll), some v, o5, o6, o7, o8] ∧ SB d H4 H' ∧ H' d = some (.dK kvs) ∧ kvs.length ≤ 1 + 24 * j + i ∧ DW ps.length (Z (((us.take i).map fun u => lk3 u.2).foldl ld (turns ((lkA ps ms y).map lk3) j (g0 q.2.2)))) H' kvs (((us.take i).map fun u => lk3 u.2).foldl ld (turns ((lkA ps ms y).map lk3) j (g0 q.2.2)))) ⟨kvs, o5, o6, o7, o8, rfl, sb5, ed5, by omega, dw5⟩ ?_ ?_ ?_⟩
      · rintro i σ H6 _ ⟨_, _, _, _, _, _, sb, _⟩
        exact SqL.of (sb _ _ nl eL)
      · rintro i v' σ H6 hv' ⟨kvs6, p5, p6, p7, p8, rfl, sb6, ed6, kl6, dw6⟩
        obtain ⟨u, hu, rfl⟩ := rf_get hv'
        have hlt := (List.getElem?_eq_some_iff.mp hu).1
        obtain ⟨t, g1, g2⟩ := (hat u (List.mem_of_getElem? hu)).sb ed4 sb6
        refine ⟨u.1, _, rfl, SqT.of g1, rfl, _, _, rfl, _, _, rfl, _, _, rfl, _, _, rfl, rfl, ?_⟩
        have um : u.2 ∈ lkA ps ms y := by rw [← hsn]; exact List.mem_map.mpr ⟨u, List.mem_of_getElem? hu, rfl⟩
        have ufl : u.2.2.2.2.length = ps.length := lkF_fl _ ms y 0 ps u.2 (by rw [← show sn us = lkF ps.length ms y 0 ps from hsn]; exact List.mem_map.mpr ⟨u, List.mem_of_getElem? hu, rfl⟩)
        refine ⟨_, rfl, _, rfl, _, rfl, _, rfl, _, rfl, irr ⟨d, t, u.2.1, u.2.2.1, u.2.2.2.1, ps.length, u.2.2.2.2, kvs6, _, _, Z (ld _ (lk3 u.2)), rfl, ed6, g2, ufl, pl, by omega, dw6, fun x d f => zo.ke u.2 um _ x d f, fun d f hf => zo.ne u.2 um _ d f hf, fun kvs7 H7 s7 ed7 kl7 dw7 => ?_⟩⟩
        refine ⟨kvs7, _, _, _, _, rfl, sb6.trans s7, ed7, by omega, ?_⟩
        rw [List.take_add_one, hu, List.map_append, List.foldl_append]
        exact dw7
      · rintro σ H6 ⟨kvs6, p5, p6, p7, p8, rfl, sb6, ed6, kl6, dw6⟩
        rw [rf_len] at kl6 dw6
        rw [List.take_length, ← hL] at dw6
        exact ⟨kvs6, _, _, _, _, _, rfl, sb6, ed6, by omega, dw6⟩
    · rintro σ H5 ⟨kvs, o4, o5, o6, o7, o8, rfl, sb5, ed5, kl5, dw5⟩
      rw [rf_len, pul] at dw5
      exact ⟨_, rfl, k i q d kvs H5 hi hq (sbx sb5) ed5 dw5⟩
end
end RV
namespace RV
open PySem L2 TL
theorem find_nd {ps : List P3} {i : Nat} {q : P3} {y : Str} (nd : (ps.map (·.1)).Nodup) (h : ps[i]? = some q) (hq : q.1 = y) : ps.find? (fun p => decide (p.1 = y)) = some q := by
  induction ps generalizing i with
  | nil => simp at h
  | cons p ps ih =>
    rw [List.map_cons, List.nodup_cons] at nd
    rw [List.find?_cons]
    cases i with
    | zero =>
      obtain rfl : p = q := by simpa using h
      rw [decide_eq_true hq]
    | succ i =>
      rw [List.getElem?_cons_succ] at h
      have hne : p.1 ≠ y := fun e => nd.1 (by rw [e, ← hq]; exact List.mem_map.mpr ⟨q, List.mem_of_getElem? h, rfl⟩)
      rw [decide_eq_false hne]
      exact ih nd.2 h
section
variable {P : Program} {w : World} {K : PySem.W.Frag} {mg : Str → Option Value} {base : Heap} {CN CP CM : Addr}
theorem ok_back {f : Addr} {fd : FuncData} (F : Fun K "_way_back" "_way_back" s_way_back f fd) (h_gpipe : Mtd P w K mg base CN "pipe" 4 ["self", "name"] (Irr (sp_gpipe K CN CP CM))) (h_ps : Prp P w K mg base CP "start" 1 (Irr (sp_ps CP)))
    (h_sat : Fn P w K mg base "sealed_at" 4 ["net", "name"] (Irr (sp_sat K CN CP CM))) (h_ways : Fn P w K mg base "shortest_ways" 6 ["net", "pipe"] (Irr (sp_ways K CN CP CM))) : FnOk P w K mg base CX0 7 f fd ["net", "pipe"] (sp_back K CN CP CM) := by
  refine F.ok sc_way_back (fun vs H Q E h => ?_) (fun cdv A outer s H vs Q E hr h => ?_)
  · obtain ⟨_, _, _, _, _, rfl, _⟩ := h
    rfl
  · obtain ⟨x, ps, ms, y, Z, rfl, nr, pl, ml, hy, zo, k⟩ := h
    have hu : (A.deeper (PyProof.Rows.envOfC "_way_back" (defScope s_way_back) s.heap.objs.size f cdv)).units + 1 < cLine := by have := hr.units; omega
    refine ⟨_, (pss_cons (ps_if (pt_truth (pe_fn h_sat (hr.mono (by decide)) (pa_cons (pv 0) (pa_cons (pv 1) pa_nil))) (by intro _; rfl)) (pss_one (ps_ret pe_non)) pss_nil)
      (pss_one (ps_ret (pe_dget1 hu (pe_fn h_ways (hr.mono (by decide)) (pa_cons (pv 0) (pa_cons (pv 1) pa_nil))) (pe_propN h_ps (hr.mono (by decide)) (pe_mtd h_gpipe (hr.mono (by decide)) (pv 0) (pa_cons (pv 1) pa_nil))) ⟨by rfl, by rfl, by rfl, by rfl⟩)))), ?_⟩
    have some_pipe : ∃ (i : Nat) (q : P3), ps[i]? = some q ∧ q.1 = y := by
      obtain ⟨q, hq, e⟩ := List.mem_map.mp hy
      obtain ⟨i, hi, ei⟩ := List.mem_iff_getElem.mp hq
      exact ⟨i, q, by rw [List.getElem?_eq_getElem hi, ei], e⟩
    refine ⟨_, rfl, _, rfl, irr ⟨x, ps, ms, y, rfl, nr, ml, fun l2 xs H1 s1 h1 hiff => ?_⟩⟩
    refine ⟨!xs.isEmpty, .inl ⟨xs, SqL.of h1, rfl⟩, ?_⟩
    cases xs with
    | cons v vs =>
      have hne : seP ms y ≠ [] := fun z => nomatch hiff.mpr z
      obtain ⟨i, q, hi, hq⟩ := some_pipe
      refine iteT (k i i q q .non H1 hi hq hi hq s1 ?_)
      rw [if_neg hne]
      rfl
    | nil =>
      have hse := hiff.mp rfl
      have nr1 := nr.ext s1
      refine iteF ⟨_, rfl, _, rfl, irr ⟨x, ps, ms, y, Z, rfl, nr1, pl, ml, hy, zo, fun i q d kvs H2 hi hq s2 ed dw => ?_⟩⟩
      have nr2 := nr1.ext s2
      obtain ⟨dx, tp, tm, pu, mu, ex, hp, hm, ep, em⟩ := id nr2.ex
      refine ⟨d, rfl, .inl ⟨_, .inl ed⟩, _, rfl, x, dx, _, rfl, ex, rfl, _, rfl, irr ⟨x, ps, ms, y, rfl, nr2, pl, hy, fun a j r H3 hj hr s3 pa => ?_⟩⟩
      obtain ⟨dp, edp⟩ := id pa
      refine ⟨a, dp, _, rfl, edp, irr ⟨a, r, rfl, pa, _, DGet.k (k := Sum.inr r.2.1) (s3 _ _ ed), ?_⟩⟩
      have dw3 := dw.ext s3
      refine k i j q r _ H3 hi hq hj hr ((s1.trans s2).trans s3) ?_
      rw [if_pos hse]
      cases hg : turns ((lkA ps ms y).map lk3) ps.length (g0 q.2.2) r.2.1 with
      | none => rw [dw3.z _ hg]; rfl
      | some c =>
        obtain ⟨e, t, fs, h1, h2, h3, h4, h5⟩ := dw3.s _ _ hg
        rw [h1]
        exact ⟨e, t, fs, rfl, h2, h3, h4, h5⟩
theorem ok_stren {f : Addr} {fd : FuncData} (F : Fun K "strength" "strength" s_strength f fd) (T : Blt mg)
    (h_chkn : Fn P w K mg base "check_net" 1 ["net"] (Irr (sp_chkn K CN CP CM))) (h_chkp : Fn P w K mg base "check_pipe" 5 ["net", "pipe"] (Irr (sp_chkp K CN CP CM))) (h_back : Fn P w K mg base "_way_back" 7 ["net", "pipe"] (Irr (sp_back K CN CP CM))) (h_mat : Fn P w K mg base "meters_at" 3 ["net", "name"] (Irr (sp_mat K CN CP CM))) : FnOk P w K mg base CX0 8 f fd ["net", "pipe"] (sp_stren K CN CP CM) := by
  refine F.ok sc_strength (fun vs H Q E h => ?_) (fun cdv A outer s H vs Q E hr h => ?_)
  · obtain ⟨_, _, _, _, rfl, _⟩ := h
    rfl
  · obtain ⟨x, ps, ms, y, rfl, nr, po, ml, hy, k⟩ := h
    refine ⟨_, (pss_cons (ps_expr (pe_fn h_chkn (hr.mono (by decide)) (pa_cons (pv 0) pa_nil)))
      (pss_cons (ps_expr (pe_fn h_chkp (hr.mono (by decide)) (pa_cons (pv 0) (pa_cons (pv 1) pa_nil))))
      (pss_cons (ps_set (i := 2) sc_strength.nd rfl (Or.inl rfl) (pe_fn h_back (hr.mono (by decide)) (pa_cons (pv 0) (pa_cons (pv 1) pa_nil))))
      (pss_one (ps_ret (pe_ifExp (pt_cmpR op_isN (pv 2) pe_non (nomark _)) pe_non (pe_op op_add (pe_ix ix_tup (pv 2) pe_int (fun _ _ => rfl)) (pe_callB call_len_seq (by rfl) T.b_len (by decide +kernel) (pa_cons (pe_fn h_mat (hr.mono (by decide)) (pa_cons (pv 0) (pa_cons (pv 1) pa_nil))) pa_nil))))))))), ?_⟩
    have pl := po.ln
    refine ⟨_, rfl, irr ⟨x, ps, ms, rfl, nr, ?_⟩⟩
    refine ⟨_, rfl, _, rfl, irr ⟨x, ps, ms, y, rfl, nr, pl, hy, fun H1 s1 => ?_⟩⟩
    refine ⟨_, rfl, _, rfl, irr ⟨x, ps, ms, y, _, rfl, nr.ext s1, pl, ml, hy, ZOk.triv _ _ _, fun i j q r v H2 hi hq hj hr s2 hw => ?_⟩⟩
    dsimp only [gName]
    have s2b := s1.trans s2
    have nr2 := nr.ext s2b
    have efq := find_nd po.nd hi hq
    obtain rfl : q = r := Option.some.inj (efq.symm.trans (find_nd po.nd hj hr))
    have eS : strP ps ms y = (if seP ms y = [] then turns ((lkA ps ms y).map lk3) ps.length (g0 q.2.2) q.2.1 else none).map (· + wtP ms y) := by
      rw [strP, efq]
      dsimp only
      split
      · rfl
      · rfl
    cases hW : (if seP ms y = [] then turns ((lkA ps ms y).map lk3) ps.length (g0 q.2.2) q.2.1 else none) with
    | none =>
      rw [hW] at hw eS
      obtain rfl : v = .non := hw
      refine ⟨_, rfl, rfl, _, rfl, iteT ?_⟩
      have := k H2 s2b
      rw [eS] at this
      exact this
    | some c =>
      rw [hW] at hw eS
      obtain ⟨e, t, fs, rfl, he, _⟩ := hw
      refine ⟨_, rfl, rfl, _, rfl, iteF ⟨_, rfl, e, _, 0, _, rfl, rfl, SqT.of he, rfl, _, rfl, _, rfl, irr ⟨x, ps, ms, y, rfl, nr2, ml, fun l mus H3 s3 h3 hm3 em3 => ?_⟩⟩⟩
      have emany : (rf mus).length = wtP ms y := by rw [rf_len, wtP, ← em3, sn_len]
      refine ⟨l, _, rfl, .inl (SqL.of h3), ?_⟩
      rw [emany]
      refine ⟨_, _, rfl, rfl, ?_⟩
      have := k H3 (s2b.trans s3)
      rw [eS] at this
      exact this
end
end RV
namespace RV
open PySem L2 TL
section
variable {P : Program} {w : World} {K : PySem.W.Frag} {mg : Str → Option Value} {base : Heap} {CN CP CM : Addr}
theorem ok_is_number {f : Addr} {fd : FuncData} (F : Fun K "is_number" "is_number" s_is_number f fd) (T : Blt mg) (T2 : Blt2 mg) : FnOk P w K mg base CX0 1 f fd ["value"] (sp_is_number K) := by
  refine F.ok sc_is_number (fun vs H Q E h => ?_) (fun cdv A outer s H vs Q E hr h => ?_)
  · obtain ⟨_, rfl, _⟩ := h
    rfl
  · obtain ⟨v, rfl, k⟩ := h
    refine ⟨_, (pss_one (ps_ret (pe_and (pe_callB call_isi (by rfl) T.b_isinstance (by decide +kernel) (pa_cons (pv 0) (pa_cons (pe_bltn (v := .ty "int") (by rfl) T.b_int (by decide +kernel) rfl) pa_nil))) (pe_one (pe_not (pe_callB call_isi (by rfl) T.b_isinstance (by decide +kernel) (pa_cons (pv 0) (pa_cons (pe_bltn (v := .ty "bool") (by rfl) T2.b_bool (by decide +kernel) rfl) pa_nil)))))))), ?_⟩
    rcases k with ⟨z, rfl, k⟩ | ⟨b, rfl, k⟩ | ⟨t, ty, kt, k⟩
    · refine ⟨_, rfl, _, _, .type "int", .type "int", true, rfl, .ty _, .base (.int z), kit_ty (by decide +kernel), true, rfl, ?_⟩
      exact iteT ⟨_, rfl, _, _, .type "int", .type "bool", false, rfl, .ty _, .base (.int z), kit_ty (by decide +kernel), false, rfl, k⟩
    · refine ⟨_, rfl, _, _, .type "bool", .type "int", true, rfl, .ty _, .base (.bl b), kit_ty (by decide +kernel), true, rfl, ?_⟩
      exact iteT ⟨_, rfl, _, _, .type "bool", .type "bool", true, rfl, .ty _, .base (.bl b), kit_ty (by decide +kernel), true, rfl, k⟩
    · refine ⟨_, rfl, _, _, t, .type "int", false, rfl, .ty _, ty, kt, false, rfl, ?_⟩
      exact iteF k
end
end RV
namespace RV
open PySem L2 TL
section
variable {P : Program} {w : World} {K : PySem.W.Frag} {mg : Str → Option Value} {base : Heap} {CN CP CM : Addr}
theorem ok_isb {f : Addr} {fd : FuncData} (F : Fun K "is_bound" "is_bound" s_is_bound f fd) (c_most : ∃ u, mg "MOST_FAULTS" = some u ∧ RelV (.int 3) u) (h_num : Fn P w K mg base "is_number" 1 ["value"] (Irr (sp_is_number K))) : FnOk P w K mg base CX0 2 f fd ["value"] sp_isb := by
  refine F.ok sc_is_bound (fun vs H Q E h => ?_) (fun cdv A outer s H vs Q E hr h => ?_)
  · obtain ⟨_, rfl, _⟩ := h
    rfl
  · obtain ⟨c, rfl, c0, c3, k⟩ := h
    refine ⟨_, (pss_one (ps_ret (pe_and (pe_fn h_num (hr.mono (by decide)) (pa_cons (pv 0) pa_nil)) (pe_one (pe_chain op_le op_le pe_int (pv 0) (pe_gI c_most)))))), ?_⟩
    refine ⟨_, rfl, irr ⟨.int c, rfl, .inl ⟨c, rfl, true, rfl, iteT ⟨_, rfl, _, _, rfl, rfl, true, by dsimp only; rw [decide_eq_true c0], iteT ⟨_, _, rfl, rfl, ?_⟩⟩⟩⟩⟩
    dsimp only
    rw [decide_eq_true c3]
    exact k
theorem ok_arf {f : Addr} {fd : FuncData} (F : Fun K "are_faults" "are_faults" s_are_faults f fd) (T : Blt mg) (T2 : Blt2 mg) (h_isb : Fn P w K mg base "is_bound" 2 ["value"] (Irr sp_isb)) : FnOk P w K mg base CX0 3 f fd ["value"] (sp_arf K) := by
  refine F.ok sc_are_faults (fun vs H Q E h => ?_) (fun cdv A outer s H vs Q E hr h => ?_)
  · obtain ⟨_, _, _, _, rfl, _⟩ := h
    rfl
  · obtain ⟨t, a, b, c, rfl, ht, fo, k⟩ := h
    refine ⟨_, (pss_cons (ps_if (PW.pt (pw_or (pt_not (pt_val (pe_callB call_isi (by rfl) T.b_isinstance (by decide +kernel) (pa_cons (pv 0) (pa_cons (pe_bltn (v := .ty "tuple") (by rfl) T2.b_tuple (by decide +kernel) rfl) pa_nil))))) (pw_or1 (pt_cmpR op_ne (pe_callB call_len_seq (by rfl) T.b_len (by decide +kernel) (pa_cons (pv 0) pa_nil)) pe_int (nomark _))))) (pss_one (ps_ret pe_bl)) pss_nil)
      (pss_one (ps_ret (pe_and (pe_callB (cr_all rfl) (by rfl) T.b_all (by decide +kernel) (pa_cons (pe_lc (own := [("number", 1)]) (g := gName 1) (tt := tYes) rfl sc_are_faults.nd (pi_tup (pv 0)) (blkOk_by (N := sc_are_faults_N) (sc := defScope s_are_faults) (by decide +kernel)) (fun _ _ _ _ _ => pg_name (i := 1) sc_are_faults.nd rfl (Or.inl rfl)) (fun _ _ _ _ _ => pts_nil) (fun _ _ _ _ _ => (pe_fn h_isb (hr.mono (by decide)) (pa_cons (pv 1) pa_nil)))) pa_nil)) (pe_one (pe_cmpR op_le (pe_ix ix_tup (pv 0) pe_int (fun _ _ => rfl)) (pe_ix ix_tup (pv 0) pe_int (fun _ _ => rfl)) (nomark _))))))), ?_⟩
    obtain ⟨h0, h1, h2, h3, h4⟩ := fo
    refine ⟨_, rfl, _, _, .type "tuple", .type "tuple", true, rfl, .ty _, tyx_tup ht, kit_ty (by decide +kernel), true, rfl, iteF ?_⟩
    refine ⟨_, rfl, t, _, rfl, .inr ht, rfl, _, rfl, iteF ?_⟩
    refine ⟨_, rfl, t, rfl, ⟨_, ht⟩, fun D nD => lc_to (xs := [.int a, .int b, .int c]) ([true, true, true].map V.bl) rfl walk_tup nD (by show 3 ≤ 1000; decide) (fun H' s' => ht.ext s') (fun _ => rfl) (fun j x y hx hy H2 s2 R kR => ?_) fun H2 s2 hD => ?_⟩
    · have hm := List.mem_of_getElem? hx
      have ey : y = .bl true := by
        have := List.mem_of_getElem? hy
        simpa using this
      subst ey
      simp only [List.mem_cons, List.not_mem_nil, or_false] at hm
      rcases hm with rfl | rfl | rfl
      · exact ⟨_, rfl, irr ⟨a, rfl, h0, by omega, kR H2 (Same.refl _)⟩⟩
      · exact ⟨_, rfl, irr ⟨b, rfl, by omega, h2, kR H2 (Same.refl _)⟩⟩
      · exact ⟨_, rfl, irr ⟨c, rfl, h3, h4, kR H2 (Same.refl _)⟩⟩
    · have ht2 := ht.ext s2
      refine ⟨D, _, rfl, SqL.of hD, true, rfl, iteT ⟨_, rfl, t, _, 0, .int a, rfl, rfl, ht2, rfl, _, rfl, t, _, 1, .int b, rfl, rfl, ht2, rfl, _, _, rfl, rfl, ?_⟩⟩
      dsimp only
      rw [decide_eq_true h1]
      exact k H2 s2
theorem ok_chf {f : Addr} {fd : FuncData} (F : Fun K "check_faults" "check_faults" s_check_faults f fd) (h_arf : Fn P w K mg base "are_faults" 3 ["value"] (Irr (sp_arf K))) : FnOk P w K mg base CX0 4 f fd ["faults"] (sp_chf K) := by
  refine F.ok sc_check_faults (fun vs H Q E h => ?_) (fun cdv A outer s H vs Q E hr h => ?_)
  · obtain ⟨_, _, _, _, rfl, _⟩ := h
    rfl
  · obtain ⟨t, a, b, c, rfl, ht, fo, k⟩ := h
    refine ⟨_, (pss_one (ps_if (pt_not (pt_val (pe_fn h_arf (hr.mono (by decide)) (pa_cons (pv 0) pa_nil)))) (pss_one ps_never) pss_nil)), ?_⟩
    exact ⟨_, rfl, irr ⟨t, a, b, c, rfl, ht, fo, fun H1 s1 => ⟨true, rfl, iteF (k H1 s1)⟩⟩⟩
theorem ok_tell {f : Addr} {fd : FuncData} (F : Fun K "can_tell" "can_tell" s_can_tell f fd) (T2 : Blt2 mg)
    (h_chkn : Fn P w K mg base "check_net" 1 ["net"] (Irr (sp_chkn K CN CP CM))) (h_chkp : Fn P w K mg base "check_pipe" 5 ["net", "pipe"] (Irr (sp_chkp K CN CP CM))) (h_chf : Fn P w K mg base "check_faults" 4 ["faults"] (Irr (sp_chf K))) (h_stren : Fn P w K mg base "strength" 8 ["net", "pipe"] (Irr (sp_stren K CN CP CM))) : FnOk P w K mg base CX0 9 f fd ["net", "pipe", "faults"] (sp_tell K CN CP CM) := by
  refine F.ok sc_can_tell (fun vs H Q E h => ?_) (fun cdv A outer s H vs Q E hr h => ?_)
  · obtain ⟨_, _, _, _, _, _, _, _, rfl, _⟩ := h
    rfl
  · obtain ⟨x, t, ps, ms, y, a, b, c, rfl, nr, po, ml, hy, ht, fo, k⟩ := h
    refine ⟨_, (pss_cons (ps_expr (pe_fn h_chkn (hr.mono (by decide)) (pa_cons (pv 0) pa_nil)))
      (pss_cons (ps_expr (pe_fn h_chkp (hr.mono (by decide)) (pa_cons (pv 0) (pa_cons (pv 1) pa_nil))))
      (pss_cons (ps_expr (pe_fn h_chf (hr.mono (by decide)) (pa_cons (pv 2) pa_nil)))
      (pss_cons (ps_set (i := 3) sc_can_tell.nd rfl (Or.inl rfl) (pe_fn h_stren (hr.mono (by decide)) (pa_cons (pv 0) (pa_cons (pv 1) pa_nil))))
      (pss_one (ps_ret (pe_or (pe_cmpR op_isN (pv 3) pe_non (nomark _)) (pe_one (pe_cmpR op_gt (pv 3) (pe_callB (cr_sumT rfl) (by rfl) T2.b_sum (by decide +kernel) (pa_cons (pv 2) pa_nil)) (nomark _)))))))))), ?_⟩
    refine ⟨_, rfl, irr ⟨x, ps, ms, rfl, nr, ?_⟩⟩
    refine ⟨_, rfl, _, rfl, irr ⟨x, ps, ms, y, rfl, nr, po.ln, hy, fun H1 s1 => ?_⟩⟩
    refine ⟨_, rfl, irr ⟨t, a, b, c, rfl, ht.ext s1, fo, fun H2 s2 => ?_⟩⟩
    have s02 := s1.trans s2
    refine ⟨_, rfl, _, rfl, irr ⟨x, ps, ms, y, rfl, nr.ext s02, po, ml, hy, fun H3 s3 => ?_⟩⟩
    dsimp only [gName]
    have s03 := s02.trans s3
    have kk := k H3 s03
    cases ho : strP ps ms y with
    | none =>
      rw [ho] at kk
      exact ⟨_, rfl, rfl, true, rfl, iteT kk⟩
    | some m =>
      rw [ho] at kk
      refine ⟨_, rfl, rfl, false, rfl, iteF ⟨_, rfl, _, rfl, t, [a, b, c], rfl, ht.ext s03, _, _, rfl, rfl, ?_⟩⟩
      have e : ([a, b, c] : List Int).sum = a + b + c := by simp; omega
      rw [e]
      exact kk
end
end RV
namespace RV
open PySem L2 TL
theorem pls_take {ps : List P3} {i : Nat} {p : P3} (h : ps[i]? = some p) : pls (ps.take (i + 1)) = pls (ps.take i) ++ [p.2.1, p.2.2] := by
  rw [List.take_add_one, h, pls, pls, List.flatMap_append]
  rfl
section
variable {P : Program} {w : World} {K : PySem.W.Frag} {mg : Str → Option Value} {base : Heap} {CN CP CM : Addr}
theorem ok_Net_pl {f : Addr} {fd : FuncData} (F : Fun K "places" "Net.places" s_Net_places f fd) (T : Blt mg) (T2 : Blt2 mg) (NC : NClass K mg CN) (h_ps : Prp P w K mg base CP "start" 1 (Irr (sp_ps CP))) (h_pe : Prp P w K mg base CP "end" 1 (Irr (sp_pe CP))) : FnOk P w K mg base CX0 3 f fd ["self"] (sp_plc K CN CP CM) := by
  refine F.ok sc_Net_places (fun vs H Q E h => ?_) (fun cdv A outer s H vs Q E hr h => ?_)
  · obtain ⟨_, _, _, rfl, _⟩ := h
    rfl
  · obtain ⟨x, ps, ms, rfl, nr, pl, k⟩ := h
    refine ⟨_, (pss_one (ps_ret (pe_callTy call_tuple_of (by rfl) T2.b_tuple (by decide +kernel) (pa_cons (pe_callB (cr_sortS rfl) (by rfl) T2.b_sorted (by decide +kernel) (pa_cons
      (pe_set2 (own := [("part", 1), ("place", 2)]) (ws := [2]) (g := gName 1) (g1 := gName 2) (tt := tYes) (tt1 := tYes) rfl sc_Net_places.nd (pi_tup (pe_fld (pv 0) rfl)) (blkOk_by (N := sc_Net_places_N) (sc := defScope s_Net_places) (by decide +kernel)) (by decide) (fun _ _ _ _ _ => pg_name (i := 1) sc_Net_places.nd rfl (Or.inl rfl)) (fun _ _ _ _ _ => pts_nil)
        (fun _ _ _ _ _ => pi_tupK (K := K) (pe_tup (pa_cons (pe_propN h_ps (hr.mono (by decide)) (pv 1)) (pa_cons (pe_propN h_pe (hr.mono (by decide)) (pv 1)) pa_nil)))) (fun _ _ _ _ _ => pg_name (i := 2) sc_Net_places.nd rfl (Or.inl rfl)) (fun _ _ _ _ _ => pts_nil) (fun _ _ _ _ _ => pv 2)) pa_nil)) pa_nil)))), ?_⟩
    obtain ⟨dx, tp, tm, pu, mu, ex, hp, hm, ep, em⟩ := id nr.ex
    have pul : pu.length ≤ 12 := by rw [← sn_len, ep]; exact pl
    refine ⟨_, rfl, x, CN, dx, _, _, rfl, ex, NC.x.cl, NC.n1, netF_p _ _, ?_⟩
    refine ⟨tp, rfl, ⟨_, hp.t⟩, fun D nD => ?_⟩
    have s0 : Same H (upd H D (SetT P w D (fun _ => false) 0)) := fun b o e => (upd_ne (ne_of_none e nD)).trans e
    refine cl_walk (walk_tup (xs := rf pu)) (fun i H' => ∃ (S : Str → Bool) (n : Nat), Sb D (upd H D (SetT P w D (fun _ => false) 0)) H' ∧ H' D = some (SetT P w D S n) ∧ n ≤ 2 * i ∧ ∀ z, S z = true ↔ z ∈ pls (ps.take i)) ⟨_, 0, Sb.refl _, upd_same, Nat.zero_le _, fun z => by simp [pls]⟩ ?_ ?_ ?_
    · rintro i H' _ ⟨_, _, sb, _⟩
      exact hp.t.ext (Sb.same s0 nD sb)
    · rintro i v Ha Hb hi ⟨S, n, sb, hD, hn, hS⟩ ⟨rfl, hx⟩
      rw [rf_len] at hi
      obtain ⟨u, hu, rfl⟩ := rf_get hx
      have hpi : ps[i]? = some u.2 := ep ▸ sn_get hu
      have hm2 := List.mem_of_getElem? hu
      have pa := (hp.o u hm2).ext (Sb.same s0 nD sb)
      obtain ⟨dp, edp⟩ := id pa
      dsimp only [gName]
      have e0 : ∀ (σ : L2.St) (H : Hp) (R : Bool → Hp → Prop), R true H → tYes σ H R := fun _ _ _ r => r
      refine ⟨rfl, e0 _ _ _ ?_⟩
      simp only [↓reduceIte]
      refine ⟨_, rfl, u.1, dp, _, rfl, edp, irr ⟨u.1, u.2, rfl, pa, _, rfl, u.1, dp, _, rfl, edp, irr ⟨u.1, u.2, rfl, pa, ⟨(by show 2 ≤ sizeLine; decide), fun T1 nT1 => ⟨T1, rfl, ⟨_, SqT.of upd_same⟩, ?_⟩⟩⟩⟩⟩
      have s1 : Same Hb (upd Hb T1 (.tup [.str u.2.2.1, .str u.2.2.2])) := fun b o e => (upd_ne (ne_of_none e nT1)).trans e
      have nDT : T1 ≠ D := fun z => by rw [z, hD] at nT1; cases nT1
      refine cl_walk (walk_tup (xs := [V.str u.2.2.1, V.str u.2.2.2])) (fun j H' => ∃ (S : Str → Bool) (n : Nat), Sb D (upd Hb T1 (.tup [.str u.2.2.1, .str u.2.2.2])) H' ∧ H' D = some (SetT P w D S n) ∧ n ≤ 2 * i + j ∧ ∀ z, S z = true ↔ z ∈ pls (ps.take i) ++ [u.2.2.1, u.2.2.2].take j) ⟨S, n, Sb.refl _, s1 _ _ hD, by omega, fun z => by simp [hS]⟩ ?_ ?_ ?_
      · rintro j H' _ ⟨_, _, sb1, _⟩
        exact SqT.of (sb1 _ _ nDT upd_same)
      · rintro j v Hc Hd hj ⟨S1, n1, sb1, hD1, hn1, hS1⟩ ⟨rfl, hv⟩
        have hv2 : ∃ z, v = .str z ∧ [u.2.2.1, u.2.2.2][j]? = some z := by
          match j, hj with
          | 0, _ => exact ⟨_, (Option.some.inj hv).symm, rfl⟩
          | 1, _ => exact ⟨_, (Option.some.inj hv).symm, rfl⟩
        obtain ⟨z, rfl, hz⟩ := hv2
        have hj : j < 2 := hj
        dsimp only [gName]
        refine ⟨rfl, e0 _ _ _ ?_⟩
        simp only [↓reduceIte]
        refine ⟨_, rfl, z, S1, n1, rfl, hD1, by omega, fun n' hn' => ⟨_, n', fun b o ne e => (upd_ne ne).trans (sb1 b o ne e), upd_same, by omega, fun y => ?_⟩⟩
        rw [Bool.or_eq_true, decide_eq_true_eq, hS1 y, List.take_add_one, hz]
        simp only [List.mem_append, Option.toList_some, List.mem_singleton, or_assoc]
      · rintro H' ⟨S1, n1, sb1, hD1, hn1, hS1⟩
        have hn1 : n1 ≤ 2 * i + 2 := hn1
        refine ⟨S1, n1, fun b o ne e => sb1 b o ne (s1 _ _ (sb b o ne e)), hD1, by omega, fun y => ?_⟩
        rw [hS1 y, pls_take hpi]
        rfl
    · rintro H' ⟨S, n, sb, hD, hn, hS⟩
      rw [rf_len] at hn hS
      refine ⟨D, S, n, rfl, hD, fun xs p h1 h2 h3 h4 np => ?_⟩
      refine ⟨p, xs.map V.str, rfl, .inl ⟨SqL.of upd_same, fun l nl => ?_⟩⟩
      have sH := Sb.same s0 nD sb
      have sA : Same H (upd H' p (.lst (xs.map V.str))) := fun b o e => (upd_ne (ne_of_none (sH _ _ e) np)).trans (sH _ _ e)
      refine k l xs _ (fun b o e => (upd_ne (ne_of_none (sA _ _ e) nl)).trans (sA _ _ e)) upd_same ⟨h1, h2, fun z => (h3 z).trans ((hS z).trans ?_)⟩ (by omega)
      rw [show pu.length = ps.length by rw [← ep, sn_len], List.take_length]
end
end RV
namespace RV
open PySem L2 TL
section
variable {P : Program} {w : World} {K : PySem.W.Frag} {mg : Str → Option Value} {base : Heap} {CN CP CM : Addr}
theorem ok_kat {f : Addr} {fd : FuncData} (F : Fun K "_kept_at" "_kept_at" s_kept_at f fd) (hz : mg "zip" = none) (T2 : Blt2 mg) (h_np : Prp P w K mg base CN "pipes" 1 (Irr (sp_npi CN))) (h_ps : Prp P w K mg base CP "start" 1 (Irr (sp_ps CP))) (h_pe : Prp P w K mg base CP "end" 1 (Irr (sp_pe CP))) : FnOk P w K mg base CX0 3 f fd ["net", "flow", "place"] (sp_kat K CN CP CM) := by
  refine F.ok sc_kept_at (fun vs H Q E h => ?_) (fun cdv A outer s H vs Q E hr h => ?_)
  · obtain ⟨_, _, _, _, _, _, rfl, _⟩ := h
    rfl
  · obtain ⟨x, t, ps, ms, fs, z, rfl, nr, pl, ht, fl, k⟩ := h
    refine ⟨_, (pss_cons (ps_set (i := 3) sc_kept_at.nd rfl (Or.inl rfl) (pe_callB (cr_sum rfl) (by rfl) T2.b_sum (by decide +kernel) (pa_cons (pe_lc (own := [("part", 5), ("amount", 6)]) (g := gPr K 5 6) rfl sc_kept_at.nd (RZ.pi_zipA (by rfl) hz (pa_cons (pe_propN h_np (hr.mono (by decide)) (pv 0)) (pa_cons (pv 1) pa_nil))) (blkOk_by (N := sc_kept_at_N) (sc := defScope s_kept_at) (by decide +kernel)) (fun _ _ _ _ _ => pg_tupK (by rfl) (pgs_cons (pg_name (i := 5) sc_kept_at.nd rfl (Or.inl rfl)) (pgs_cons (pg_name (i := 6) sc_kept_at.nd rfl (Or.inl rfl)) pgs_nil))) (fun _ _ _ _ _ => pts_one (pt_cmpR op_eq (pe_propN h_pe (hr.mono (by decide)) (pv 5)) (pv 2) (nomark _))) (fun _ _ _ _ _ => (pv 6))) pa_nil)))
      (pss_cons (ps_set (i := 4) sc_kept_at.nd rfl (Or.inl rfl) (pe_callB (cr_sum rfl) (by rfl) T2.b_sum (by decide +kernel) (pa_cons (pe_lc (own := [("part", 5), ("amount", 6)]) (g := gPr K 5 6) rfl sc_kept_at.nd (RZ.pi_zipA (by rfl) hz (pa_cons (pe_propN h_np (hr.mono (by decide)) (pv 0)) (pa_cons (pv 1) pa_nil))) (blkOk_by (N := sc_kept_at_N) (sc := defScope s_kept_at) (by decide +kernel)) (fun _ _ _ _ _ => pg_tupK (by rfl) (pgs_cons (pg_name (i := 5) sc_kept_at.nd rfl (Or.inl rfl)) (pgs_cons (pg_name (i := 6) sc_kept_at.nd rfl (Or.inl rfl)) pgs_nil))) (fun _ _ _ _ _ => pts_one (pt_cmpR op_eq (pe_propN h_ps (hr.mono (by decide)) (pv 5)) (pv 2) (nomark _))) (fun _ _ _ _ _ => (pv 6))) pa_nil)))
      (pss_one (ps_ret (pe_op op_sub (pv 3) (pv 4)))))), ?_⟩
    obtain ⟨dx, tp, tm, pu, mu, ex, hp, hm, ep, em⟩ := id nr.ex
    have pul : pu.length = ps.length := by rw [← ep, sn_len]
    have xl : (rf pu).length = (fs.map V.int).length := by rw [rf_len, List.length_map, fl, pul]
    refine ⟨_, rfl, x, dx, _, rfl, ex, irr ⟨x, dx, tp, tm, rfl, ex, _, rfl, tp, t, rf pu, fs.map V.int, rfl, .inr ⟨hp.t, ht, fun D nD => ?_⟩⟩⟩
    have atp : ∀ {j : Nat} {v : V}, (rf pu)[j]? = some v → ∃ u, u ∈ pu ∧ v = .ref u.1 ∧ pS ps j = u.2.2.1 ∧ pE ps j = u.2.2.2 := fun {j v} hv => by
      obtain ⟨u, hu, rfl⟩ := rf_get hv
      have q := pN_at (ps := ps) (ep ▸ sn_get hu)
      exact ⟨u, List.mem_of_getElem? hu, rfl, q.2.1, q.2.2⟩
    have aty : ∀ {j : Nat} {y : V}, (fs.map V.int)[j]? = some y → y = .int (rwf fs j) := fun {j y} hy => by
      rw [List.getElem?_map] at hy
      cases q : fs[j]? with
      | none => rw [q] at hy; cases hy
      | some c =>
        rw [q] at hy
        rw [rwf, List.getD, q]
        exact (Option.some.inj hy).symm
    refine lc_zipI (fun j => decide (pE ps j = z)) (fun j => V.int (rwf fs j)) hp.t ht xl (by rw [rf_len]; omega) nD (fun _ _ => rfl) (fun j v y hv hy H2 s2 R kR => ?_) (fun j v y hv hy H2 s2 R kR => ⟨_, rfl, aty hy ▸ kR _ (Same.refl _)⟩) fun H2 s2 hD => ?_
    · obtain ⟨u, hm, rfl, _, he⟩ := atp hv
      have pa := (hp.o u hm).ext s2
      obtain ⟨dp, edp⟩ := id pa
      refine ⟨_, rfl, u.1, dp, _, rfl, edp, irr ⟨u.1, u.2, rfl, pa, _, rfl, rfl, _, rfl, ?_⟩⟩
      rw [decV, ← he]
      exact kR _ (Same.refl _)
    · rw [rf_len, pul] at hD
      refine ⟨D, sumAt (pE ps) ps.length fs z, rfl, SqL.of (by rw [sumAt, List.map_map]; exact hD), ?_⟩
      have ex2 := s2 _ _ ex
      dsimp only [gName]
      refine ⟨_, rfl, x, dx, _, rfl, ex2, irr ⟨x, dx, tp, tm, rfl, ex2, _, rfl, tp, t, rf pu, fs.map V.int, rfl, .inr ⟨hp.t.ext s2, ht.ext s2, fun D2 nD2 => ?_⟩⟩⟩
      refine lc_zipI (fun j => decide (pS ps j = z)) (fun j => V.int (rwf fs j)) (hp.t.ext s2) (ht.ext s2) xl (by rw [rf_len]; omega) nD2 (fun _ _ => rfl) (fun j v y hv hy H3 s3 R kR => ?_) (fun j v y hv hy H3 s3 R kR => ⟨_, rfl, aty hy ▸ kR _ (Same.refl _)⟩) fun H3 s3 hD3 => ?_
      · obtain ⟨u, hm, rfl, he, _⟩ := atp hv
        have pa := (hp.o u hm).ext (s2.trans s3)
        obtain ⟨dp, edp⟩ := id pa
        refine ⟨_, rfl, u.1, dp, _, rfl, edp, irr ⟨u.1, u.2, rfl, pa, _, rfl, rfl, _, rfl, ?_⟩⟩
        rw [decV, ← he]
        exact kR _ (Same.refl _)
      · rw [rf_len, pul] at hD3
        refine ⟨D2, sumAt (pS ps) ps.length fs z, rfl, SqL.of (by rw [sumAt, List.map_map]; exact hD3), ?_⟩
        dsimp only [gName]
        refine ⟨_, rfl, _, rfl, _, _, rfl, rfl, ?_⟩
        dsimp only
        rw [dvP_eq]
        exact k H3 (s2.trans s3)
end
end RV
namespace RV
open PySem L2 TL
section
variable {P : Program} {w : World} {K : PySem.W.Frag} {mg : Str → Option Value} {base : Heap} {CN CP CM : Addr}
theorem ok_isf {f : Addr} {fd : FuncData} (F : Fun K "is_flow" "is_flow" s_is_flow f fd) (T : Blt mg) (T2 : Blt2 mg) (h_chkn : Fn P w K mg base "check_net" 1 ["net"] (Irr (sp_chkn K CN CP CM))) (h_np : Prp P w K mg base CN "pipes" 1 (Irr (sp_npi CN))) (h_pl : Prp P w K mg base CN "places" 3 (Irr (sp_plc K CN CP CM))) (h_num : Fn P w K mg base "is_number" 1 ["value"] (Irr (sp_is_number K))) (h_kat : Fn P w K mg base "_kept_at" 3 ["net", "flow", "place"] (Irr (sp_kat K CN CP CM))) : FnOk P w K mg base CX0 5 f fd ["net", "value"] (sp_isf K CN CP CM) := by
  refine F.ok sc_is_flow (fun vs H Q E h => ?_) (fun cdv A outer s H vs Q E hr h => ?_)
  · obtain ⟨_, _, _, _, _, rfl, _⟩ := h
    rfl
  · obtain ⟨x, t, ps, ms, fs, rfl, nr, pl, ht, fl, k⟩ := h
    refine ⟨_, (pss_cons (ps_expr (pe_fn h_chkn (hr.mono (by decide)) (pa_cons (pv 0) pa_nil)))
      (pss_cons (ps_if (PW.pt (pw_or (pt_not (pt_val (pe_callB call_isi (by rfl) T.b_isinstance (by decide +kernel) (pa_cons (pv 1) (pa_cons (pe_bltn (v := .ty "tuple") (by rfl) T2.b_tuple (by decide +kernel) rfl) pa_nil))))) (pw_or1 (pt_cmpR op_ne (pe_callB call_len_seq (by rfl) T.b_len (by decide +kernel) (pa_cons (pv 1) pa_nil)) (pe_callB call_len_seq (by rfl) T.b_len (by decide +kernel) (pa_cons (pe_propN h_np (hr.mono (by decide)) (pv 0)) pa_nil)) (nomark _))))) (pss_one (ps_ret pe_bl)) pss_nil)
      (pss_cons (ps_if (pt_not (pt_val (pe_callB (cr_all rfl) (by rfl) T.b_all (by decide +kernel) (pa_cons (pe_lc (own := [("amount", 2)]) (g := gName 2) (tt := tYes) rfl sc_is_flow.nd (pi_tup (pv 1)) (blkOk_by (N := sc_is_flow_N) (sc := defScope s_is_flow) (by decide +kernel)) (fun _ _ _ _ _ => pg_name (i := 2) sc_is_flow.nd rfl (Or.inl rfl)) (fun _ _ _ _ _ => pts_nil) (fun _ _ _ _ _ => (pe_fn h_num (hr.mono (by decide)) (pa_cons (pv 2) pa_nil)))) pa_nil)))) (pss_one (ps_ret pe_bl)) pss_nil)
      (pss_one (ps_ret (pe_callB (cr_all rfl) (by rfl) T.b_all (by decide +kernel) (pa_cons (pe_lc (own := [("place", 3)]) (g := gName 3) (tt := tYes) rfl sc_is_flow.nd (pi_tup (pe_propN h_pl (hr.mono (by decide)) (pv 0))) (blkOk_by (N := sc_is_flow_N) (sc := defScope s_is_flow) (by decide +kernel)) (fun _ _ _ _ _ => pg_name (i := 3) sc_is_flow.nd rfl (Or.inl rfl)) (fun _ _ _ _ _ => pts_nil) (fun _ _ _ _ _ => (pe_cmpR op_eq (pe_fn h_kat (hr.mono (by decide)) (pa_cons (pv 0) (pa_cons (pv 1) (pa_cons (pv 3) pa_nil)))) pe_int (nomark _)))) pa_nil))))))), ?_⟩
    obtain ⟨dx, tp, tm, pu, mu, ex, hp, hm, ep, em⟩ := id nr.ex
    have pul : pu.length = ps.length := by rw [← ep, sn_len]
    refine ⟨_, rfl, irr ⟨x, ps, ms, rfl, nr, ?_⟩⟩
    refine ⟨_, rfl, _, _, .type "tuple", .type "tuple", true, rfl, .ty _, tyx_tup ht, kit_ty (by decide +kernel), true, rfl, iteF ?_⟩
    refine ⟨_, rfl, t, _, rfl, .inr ht, _, rfl, x, dx, _, rfl, ex, irr ⟨x, dx, tp, tm, rfl, ex, tp, _, rfl, .inr hp.t, rfl, ?_⟩⟩
    refine ⟨_, rfl, ?_⟩
    dsimp only
    rw [List.length_map, rf_len, pul, show decide (V.int ((fs.length : Nat) : Int) = V.int ((ps.length : Nat) : Int)) = decide (fs.length = ps.length) from decide_eq_decide.mpr ⟨fun h => by have := V.int.inj h; omega, fun h => by rw [h]⟩]
    by_cases hl : fs.length = ps.length
    case neg =>
      rw [decide_eq_false hl]
      refine iteT ?_
      have := k H (Same.refl _)
      rw [flwB, decide_eq_false hl, Bool.false_and] at this
      exact this
    rw [decide_eq_true hl]
    refine iteF ?_
    have e0 : ∀ (σ : L2.St) (H : Hp) (R : Bool → Hp → Prop), R true H → tYes σ H R := fun _ _ _ r => r
    refine ⟨_, rfl, t, rfl, ⟨_, ht⟩, fun D nD => lc_to (xs := fs.map V.int) (fs.map fun _ => V.bl true) (by rw [List.length_map, List.length_map]) walk_tup nD (by rw [List.length_map]; omega) (fun H' s' => ht.ext s') (fun _ => rfl) (fun j v y hv hy H2 s2 R kR => ?_) fun H2 s2 hD => ?_⟩
    · rw [List.getElem?_map] at hv hy
      cases q : fs[j]? with
      | none => rw [q] at hv; cases hv
      | some c =>
        rw [q] at hv hy
        obtain rfl : V.int c = v := Option.some.inj hv
        obtain rfl : V.bl true = y := Option.some.inj hy
        exact ⟨_, rfl, irr ⟨.int c, rfl, .inl ⟨c, rfl, kR _ (Same.refl _)⟩⟩⟩
    refine ⟨D, fs.map fun _ => true, rfl, SqL.of (by rw [List.map_map]; exact hD), ?_⟩
    rw [show (fs.map fun _ => true).all id = true by rw [List.all_map]; exact List.all_eq_true.mpr fun _ _ => rfl]
    refine ⟨_, rfl, iteF ?_⟩
    have ex2 := s2 _ _ ex
    refine ⟨_, rfl, x, dx, _, rfl, ex2, irr ⟨x, ps, ms, rfl, nr.ext s2, pl, fun tz zs H3 s3 hz hzs zl => ?_⟩⟩
    have s23 := s2.trans s3
    refine ⟨tz, rfl, ⟨_, SqT.of hz⟩, fun D2 nD2 => lc_to (xs := zs.map V.str) ((zs.map fun z => decide (dvP ps fs z = 0)).map V.bl) (by rw [List.length_map, List.length_map, List.length_map]) walk_tup nD2 (by rw [List.length_map]; omega) (fun H' s' => SqT.of (s' _ _ hz)) (fun _ => rfl) (fun j v y hv hy H4 s4 R kR => ?_) fun H4 s4 hD4 => ?_⟩
    · rw [List.getElem?_map] at hv
      rw [List.getElem?_map, List.getElem?_map] at hy
      cases q : zs[j]? with
      | none => rw [q] at hv; cases hv
      | some z =>
        rw [q] at hv hy
        obtain rfl : V.str z = v := Option.some.inj hv
        obtain rfl : V.bl (decide (dvP ps fs z = 0)) = y := Option.some.inj hy
        refine ⟨_, rfl, _, rfl, _, rfl, irr ⟨x, t, ps, ms, fs, z, rfl, nr.ext (s23.trans s4), pl, ht.ext (s23.trans s4), hl, fun H5 s5 => ?_⟩⟩
        refine ⟨rfl, ?_⟩
        rw [show decide (V.int (dvP ps fs z) = V.int 0) = decide (dvP ps fs z = 0) by simp]
        exact kR _ s5
    refine ⟨D2, _, rfl, SqL.of hD4, ?_⟩
    have ev : (zs.map fun z => decide (dvP ps fs z = 0)).all id = flwB ps fs := by
      rw [flwB, decide_eq_true hl, Bool.true_and, List.all_map]
      refine Bool.eq_iff_iff.mpr ?_
      rw [List.all_eq_true, List.all_eq_true]
      exact ⟨fun q z h => q z ((hzs.2.2 z).mpr h), fun q z h => q z ((hzs.2.2 z).mp h)⟩
    rw [ev]
    exact k H4 (s23.trans s4)
end
end RV
namespace RV
open PySem L2 TL
theorem strP_at {ps : List P3} {ms : List M3} {q : P3} {y : Str} (h : ps.find? (fun p => decide (p.1 = y)) = some q) : strP ps ms y = (if seP ms y = [] then turns ((lkA ps ms y).map lk3) ps.length (g0 q.2.2) q.2.1 else none).map (· + wtP ms y) := by
  rw [strP, h]
  dsimp only
  split
  · rfl
  · rfl
section
variable {P : Program} {w : World} {K : PySem.W.Frag} {mg : Str → Option Value} {base : Heap} {CN CP CM : Addr}
theorem ok_ring {f : Addr} {fd : FuncData} (F : Fun K "ring_through" "ring_through" s_ring_through f fd) (hz : mg "zip" = none) (T2 : Blt2 mg) (h_chkn : Fn P w K mg base "check_net" 1 ["net"] (Irr (sp_chkn K CN CP CM))) (h_chkp : Fn P w K mg base "check_pipe" 5 ["net", "pipe"] (Irr (sp_chkp K CN CP CM))) (h_back : Fn P w K mg base "_way_back" 7 ["net", "pipe"] (Irr (sp_back K CN CP CM)))
    (h_np : Prp P w K mg base CN "pipes" 1 (Irr (sp_npi CN))) (h_pn : Prp P w K mg base CP "name" 1 (Irr (sp_pn CP))) : FnOk P w K mg base CX0 8 f fd ["net", "pipe"] (sp_ring K CN CP CM) := by
  refine F.ok sc_ring_through (fun vs H Q E h => ?_) (fun cdv A outer s H vs Q E hr h => ?_)
  · obtain ⟨_, _, _, _, rfl, _⟩ := h
    rfl
  · obtain ⟨x, ps, ms, y, rfl, nr, po, ml, hy, kz, ks⟩ := h
    refine ⟨_, (pss_cons (ps_expr (pe_fn h_chkn (hr.mono (by decide)) (pa_cons (pv 0) pa_nil)))
      (pss_cons (ps_expr (pe_fn h_chkp (hr.mono (by decide)) (pa_cons (pv 0) (pa_cons (pv 1) pa_nil))))
      (pss_cons (ps_set (i := 2) sc_ring_through.nd rfl (Or.inl rfl) (pe_fn h_back (hr.mono (by decide)) (pa_cons (pv 0) (pa_cons (pv 1) pa_nil))))
      (pss_cons (ps_if (pt_cmpR op_isN (pv 2) pe_non (nomark _)) (pss_one (ps_ret pe_non)) pss_nil)
      (pss_one (ps_ret (pe_callTy call_tuple_of (by rfl) T2.b_tuple (by decide +kernel) (pa_cons (pe_lc (own := [("part", 3), ("amount", 4)]) (g := gPr K 3 4) (tt := tYes) rfl sc_ring_through.nd (RZ.pi_zipA (by rfl) hz (pa_cons (pe_propN h_np (hr.mono (by decide)) (pv 0)) (pa_cons (pe_ix ix_tup (pv 2) pe_int (fun _ _ => rfl)) pa_nil))) (blkOk_by (N := sc_ring_through_N) (sc := defScope s_ring_through) (by decide +kernel)) (fun _ _ _ _ _ => pg_tupK (by rfl) (pgs_cons (pg_name (i := 3) sc_ring_through.nd rfl (Or.inl rfl)) (pgs_cons (pg_name (i := 4) sc_ring_through.nd rfl (Or.inl rfl)) pgs_nil))) (fun _ _ _ _ _ => pts_nil) (fun _ _ _ _ _ => (pe_ifExp (pt_cmpR op_eq (pe_propN h_pn (hr.mono (by decide)) (pv 3)) (pv 1) (nomark _)) pe_int (pv 4)))) pa_nil)))))))), ?_⟩
    have pl := po.ln
    obtain ⟨q0, hq0, e0y⟩ := List.mem_map.mp hy
    obtain ⟨p, hp, ep0⟩ := List.mem_iff_getElem.mp hq0
    have hpq : ps[p]? = some q0 := by rw [List.getElem?_eq_getElem hp, ep0]
    have hN := pN_at hpq
    obtain rfl : pN ps p = y := by rw [hN.1, e0y]
    refine ⟨_, rfl, irr ⟨x, ps, ms, rfl, nr, ?_⟩⟩
    refine ⟨_, rfl, _, rfl, irr ⟨x, ps, ms, pN ps p, rfl, nr, pl, hy, fun H1 s1 => ?_⟩⟩
    refine ⟨_, rfl, _, rfl, irr ⟨x, ps, ms, pN ps p, ZG ps ms p, rfl, nr.ext s1, pl, ml, hy, ZG.ok po.nd hp, fun i j q r v H2 hi hq hj hr s2 hw => ?_⟩⟩
    dsimp only [gName]
    have s2b := s1.trans s2
    have nr2 := nr.ext s2b
    have ef := find_nd po.nd hpq hN.1.symm
    obtain rfl : q0 = q := Option.some.inj (ef.symm.trans (find_nd po.nd hi hq))
    obtain rfl : q0 = r := Option.some.inj (ef.symm.trans (find_nd po.nd hj hr))
    have eS := strP_at (ms := ms) ef
    cases hW : (if seP ms (pN ps p) = [] then turns ((lkA ps ms (pN ps p)).map lk3) ps.length (g0 q0.2.2) q0.2.1 else none) with
    | none =>
      rw [hW] at hw eS
      obtain rfl : v = .non := hw
      exact ⟨_, rfl, rfl, _, rfl, iteT (kz eS H2 s2b)⟩
    | some d =>
      rw [hW] at hw eS
      obtain ⟨e, t, fs, rfl, he, ht, fl, hZ⟩ := hw
      have hs : ¬ shutP ps ms p := fun z => by
        rw [if_neg z] at hW
        cases hW
      obtain ⟨dx, tp, tm, pu, mu, ex, hpu, hm, ep, em⟩ := id nr2.ex
      have pul : pu.length = ps.length := by rw [← ep, sn_len]
      refine ⟨_, rfl, rfl, _, rfl, iteF ⟨_, rfl, x, dx, _, rfl, ex, irr ⟨x, dx, tp, tm, rfl, ex, _, rfl, e, _, 1, _, rfl, rfl, SqT.of he, rfl, tp, t, rf pu, fs.map V.int, rfl, .inr ⟨hpu.t, SqT.of ht, fun D nD => ?_⟩⟩⟩⟩
      refine lc_zipI (fun _ => true) (fun k => V.int (if pN ps k = pN ps p then 1 else rwf fs k)) hpu.t (SqT.of ht) (by rw [rf_len, List.length_map, fl, pul]) (by rw [rf_len]; omega) nD (fun _ _ => rfl) (fun j v y hv hy H3 s3 R kR => kR _ (Same.refl _)) (fun k v y hv hy H3 s3 R kR => ?_) fun H3 s3 hD => ?_
      · obtain ⟨u, hu, rfl⟩ := rf_get hv
        have pa := (hpu.o u (List.mem_of_getElem? hu)).ext s3
        obtain ⟨dp, edp⟩ := id pa
        have hk := pN_at (ps := ps) (ep ▸ sn_get hu)
        have ey : y = .int (rwf fs k) := by
          rw [List.getElem?_map] at hy
          cases q : fs[k]? with
          | none => rw [q] at hy; cases hy
          | some c =>
            rw [q] at hy
            rw [rwf, List.getD, q]
            exact (Option.some.inj hy).symm
        subst ey
        refine ⟨_, rfl, u.1, dp, _, rfl, edp, irr ⟨u.1, u.2, rfl, pa, _, rfl, rfl, _, rfl, ?_⟩⟩
        rw [decV, ← hk.1]
        have kr := kR H3 (Same.refl _)
        by_cases z : pN ps k = pN ps p
        · rw [if_pos z] at kr
          rw [decide_eq_true z]
          exact iteT kr
        · rw [if_neg z] at kr
          rw [decide_eq_false z]
          exact iteF ⟨_, rfl, kr⟩
      · rw [rf_len, pul, List.filter_eq_self.mpr (fun _ _ => rfl)] at hD
        refine ⟨D, _, rfl, .inl ⟨SqL.of hD, fun l nl => ?_⟩⟩
        have s3u : Same H3 (upd H3 l (.tup ((List.range ps.length).map fun k => V.int (if pN ps k = pN ps p then 1 else rwf fs k)))) := fun b o z => (upd_ne (ne_of_none z nl)).trans z
        have rg := ringL_ok (ms := ms) (d := d) po.nd hp fl hs (by rw [hN.2.1]; exact hZ)
        refine ks _ l _ _ eS ((s2b.trans s3).trans s3u) (SqT.of ?_) rg
        rw [upd_same, ringL, List.map_map]
        rfl
end
end RV
namespace RV
open PySem L2 TL
theorem amt_at {ps : List P3} {fs : List Int} (nd : (ps.map (·.1)).Nodup) {k : Nat} (hk : k < ps.length) : amt ps fs (pN ps k) = rwf fs k := by
  have h : ps.findIdx? (fun p => decide (p.1 = pN ps k)) = some k := by
    rw [List.findIdx?_eq_some_iff_getElem]
    have hg := pN_at (List.getElem?_eq_getElem hk)
    refine ⟨hk, decide_eq_true hg.1.symm, fun j hj => ?_⟩
    have hg2 := pN_at (ps := ps) (List.getElem?_eq_getElem (show j < ps.length by omega))
    intro e
    have e := of_decide_eq_true e
    exact absurd (pN_inj nd (show j < _ by omega) hk (hg2.1.trans e)) (by omega)
  rw [amt, h]
section
variable {P : Program} {w : World} {K : PySem.W.Frag} {mg : Str → Option Value} {base : Heap} {CN CP CM : Addr}
theorem ok_rof {f : Addr} {fd : FuncData} (F : Fun K "readings_of" "readings_of" s_readings_of f fd) (hz : mg "zip" = none) (T2 : Blt2 mg) (h_isf : Fn P w K mg base "is_flow" 5 ["net", "value"] (Irr (sp_isf K CN CP CM))) (h_np : Prp P w K mg base CN "pipes" 1 (Irr (sp_npi CN))) (h_nm : Prp P w K mg base CN "meters" 1 (Irr (sp_nme CN))) (h_pn : Prp P w K mg base CP "name" 1 (Irr (sp_pn CP))) (h_ma : Prp P w K mg base CM "at" 1 (Irr (sp_ma CM))) : FnOk P w K mg base CX0 6 f fd ["net", "flow"] (sp_rof K CN CP CM) := by
  refine F.ok sc_readings_of (fun vs H Q E h => ?_) (fun cdv A outer s H vs Q E hr h => ?_)
  · obtain ⟨_, _, _, _, _, rfl, _⟩ := h
    rfl
  · obtain ⟨x, t, ps, ms, fs, rfl, nr, po, mo, ht, fl, fw, k⟩ := h
    have hu : (A.deeper (PyProof.Rows.envOfC "readings_of" (defScope s_readings_of) s.heap.objs.size f cdv)).units + 1 < cLine := by have := hr.units; omega
    refine ⟨_, (pss_cons (ps_if (pt_not (pt_val (pe_fn h_isf (hr.mono (by decide)) (pa_cons (pv 0) (pa_cons (pv 1) pa_nil))))) (pss_one ps_never) pss_nil)
      (pss_cons (ps_set (i := 2) sc_readings_of.nd rfl (Or.inr rfl) (pe_dc (own := [("part", 3), ("amount", 4)]) (g := gPr K 3 4) (tt := tYes) rfl sc_readings_of.nd (RZ.pi_zipA (by rfl) hz (pa_cons (pe_propN h_np (hr.mono (by decide)) (pv 0)) (pa_cons (pv 1) pa_nil))) (blkOk_by (N := sc_readings_of_N) (sc := defScope s_readings_of) (by decide +kernel)) (fun _ _ _ _ _ => pg_tupK (by rfl) (pgs_cons (pg_name (i := 3) sc_readings_of.nd rfl (Or.inl rfl)) (pgs_cons (pg_name (i := 4) sc_readings_of.nd rfl (Or.inl rfl)) pgs_nil))) (fun _ _ _ _ _ => pts_nil) (fun _ _ _ _ _ => pe_propN h_pn (hr.mono (by decide)) (pv 3)) (fun _ _ _ _ _ => pv 4)))
      (pss_one (ps_ret (pe_callTy call_tuple_of (by rfl) T2.b_tuple (by decide +kernel) (pa_cons (pe_lc (own := [("part", 3)]) (g := gName 3) (tt := tYes) rfl sc_readings_of.nd (pi_tup (pe_propN h_nm (hr.mono (by decide)) (pv 0))) (blkOk_by (N := sc_readings_of_N) (sc := defScope s_readings_of) (by decide +kernel)) (fun _ _ _ _ _ => pg_name (i := 3) sc_readings_of.nd rfl (Or.inl rfl)) (fun _ _ _ _ _ => pts_nil) (fun _ _ _ _ _ => (pe_dget hu (pv 2) (pe_propN h_ma (hr.mono (by decide)) (pv 3)) (fun _ _ => rfl)))) pa_nil)))))), ?_⟩
    have pl := po.ln
    refine ⟨_, rfl, _, rfl, irr ⟨x, t, ps, ms, fs, rfl, nr, pl, ht, by omega, fun H1 s1 => ?_⟩⟩
    rw [fw]
    refine ⟨_, rfl, iteF ?_⟩
    have nr1 := nr.ext s1
    obtain ⟨dx, tp, tm, pu, mu, ex, hp, hm, ep, em⟩ := id nr1.ex
    have pul : pu.length = ps.length := by rw [← ep, sn_len]
    have ht1 := ht.ext s1
    refine ⟨_, rfl, x, dx, _, rfl, ex, irr ⟨x, dx, tp, tm, rfl, ex, _, rfl, tp, t, rf pu, fs.map V.int, rfl, .inr ⟨hp.t, ht1, fun D nD => ?_⟩⟩⟩
    have s0 : Same H1 (upd H1 D (.dK [])) := fun b o e => (upd_ne (ne_of_none e nD)).trans e
    refine dc_it (walk_zipT (K := K) (xs := rf pu) (ys := fs.map V.int) (n := ps.length) (by rw [rf_len, List.length_map]; omega)) (fun i H' => ∃ kvs, Sb D (upd H1 D (.dK [])) H' ∧ H' D = some (.dK kvs) ∧ kvs.length ≤ i ∧ ∀ j, j < i → valV kvs (.inr (pN ps j)) = some (.int (rwf fs j))) ⟨[], Sb.refl _, upd_same, Nat.le_refl _, fun _ z => absurd z (Nat.not_lt_zero _)⟩ ?_ ?_ ?_
    · rintro i H' _ ⟨_, sb, _⟩
      have s' := Sb.same s0 nD sb
      exact ⟨hp.t.ext s', ht1.ext s'⟩
    · rintro i v Ha Hb hi ⟨kvs, sb, hD, kl, kv⟩ ⟨T, p, q, rfl, nT, rfl, hpv, hqv⟩
      dsimp only at hpv hqv
      obtain ⟨u, hu2, rfl⟩ := rf_get hpv
      have sT : Same Ha (upd Ha T (.tup [.ref u.1, q])) := fun b o e => (upd_ne (ne_of_none e nT)).trans e
      have pa := ((hp.o u (List.mem_of_getElem? hu2)).ext (Sb.same s0 nD sb)).ext sT
      obtain ⟨dp, edp⟩ := id pa
      have hN := (pN_at (ps := ps) (ep ▸ sn_get hu2)).1
      have eq : q = .int (rwf fs i) := by
        rw [List.getElem?_map] at hqv
        cases z : fs[i]? with
        | none => rw [z] at hqv; cases hqv
        | some c =>
          rw [z] at hqv
          rw [rwf, List.getD, z]
          exact (Option.some.inj hqv).symm
      subst eq
      refine ⟨T, _, rfl, SqT.of upd_same, rfl, _, _, rfl, _, _, rfl, ⟨rfl, ⟨rfl, ?_⟩⟩⟩
      have e0 : ∀ (σ : L2.St) (H : Hp) (R : Bool → Hp → Prop), R true H → tYes σ H R := fun _ _ _ r => r
      refine e0 _ _ _ ?_
      simp only [↓reduceIte]
      refine ⟨_, rfl, u.1, dp, _, rfl, edp, irr ⟨u.1, u.2, rfl, pa, _, rfl, kvs, .inr u.2.1, rfl, sT _ _ hD, Nat.lt_of_le_of_lt kl (Nat.lt_of_lt_of_le (show i < 12 by omega) (by decide)), _, ?_, upd_same, ?_, fun j hj => ?_⟩⟩
      · exact fun b o ne e => (upd_ne ne).trans (sT _ _ (sb b o ne e))
      · exact Nat.le_trans (length_putK _ _ _) (by omega)
      · rw [valV_put, ← hN]
        by_cases e : j = i
        · subst e
          rw [if_pos rfl]
        · rw [if_neg fun z => e (pN_inj po.nd (by omega) hi (Sum.inr.inj z))]
          exact kv j (by omega)
    · rintro H2 ⟨kvs, sb, hD, kl, kv⟩
      have s2 := Sb.same s0 nD sb
      have ex2 := s2 _ _ ex
      have hm2 := hm.ext s2
      have mul : mu.length = ms.length := by rw [← em, sn_len]
      dsimp only [gName]
      refine ⟨_, rfl, x, dx, _, rfl, ex2, irr ⟨x, dx, tp, tm, rfl, ex2, tm, rfl, ⟨_, hm2.t⟩, fun D2 nD2 => lc_to (xs := rf mu) ((rdF ps ms fs).map V.int) (by rw [rf_len, List.length_map, rdF, List.length_map, mul]) walk_tup nD2 (by rw [rf_len]; have := mo.ln; omega) (fun H' s' => hm2.t.ext s') (fun _ => rfl) (fun j v y hv hy H3 s3 R kR => ?_) fun H3 s3 hD3 => ?_⟩⟩
      · obtain ⟨u, hu2, rfl⟩ := rf_get hv
        have hmj : ms[j]? = some u.2 := em ▸ sn_get hu2
        have pa := (hm2.o u (List.mem_of_getElem? hu2)).ext s3
        obtain ⟨dp, edp⟩ := id pa
        rw [List.getElem?_map, rdF, List.getElem?_map, hmj] at hy
        obtain rfl : V.int (amt ps fs u.2.2.1) = y := Option.some.inj hy
        obtain ⟨q0, hq0, e0y⟩ := List.mem_map.mp (mo.on u.2 (List.mem_of_getElem? hmj))
        obtain ⟨p, hp0, ep0⟩ := List.mem_iff_getElem.mp hq0
        have hN : pN ps p = u.2.2.1 := by rw [(pN_at (List.getElem?_eq_getElem hp0)).1, ep0, e0y]
        have dg : DGet H3 D (V.str u.2.2.1) (valV kvs (Sum.inr u.2.2.1)) := DGet.k (k := Sum.inr u.2.2.1) (s3 _ _ hD)
        rw [← hN, kv p hp0] at dg
        have kr := kR H3 (Same.refl _)
        rw [← hN, amt_at po.nd hp0] at kr
        refine ⟨_, rfl, _, rfl, u.1, dp, _, rfl, edp, irr ⟨u.1, u.2, rfl, pa, D, _, rfl, ?_, kr⟩⟩
        rw [← hN]
        exact dg
      · refine ⟨D2, _, rfl, .inl ⟨SqL.of hD3, fun l nl => ?_⟩⟩
        exact k l _ (fun b o e => (upd_ne (ne_of_none (s3 _ _ (s2 _ _ (s1 _ _ e))) nl)).trans (s3 _ _ (s2 _ _ (s1 _ _ e)))) upd_same
end
end RV
namespace RV
open PySem L2 TL
section
variable {P : Program} {w : World} {K : PySem.W.Frag} {mg : Str → Option Value} {base : Heap} {CN CP CM : Addr}
theorem ok_seen {f : Addr} {fd : FuncData} (F : Fun K "_seen_in_both" "_seen_in_both" s_seen_in_both f fd) (T2 : Blt2 mg) (h_rof : Fn P w K mg base "readings_of" 6 ["net", "flow"] (Irr (sp_rof K CN CP CM))) : FnOk P w K mg base CX0 7 f fd ["net", "ring", "faults"] (sp_seen K CN CP CM) := by
  refine F.ok sc_seen_in_both (fun vs H Q E h => ?_) (fun cdv A outer s H vs Q E hr h => ?_)
  · obtain ⟨_, _, _, _, _, _, _, _, _, rfl, _⟩ := h
    rfl
  · obtain ⟨x, t, ff, ps, ms, fs, a, b, c, rfl, nr, po, mo, ht, fl, fw, hf, k⟩ := h
    refine ⟨_, (pss_cons (ps_asg (pv 2) (pg_tup (by rfl) (pgs_cons (pg_name (i := 3) sc_seen_in_both.nd rfl (Or.inl rfl)) (pgs_cons (pg_name (i := 4) sc_seen_in_both.nd rfl (Or.inl rfl)) (pgs_cons (pg_name (i := 5) sc_seen_in_both.nd rfl (Or.inl rfl)) pgs_nil)))))
      (pss_cons (ps_set (i := 6) sc_seen_in_both.nd rfl (Or.inl rfl) (pe_lst pa_nil))
      (pss_cons (ps_set (i := 7) sc_seen_in_both.nd rfl (Or.inl rfl) pe_int)
      (pss_cons (ps_for PassesOwn.never rfl (pi_tup (pe_fn h_rof (hr.mono (by decide)) (pa_cons (pv 0) (pa_cons (pv 1) pa_nil)))) (pg_name (i := 8) sc_seen_in_both.nd rfl (Or.inl rfl)) (pss_cons (ps_if (pt_cmpR op_eq (pv 8) pe_int (nomark _)) (pss_cons (ps_expr (pe_bm PySem.F.plainAttrs_list PySem.F.slot_list_append PySem.F.type_list_append mt_append (pv 6) (pa_cons pe_int pa_nil))) (pss_one ps_continue)) pss_nil) (pss_cons (ps_if (pt_cmpR op_lt (pv 7) (pv 3) (nomark _)) (pss_one (ps_expr (pe_bm PySem.F.plainAttrs_list PySem.F.slot_list_append PySem.F.type_list_append mt_append (pv 6) (pa_cons (pv 8) pa_nil)))) (pss_one (ps_expr (pe_bm PySem.F.plainAttrs_list PySem.F.slot_list_append PySem.F.type_list_append mt_append (pv 6) (pa_cons (pe_ifExp (pt_cmpR op_lt (pv 7) (pe_op op_add (pv 3) (pv 5)) (nomark _)) pe_non pe_int) pa_nil))))) (pss_one (ps_aug (i := 7) sc_seen_in_both.nd rfl (Or.inl rfl) pe_int ip_add)))))
      (pss_one (ps_ret (pe_callTy call_tuple_of (by rfl) T2.b_tuple (by decide +kernel) (pa_cons (pv 6) pa_nil)))))))), ?_⟩
    refine ⟨_, rfl, ff, _, rfl, hf, rfl, _, _, rfl, _, _, rfl, _, _, rfl, rfl, ?_⟩
    refine ⟨by decide, fun l nl => ?_⟩
    have s1 : Same H (upd H l (.lst [])) := fun b o e => (upd_ne (ne_of_none e nl)).trans e
    have el : upd H l (.lst []) l = some (.lst []) := upd_same
    revert s1 el
    generalize upd H l (.lst []) = H1
    intro s1 el
    dsimp only [gName]
    refine ⟨_, rfl, _, rfl, irr ⟨x, t, ps, ms, fs, rfl, nr.ext s1, po, mo, ht.ext s1, fl, fw, fun q H2 s2 hq => ?_⟩⟩
    have s12 := s1.trans s2
    have el2 := s2 _ _ el
    have nq : q ≠ l := fun z => by rw [z, el2] at hq; cases hq
    have asl : (rdF ps ms fs).length ≤ 12 := by rw [rdF, List.length_map]; exact mo.ln
    generalize hA : rdF ps ms fs = as at hq asl k
    refine ⟨q, rfl, ⟨_, SqT.of hq⟩, for_tup (xs := as.map V.int) (fun i σ H' => (∃ o8, σ = [some (.ref x), some (.ref t), some (.ref ff), some (.int a), some (.int b), some (.int c), some (.ref l), some (.int (met 0 (as.take i))), o8]) ∧ Sb l H2 H' ∧ H' l = some (.lst (vR (seen a c 0 (as.take i))))) ⟨⟨none, rfl⟩, Sb.refl _, el2⟩ ?_ ?_ ?_⟩
    · rintro i σ H' _ ⟨_, sb, _⟩
      exact SqT.of (sb _ _ nq hq)
    · rintro i v σ H' hv ⟨⟨o8, rfl⟩, sb, eL⟩
      have hi : i < as.length := by
        have := (List.getElem?_eq_some_iff.mp hv).1
        rwa [List.length_map] at this
      obtain ⟨n, hn, rfl⟩ : ∃ n, as[i]? = some n ∧ v = .int n := by
        rw [List.getElem?_map, List.getElem?_eq_getElem hi] at hv
        exact ⟨as[i], List.getElem?_eq_getElem hi, (Option.some.inj hv).symm⟩
      have et : as.take (i + 1) = as.take i ++ [n] := by rw [List.take_add_one, hn]; rfl
      have es := seen_app a c 0 (as.take i) n
      have em := met_app 0 (as.take i) n
      rw [← et] at es em
      have ll : (vR (seen a c 0 (as.take i))).length < sizeLine := by
        rw [vR, List.length_map, seen_len]
        exact Nat.lt_of_le_of_lt (List.length_take_le _ _) (Nat.lt_of_lt_of_le (show i < 13 by omega) (by decide))
      have put : ∀ (o : Option Int), seen a c (met 0 (as.take i)) [n] = [o] → Sb l H2 (upd H' l (.lst (vR (seen a c 0 (as.take i)) ++ [vO o]))) ∧ upd H' l (.lst (vR (seen a c 0 (as.take i)) ++ [vO o])) l = some (.lst (vR (seen a c 0 (as.take (i + 1))))) := fun o ho =>
        ⟨fun p u ne e => (upd_ne ne).trans (sb p u ne e), by rw [upd_same, es, ho, vR, vR, List.map_append]; rfl⟩
      dsimp only [gName]
      refine ⟨_, rfl, rfl, _, rfl, ?_⟩
      rw [show decide (V.int n = V.int 0) = decide (n = 0) by simp]
      by_cases h0 : n = 0
      · rw [decide_eq_true h0]
        refine iteT ⟨_, rfl, .inl ⟨rfl, _, SqL.of eL⟩, l, _, _, rfl, rfl, eL, ll, ?_⟩
        obtain ⟨p1, p2⟩ := put (some 0) (by rw [seen, if_pos h0]; rfl)
        rw [if_pos h0] at em
        exact ⟨⟨some (V.int n), by rw [em]; rfl⟩, p1, p2⟩
      · rw [decide_eq_false h0]
        rw [if_neg h0] at em
        refine iteF ?_
        refine ⟨_, rfl, _, rfl, _, _, rfl, rfl, _, rfl, ?_⟩
        by_cases h1 : met 0 (as.take i) < a
        · rw [decide_eq_true h1]
          refine iteT ⟨_, rfl, .inl ⟨rfl, _, SqL.of eL⟩, _, rfl, l, _, _, rfl, rfl, eL, ll, ?_⟩
          obtain ⟨p1, p2⟩ := put (some n) (by rw [seen, if_neg h0, if_pos h1]; rfl)
          refine ⟨_, rfl, _, _, rfl, rfl, ⟨some (V.int n), ?_⟩, p1, p2⟩
          rw [em]
          rfl
        · rw [decide_eq_false h1]
          refine iteF ⟨_, rfl, .inl ⟨rfl, _, SqL.of eL⟩, _, rfl, _, rfl, _, rfl, _, _, rfl, rfl, _, _, rfl, rfl, _, rfl, ?_⟩
          dsimp only
          by_cases h2 : met 0 (as.take i) < a + c
          · rw [decide_eq_true h2]
            refine iteT ⟨l, _, _, rfl, rfl, eL, ll, ?_⟩
            obtain ⟨p1, p2⟩ := put none (by rw [seen, if_neg h0, if_neg h1, if_pos h2]; rfl)
            refine ⟨_, rfl, _, _, rfl, rfl, ⟨some (V.int n), ?_⟩, p1, p2⟩
            rw [em]
            rfl
          · rw [decide_eq_false h2]
            refine iteF ⟨l, _, _, rfl, rfl, eL, ll, ?_⟩
            obtain ⟨p1, p2⟩ := put (some 0) (by rw [seen, if_neg h0, if_neg h1, if_neg h2]; rfl)
            refine ⟨_, rfl, _, _, rfl, rfl, ⟨some (V.int n), ?_⟩, p1, p2⟩
            rw [em]
            rfl
    · rintro σ H3 ⟨⟨o8, rfl⟩, sb, eL⟩
      rw [List.length_map, List.take_length] at eL
      refine ⟨_, rfl, l, _, rfl, .inl ⟨SqL.of eL, fun r nr2 => ?_⟩⟩
      exact k r _ (fun p o e => (upd_ne (ne_of_none (Sb.same s12 nl sb p o e) nr2)).trans (Sb.same s12 nl sb p o e)) (SqT.of upd_same)
end
end RV
namespace RV
open PySem L2 TL
section
variable {P : Program} {w : World} {K : PySem.W.Frag} {mg : Str → Option Value} {base : Heap} {CN CP CM : Addr}
theorem ok_misl {f : Addr} {fd : FuncData} (F : Fun K "misleading" "misleading" s_misleading f fd) (T2 : Blt2 mg) (h_tell : Fn P w K mg base "can_tell" 9 ["net", "pipe", "faults"] (Irr (sp_tell K CN CP CM))) (h_ring : Fn P w K mg base "ring_through" 8 ["net", "pipe"] (Irr (sp_ring K CN CP CM))) (h_seen : Fn P w K mg base "_seen_in_both" 7 ["net", "ring", "faults"] (Irr (sp_seen K CN CP CM))) (h_np : Prp P w K mg base CN "pipes" 1 (Irr (sp_npi CN))) : FnOk P w K mg base CX0 10 f fd ["net", "pipe", "faults"] (sp_misl K CN CP CM) := by
  refine F.ok sc_misleading (fun vs H Q E h => ?_) (fun cdv A outer s H vs Q E hr h => ?_)
  · obtain ⟨_, _, _, _, _, _, _, _, rfl, _⟩ := h
    rfl
  · obtain ⟨x, t, ps, ms, y, a, b, c, rfl, nr, po, mo, hy, ht, fo, kn, ks⟩ := h
    refine ⟨_, (pss_cons (ps_if (pt_val (pe_fn h_tell (hr.mono (by decide)) (pa_cons (pv 0) (pa_cons (pv 1) (pa_cons (pv 2) pa_nil))))) (pss_one (ps_ret pe_non)) pss_nil)
      (pss_cons (ps_set (i := 3) sc_misleading.nd rfl (Or.inl rfl) (pe_callTy call_tuple_of (by rfl) T2.b_tuple (by decide +kernel) (pa_cons (pe_lc (own := [("_", 6)]) (g := gName 6) (tt := tYes) rfl sc_misleading.nd (pi_tup (pe_propN h_np (hr.mono (by decide)) (pv 0))) (blkOk_by (N := sc_misleading_N) (sc := defScope s_misleading) (by decide +kernel)) (fun _ _ _ _ _ => pg_name (i := 6) sc_misleading.nd rfl (Or.inl rfl)) (fun _ _ _ _ _ => pts_nil) (fun _ _ _ _ _ => pe_int)) pa_nil)))
      (pss_cons (ps_set (i := 4) sc_misleading.nd rfl (Or.inl rfl) (pe_fn h_ring (hr.mono (by decide)) (pa_cons (pv 0) (pa_cons (pv 1) pa_nil))))
      (pss_cons (ps_set (i := 5) sc_misleading.nd rfl (Or.inl rfl) (pe_fn h_seen (hr.mono (by decide)) (pa_cons (pv 0) (pa_cons (pv 4) (pa_cons (pv 2) pa_nil)))))
      (pss_one (ps_ret (pe_tup (pa_cons (pe_tup (pa_cons (pv 3) (pa_cons (pv 5) pa_nil))) (pa_cons (pe_tup (pa_cons (pv 4) (pa_cons (pv 5) pa_nil))) pa_nil))))))))), ?_⟩
    have pl := po.ln
    refine ⟨_, rfl, _, rfl, _, rfl, irr ⟨x, t, ps, ms, y, a, b, c, rfl, nr, po, mo.ln, hy, ht, fo, fun H1 s1 => ?_⟩⟩
    cases hB : tellB (strP ps ms y) (a + b + c) with
    | true => exact ⟨_, rfl, iteT (kn hB H1 s1)⟩
    | false =>
      refine ⟨_, rfl, iteF ?_⟩
      obtain ⟨n, hS, hn⟩ : ∃ n, strP ps ms y = some n ∧ (n : Int) ≤ a + b + c := by
        cases z : strP ps ms y with
        | none => rw [z] at hB; cases hB
        | some n =>
          rw [z] at hB
          have := of_decide_eq_false hB
          exact ⟨n, rfl, by omega⟩
      have nr1 := nr.ext s1
      obtain ⟨dx, tp, tm, pu, mu, ex, hp, hm, ep, em⟩ := id nr1.ex
      have pul : pu.length = ps.length := by rw [← ep, sn_len]
      refine ⟨_, rfl, x, dx, _, rfl, ex, irr ⟨x, dx, tp, tm, rfl, ex, tp, rfl, ⟨_, hp.t⟩, fun D nD => lc_to (xs := rf pu) ((List.replicate ps.length (0 : Int)).map V.int) (by rw [rf_len, List.length_map, List.length_replicate, pul]) walk_tup nD (by rw [rf_len]; omega) (fun H' s' => hp.t.ext s') (fun _ => rfl) (fun j v z hv hz H2 s2 R kR => ?_) fun H2 s2 hD => ?_⟩⟩
      · obtain rfl : z = V.int 0 := by
          rw [List.getElem?_map] at hz
          cases q : (List.replicate ps.length (0 : Int))[j]? with
          | none => rw [q] at hz; cases hz
          | some d =>
            rw [q] at hz
            rw [(List.mem_replicate.mp (List.mem_of_getElem? q)).2] at hz
            exact (Option.some.inj hz).symm
        exact kR H2 (Same.refl _)
      refine ⟨D, _, rfl, .inl ⟨SqL.of hD, fun tf ntf => ?_⟩⟩
      have s3 : Same H2 (upd H2 tf (.tup ((List.replicate ps.length (0 : Int)).map V.int))) := fun p o e => (upd_ne (ne_of_none e ntf)).trans e
      have etf : upd H2 tf (.tup ((List.replicate ps.length (0 : Int)).map V.int)) tf = some (.tup ((List.replicate ps.length (0 : Int)).map V.int)) := upd_same
      have sA := (s1.trans s2).trans s3
      revert sA etf
      generalize upd H2 tf (.tup ((List.replicate ps.length (0 : Int)).map V.int)) = H3
      intro etf sA
      clear s3
      dsimp only [gName]
      refine ⟨_, rfl, _, rfl, irr ⟨x, ps, ms, y, rfl, nr.ext sA, po, mo.ln, hy, fun z => ?_, fun n' tg fs H4 hS' s4 htg hR => ?_⟩⟩
      · rw [hS] at z
        cases z
      rw [hS] at hS'
      obtain rfl := Option.some.inj hS'
      have sB := sA.trans s4
      dsimp only [gName]
      refine ⟨_, rfl, _, rfl, _, rfl, irr ⟨x, tg, t, ps, ms, fs, a, b, c, rfl, nr.ext sB, po, mo, htg, hR.len, hR.flw, ht.ext sB, fun tr H5 s5 htr => ?_⟩⟩
      dsimp only [gName]
      refine ⟨_, rfl, _, rfl, ⟨(by show 2 ≤ sizeLine; decide), fun u nu => ?_⟩⟩
      have s6 : Same H5 (upd H5 u (.tup [.ref tf, .ref tr])) := fun p o e => (upd_ne (ne_of_none e nu)).trans e
      refine ⟨_, rfl, _, rfl, ⟨(by show 2 ≤ sizeLine; decide), fun v nv => ?_⟩⟩
      have s7 : Same (upd H5 u (.tup [.ref tf, .ref tr])) (upd (upd H5 u (.tup [.ref tf, .ref tr])) v (.tup [.ref tg, .ref tr])) := fun p o e => (upd_ne (ne_of_none e nv)).trans e
      refine ⟨(by show 2 ≤ sizeLine; decide), fun r nr2 => ?_⟩
      have s8 : Same (upd (upd H5 u (.tup [.ref tf, .ref tr])) v (.tup [.ref tg, .ref tr])) (upd (upd (upd H5 u (.tup [.ref tf, .ref tr])) v (.tup [.ref tg, .ref tr])) r (.tup [.ref u, .ref v])) := fun p o e => (upd_ne (ne_of_none e nr2)).trans e
      have s58 := (s6.trans s7).trans s8
      refine ks n r fs _ hS hn hR (sB.trans (s5.trans s58)) ⟨u, v, tf, tg, tr, SqT.of upd_same, (SqT.of upd_same : SqT K (upd H5 u (.tup [.ref tf, .ref tr])) u _).ext (s7.trans s8), (SqT.of upd_same : SqT K (upd (upd H5 u (.tup [.ref tf, .ref tr])) v (.tup [.ref tg, .ref tr])) v _).ext s8, (SqT.of etf).ext (s4.trans (s5.trans s58)), (htg.ext s5).ext s58, htr.ext s58⟩
end
end RV
namespace RV
open PySem L2 TL
section
variable {P : Program} {w : World} {K : PySem.W.Frag} {mg : Str → Option Value} {base : Heap} {C : Addr}
theorem ok_give_net {f : Addr} {fd : FuncData} (F : Fun K "__init__" "NotANet.__init__" s_NotANet___init__ f fd) (T : OwnX K C) (t : PySem.W.takerIn K C "given" = some none) : FnOk P w K mg base CX0 1 f fd ["self", "given"] (sp_give C "given") := by
  refine F.ok sc_NotANet___init__ (fun vs H Q E h => ?_) (fun cdv A outer s H vs Q E hr h => ?_)
  · obtain ⟨_, _, rfl, _⟩ := h
    rfl
  · obtain ⟨a, y, rfl, e, k⟩ := h
    exact ⟨_, pss_one (ps_give (pv 0) (pv 1)), _, rfl, _, rfl, a, C, rfl, T, t, e, k⟩
theorem ok_give_faults {f : Addr} {fd : FuncData} (F : Fun K "__init__" "InvalidFaults.__init__" s_InvalidFaults___init__ f fd) (T : OwnX K C) (t : PySem.W.takerIn K C "given" = some none) : FnOk P w K mg base CX0 1 f fd ["self", "given"] (sp_give C "given") := by
  refine F.ok sc_InvalidFaults___init__ (fun vs H Q E h => ?_) (fun cdv A outer s H vs Q E hr h => ?_)
  · obtain ⟨_, _, rfl, _⟩ := h
    rfl
  · obtain ⟨a, y, rfl, e, k⟩ := h
    exact ⟨_, pss_one (ps_give (pv 0) (pv 1)), _, rfl, _, rfl, a, C, rfl, T, t, e, k⟩
theorem ok_give_name {f : Addr} {fd : FuncData} (F : Fun K "__init__" "UnknownName.__init__" s_UnknownName___init__ f fd) (T : OwnX K C) (t : PySem.W.takerIn K C "given" = some none) : FnOk P w K mg base CX0 1 f fd ["self", "given"] (sp_give C "given") := by
  refine F.ok sc_UnknownName___init__ (fun vs H Q E h => ?_) (fun cdv A outer s H vs Q E hr h => ?_)
  · obtain ⟨_, _, rfl, _⟩ := h
    rfl
  · obtain ⟨a, y, rfl, e, k⟩ := h
    exact ⟨_, pss_one (ps_give (pv 0) (pv 1)), _, rfl, _, rfl, a, C, rfl, T, t, e, k⟩
end
end RV
namespace RV
open PySem L2 TL
section
variable {P : Program} {w : World} {K : PySem.W.Frag} {mg : Str → Option Value} {base : Heap} {CN CP CM CE CU CF : Addr}
theorem ok_chnX {f : Addr} {fd : FuncData} (F : Fun K "check_net" "check_net" s_check_net f fd) (T : Blt mg) (NC : NClass K mg CN) (al : Alien K CN) (EE : Err P w K mg base "NotANet" CE "given") : FnOk P w K mg base (L2.CX P w) 3 f fd ["net"] (sp_chnX K CE) := by
  refine F.okX sc_check_net (fun vs H Q E h => ?_) (fun cdv A outer s H vs Q E hr h => ?_)
  · obtain ⟨_, rfl, _⟩ := h
    rfl
  · obtain ⟨v, rfl, ⟨d, o⟩, er⟩ := h
    exact ⟨_, (pss_one (ps_if (pt_not (pt_val (pe_callB call_isi (by rfl) T.b_isinstance (by decide +kernel) (pa_cons (pv 0) (pa_cons (pe_gC NC.k) pa_nil))))) (pss_one (ps_raise rfl (takes_of rfl rfl rfl rfl) (pmk_err EE hr (pa_cons (pv 0) pa_nil)))) pss_nil)),
      _, rfl, _, _, _, .ref CN, false, rfl, .own CN, o.ty, al d, false, rfl, iteT ⟨_, rfl, v, rfl, fun dd nd => er.new nd⟩⟩
theorem ok_indexO {f : Addr} {fd : FuncData} (F : Fun K "_index_of" "_index_of" s_index_of f fd) (T : Blt mg) (T2 : Blt2 mg) (h_pn : Prp P w K mg base CP "name" 1 (Irr (sp_pn CP))) : FnOk P w K mg base CX0 3 f fd ["parts", "name"] (sp_indexO K CP) := by
  refine F.ok sc_index_of (fun vs H Q E h => ?_) (fun cdv A outer s H vs Q E hr h => ?_)
  · obtain ⟨_, _, _, rfl, _⟩ := h
    rfl
  · obtain ⟨t, us, v, rfl, ht, hl, ⟨d, o, hn⟩, k⟩ := h
    refine ⟨_, (pss_cons (ps_if (pt_not (pt_val (pe_callB call_isi (by rfl) T.b_isinstance (by decide +kernel) (pa_cons (pv 1) (pa_cons (pe_bltn (v := .ty "str") (by rfl) T.b_str (by decide +kernel) rfl) pa_nil))))) (pss_one (ps_ret pe_non)) pss_nil)
      (pss_cons (ps_for PassesOwn.never rfl (pi_enumT (by rfl) T2.b_enumerate (pa_cons (pv 0) pa_nil)) (pg_tup (by rfl) (pgs_cons (pg_name (i := 2) sc_index_of.nd rfl (Or.inl rfl)) (pgs_cons (pg_name (i := 3) sc_index_of.nd rfl (Or.inl rfl)) pgs_nil))) (pss_one (ps_if (pt_cmpR op_eq (pe_propN h_pn (hr.mono (by decide)) (pv 3)) (pv 1) (nomark _)) (pss_one (ps_ret (pv 2))) pss_nil)))
      (pss_one (ps_ret pe_non)))), ?_⟩
    refine ⟨_, rfl, _, _, _, .type "str", isS d, rfl, .ty _, o.ty, kit_odS K d, isS d, rfl, ?_⟩
    cases hd : isS d with
    | false => exact iteT (k H (Same.refl H))
    | true =>
      obtain ⟨y, rfl⟩ : ∃ y, d = .str y := by
        cases d with
        | str y => exact ⟨y, rfl⟩
        | _ => cases hd
      have hy := hn y rfl
      obtain rfl : v = .str y := by
        cases o with
        | dat o => cases o; rfl
      refine iteF ?_
      refine ⟨_, rfl, t, _, rfl, ht.t, for_enumT (xs := rf us) (fun i σ H' => (∃ o2 o3, σ = [some (.ref t), some (.str y), o2, o3]) ∧ Same H H') ⟨⟨none, none, rfl⟩, fun _ _ e => e⟩ ?_ ?_ ?_⟩
      · rintro i σ H1 _ ⟨_, s1⟩
        exact ht.t.ext s1
      · rintro i x σ H1 T' hx' ⟨⟨o1, o2, rfl⟩, s1⟩ nT
        rw [rf, List.getElem?_map] at hx'
        cases hu : us[i]? with
        | none => rw [hu] at hx'; cases hx'
        | some u =>
          rw [hu] at hx'
          obtain rfl : V.ref u.1 = x := Option.some.inj hx'
          have hm := List.mem_of_getElem? hu
          have s2 : Same H (upd H1 T' (.tup [.int (i : Nat), .ref u.1])) := fun b o e => by
            rw [upd_ne (ne_of_none (s1 b o e) nT)]
            exact s1 b o e
          obtain ⟨dx, ex⟩ := (ht.o u hm).ext s2
          refine ⟨T', _, rfl, SqT.of upd_same, rfl, _, _, rfl, _, _, rfl, rfl, ?_⟩
          refine ⟨_, rfl, u.1, dx, _, rfl, ex, irr ⟨u.1, u.2, rfl, ⟨dx, ex⟩, _, rfl, rfl, _, rfl, ?_⟩⟩
          refine ite2 (fun hq => ?_) fun hne => ?_
          · refine absurd ?_ hy
            rw [← V.str.inj (of_decide_eq_true hq)]
            exact List.mem_map.mpr ⟨u.2, List.mem_map.mpr ⟨u, hm, rfl⟩, rfl⟩
          · exact ⟨⟨_, _, rfl⟩, s2⟩
      · rintro σ H1 ⟨⟨o1, o2, rfl⟩, s1⟩
        exact k H1 s1
theorem ok_gpipeX {f : Addr} {fd : FuncData} (F : Fun K "pipe" "Net.pipe" s_Net_pipe f fd) (NC : NClass K mg CN) (h_index : Fn P w K mg base "_index_of" 3 ["parts", "name"] (Irr (sp_indexO K CP))) (EU : Err P w K mg base "UnknownName" CU "given") : FnOk P w K mg base (L2.CX P w) 4 f fd ["self", "name"] (sp_gpipeX K CN CP CM CU) := by
  refine F.okX sc_Net_pipe (fun vs H Q E h => ?_) (fun cdv A outer s H vs Q E hr h => ?_)
  · obtain ⟨_, _, _, _, rfl, _⟩ := h
    rfl
  · obtain ⟨x, ps, ms, v, rfl, nr, hl, hb, er⟩ := h
    refine ⟨_, (pss_cons (ps_set (i := 2) sc_Net_pipe.nd rfl (Or.inl rfl) (pe_fn h_index (hr.mono (by decide)) (pa_cons (pe_fld (pv 0) rfl) (pa_cons (pv 1) pa_nil))))
      (pss_cons (ps_if (pt_cmpR op_isN (pv 2) pe_non (nomark _)) (pss_one (ps_raise rfl (takes_of rfl rfl rfl rfl) (pmk_err EU (hr.mono (by decide)) (pa_cons (pv 1) pa_nil)))) pss_nil) pss_dead)), ?_⟩
    obtain ⟨dx, tp, tm, pu, mu, ex, hp, hm, rfl, rfl⟩ := nr.ex
    exact ⟨_, rfl, x, CN, dx, _, _, rfl, ex, NC.x.cl, NC.n1, netF_p _ _, _, rfl, irr ⟨tp, pu, v, rfl, hp, by rw [sn_len] at hl; exact hl, hb, fun H1 s1 => ⟨_, rfl, rfl, _, rfl, iteT ⟨_, rfl, v, rfl, fun dd nd => (er.same s1).new nd⟩⟩⟩⟩
theorem ok_chpX {f : Addr} {fd : FuncData} (F : Fun K "check_pipe" "check_pipe" s_check_pipe f fd) (h_gpipe : MtdX P w K mg base CN "pipe" 4 ["self", "name"] (Irr (sp_gpipeX K CN CP CM CU))) : FnOk P w K mg base (L2.CX P w) 5 f fd ["net", "pipe"] (sp_gpipeX K CN CP CM CU) := by
  refine F.okX sc_check_pipe (fun vs H Q E h => ?_) (fun cdv A outer s H vs Q E hr h => ?_)
  · obtain ⟨_, _, _, _, rfl, _⟩ := h
    rfl
  · obtain ⟨x, ps, ms, v, rfl, nr, hl, hb, er⟩ := h
    refine ⟨_, (pss_one (ps_expr (pe_mtdX h_gpipe (hr.mono (by decide)) (passes_call (takes_of rfl rfl rfl rfl) fun _ _ _ _ z => z) (pv 0) (pa_cons (pv 1) pa_nil)))), ?_⟩
    obtain ⟨dx, tp, tm, pu, mu, ex, hp, hm, e1, e2⟩ := id nr.ex
    exact ⟨_, rfl, x, dx, _, rfl, ex, rfl, _, rfl, irr ⟨x, ps, ms, v, rfl, nr, hl, hb, er⟩⟩
theorem ok_isbO {f : Addr} {fd : FuncData} (F : Fun K "is_bound" "is_bound" s_is_bound f fd) (c_most : ∃ u, mg "MOST_FAULTS" = some u ∧ RelV (.int 3) u) (h_num : Fn P w K mg base "is_number" 1 ["value"] (Irr (sp_is_number K))) : FnOk P w K mg base CX0 2 f fd ["value"] (sp_isbO K) := by
  refine F.ok sc_is_bound (fun vs H Q E h => ?_) (fun cdv A outer s H vs Q E hr h => ?_)
  · obtain ⟨_, _, rfl, _⟩ := h
    rfl
  · obtain ⟨v, d, rfl, o, k⟩ := h
    refine ⟨_, (pss_one (ps_ret (pe_and (pe_fn h_num (hr.mono (by decide)) (pa_cons (pv 0) pa_nil)) (pe_one (pe_chain op_le op_le pe_int (pv 0) (pe_gI c_most)))))), ?_⟩
    cases d with
    | int i =>
      obtain rfl : v = .int i := by
        cases o with
        | dat o => cases o; rfl
      refine ⟨_, rfl, irr ⟨.int i, rfl, .inl ⟨i, rfl, true, rfl, iteT ⟨_, rfl, _, _, rfl, rfl, decide (0 ≤ i), rfl, ?_⟩⟩⟩⟩
      have k : Q (.bl (decide (0 ≤ i) && decide (i ≤ 3))) H := k
      cases h0 : decide (0 ≤ i) with
      | true =>
        rw [h0, Bool.true_and] at k
        exact iteT ⟨_, _, rfl, rfl, k⟩
      | false =>
        rw [h0, Bool.false_and] at k
        exact iteF k
    | bool b =>
      obtain rfl : v = .bl b := by
        cases o with
        | dat o => cases o; rfl
      exact ⟨_, rfl, irr ⟨.bl b, rfl, .inr (.inl ⟨b, rfl, false, rfl, iteF k⟩)⟩⟩
    | _ => exact ⟨_, rfl, irr ⟨v, rfl, .inr (.inr ⟨_, o.ty, kit_ty (by rfl), false, rfl, iteF k⟩)⟩⟩
end
end RV
namespace RV
open PySem L2 TL
section
variable {P : Program} {w : World} {K : PySem.W.Frag} {mg : Str → Option Value} {base : Heap} {CN CP CM CE CU CF : Addr}
theorem ok_arfO {f : Addr} {fd : FuncData} (F : Fun K "are_faults" "are_faults" s_are_faults f fd) (T : Blt mg) (T2 : Blt2 mg) (h_isb : Fn P w K mg base "is_bound" 2 ["value"] (Irr (sp_isbO K))) : FnOk P w K mg base CX0 3 f fd ["value"] (sp_arfO K) := by
  refine F.ok sc_are_faults (fun vs H Q E h => ?_) (fun cdv A outer s H vs Q E hr h => ?_)
  · obtain ⟨_, rfl, _⟩ := h
    rfl
  · obtain ⟨v, rfl, ⟨d, o, hd⟩, k⟩ := h
    refine ⟨_, (pss_cons (ps_if (PW.pt (pw_or (pt_not (pt_val (pe_callB call_isi (by rfl) T.b_isinstance (by decide +kernel) (pa_cons (pv 0) (pa_cons (pe_bltn (v := .ty "tuple") (by rfl) T2.b_tuple (by decide +kernel) rfl) pa_nil))))) (pw_or1 (pt_cmpR op_ne (pe_callB call_len_seq (by rfl) T.b_len (by decide +kernel) (pa_cons (pv 0) pa_nil)) pe_int (nomark _))))) (pss_one (ps_ret pe_bl)) pss_nil)
      (pss_one (ps_ret (pe_and (pe_callB (cr_all rfl) (by rfl) T.b_all (by decide +kernel) (pa_cons (pe_lc (own := [("number", 1)]) (g := gName 1) (tt := tYes) rfl sc_are_faults.nd (pi_tup (pv 0)) (blkOk_by (N := sc_are_faults_N) (sc := defScope s_are_faults) (by decide +kernel)) (fun _ _ _ _ _ => pg_name (i := 1) sc_are_faults.nd rfl (Or.inl rfl)) (fun _ _ _ _ _ => pts_nil) (fun _ _ _ _ _ => (pe_fn h_isb (hr.mono (by decide)) (pa_cons (pv 1) pa_nil)))) pa_nil)) (pe_one (pe_cmpR op_le (pe_ix ix_tup (pv 0) pe_int (fun _ _ => rfl)) (pe_ix ix_tup (pv 0) pe_int (fun _ _ => rfl)) (nomark _))))))), ?_⟩
    refine ⟨_, rfl, _, _, _, .type "tuple", isT d, rfl, .ty _, o.ty, kit_odT K d, isT d, rfl, ?_⟩
    cases ht : isT d with
    | false => exact iteT (k H (Same.refl H))
    | true =>
      refine iteF ?_
      obtain ⟨a, xs, ds, rfl, rfl, sq, da⟩ : ∃ a xs ds, v = .ref a ∧ d = .tuple ds ∧ SqT K H a xs ∧ DpAll K H xs ds := by
        cases d with
        | tuple ds =>
          cases o with
          | dat o =>
            cases o with
            | @tup a xs _ h1 h2 => exact ⟨a, xs, ds, rfl, rfl, h1, h2⟩
        | _ => cases ht
      refine ⟨_, rfl, a, xs, rfl, .inr sq, rfl, _, rfl, ?_⟩
      by_cases h3 : xs.length = 3
      · obtain ⟨x, y, z, rfl⟩ : ∃ x y z, xs = [x, y, z] := by
          rcases xs with _ | ⟨x, _ | ⟨y, _ | ⟨z, _ | ⟨_, _⟩⟩⟩⟩ <;> simp at h3
          exact ⟨x, y, z, rfl⟩
        cases da with
        | @cons _ _ dx _ h1 r =>
        cases r with
        | @cons _ _ dy _ h2 r =>
        cases r with
        | @cons _ _ dz _ h4 r =>
        cases r
        · refine iteF ?_
          refine ⟨_, rfl, a, rfl, ⟨_, sq⟩, fun D nD => lc_to (xs := [x, y, z]) ([bdB dx, bdB dy, bdB dz].map V.bl) rfl walk_tup nD (by show 3 ≤ 1000; decide) (fun H' s' => sq.ext s') (fun _ => rfl) (fun j x' y' hx hy H2 s2 R kR => ?_) fun H2 s2 hD => ?_⟩
          · rcases j with _ | _ | _ | j
            · cases hx
              cases hy
              exact ⟨_, rfl, irr ⟨_, _, rfl, .dat (dp_same s2 h1), kR H2 (Same.refl _)⟩⟩
            · cases hx
              cases hy
              exact ⟨_, rfl, irr ⟨_, _, rfl, .dat (dp_same s2 h2), kR H2 (Same.refl _)⟩⟩
            · cases hx
              cases hy
              exact ⟨_, rfl, irr ⟨_, _, rfl, .dat (dp_same s2 h4), kR H2 (Same.refl _)⟩⟩
            · cases hx
          · have sq2 := sq.ext s2
            have kk := k H2 s2
            refine ⟨D, [bdB dx, bdB dy, bdB dz], rfl, SqL.of hD, bdB dx && bdB dy && bdB dz, by simp [Bool.and_assoc], ?_⟩
            cases hb : (bdB dx && bdB dy && bdB dz) with
            | false => exact iteF kk
            | true =>
              refine iteT ?_
              simp only [Bool.and_eq_true] at hb
              obtain ⟨⟨b1, b2⟩, b3⟩ := hb
              have isI : ∀ {v : V} {d : PyData}, Dp K H v d → bdB d = true → ∃ i, v = .int i ∧ d = .int i := fun {v d} hv hb => by
                cases hv with
                | int i => exact ⟨i, rfl, rfl⟩
                | _ => exact absurd hb (by simp [bdB])
              obtain ⟨i, rfl, rfl⟩ := isI h1 b1
              obtain ⟨j, rfl, rfl⟩ := isI h2 b2
              obtain ⟨l, rfl, rfl⟩ := isI h4 b3
              have hd2 : (bdB (.int i) && bdB (.int j) && bdB (.int l) && decide (i ≤ j)) = false := hd
              rw [b1, b2, b3, Bool.true_and, Bool.true_and, Bool.true_and] at hd2
              refine ⟨_, rfl, a, _, 0, .int i, rfl, rfl, sq2, rfl, _, rfl, a, _, 1, .int j, rfl, rfl, sq2, rfl, _, _, rfl, rfl, ?_⟩
              dsimp only
              rw [hd2]
              exact kk
      · refine ite2 (fun _ => k H (Same.refl H)) fun hq => ?_
        refine absurd ?_ hq
        first
          | exact decide_eq_true (by intro z; exact h3 (by have := V.int.inj z; omega))
          | (simp; omega)
end
end RV
namespace RV
open PySem L2 TL
section
variable {P : Program} {w : World} {K : PySem.W.Frag} {mg : Str → Option Value} {base : Heap} {CN CP CM CE CU CF : Addr}
theorem ok_chfX {f : Addr} {fd : FuncData} (F : Fun K "check_faults" "check_faults" s_check_faults f fd) (h_arf : Fn P w K mg base "are_faults" 3 ["value"] (Irr (sp_arfO K))) (EF : Err P w K mg base "InvalidFaults" CF "given") : FnOk P w K mg base (L2.CX P w) 4 f fd ["faults"] (sp_chfX K CF) := by
  refine F.okX sc_check_faults (fun vs H Q E h => ?_) (fun cdv A outer s H vs Q E hr h => ?_)
  · obtain ⟨_, rfl, _⟩ := h
    rfl
  · obtain ⟨v, rfl, hb, er⟩ := h
    exact ⟨_, (pss_one (ps_if (pt_not (pt_val (pe_fn h_arf (hr.mono (by decide)) (pa_cons (pv 0) pa_nil)))) (pss_one (ps_raise rfl (takes_of rfl rfl rfl rfl) (pmk_err EF (hr.mono (by decide)) (pa_cons (pv 0) pa_nil)))) pss_nil)),
      _, rfl, irr ⟨v, rfl, hb, fun H1 s1 => ⟨false, rfl, iteT ⟨_, rfl, v, rfl, fun dd nd => (er.same s1).new nd⟩⟩⟩⟩
theorem ok_strX {f : Addr} {fd : FuncData} (F : Fun K "strength" "strength" s_strength f fd)
    (h_chkn : Fx P w K mg base "check_net" 3 ["net"] (Irr (orS (sp_chkn K CN CP CM) (sp_chnX K CE)))) (h_chkp : Fx P w K mg base "check_pipe" 5 ["net", "pipe"] (Irr (orS (sp_chkp K CN CP CM) (sp_gpipeX K CN CP CM CU)))) : FnOk P w K mg base (L2.CX P w) 8 f fd ["net", "pipe"] (sp_twoX K CN CP CM CE CU) := by
  refine F.okX sc_strength (fun vs H Q E h => ?_) (fun cdv A outer s H vs Q E hr h => ?_)
  · obtain ⟨_, _, rfl, _⟩ := h
    rfl
  · obtain ⟨n, v, rfl, h⟩ := h
    refine ⟨_, (pss_cons (ps_expr (pe_fx h_chkn (hr.mono (by decide)) (passes_call (takes_of rfl rfl rfl rfl) fun _ _ _ _ z => z) (pa_cons (pv 0) pa_nil)))
      (pss_cons (ps_expr (pe_fx h_chkp (hr.mono (by decide)) (passes_call (takes_of rfl rfl rfl rfl) fun _ _ _ _ z => z) (pa_cons (pv 0) (pa_cons (pv 1) pa_nil)))) pss_dead)), ?_⟩
    rcases h with ⟨hb, er⟩ | ⟨x, ps, ms, rfl, nr, hl, hb, er⟩
    · exact ⟨_, rfl, irr (.inr ⟨n, rfl, hb, er⟩)⟩
    · exact ⟨_, rfl, irr (.inl ⟨x, ps, ms, rfl, nr, _, rfl, _, rfl, irr (.inr ⟨x, ps, ms, v, rfl, nr, hl, hb, er⟩)⟩)⟩
theorem ok_rngX {f : Addr} {fd : FuncData} (F : Fun K "ring_through" "ring_through" s_ring_through f fd)
    (h_chkn : Fx P w K mg base "check_net" 3 ["net"] (Irr (orS (sp_chkn K CN CP CM) (sp_chnX K CE)))) (h_chkp : Fx P w K mg base "check_pipe" 5 ["net", "pipe"] (Irr (orS (sp_chkp K CN CP CM) (sp_gpipeX K CN CP CM CU)))) : FnOk P w K mg base (L2.CX P w) 8 f fd ["net", "pipe"] (sp_twoX K CN CP CM CE CU) := by
  refine F.okX sc_ring_through (fun vs H Q E h => ?_) (fun cdv A outer s H vs Q E hr h => ?_)
  · obtain ⟨_, _, rfl, _⟩ := h
    rfl
  · obtain ⟨n, v, rfl, h⟩ := h
    refine ⟨_, (pss_cons (ps_expr (pe_fx h_chkn (hr.mono (by decide)) (passes_call (takes_of rfl rfl rfl rfl) fun _ _ _ _ z => z) (pa_cons (pv 0) pa_nil)))
      (pss_cons (ps_expr (pe_fx h_chkp (hr.mono (by decide)) (passes_call (takes_of rfl rfl rfl rfl) fun _ _ _ _ z => z) (pa_cons (pv 0) (pa_cons (pv 1) pa_nil)))) pss_dead)), ?_⟩
    rcases h with ⟨hb, er⟩ | ⟨x, ps, ms, rfl, nr, hl, hb, er⟩
    · exact ⟨_, rfl, irr (.inr ⟨n, rfl, hb, er⟩)⟩
    · exact ⟨_, rfl, irr (.inl ⟨x, ps, ms, rfl, nr, _, rfl, _, rfl, irr (.inr ⟨x, ps, ms, v, rfl, nr, hl, hb, er⟩)⟩)⟩
theorem ok_telX {f : Addr} {fd : FuncData} (F : Fun K "can_tell" "can_tell" s_can_tell f fd)
    (h_chkn : Fx P w K mg base "check_net" 3 ["net"] (Irr (orS (sp_chkn K CN CP CM) (sp_chnX K CE)))) (h_chkp : Fx P w K mg base "check_pipe" 5 ["net", "pipe"] (Irr (orS (sp_chkp K CN CP CM) (sp_gpipeX K CN CP CM CU))))
    (h_chf : Fx P w K mg base "check_faults" 4 ["faults"] (Irr (orS (sp_chf K) (sp_chfX K CF)))) : FnOk P w K mg base (L2.CX P w) 9 f fd ["net", "pipe", "faults"] (sp_threeX K CN CP CM CE CU CF) := by
  refine F.okX sc_can_tell (fun vs H Q E h => ?_) (fun cdv A outer s H vs Q E hr h => ?_)
  · obtain ⟨_, _, _, rfl, _⟩ := h
    rfl
  · obtain ⟨n, v, ft, rfl, h⟩ := h
    refine ⟨_, (pss_cons (ps_expr (pe_fx h_chkn (hr.mono (by decide)) (passes_call (takes_of rfl rfl rfl rfl) fun _ _ _ _ z => z) (pa_cons (pv 0) pa_nil)))
      (pss_cons (ps_expr (pe_fx h_chkp (hr.mono (by decide)) (passes_call (takes_of rfl rfl rfl rfl) fun _ _ _ _ z => z) (pa_cons (pv 0) (pa_cons (pv 1) pa_nil))))
      (pss_cons (ps_expr (pe_fx h_chf (hr.mono (by decide)) (passes_call (takes_of rfl rfl rfl rfl) fun _ _ _ _ z => z) (pa_cons (pv 2) pa_nil))) pss_dead))), ?_⟩
    rcases h with ⟨hb, er⟩ | ⟨x, ps, ms, rfl, nr, hl, hb, er⟩ | ⟨x, ps, ms, y, rfl, rfl, nr, hl, hy, hb, er⟩
    · exact ⟨_, rfl, irr (.inr ⟨n, rfl, hb, er⟩)⟩
    · exact ⟨_, rfl, irr (.inl ⟨x, ps, ms, rfl, nr, _, rfl, _, rfl, irr (.inr ⟨x, ps, ms, v, rfl, nr, hl, hb, er⟩)⟩)⟩
    · exact ⟨_, rfl, irr (.inl ⟨x, ps, ms, rfl, nr, _, rfl, _, rfl, irr (.inl ⟨x, ps, ms, y, rfl, nr, hl, hy, fun H1 s1 => ⟨_, rfl, irr (.inr ⟨ft, rfl, hb.same s1, er.same s1⟩)⟩⟩)⟩)⟩
theorem ok_mslX {f : Addr} {fd : FuncData} (F : Fun K "misleading" "misleading" s_misleading f fd) (h_tell : Fx P w K mg base "can_tell" 9 ["net", "pipe", "faults"] (Irr (orS (sp_tell K CN CP CM) (sp_threeX K CN CP CM CE CU CF)))) : FnOk P w K mg base (L2.CX P w) 10 f fd ["net", "pipe", "faults"] (sp_threeX K CN CP CM CE CU CF) := by
  refine F.okX sc_misleading (fun vs H Q E h => ?_) (fun cdv A outer s H vs Q E hr h => ?_)
  · obtain ⟨_, _, _, rfl, _⟩ := h
    rfl
  · have h' := h
    obtain ⟨n, v, ft, rfl, _⟩ := h'
    exact ⟨_, (pss_cons (ps_if (pt_val (pe_fx h_tell (hr.mono (by decide)) (passes_call (takes_of rfl rfl rfl rfl) fun _ _ _ _ z => z) (pa_cons (pv 0) (pa_cons (pv 1) (pa_cons (pv 2) pa_nil))))) pss_dead pss_dead) pss_dead), _, rfl, _, rfl, _, rfl, irr (.inr h)⟩
/-- what is asked: a net, a pipe, faults, each fit or not -/
structure Fit4 (K : PySem.W.Frag) (CN CP CM CE CU CF : Addr) (way : Nat) (n v ft : V) (H : Hp) (Q : Hp → Prop) (E : XK) : Prop where
  h : (BadNet K n H ∧ ErrS CE n H E) ∨
    (∃ (x : Addr) (ps : List P3) (ms : List M3), n = .ref x ∧ NetR K CN CP CM H x ps ms ∧ ps.length ≤ 12 ∧ BadNm K v H (ps.map (·.1)) ∧ ErrS CU v H E) ∨
    (∃ (x : Addr) (ps : List P3) (ms : List M3) (y : Str), n = .ref x ∧ v = .str y ∧ NetR K CN CP CM H x ps ms ∧ ps.length ≤ 12 ∧ y ∈ ps.map (·.1) ∧ 1 < way ∧ BadFt K ft H ∧ ErrS CF ft H E) ∨
    (∃ (x : Addr) (ps : List P3) (ms : List M3) (y : Str), n = .ref x ∧ v = .str y ∧ NetR K CN CP CM H x ps ms ∧ POk ps ∧ MOk ps ms ∧ y ∈ ps.map (·.1) ∧ (1 < way → ∃ (t : Addr) (a b c : Int), ft = .ref t ∧ SqT K H t [.int a, .int b, .int c] ∧ Flt a b c) ∧ ∀ H', Same H H' → Q H')
def sp_called (K : PySem.W.Frag) (CN CP CM CE CU CF : Addr) : Sp := fun vs H Q E => ∃ (way : Nat) (n v ft : V), vs = [.int way, n, v, ft] ∧ way < 4 ∧ Fit4 K CN CP CM CE CU CF way n v ft H (fun H' => Q .non H') E
theorem ok_called {f : Addr} {fd : FuncData} (F : Fun K "_law_called" "_law_called" s_called f fd)
    (h_stren : Fx P w K mg base "strength" 8 ["net", "pipe"] (Irr (orS (sp_stren K CN CP CM) (sp_twoX K CN CP CM CE CU)))) (h_ring : Fx P w K mg base "ring_through" 8 ["net", "pipe"] (Irr (orS (sp_ring K CN CP CM) (sp_twoX K CN CP CM CE CU))))
    (h_tell : Fx P w K mg base "can_tell" 9 ["net", "pipe", "faults"] (Irr (orS (sp_tell K CN CP CM) (sp_threeX K CN CP CM CE CU CF)))) (h_misl : Fx P w K mg base "misleading" 10 ["net", "pipe", "faults"] (Irr (orS (sp_misl K CN CP CM) (sp_threeX K CN CP CM CE CU CF)))) :
    FnOk P w K mg base (L2.CX P w) 11 f fd ["_law_way", "_law_net", "_law_pipe", "_law_faults"] (sp_called K CN CP CM CE CU CF) := by
  refine F.okX sc_called (fun vs H Q E h => ?_) (fun cdv A outer s H vs Q E hr h => ?_)
  · obtain ⟨_, _, _, _, rfl, _⟩ := h
    rfl
  · obtain ⟨way, n, v, ft, rfl, hw, ⟨h⟩⟩ := h
    refine ⟨_, (pss_one (ps_if (pt_cmpR op_eq (pv 0) pe_int (nomark _)) (pss_one (ps_expr (pe_fx h_stren (hr.mono (by decide)) (passes_call (takes_of rfl rfl rfl rfl) fun _ _ _ _ z => z) (pa_cons (pv 1) (pa_cons (pv 2) pa_nil))))) (pss_one (ps_if (pt_cmpR op_eq (pv 0) pe_int (nomark _)) (pss_one (ps_expr (pe_fx h_ring (hr.mono (by decide)) (passes_call (takes_of rfl rfl rfl rfl) fun _ _ _ _ z => z) (pa_cons (pv 1) (pa_cons (pv 2) pa_nil))))) (pss_one (ps_if (pt_cmpR op_eq (pv 0) pe_int (nomark _)) (pss_one (ps_expr (pe_fx h_tell (hr.mono (by decide)) (passes_call (takes_of rfl rfl rfl rfl) fun _ _ _ _ z => z) (pa_cons (pv 1) (pa_cons (pv 2) (pa_cons (pv 3) pa_nil)))))) (pss_one (ps_expr (pe_fx h_misl (hr.mono (by decide)) (passes_call (takes_of rfl rfl rfl rfl) fun _ _ _ _ z => z) (pa_cons (pv 1) (pa_cons (pv 2) (pa_cons (pv 3) pa_nil)))))))))))), ?_⟩
    obtain rfl | rfl | rfl | rfl : way = 0 ∨ way = 1 ∨ way = 2 ∨ way = 3 := by omega
    · refine ⟨_, rfl, rfl, _, rfl, iteT ⟨_, rfl, _, rfl, irr ?_⟩⟩
      rcases h with h | h | ⟨_, _, _, _, _, _, _, _, _, z, _⟩ | ⟨x, ps, ms, y, rfl, rfl, nr, po, mo, hy, _, k⟩
      · exact .inr ⟨n, v, rfl, .inl h⟩
      · exact .inr ⟨n, v, rfl, .inr h⟩
      · exact absurd z (by decide)
      · exact .inl ⟨x, ps, ms, y, rfl, nr, po, mo.ln, hy, fun H1 s1 => k H1 s1⟩
    · refine ⟨_, rfl, rfl, _, rfl, iteF ⟨_, rfl, rfl, _, rfl, iteT ⟨_, rfl, _, rfl, irr ?_⟩⟩⟩
      rcases h with h | h | ⟨_, _, _, _, _, _, _, _, _, z, _⟩ | ⟨x, ps, ms, y, rfl, rfl, nr, po, mo, hy, _, k⟩
      · exact .inr ⟨n, v, rfl, .inl h⟩
      · exact .inr ⟨n, v, rfl, .inr h⟩
      · exact absurd z (by decide)
      · exact .inl ⟨x, ps, ms, y, rfl, nr, po, mo.ln, hy, fun _ H1 s1 => k H1 s1, fun _ _ _ H1 _ s1 _ _ => k H1 s1⟩
    · refine ⟨_, rfl, rfl, _, rfl, iteF ⟨_, rfl, rfl, _, rfl, iteF ⟨_, rfl, rfl, _, rfl, iteT ⟨_, rfl, _, rfl, _, rfl, irr ?_⟩⟩⟩⟩
      rcases h with h | h | ⟨x, ps, ms, y, e1, e2, nr, hl, hy, _, hb, er⟩ | ⟨x, ps, ms, y, rfl, rfl, nr, po, mo, hy, hf, k⟩
      · exact .inr ⟨n, v, ft, rfl, .inl h⟩
      · exact .inr ⟨n, v, ft, rfl, .inr (.inl h)⟩
      · exact .inr ⟨n, v, ft, rfl, .inr (.inr ⟨x, ps, ms, y, e1, e2, nr, hl, hy, hb, er⟩)⟩
      · obtain ⟨t, a, b, c, rfl, ht, fo⟩ := hf (by decide)
        exact .inl ⟨x, t, ps, ms, y, a, b, c, rfl, nr, po, mo.ln, hy, ht, fo, fun H1 s1 => k H1 s1⟩
    · refine ⟨_, rfl, rfl, _, rfl, iteF ⟨_, rfl, rfl, _, rfl, iteF ⟨_, rfl, rfl, _, rfl, iteF ⟨_, rfl, _, rfl, _, rfl, irr ?_⟩⟩⟩⟩
      rcases h with h | h | ⟨x, ps, ms, y, e1, e2, nr, hl, hy, _, hb, er⟩ | ⟨x, ps, ms, y, rfl, rfl, nr, po, mo, hy, hf, k⟩
      · exact .inr ⟨n, v, ft, rfl, .inl h⟩
      · exact .inr ⟨n, v, ft, rfl, .inr (.inl h)⟩
      · exact .inr ⟨n, v, ft, rfl, .inr (.inr ⟨x, ps, ms, y, e1, e2, nr, hl, hy, hb, er⟩)⟩
      · obtain ⟨t, a, b, c, rfl, ht, fo⟩ := hf (by decide)
        exact .inl ⟨x, t, ps, ms, y, a, b, c, rfl, nr, po, mo, hy, ht, fo, fun _ H1 s1 => k H1 s1, fun _ _ _ H1 _ _ _ s1 _ => k H1 s1⟩
end
end RV
namespace RV
open PySem L2 TL
/-- how the error classes lie to one another -/
structure Fam (K : PySem.W.Frag) (mg : Str → Option Value) (CE CU CF CV CB CA : Addr) : Prop where
  ge : mg "NotANet" = some (.ref CE)
  gu : mg "UnknownName" = some (.ref CU)
  gf : mg "InvalidFaults" = some (.ref CF)
  gv : mg "BadValue" = some (.ref CV)
  gb : mg "BadName" = some (.ref CB)
  ga : mg "NoAnswer" = some (.ref CA)
  bv : mg "ValueError" = none
  bl : mg "LookupError" = none
  oe : OwnX K CE
  ou : OwnX K CU
  of : OwnX K CF
  ne : PySem.W.findIn K (.ref CE) "given" = some none
  nu : PySem.W.findIn K (.ref CU) "given" = some none
  nf : PySem.W.findIn K (.ref CF) "given" = some none
  ee : PySem.W.exmOne K (.ref CE) (.ref CE) = some true
  fe : PySem.W.exmOne K (.ref CF) (.ref CE) = some false
  ff : PySem.W.exmOne K (.ref CF) (.ref CF) = some true
  ue : PySem.W.exmOne K (.ref CU) (.ref CE) = some false
  uf : PySem.W.exmOne K (.ref CU) (.ref CF) = some false
  uu : PySem.W.exmOne K (.ref CU) (.ref CU) = some true
  e1 : PySem.W.kitOne K (.ref CE) (.ref CV) = some true
  e2 : PySem.W.kitOne K (.ref CE) (.type "ValueError") = some true
  e3 : PySem.W.kitOne K (.ref CE) (.ref CF) = some false
  e4 : PySem.W.kitOne K (.ref CE) (.ref CB) = some false
  e5 : PySem.W.kitOne K (.ref CE) (.ref CA) = some false
  f1 : PySem.W.kitOne K (.ref CF) (.ref CV) = some true
  f2 : PySem.W.kitOne K (.ref CF) (.type "ValueError") = some true
  f3 : PySem.W.kitOne K (.ref CF) (.type "LookupError") = some false
  f4 : PySem.W.kitOne K (.ref CF) (.ref CB) = some false
  f5 : PySem.W.kitOne K (.ref CF) (.ref CA) = some false
  u1 : PySem.W.kitOne K (.ref CU) (.ref CB) = some true
  u2 : PySem.W.kitOne K (.ref CU) (.type "LookupError") = some true
  u3 : PySem.W.kitOne K (.ref CU) (.type "ValueError") = some false
  u4 : PySem.W.kitOne K (.ref CU) (.ref CA) = some false
/-- what is told of a net, a name, faults -/
def ToldF (K : PySem.W.Frag) (CN CP CM : Addr) (way : Nat) (n v ft : V) (H : Hp) (kind txt : Str) : Prop :=
  (∃ d, Odd K H n d ∧ Fine d ∧ kind = "net" ∧ txt = d.shown) ∨
  (∃ (x : Addr) (ps : List P3) (ms : List M3) (d : PyData), n = .ref x ∧ NetR K CN CP CM H x ps ms ∧ ps.length ≤ 12 ∧ Odd K H v d ∧ (∀ y, d = .str y → y ∉ ps.map (·.1)) ∧ Fine d ∧ kind = "name" ∧ txt = d.shown) ∨
  (∃ (x : Addr) (ps : List P3) (ms : List M3) (y : Str) (d : PyData), n = .ref x ∧ v = .str y ∧ NetR K CN CP CM H x ps ms ∧ ps.length ≤ 12 ∧ y ∈ ps.map (·.1) ∧ 1 < way ∧ Odd K H ft d ∧ ftB d = false ∧ Fine d ∧ kind = "faults" ∧ txt = d.shown) ∨
  (∃ (x : Addr) (ps : List P3) (ms : List M3) (y : Str), n = .ref x ∧ v = .str y ∧ NetR K CN CP CM H x ps ms ∧ POk ps ∧ MOk ps ms ∧ y ∈ ps.map (·.1) ∧ (1 < way → ∃ (t : Addr) (a b c : Int), ft = .ref t ∧ SqT K H t [.int a, .int b, .int c] ∧ Flt a b c) ∧ kind = "none" ∧ txt = "None")
theorem ToldF.same {K : PySem.W.Frag} {CN CP CM : Addr} {way : Nat} {n v ft : V} {H H' : Hp} {kind txt : Str} (h : ToldF K CN CP CM way n v ft H kind txt) (s : Same H H') : ToldF K CN CP CM way n v ft H' kind txt := by
  rcases h with ⟨d, o, F, e1, e2⟩ | ⟨x, ps, ms, d, e0, nr, hl, o, hn, F, e1, e2⟩ | ⟨x, ps, ms, y, d, e0, e00, nr, hl, hy, w1, o, hb, F, e1, e2⟩ | ⟨x, ps, ms, y, e0, e00, nr, po, mo, hy, hf, e1, e2⟩
  · exact .inl ⟨d, o.same s, F, e1, e2⟩
  · exact .inr (.inl ⟨x, ps, ms, d, e0, nr.ext s, hl, o.same s, hn, F, e1, e2⟩)
  · exact .inr (.inr (.inl ⟨x, ps, ms, y, d, e0, e00, nr.ext s, hl, hy, w1, o.same s, hb, F, e1, e2⟩))
  · exact .inr (.inr (.inr ⟨x, ps, ms, y, e0, e00, nr.ext s, po, mo, hy, fun w1 => (by
      obtain ⟨t, a, b, c, e, ht, fo⟩ := hf w1
      exact ⟨t, a, b, c, e, ht.ext s, fo⟩), e1, e2⟩))
theorem ToldF.ok {K : PySem.W.Frag} {CN CP CM : Addr} {way : Nat} {n v ft : V} {H : Hp} {kind txt : Str} (h : ToldF K CN CP CM way n v ft H kind txt) : PyData.strOk kind = true ∧ PyData.strOk txt = true := by
  rcases h with ⟨d, o, F, rfl, rfl⟩ | ⟨x, ps, ms, d, e0, nr, hl, o, hn, F, rfl, rfl⟩ | ⟨x, ps, ms, y, d, e0, e00, nr, hl, hy, w1, o, hb, F, rfl, rfl⟩ | ⟨x, ps, ms, y, e0, e00, nr, po, mo, hy, hf, rfl, rfl⟩
  · exact ⟨by decide +kernel, F.sk⟩
  · exact ⟨by decide +kernel, F.sk⟩
  · exact ⟨by decide +kernel, F.sk⟩
  · exact ⟨by decide +kernel, by decide +kernel⟩
def sp_told (K : PySem.W.Frag) (CN CP CM : Addr) : Sp := fun vs H Q _ => ∃ (way : Nat) (n v ft : V) (kind txt : Str), vs = [.int way, n, v, ft] ∧ way < 4 ∧ ToldF K CN CP CM way n v ft H kind txt ∧
  ∀ t H', Same H H' → H' t = some (.tup [.str kind, .str txt, .bl true]) → Q (.ref t) H'
section
variable {P : Program} {w : World} {K : PySem.W.Frag} {mg : Str → Option Value} {base : Heap} {CN CP CM CE CU CF CV CB CA : Addr}
theorem ok_told {f : Addr} {fd : FuncData} (F : Fun K "_law_told" "_law_told" s_told f fd) (T : Blt mg) (M : Fam K mg CE CU CF CV CB CA)
    (h_called : Fx P w K mg base "_law_called" 11 ["_law_way", "_law_net", "_law_pipe", "_law_faults"] (Irr (sp_called K CN CP CM CE CU CF))) : FnG P w K mg base 12 f fd ["_law_way", "_law_net", "_law_pipe", "_law_faults"] (sp_told K CN CP CM) := by
  refine gFun F sc_told (fun vs H Q E h => ?_) (fun cdv A outer s H vs Q E gs hr h => ?_)
  · obtain ⟨_, _, _, _, _, _, rfl, _⟩ := h
    rfl
  · obtain ⟨way, n, v, ft, kind, txt, rfl, hw, ht, k⟩ := h
    refine' ⟨_, (pss_cons (ps_set (i := 4) sc_told.nd rfl (Or.inl rfl) (pe_tup (pa_cons pe_str (pa_cons pe_str (pa_cons pe_bl pa_nil)))))
      (pss_cons (ps_try_cl rfl rfl sc_told.nd takes0 (fun W pn xe tk _ => pss_one (ps_expr (pe_fxW h_called (hr.mono (by decide)) tk (pa_cons (pv 0) (pa_cons (pv 1) (pa_cons (pv 2) (pa_cons (pv 3) pa_nil))))))) _)
      (pss_one (ps_ret (pv 4))))), _⟩
    case refine_2.refine'_2 =>
      apply ClsOk.cons (i := 6)
      case hi => rfl
      case hln => rfl
      case ht => exact tests_one ⟨by rfl, by decide, .inl M.ge⟩
      case hsu =>
        intro a oe cls d pn hz hf
        exact pss_cons
                    (ps_set (i := 5) sc_told.nd rfl (Or.inl rfl) (pe_and (pe_callB (call_isS hz hf) (by rfl) T.b_isinstance (by decide +kernel) (pa_cons (pv 6) (pa_cons (pe_gC M.gv) pa_nil)))
                      (pe_and (pe_callB (call_isS hz hf) (by rfl) T.b_isinstance (by decide +kernel) (pa_cons (pv 6) (pa_cons (pe_bltn (v := .ty "ValueError") (by rfl) M.bv (by decide +kernel) rfl) pa_nil)))
                      (pe_one (pe_not (pe_callB (call_isS hz hf) (by rfl) T.b_isinstance (by decide +kernel) (pa_cons (pv 6) (pa_cons (pe_gC M.gf) pa_nil))))))))
                    (pss_one (ps_set (i := 4) sc_told.nd rfl (Or.inl rfl) (pe_tup (pa_cons pe_str (pa_cons (pe_callB (call_reprOK K hr.units gs) (by rfl) T.b_repr (by decide +kernel) (pa_cons (pe_xS hz hf (pv 6)) pa_nil)) (pa_cons (pe_and (pv 5)
                      (pe_and (pe_not (pe_callB (call_isS hz hf) (by rfl) T.b_isinstance (by decide +kernel) (pa_cons (pv 6) (pa_cons (pe_gC M.gb) pa_nil))))
                      (pe_one (pe_not (pe_callB (call_isS hz hf) (by rfl) T.b_isinstance (by decide +kernel) (pa_cons (pv 6) (pa_cons (pe_gC M.ga) pa_nil))))))) pa_nil))))))
      case r =>
        apply ClsOk.cons (i := 6)
        case hi => rfl
        case hln => rfl
        case ht => exact tests_one ⟨by rfl, by decide, .inl M.gf⟩
        case hsu =>
          intro a oe cls d pn hz hf
          exact pss_cons
                    (ps_set (i := 5) sc_told.nd rfl (Or.inl rfl) (pe_and (pe_callB (call_isS hz hf) (by rfl) T.b_isinstance (by decide +kernel) (pa_cons (pv 6) (pa_cons (pe_gC M.gv) pa_nil)))
                      (pe_and (pe_callB (call_isS hz hf) (by rfl) T.b_isinstance (by decide +kernel) (pa_cons (pv 6) (pa_cons (pe_bltn (v := .ty "ValueError") (by rfl) M.bv (by decide +kernel) rfl) pa_nil)))
                      (pe_one (pe_not (pe_callB (call_isS hz hf) (by rfl) T.b_isinstance (by decide +kernel) (pa_cons (pv 6) (pa_cons (pe_bltn (v := .ty "LookupError") (by rfl) M.bl (by decide +kernel) rfl) pa_nil))))))))
                    (pss_one (ps_set (i := 4) sc_told.nd rfl (Or.inl rfl) (pe_tup (pa_cons pe_str (pa_cons (pe_callB (call_reprOK K hr.units gs) (by rfl) T.b_repr (by decide +kernel) (pa_cons (pe_xS hz hf (pv 6)) pa_nil)) (pa_cons (pe_and (pv 5)
                      (pe_and (pe_not (pe_callB (call_isS hz hf) (by rfl) T.b_isinstance (by decide +kernel) (pa_cons (pv 6) (pa_cons (pe_gC M.gb) pa_nil))))
                      (pe_one (pe_not (pe_callB (call_isS hz hf) (by rfl) T.b_isinstance (by decide +kernel) (pa_cons (pv 6) (pa_cons (pe_gC M.ga) pa_nil))))))) pa_nil))))))
        case r =>
          apply ClsOk.cons (i := 6)
          case hi => rfl
          case hln => rfl
          case ht => exact tests_one ⟨by rfl, by decide, .inl M.gu⟩
          case hsu =>
            intro a oe cls d pn hz hf
            exact pss_cons
                    (ps_set (i := 5) sc_told.nd rfl (Or.inl rfl) (pe_and (pe_callB (call_isS hz hf) (by rfl) T.b_isinstance (by decide +kernel) (pa_cons (pv 6) (pa_cons (pe_gC M.gb) pa_nil)))
                      (pe_and (pe_callB (call_isS hz hf) (by rfl) T.b_isinstance (by decide +kernel) (pa_cons (pv 6) (pa_cons (pe_bltn (v := .ty "LookupError") (by rfl) M.bl (by decide +kernel) rfl) pa_nil)))
                      (pe_one (pe_not (pe_callB (call_isS hz hf) (by rfl) T.b_isinstance (by decide +kernel) (pa_cons (pv 6) (pa_cons (pe_bltn (v := .ty "ValueError") (by rfl) M.bv (by decide +kernel) rfl) pa_nil))))))))
                    (pss_one (ps_set (i := 4) sc_told.nd rfl (Or.inl rfl) (pe_tup (pa_cons pe_str (pa_cons (pe_callB (call_reprOK K hr.units gs) (by rfl) T.b_repr (by decide +kernel) (pa_cons (pe_xS hz hf (pv 6)) pa_nil)) (pa_cons (pe_and (pv 5)
                      (pe_one (pe_not (pe_callB (call_isS hz hf) (by rfl) T.b_isinstance (by decide +kernel) (pa_cons (pv 6) (pa_cons (pe_gC M.ga) pa_nil)))))) pa_nil))))))
          case r => exact .nil
    refine ⟨by decide, fun p np => ?_⟩
    dsimp only
    have s1 : Same H (upd H p (.tup [.str "none", .str "None", .bl true])) := same_new np
    generalize hH : upd H p (.tup [.str "none", .str "None", .bl true]) = H1 at s1
    have ep : H1 p = some (.tup [.str "none", .str "None", .bl true]) := by rw [← hH]; exact upd_same
    refine ⟨_, rfl, _, rfl, _, rfl, _, rfl, irr ⟨way, n, v, ft, rfl, hw, ⟨?_⟩⟩⟩
    rcases ht with ⟨d, o, F, rfl, rfl⟩ | ⟨x, ps, ms, d, rfl, nr, hl, o, hn, F, rfl, rfl⟩ | ⟨x, ps, ms, y, d, rfl, rfl, nr, hl, hy, w1, o, hb, F, rfl, rfl⟩ | ⟨x, ps, ms, y, rfl, rfl, nr, po, mo, hy, hf, rfl, rfl⟩
    · refine .inl ⟨⟨d, o.same s1⟩, fun dd H2 s2 e2 => ⟨true, M.ee, fun _ a na => ?_, fun z => nomatch z⟩⟩
      have kp : Kept K (.ref CE) (some dd) "given" n CE dd H2 := ⟨rfl, rfl, M.oe, M.ne, e2⟩
      refine ⟨_, rfl, rIsO_ref kp M.e1 ⟨true, rfl, iteT ⟨_, rfl, rIsO_ty kp M.e2 ⟨true, rfl, iteT ⟨_, rfl, rIsO_ref kp M.e3 ⟨false, rfl, ?_⟩⟩⟩⟩⟩⟩
      refine ⟨_, rfl, rfl, CE, dd, n, kp, reprO_of ((o.same s1).same s2) F ⟨_, rfl, true, rfl, iteT ⟨_, rfl, rIsO_ref kp M.e4 ⟨false, rfl, true, rfl, iteT ⟨_, rfl, rIsO_ref kp M.e5 ⟨false, rfl, ?_⟩⟩⟩⟩⟩⟩
      refine ⟨(by show 3 ≤ sizeLine; decide), fun p2 np2 => ⟨_, rfl, k p2 _ ((s1.trans s2).trans (same_new np2)) upd_same⟩⟩
    · refine .inr (.inl ⟨x, ps, ms, rfl, nr.ext s1, hl, ⟨d, o.same s1, hn⟩, fun dd H2 s2 e2 => ⟨false, M.ue, fun z => (nomatch z), fun _ => ⟨false, M.uf, fun z => (nomatch z), fun _ => ⟨true, M.uu, fun _ a na => ?_, fun z => nomatch z⟩⟩⟩⟩)
      have kp : Kept K (.ref CU) (some dd) "given" v CU dd H2 := ⟨rfl, rfl, M.ou, M.nu, e2⟩
      refine ⟨_, rfl, rIsO_ref kp M.u1 ⟨true, rfl, iteT ⟨_, rfl, rIsO_ty kp M.u2 ⟨true, rfl, iteT ⟨_, rfl, rIsO_ty kp M.u3 ⟨false, rfl, ?_⟩⟩⟩⟩⟩⟩
      refine ⟨_, rfl, rfl, CU, dd, v, kp, reprO_of ((o.same s1).same s2) F ⟨_, rfl, true, rfl, iteT ⟨_, rfl, rIsO_ref kp M.u4 ⟨false, rfl, ?_⟩⟩⟩⟩
      refine ⟨(by show 3 ≤ sizeLine; decide), fun p2 np2 => ⟨_, rfl, k p2 _ ((s1.trans s2).trans (same_new np2)) upd_same⟩⟩
    · refine .inr (.inr (.inl ⟨x, ps, ms, y, rfl, rfl, nr.ext s1, hl, hy, w1, ⟨d, o.same s1, hb⟩, fun dd H2 s2 e2 => ⟨false, M.fe, fun z => (nomatch z), fun _ => ⟨true, M.ff, fun _ a na => ?_, fun z => nomatch z⟩⟩⟩))
      have kp : Kept K (.ref CF) (some dd) "given" ft CF dd H2 := ⟨rfl, rfl, M.of, M.nf, e2⟩
      refine ⟨_, rfl, rIsO_ref kp M.f1 ⟨true, rfl, iteT ⟨_, rfl, rIsO_ty kp M.f2 ⟨true, rfl, iteT ⟨_, rfl, rIsO_ty kp M.f3 ⟨false, rfl, ?_⟩⟩⟩⟩⟩⟩
      refine ⟨_, rfl, rfl, CF, dd, ft, kp, reprO_of ((o.same s1).same s2) F ⟨_, rfl, true, rfl, iteT ⟨_, rfl, rIsO_ref kp M.f4 ⟨false, rfl, true, rfl, iteT ⟨_, rfl, rIsO_ref kp M.f5 ⟨false, rfl, ?_⟩⟩⟩⟩⟩⟩
      refine ⟨(by show 3 ≤ sizeLine; decide), fun p2 np2 => ⟨_, rfl, k p2 _ ((s1.trans s2).trans (same_new np2)) upd_same⟩⟩
    · refine .inr (.inr (.inr ⟨x, ps, ms, y, rfl, rfl, nr.ext s1, po, mo, hy, fun w1 => ?_, fun H2 s2 => ⟨_, rfl, k p _ (s1.trans s2) (s2 _ _ ep)⟩⟩))
      obtain ⟨t, a, b, c, e, ht, fo⟩ := hf w1
      exact ⟨t, a, b, c, e, ht.ext s1, fo⟩
end
end RV
namespace RV
open PySem L2 TL
section
variable {P : Program} {w : World} {K : PySem.W.Frag} {mg : Str → Option Value} {base : Heap}
theorem ok_fit {f : Addr} {fd : FuncData} (F : Fun K "_law_faults_fit" "_law_faults_fit" s_faults_fit f fd) (T : Blt mg) (T2 : Blt2 mg) : FnG P w K mg base 3 f fd ["_law_value"] (sp_fit K) := by
  refine gFun F sc_faults_fit (fun vs H Q E h => ?_) (fun cdv A outer s H vs Q E gs hr h => ?_)
  · obtain ⟨_, _, rfl, _⟩ := h
    rfl
  · obtain ⟨v, d, rfl, o, F, k⟩ := h
    refine ⟨_, (pss_cons (ps_if (PW.pt (pw_or (pt_not (pt_val (pe_callB call_isi (by rfl) T.b_isinstance (by decide +kernel) (pa_cons (pv 0) (pa_cons (pe_bltn (v := .ty "tuple") (by rfl) T2.b_tuple (by decide +kernel) rfl) pa_nil))))) (pw_or1 (pt_cmpR op_ne (pe_callB call_len_seq (by rfl) T.b_len (by decide +kernel) (pa_cons (pv 0) pa_nil)) pe_int (nomark _))))) (pss_one (ps_ret pe_bl)) pss_nil)
      (pss_cons (ps_if (pt_not (pt_val (pe_callB (cr_all rfl) (by rfl) T.b_all (by decide +kernel) (pa_cons (pe_lc (own := [("_law_one", 1)]) (g := gName 1) (tt := tYes) rfl sc_faults_fit.nd (pi_tup (pv 0)) (blkOk_by (N := sc_faults_fit_N) (sc := defScope s_faults_fit) (by decide +kernel)) (fun _ _ _ _ _ => pg_name (i := 1) sc_faults_fit.nd rfl (Or.inl rfl)) (fun _ _ _ _ _ => pts_nil) (fun _ _ _ _ _ => (pe_cmpR op_inK (pe_callB (call_reprOK K hr.units gs) (by rfl) T.b_repr (by decide +kernel) (pa_cons (pv 1) pa_nil)) (pe_lst (pa_cons pe_str (pa_cons pe_str (pa_cons pe_str (pa_cons pe_str pa_nil))))) (by rfl)))) pa_nil)))) (pss_one (ps_ret pe_bl)) pss_nil)
      (pss_one (ps_ret (pe_cmpR op_le (pe_ix ix_tup (pv 0) pe_int (fun _ _ => rfl)) (pe_ix ix_tup (pv 0) pe_int (fun _ _ => rfl)) (nomark _)))))), ?_⟩
    refine ⟨_, rfl, _, _, _, .type "tuple", isT d, rfl, .ty _, o.ty, kit_odT K d, isT d, rfl, ?_⟩
    cases ht : isT d with
    | false =>
      refine iteT ?_
      have e : ftB d = false := by
        cases d with
        | tuple ds => cases ht
        | _ => rfl
      rw [e] at k
      exact k H (Same.refl H)
    | true =>
      refine iteF ?_
      obtain ⟨a, xs, ds, rfl, rfl, sq, da⟩ : ∃ a xs ds, v = .ref a ∧ d = .tuple ds ∧ SqT K H a xs ∧ DpAll K H xs ds := by
        cases d with
        | tuple ds =>
          cases o with
          | dat o =>
            cases o with
            | @tup a xs _ h1 h2 => exact ⟨a, xs, ds, rfl, rfl, h1, h2⟩
        | _ => cases ht
      refine ⟨_, rfl, a, xs, rfl, .inr sq, rfl, _, rfl, ?_⟩
      by_cases h3 : xs.length = 3
      · obtain ⟨x, y, z, rfl⟩ : ∃ x y z, xs = [x, y, z] := by
          rcases xs with _ | ⟨x, _ | ⟨y, _ | ⟨z, _ | ⟨_, _⟩⟩⟩⟩ <;> simp at h3
          exact ⟨x, y, z, rfl⟩
        cases da with
        | @cons _ _ dx _ h1 r =>
        cases r with
        | @cons _ _ dy _ h2 r =>
        cases r with
        | @cons _ _ dz _ h4 r =>
        cases r
        have fb := F.el _ rfl
        have b1 := fb dx (by simp)
        have b2 := fb dy (by simp)
        have b3 := fb dz (by simp)
        refine iteF ?_
        refine ⟨_, rfl, a, rfl, ⟨_, sq⟩, fun D nD => lc_to (xs := [x, y, z]) ([bdB dx, bdB dy, bdB dz].map V.bl) rfl walk_tup nD (by show 3 ≤ 1000; decide) (fun H' s' => sq.ext s') (fun _ => rfl) (fun j x' y' hx hy H2 s2 R kR => ?_) fun H2 s2 hD => ?_⟩
        · rcases j with _ | _ | _ | j
          · cases hx
            cases hy
            exact ⟨_, rfl, reprO_of (.dat (dp_same s2 h1)) b1.fine ⟨(by show 4 ≤ sizeLine; decide), fun q nq => inO b1 nq kR⟩⟩
          · cases hx
            cases hy
            exact ⟨_, rfl, reprO_of (.dat (dp_same s2 h2)) b2.fine ⟨(by show 4 ≤ sizeLine; decide), fun q nq => inO b2 nq kR⟩⟩
          · cases hx
            cases hy
            exact ⟨_, rfl, reprO_of (.dat (dp_same s2 h4)) b3.fine ⟨(by show 4 ≤ sizeLine; decide), fun q nq => inO b3 nq kR⟩⟩
          · cases hx
        · have sq2 := sq.ext s2
          have kk := k H2 s2
          refine ⟨D, [bdB dx, bdB dy, bdB dz], rfl, SqL.of hD, bdB dx && bdB dy && bdB dz, by simp [Bool.and_assoc], ?_⟩
          cases hb : (bdB dx && bdB dy && bdB dz) with
          | false =>
            refine iteT ?_
            have e : ftB (.tuple [dx, dy, dz]) = false := by
              unfold ftB
              split
              · rename_i i j l e
                cases e
                rw [hb]
                rfl
              · rfl
            rw [e] at kk
            exact kk
          | true =>
            refine iteF ?_
            simp only [Bool.and_eq_true] at hb
            obtain ⟨⟨c1, c2⟩, c3⟩ := hb
            have isI : ∀ {v : V} {d : PyData}, Dp K H v d → bdB d = true → ∃ i, v = .int i ∧ d = .int i := fun {v d} hv hb => by
              cases hv with
              | int i => exact ⟨i, rfl, rfl⟩
              | _ => exact absurd hb (by simp [bdB])
            obtain ⟨i, rfl, rfl⟩ := isI h1 c1
            obtain ⟨j, rfl, rfl⟩ := isI h2 c2
            obtain ⟨l, rfl, rfl⟩ := isI h4 c3
            have e : ftB (.tuple [.int i, .int j, .int l]) = decide (i ≤ j) := by
              show (bdB (.int i) && bdB (.int j) && bdB (.int l) && decide (i ≤ j)) = _
              rw [c1, c2, c3, Bool.true_and, Bool.true_and, Bool.true_and]
            rw [e] at kk
            exact ⟨_, rfl, a, _, 0, .int i, rfl, rfl, sq2, rfl, _, rfl, a, _, 1, .int j, rfl, rfl, sq2, rfl, _, _, rfl, rfl, kk⟩
      · refine ite2 (fun _ => ?_) fun hq => ?_
        · have e : ftB (.tuple ds) = false := by
            unfold ftB
            split
            · rename_i i j l e
              cases e
              exact absurd (by
                cases da with
                | cons _ r => cases r with
                  | cons _ r => cases r with
                    | cons _ r => cases r; rfl) h3
            · rfl
          have kk := k H (Same.refl H)
          rw [e] at kk
          exact kk
        · refine absurd ?_ hq
          first
            | exact decide_eq_true (by intro z; exact h3 (by have := V.int.inj z; omega))
            | (simp; omega)
end
end RV
namespace RV
open PySem L2 TL
section
variable {P : Program} {w : World} {K : PySem.W.Frag} {mg : Str → Option Value} {base : Heap} {CN CP CM : Addr}
theorem ok_right {f : Addr} {fd : FuncData} (F : Fun K "_law_right" "_law_right" s_right f fd) (T : Blt mg) (T2 : Blt2 mg) (NC : NClass K mg CN) (al : Alien K CN)
    (h_dip : Fn P w K mg base "_law_dip" 1 ["_law_well_here", "_law_many"] (Irr sp_dip)) (h_model : Fn P w K mg base "_law_model" 3 ["_law_well_here", "_law_most", "_law_more"] (Irr sp_model)) (h_text : Fn P w K mg base "_law_text" 1 ["_law_model_here"] (Irr sp_mtext)) (h_read : ClsM P w K mg base CN "read" 8 ["cls", "text"] (Irr (sp_nread K CN CP CM)))
    (h_fit : FnGd P w K mg base "_law_faults_fit" 3 ["_law_value"] (Irr (sp_fit K))) (h_told : FnGd P w K mg base "_law_told" 12 ["_law_way", "_law_net", "_law_pipe", "_law_faults"] (Irr (sp_told K CN CP CM))) : FnG P w K mg base 13 f fd ["_law_well_here"] sp_right23 := by
  refine gFun F sc_right (fun vs H Q E h => ?_) (fun cdv A outer s H vs Q E gs hr h => ?_)
  · obtain ⟨_, _, rfl, _⟩ := h
    rfl
  · obtain ⟨a, n, rfl, w0, hn, k⟩ := h
    refine ⟨_, (pss_cons (ps_set (i := 1) sc_right.nd rfl (Or.inl rfl) (pe_fn h_model (hr.mono (by decide)) (pa_cons (pv 0) (pa_cons pe_int (pa_cons pe_int pa_nil)))))
      (pss_cons (ps_par (i := 2) (j := 3) (by rfl) sc_right.nd rfl rfl (by decide) rfl rfl (pa_cons (pe_cm h_read (hr.mono (by decide)) (pe_gC NC.k) (pa_cons (pe_fn h_text (hr.mono (by decide)) (pa_cons (pv 1) pa_nil)) pa_nil)) (pa_cons (pe_ix ix_tup (pe_ix ix_list (pe_ix ix_list (pv 1) pe_int (fun _ _ => rfl)) (pe_fn h_dip (hr.mono (by decide)) (pa_cons (pv 0) (pa_cons (pe_callB call_len_seq (by rfl) T.b_len (by decide +kernel) (pa_cons (pe_ix ix_list (pv 1) pe_int (fun _ _ => rfl)) pa_nil)) pa_nil))) (fun _ _ => rfl)) pe_int (fun _ _ => rfl)) pa_nil)) (by rfl))
      (pss_cons (ps_setLc (i := 4) (own := [("_law_one", 9)]) (g := gName 9) (tt := tYes) rfl sc_right.nd rfl rfl (sw_true rfl rfl rfl (by decide +kernel)) (pi_list (pe_ix ix_list (pv 1) pe_int (fun _ _ => rfl))) (blkOk_by (N := sc_right_N) (sc := defScope s_right) (by decide +kernel)) (fun _ _ _ _ _ => pg_name (i := 9) sc_right.nd rfl (Or.inl rfl)) (fun _ _ _ _ _ => pts_nil) (fun _ _ _ _ _ => (pe_ix (ix_tupK (K := K)) (pv 9) pe_int (fun _ _ => rfl))))
      (pss_cons (ps_set (i := 5) sc_right.nd rfl (Or.inl rfl) (pe_lst (pa_cons pe_non (pa_cons pe_int (pa_cons pe_bl (pa_cons pe_str (pa_cons (pe_lst pa_nil) (pa_cons pe_dnewK (pa_cons (pe_tup pa_nil) (pa_cons pe_str (pa_cons (pe_tup (pa_cons (pv 3) pa_nil)) (pa_cons (pe_lst (pa_cons (pv 3) pa_nil)) (pa_cons (pe_op op_add_str (pv 3) pe_str) (pa_cons (pe_fn h_text (hr.mono (by decide)) (pa_cons (pv 1) pa_nil)) (pa_cons (pe_un un_neg pe_int) pa_nil)))))))))))))))
      (pss_cons (ps_set (i := 6) sc_right.nd rfl (Or.inl rfl) (pe_op op_cat (pe_op op_cat (pe_op op_cat (pv 5) (pe_ix ix_list (pv 1) pe_int (fun _ _ => rfl))) (pe_lc (own := [("_law_gauge", 14)]) (g := gName 14) (tt := tYes) rfl sc_right.nd (pi_list (pe_ix ix_list (pv 1) pe_int (fun _ _ => rfl))) (blkOk_by (N := sc_right_N) (sc := defScope s_right) (by decide +kernel)) (fun _ _ _ _ _ => pg_name (i := 14) sc_right.nd rfl (Or.inl rfl)) (fun _ _ _ _ _ => pts_nil) (fun _ _ _ _ _ => (pe_ix (ix_tupK (K := K)) (pv 14) pe_int (fun _ _ => rfl))))) (pe_lst (pa_cons (pe_disp (pps_cons pe_str pe_int pps_nil) rfl rfl (by simp) (by decide)) (pa_cons (pe_tup (pa_cons (pe_lst pa_nil) pa_nil)) (pa_cons (pe_op op_add_str (pv 3) pe_str) pa_nil))))))
      (pss_cons (ps_set (i := 7) sc_right.nd rfl (Or.inl rfl) (pe_lst (pa_cons (pe_tup (pa_cons pe_int (pa_cons pe_int pa_nil))) (pa_cons (pe_tup (pa_cons pe_int (pa_cons pe_int (pa_cons pe_int pa_nil)))) (pa_cons (pe_tup (pa_cons pe_int (pa_cons pe_int (pa_cons pe_int pa_nil)))) (pa_cons (pe_tup (pa_cons pe_int (pa_cons pe_int (pa_cons pe_int pa_nil)))) (pa_cons (pe_tup (pa_cons (pe_un un_neg pe_int) (pa_cons pe_int (pa_cons pe_int pa_nil)))) (pa_cons (pe_lst (pa_cons pe_int (pa_cons pe_int (pa_cons pe_int pa_nil)))) (pa_cons pe_non (pa_cons (pe_tup (pa_cons pe_int (pa_cons pe_int (pa_cons pe_bl pa_nil)))) (pa_cons (pe_tup (pa_cons pe_int (pa_cons pe_int (pa_cons pe_str pa_nil)))) pa_nil)))))))))))
      (pss_cons (ps_set (i := 7) sc_right.nd rfl (Or.inl rfl) (pe_op op_cat (pv 7) (pe_lst (pa_cons (pe_tup (pa_cons pe_int (pa_cons pe_int (pa_cons pe_int pa_nil)))) (pa_cons (pe_tup (pa_cons pe_int (pa_cons pe_int (pa_cons pe_int (pa_cons pe_int pa_nil))))) (pa_cons pe_str (pa_cons pe_int (pa_cons (pe_tup (pa_cons pe_bl (pa_cons pe_int (pa_cons pe_int pa_nil)))) (pa_cons (pe_tup (pa_cons (pe_lst pa_nil) (pa_cons pe_int (pa_cons pe_int pa_nil)))) (pa_cons (pe_tup (pa_cons pe_int (pa_cons pe_int (pa_cons (pe_un un_neg pe_int) pa_nil)))) (pa_cons (pe_tup (pa_cons pe_int (pa_cons pe_int (pa_cons pe_int pa_nil)))) pa_nil)))))))))))
      (pss_cons (ps_set (i := 7) sc_right.nd rfl (Or.inl rfl) (pe_op op_cat (pv 7) (pe_lst (pa_cons (pe_tup (pa_cons (pe_tup (pa_cons pe_int pa_nil)) (pa_cons pe_int (pa_cons pe_int pa_nil)))) (pa_cons pe_dnewK (pa_cons (pe_tup (pa_cons pe_int (pa_cons pe_int (pa_cons pe_int pa_nil)))) pa_nil))))))
      (pss_cons (ps_for PassesOwn.never rfl (pi_range1 rfl T.b_range (pa_cons pe_int pa_nil)) (pg_name (i := 8) sc_right.nd rfl (Or.inl rfl)) (pss_cons (ps_set (i := 9) sc_right.nd rfl (Or.inl rfl) (pe_ifExp (pt_cmpR op_eq (pe_fn h_dip (hr.mono (by decide)) (pa_cons (pv 0) (pa_cons pe_int pa_nil))) pe_int (nomark _)) (pe_ix ix_list (pv 5) (pe_fn h_dip (hr.mono (by decide)) (pa_cons (pv 0) (pa_cons (pe_callB call_len_seq (by rfl) T.b_len (by decide +kernel) (pa_cons (pv 5) pa_nil)) pa_nil))) (fun _ _ => rfl)) (pv 2))) (pss_cons (ps_set (i := 10) sc_right.nd rfl (Or.inl rfl) (pe_ifExp (pt_cmpR op_eq (pe_fn h_dip (hr.mono (by decide)) (pa_cons (pv 0) (pa_cons pe_int pa_nil))) pe_int (nomark _)) (pe_ix ix_list (pv 6) (pe_fn h_dip (hr.mono (by decide)) (pa_cons (pv 0) (pa_cons (pe_callB call_len_seq (by rfl) T.b_len (by decide +kernel) (pa_cons (pv 6) pa_nil)) pa_nil))) (fun _ _ => rfl)) (pv 3))) (pss_cons (ps_set (i := 11) sc_right.nd rfl (Or.inl rfl) (pe_tup (pa_cons (pe_fn h_dip (hr.mono (by decide)) (pa_cons (pv 0) (pa_cons pe_int pa_nil))) (pa_cons pe_int (pa_cons (pe_fn h_dip (hr.mono (by decide)) (pa_cons (pv 0) (pa_cons pe_int pa_nil))) pa_nil))))) (pss_cons (ps_set (i := 11) sc_right.nd rfl (Or.inl rfl) (pe_ifExp (pt_cmpR op_eq (pe_fn h_dip (hr.mono (by decide)) (pa_cons (pv 0) (pa_cons pe_int pa_nil))) pe_int (nomark _)) (pe_ix ix_list (pv 7) (pe_fn h_dip (hr.mono (by decide)) (pa_cons (pv 0) (pa_cons (pe_callB call_len_seq (by rfl) T.b_len (by decide +kernel) (pa_cons (pv 7) pa_nil)) pa_nil))) (fun _ _ => rfl)) (pv 11))) (pss_cons (ps_par (i := 12) (j := 13) (by rfl) sc_right.nd rfl rfl (by decide) rfl rfl (pa_cons (pe_fn h_dip (hr.mono (by decide)) (pa_cons (pv 0) (pa_cons pe_int pa_nil))) (pa_cons (pe_tup (pa_cons pe_str (pa_cons pe_str (pa_cons pe_bl pa_nil)))) pa_nil)) (by rfl)) (pss_cons (ps_if (PW.pt (pw_and (pt_cmpR op_gt (pv 12) pe_int (nomark _)) (pw_and1 (pt_not (pt_val (pe_fnG h_fit gs (hr.mono (by decide)) (pa_cons (pv 11) pa_nil))))))) (pss_one (ps_set (i := 13) sc_right.nd rfl (Or.inl rfl) (pe_tup (pa_cons pe_str (pa_cons (pe_callB (call_reprO hr.units gs) (by rfl) T.b_repr (by decide +kernel) (pa_cons (pv 11) pa_nil)) (pa_cons pe_bl pa_nil)))))) pss_nil) (pss_cons (ps_if (PW.pt (pw_or (pt_not (pt_val (pe_callB call_isi (by rfl) T.b_isinstance (by decide +kernel) (pa_cons (pv 10) (pa_cons (pe_bltn (v := .ty "str") (by rfl) T.b_str (by decide +kernel) rfl) pa_nil))))) (pw_or1 (pt_cmpR op_notIn_seq (pv 10) (pv 4) (by rfl))))) (pss_one (ps_set (i := 13) sc_right.nd rfl (Or.inl rfl) (pe_tup (pa_cons pe_str (pa_cons (pe_callB (call_reprO hr.units gs) (by rfl) T.b_repr (by decide +kernel) (pa_cons (pv 10) pa_nil)) (pa_cons pe_bl pa_nil)))))) pss_nil) (pss_cons (ps_if (pt_not (pt_val (pe_callB call_isi (by rfl) T.b_isinstance (by decide +kernel) (pa_cons (pv 9) (pa_cons (pe_gC NC.k) pa_nil))))) (pss_one (ps_set (i := 13) sc_right.nd rfl (Or.inl rfl) (pe_tup (pa_cons pe_str (pa_cons (pe_callB (call_reprO hr.units gs) (by rfl) T.b_repr (by decide +kernel) (pa_cons (pv 9) pa_nil)) (pa_cons pe_bl pa_nil)))))) pss_nil) (pss_one (ps_if (pt_cmpR (op_neD hr.units) (pe_fnG h_told gs (hr.mono (by decide)) (pa_cons (pv 12) (pa_cons (pv 9) (pa_cons (pv 10) (pa_cons (pv 11) pa_nil))))) (pv 13) (nomark _)) (pss_one (ps_ret pe_bl)) pss_nil)))))))))))
      (pss_one (ps_ret pe_bl))))))))))), ?_⟩
    refine ⟨_, rfl, irr ⟨a, n, 5, 5, rfl, w0, by omega, by decide, by decide, by decide, fun l lp lq lg pl pu gu H4 h4 ok => ?_⟩⟩
    generalize hM : Mod.mk pl (sn pu) (sn gu) = M at ok
    have eP : pl = M.pl := by rw [← hM]
    have eQ : sn pu = M.qs := by rw [← hM]
    have eG : sn gu = M.gs := by rw [← hM]
    have mdL : ∀ {H'}, (∀ p ∈ lM l lp lq lg pl pu gu, H' p.1 = some p.2) → MdAt H' l M := fun hp => by
      subst hM
      exact ⟨lp, lq, lg, pu, gu, rfl, rfl, hp⟩
    have md := mdL fun p hp => h4.at hp
    have mkl : (l, HO.lst [.ref lp, .ref lq, .ref lg]) ∈ lM l lp lq lg pl pu gu := List.mem_cons_self
    have mkp : (lp, HO.lst (pl.map V.str)) ∈ lM l lp lq lg pl pu gu := List.mem_cons_of_mem _ List.mem_cons_self
    have mkq : (lq, HO.lst (rf pu)) ∈ lM l lp lq lg pl pu gu := List.mem_cons_of_mem _ (List.mem_cons_of_mem _ List.mem_cons_self)
    have mkg : (lg, HO.lst (rf gu)) ∈ lM l lp lq lg pl pu gu := List.mem_cons_of_mem _ (List.mem_cons_of_mem _ (List.mem_cons_of_mem _ List.mem_cons_self))
    have mku : ∀ u ∈ pu, (u.1, oQ u.2) ∈ lM l lp lq lg pl pu gu := fun u hu => List.mem_cons_of_mem _ (List.mem_cons_of_mem _ (List.mem_cons_of_mem _ (List.mem_cons_of_mem _ (List.mem_append_left _ (List.mem_map.mpr ⟨u, hu, rfl⟩)))))
    have mkv : ∀ u ∈ gu, (u.1, oG u.2) ∈ lM l lp lq lg pl pu gu := fun u hu => List.mem_cons_of_mem _ (List.mem_cons_of_mem _ (List.mem_cons_of_mem _ (List.mem_cons_of_mem _ (List.mem_append_right _ (List.mem_map.mpr ⟨u, hu, rfl⟩)))))
    have pul : pu.length = M.qs.length := by rw [← eQ, sn_len]
    have gul : gu.length = M.gs.length := by rw [← eG, sn_len]
    have po := ok.po (by decide)
    have mo := ok.mo (by decide)
    have q2 := ok.q2
    have qm := ok.qm
    have gm := ok.gm
    dsimp only [gName]
    refine ⟨rfl, _, rfl, irr ⟨l, M, 5, 5, rfl, md, ok, by decide, by decide, fun H5 s5 => irr ⟨M.ps, M.ms, rfl, po, mo, fun x H6 s6 nr6 => ?_⟩⟩⟩
    have g46 := (h4.same (s5.trans s6)).gr
    have h6 := (h4.same (s5.trans s6)).rebase
    refine ⟨_, rfl, l, _, 1, _, rfl, rfl, SqL.of (h6.at mkl), rfl, _, rfl, _, rfl, l, _, 1, _, rfl, rfl, SqL.of (h6.at mkl), rfl, lq, _, rfl, .inl (SqL.of (h6.at mkq)), irr ⟨a, _, _, rfl, h6.well, by omega, by rw [rf_len]; omega, by rw [rf_len]; omega, fun r H7 r0 r1 g7 w7 => ?_⟩⟩
    have h7 := h6.grow g7 w7
    obtain ⟨i, rfl⟩ : ∃ i : Nat, r = (i : Int) := ⟨r.toNat, by omega⟩
    have hi : i < pu.length := by rw [rf_len] at r1; omega
    obtain ⟨u, hu⟩ : ∃ u, pu[i]? = some u := ⟨_, List.getElem?_eq_getElem hi⟩
    have hum := List.mem_of_getElem? hu
    refine ⟨lq, _, (i : Int), .ref u.1, rfl, rfl, SqL.of (h7.at mkq), atI_nat (by rw [rf, List.getElem?_map, hu]; rfl), u.1, _, 0, .str u.2.1, rfl, rfl, SqT.of (h7.at (mku u hum)), rfl, ?_⟩
    dsimp only [gName]
    have hg : u.2.1 ∈ M.ps.map (·.1) := by
      rw [Mod.names, ← eQ]
      exact List.mem_map.mpr ⟨u.2, List.mem_map.mpr ⟨u, hum, rfl⟩, rfl⟩
    generalize u.2.1 = g at hg
    have e0 : ∀ (σ : L2.St) (H : Hp) (R : Bool → Hp → Prop), R true H → tYes σ H R := fun _ _ _ r => r
    refine ⟨_, _, rfl, ?_⟩
    refine ⟨_, rfl, l, _, 1, _, rfl, rfl, SqL.of (h7.at mkl), rfl, lq, rfl, ⟨_, SqL.of (h7.at mkq)⟩, fun D nD => lc_to (xs := rf pu) ((M.ps.map (·.1)).map V.str) (by rw [List.length_map, Mod.names, List.length_map, rf_len, pul]) walk_list nD (by rw [rf_len]; omega) (fun H' s' => SqL.of (s' _ _ (h7.at mkq))) (fun _ => rfl) (fun j v y hv hy H8 s8 R kR => ?_) fun H8 s8 hD => ?_⟩
    · obtain ⟨u', hu', rfl⟩ := rf_get hv
      have hm := List.mem_of_getElem? hu'
      have q' := sn_get hu'
      rw [eQ] at q'
      rw [Mod.names, List.getElem?_map, List.getElem?_map, q'] at hy
      obtain rfl : V.str u'.2.1 = y := Option.some.inj hy
      exact ⟨_, rfl, u'.1, _, 0, .str u'.2.1, rfl, rfl, SqT.of (s8 _ _ (h7.at (mku u' hm))), rfl, kR H8 (Same.refl _)⟩
    have h8 := h7.same s8
    dsimp only [gName]
    refine ⟨(by show 0 ≤ sizeLine; decide), fun l0 nl0 => fun d0 nd0 => ⟨(by show 0 ≤ sizeLine; decide), fun t0 nt0 => ⟨_, rfl, (by show 1 ≤ sizeLine; decide), fun t1 nt1 => ⟨_, rfl, (by show 1 ≤ sizeLine; decide), fun l1 nl1 => ?_⟩⟩⟩⟩
    have nDa : D ≠ a := h7.off nD
    have hA0 := ((((((h8.add nDa hD).new nl0 (o := .lst [])).new nd0 (o := .dK [])).new nt0 (o := .tup [])).new nt1 (o := .tup [.str g])).new nl1 (o := .lst [.str g]))
    have gl : g.length ≤ 8 := by
      obtain ⟨p, hp, rfl⟩ := List.mem_map.mp hg
      have := isNm_len (po.nm p hp).1
      rw [← cd_len] at this
      omega
    refine ⟨_, rfl, _, _, rfl, rfl, (by
      have : (("?" : Str)).length = 1 := by decide +kernel
      rw [this, sizeLine_eq]
      omega), ?_⟩
    have mdA := mdL fun p hp => hA0.at (by (repeat (first | assumption | exact List.mem_cons_self | apply List.mem_cons_of_mem)))
    refine ⟨_, rfl, irr ⟨l, M, 5, 5, rfl, mdA, ok, by decide, by decide, fun H9 s9 => ?_⟩⟩
    have hA1 := hA0.same s9
    refine ⟨_, rfl, (by show 13 ≤ sizeLine; decide), fun A nA => ?_⟩
    have hA := hA1.new nA (o := .lst [.non, .int 0, .bl true, .str "", .ref l0, .ref d0, .ref t0, .str "P", .ref t1, .ref l1, .str (g ++ "?"), .str (netT M.ps M.ms), .int (-1)])
    clear mdA
    revert hA
    generalize upd H9 A _ = HA
    intro hA
    dsimp only [gName]
    refine ⟨_, rfl, _, rfl, l, _, 0, _, rfl, rfl, SqL.of (hA.at (by (repeat (first | assumption | exact List.mem_cons_self | apply List.mem_cons_of_mem)))), rfl, A, lp, _, _, rfl, rfl, hA.at (by (repeat (first | assumption | exact List.mem_cons_self | apply List.mem_cons_of_mem))), hA.at (by (repeat (first | assumption | exact List.mem_cons_self | apply List.mem_cons_of_mem))), (by
      rw [eP, List.length_map, sizeLine_eq]
      have := ok.p4
      show 13 + _ ≤ _
      omega), fun B1 nB1 => ?_⟩
    have hB1 := hA.new nB1 (o := .lst ([.non, .int 0, .bl true, .str "", .ref l0, .ref d0, .ref t0, .str "P", .ref t1, .ref l1, .str (g ++ "?"), .str (netT M.ps M.ms), .int (-1)] ++ pl.map V.str))
    revert hB1
    generalize upd HA B1 _ = HB
    intro hB1
    refine ⟨_, rfl, l, _, 2, _, rfl, rfl, SqL.of (hB1.at (by (repeat (first | assumption | exact List.mem_cons_self | apply List.mem_cons_of_mem)))), rfl, lg, rfl, ⟨_, SqL.of (hB1.at (by (repeat (first | assumption | exact List.mem_cons_self | apply List.mem_cons_of_mem))))⟩, fun D2 nD2 => lc_to (xs := rf gu) ((M.gs.map (·.1)).map V.str) (by rw [List.length_map, List.length_map, rf_len, gul]) walk_list nD2 (by rw [rf_len]; omega) (fun H' s' => SqL.of (s' _ _ (hB1.at (by (repeat (first | assumption | exact List.mem_cons_self | apply List.mem_cons_of_mem)))))) (fun _ => rfl) (fun j v y hv hy H8 s8 R kR => ?_) fun HC sC hD2 => ?_⟩
    · obtain ⟨u', hu', rfl⟩ := rf_get hv
      have hm := List.mem_of_getElem? hu'
      have q' := sn_get hu'
      rw [eG] at q'
      rw [List.getElem?_map, List.getElem?_map, q'] at hy
      obtain rfl : V.str u'.2.1 = y := Option.some.inj hy
      exact ⟨_, rfl, u'.1, _, 0, .str u'.2.1, rfl, rfl, SqT.of (s8 _ _ (hB1.at (by have := mkv u' hm; (repeat (first | assumption | exact List.mem_cons_self | apply List.mem_cons_of_mem))))), rfl, kR H8 (Same.refl _)⟩
    have hC := (hB1.same sC).add (hB1.off nD2) hD2
    refine ⟨B1, D2, _, _, rfl, rfl, hC.at (by (repeat (first | assumption | exact List.mem_cons_self | apply List.mem_cons_of_mem))), hC.at (by (repeat (first | assumption | exact List.mem_cons_self | apply List.mem_cons_of_mem))), (by
      rw [List.length_append, List.length_map, List.length_map, List.length_map, eP, sizeLine_eq]
      have := ok.p4
      show 13 + _ + _ ≤ _
      omega), fun B2 nB2 => ?_⟩
    have hB2 := hC.new nB2 (o := .lst (([.non, .int 0, .bl true, .str "", .ref l0, .ref d0, .ref t0, .str "P", .ref t1, .ref l1, .str (g ++ "?"), .str (netT M.ps M.ms), .int (-1)] ++ pl.map V.str) ++ (M.gs.map (·.1)).map V.str))
    revert hB2
    generalize upd HC B2 _ = HD
    intro hB2
    refine fun d1 nd1 => ⟨upd_same, [(.inr "pipes", .int 1)], rfl, by decide, ?_⟩
    rw [upd_two, merge1]
    have hD1 := hB2.new nd1 (o := .dK [(.inr "pipes", .int 1)])
    refine ⟨sz3 0 rfl, fun l2 nl2 => ⟨sz3 1 rfl, fun t2 nt2 => ⟨_, rfl, _, _, rfl, rfl, (by
      have : (("z" : Str)).length = 1 := by decide +kernel
      rw [this, sizeLine_eq]
      omega), sz3 3 rfl, fun C nC => ?_⟩⟩⟩
    have hC2 := ((hD1.new nl2 (o := .lst [])).new nt2 (o := .tup [.ref l2])).new nC (o := .lst [.ref d1, .ref t2, .str (g ++ "z")])
    revert hC2
    generalize upd _ C _ = HE
    intro hC2
    refine ⟨B2, C, _, _, rfl, rfl, hC2.at (by (repeat (first | assumption | exact List.mem_cons_self | apply List.mem_cons_of_mem))), hC2.at (by (repeat (first | assumption | exact List.mem_cons_self | apply List.mem_cons_of_mem))), (by
      rw [List.length_append, List.length_append, List.length_map, List.length_map, List.length_map, eP, sizeLine_eq]
      have := ok.p4
      show 13 + _ + _ + 3 ≤ _
      omega), fun B nB => ?_⟩
    have hB := hC2.new nB (o := .lst ((([.non, .int 0, .bl true, .str "", .ref l0, .ref d0, .ref t0, .str "P", .ref t1, .ref l1, .str (g ++ "?"), .str (netT M.ps M.ms), .int (-1)] ++ pl.map V.str) ++ (M.gs.map (·.1)).map V.str) ++ [.ref d1, .ref t2, .str (g ++ "z")]))
    revert hB
    generalize upd HE B _ = HF
    intro hB
    have kB := hB.sub (L' := (B, .lst ((([.non, .int 0, .bl true, .str "", .ref l0, .ref d0, .ref t0, .str "P", .ref t1, .ref l1, .str (g ++ "?"), .str (netT M.ps M.ms), .int (-1)] ++ pl.map V.str) ++ (M.gs.map (·.1)).map V.str) ++ [.ref d1, .ref t2, .str (g ++ "z")])) ::
      (t2, .tup [.ref l2]) :: (l2, .lst []) :: (d1, .dK [(.inr "pipes", .int 1)]) ::
      (A, .lst [.non, .int 0, .bl true, .str "", .ref l0, .ref d0, .ref t0, .str "P", .ref t1, .ref l1, .str (g ++ "?"), .str (netT M.ps M.ms), .int (-1)]) ::
      (l1, .lst [.str g]) :: (t1, .tup [.str g]) :: (t0, .tup []) :: (d0, .dK []) :: (l0, .lst []) :: (D, .lst ((M.ps.map (·.1)).map V.str)) :: []) (fun p hp => by
        simp only [List.mem_cons, List.not_mem_nil, or_false] at hp
        rcases hp with rfl | rfl | rfl | rfl | rfl | rfl | rfl | rfl | rfl | rfl | rfl <;> (repeat (first | assumption | exact List.mem_cons_self | apply List.mem_cons_of_mem)))
    have sF : Same (del H6 a) HF := grow_del hB.gr
    clear hB hC2 hD1 hB2 hC hB1 hA hA1 hA0
    dsimp only [gName]
    refine ⟨sz3 2 rfl, fun b1 n1 => ⟨sz3 3 rfl, fun b2 n2 => ⟨sz3 3 rfl, fun b3 n3 => ⟨sz3 3 rfl, fun b4 n4 => ⟨_, rfl, sz3 3 rfl, fun b5 n5 => ⟨sz3 3 rfl, fun b6 n6 => ⟨sz3 3 rfl, fun b7 n7 => ⟨sz3 3 rfl, fun b8 n8 => ⟨sz3 9 rfl, fun Z1 nZ1 => ?_⟩⟩⟩⟩⟩⟩⟩⟩⟩
    have hZ1 := ((((((((kB.new n1 (o := .tup [.int 0, .int 0])).new n2 (o := .tup [.int 1, .int 0, .int 0])).new n3 (o := .tup [.int 0, .int 4, .int 0])).new n4 (o := .tup [.int 0, .int 0, .int 4])).new n5 (o := .tup [.int (-1), .int 0, .int 0])).new n6 (o := .lst [.int 0, .int 0, .int 0])).new n7 (o := .tup [.int 0, .int 0, .bl true])).new n8 (o := .tup [.int 0, .int 1, .str "0"])).new nZ1 (o := .lst [.ref b1, .ref b2, .ref b3, .ref b4, .ref b5, .ref b6, .non, .ref b7, .ref b8])
    revert hZ1
    generalize upd _ Z1 _ = HG
    intro hZ1
    dsimp only [gName]
    refine ⟨_, rfl, sz3 3 rfl, fun c1 m1 => ⟨sz3 4 rfl, fun c2 m2 => ⟨sz3 3 rfl, fun c3 m3 => ⟨sz3 0 rfl, fun c4 m4 => ⟨sz3 3 rfl, fun c5 m5 => ⟨_, rfl, sz3 3 rfl, fun c6 m6 => ⟨sz3 3 rfl, fun c7 m7 => ⟨sz3 8 rfl, fun Y nY => ?_⟩⟩⟩⟩⟩⟩⟩⟩
    have hY := (((((((hZ1.new m1 (o := .tup [.int 2, .int 1, .int 0])).new m2 (o := .tup [.int 0, .int 0, .int 0, .int 0])).new m3 (o := .tup [.bl false, .int 0, .int 0])).new m4 (o := .lst [])).new m5 (o := .tup [.ref c4, .int 0, .int 0])).new m6 (o := .tup [.int 0, .int 0, .int (-1)])).new m7 (o := .tup [.int 4, .int 4, .int 0])).new nY (o := .lst [.ref c1, .ref c2, .str "000", .int 0, .ref c3, .ref c5, .ref c6, .ref c7])
    revert hY
    generalize upd _ Y _ = HH
    intro hY
    refine ⟨Z1, Y, _, _, rfl, rfl, hY.at (by (repeat (first | assumption | exact List.mem_cons_self | apply List.mem_cons_of_mem))), hY.at (by (repeat (first | assumption | exact List.mem_cons_self | apply List.mem_cons_of_mem))), (by show 9 + 8 ≤ sizeLine; decide), fun Z2 nZ2 => ?_⟩
    have hZ2 := hY.new nZ2 (o := .lst ([.ref b1, .ref b2, .ref b3, .ref b4, .ref b5, .ref b6, .non, .ref b7, .ref b8] ++ [.ref c1, .ref c2, .str "000", .int 0, .ref c3, .ref c5, .ref c6, .ref c7]))
    revert hZ2
    generalize upd _ Z2 _ = HI
    intro hZ2
    dsimp only [gName]
    refine ⟨_, rfl, sz3 1 rfl, fun e1 k1 => ⟨sz3 3 rfl, fun e2 k2 e3 k3 => ⟨sz3 3 rfl, fun e4 k4 => ⟨sz3 3 rfl, fun W nW => ?_⟩⟩⟩⟩
    have hW := ((((hZ2.new k1 (o := .tup [.int 0])).new k2 (o := .tup [.ref e1, .int 0, .int 0])).new k3 (o := .dK [])).new k4 (o := .tup [.int 3, .int 2, .int 3])).new nW (o := .lst [.ref e2, .ref e3, .ref e4])
    revert hW
    generalize upd _ W _ = HJ
    intro hW
    refine ⟨Z2, W, _, _, rfl, rfl, hW.at (by (repeat (first | assumption | exact List.mem_cons_self | apply List.mem_cons_of_mem))), hW.at (by (repeat (first | assumption | exact List.mem_cons_self | apply List.mem_cons_of_mem))), (by show 9 + 8 + 3 ≤ sizeLine; decide), fun Z nZ => ?_⟩
    have hZ := hW.new nZ (o := .lst (([.ref b1, .ref b2, .ref b3, .ref b4, .ref b5, .ref b6, .non, .ref b7, .ref b8] ++ [.ref c1, .ref c2, .str "000", .int 0, .ref c3, .ref c5, .ref c6, .ref c7]) ++ [.ref e2, .ref e3, .ref e4]))
    revert hZ
    generalize upd _ Z _ = HK
    intro hZ
    clear hW hZ2 hY hZ1
    dsimp only [gName]
    obtain ⟨y1, y2, y3, ea6, _⟩ := id h6.well
    have gIs : IsNm g := by
      obtain ⟨p, hp, rfl⟩ := List.mem_map.mp hg
      exact (po.nm p hp).1
    have pnm : PNm M.ps := fun p hp => ⟨(po.nm p hp).1, (po.nm p hp).2.1, (po.nm p hp).2.2.1⟩
    have lowT : Low (netT M.ps M.ms) := low_netT pnm mo.nm
    have lenT : (netT M.ps M.ms).length ≤ 90000 := Nat.le_trans (netT_len pnm mo.nm (by rw [Mod.ps, List.length_map]; omega) (by rw [Mod.ms, List.length_map]; omega)) (by decide)
    have gO : GoodO K (del HK a) (oddU l0 d0 t0 t1 l1 g (netT M.ps M.ms)) := oddU_ok (hZ.rest (by (repeat (first | assumption | exact List.mem_cons_self | apply List.mem_cons_of_mem)))) (hZ.rest (by (repeat (first | assumption | exact List.mem_cons_self | apply List.mem_cons_of_mem)))) (hZ.rest (by (repeat (first | assumption | exact List.mem_cons_self | apply List.mem_cons_of_mem)))) (hZ.rest (by (repeat (first | assumption | exact List.mem_cons_self | apply List.mem_cons_of_mem)))) (hZ.rest (by (repeat (first | assumption | exact List.mem_cons_self | apply List.mem_cons_of_mem)))) gIs lowT lenT
    have gB : GoodO K (del HK a) (othU l0 d0 t0 t1 l1 d1 t2 g (netT M.ps M.ms) M.pl (M.gs.map (·.1))) := (((gO.app (goodO_str ok.pn)).app (goodO_str fun y hy => by
      obtain ⟨q, hq, rfl⟩ := List.mem_map.mp hy
      exact (ok.gn q hq).1)).app (extU_ok (l2 := l2) (hZ.rest (by (repeat (first | assumption | exact List.mem_cons_self | apply List.mem_cons_of_mem)))) (hZ.rest (by (repeat (first | assumption | exact List.mem_cons_self | apply List.mem_cons_of_mem)))) (hZ.rest (by (repeat (first | assumption | exact List.mem_cons_self | apply List.mem_cons_of_mem)))) gIs))
    have gF : GoodF K (del HK a) (ben1 b1 b2 b3 b4 b5 b6 b7 b8 ++ ben2 c1 c2 c3 c5 c6 c7 ++ ben3 e2 e3 e4) := ((ben1_ok (hZ.rest (by (repeat (first | assumption | exact List.mem_cons_self | apply List.mem_cons_of_mem)))) (hZ.rest (by (repeat (first | assumption | exact List.mem_cons_self | apply List.mem_cons_of_mem)))) (hZ.rest (by (repeat (first | assumption | exact List.mem_cons_self | apply List.mem_cons_of_mem)))) (hZ.rest (by (repeat (first | assumption | exact List.mem_cons_self | apply List.mem_cons_of_mem)))) (hZ.rest (by (repeat (first | assumption | exact List.mem_cons_self | apply List.mem_cons_of_mem)))) (hZ.rest (by (repeat (first | assumption | exact List.mem_cons_self | apply List.mem_cons_of_mem)))) (hZ.rest (by (repeat (first | assumption | exact List.mem_cons_self | apply List.mem_cons_of_mem)))) (hZ.rest (by (repeat (first | assumption | exact List.mem_cons_self | apply List.mem_cons_of_mem))))).app
      (ben2_ok (c4 := c4) (hZ.rest (by (repeat (first | assumption | exact List.mem_cons_self | apply List.mem_cons_of_mem)))) (hZ.rest (by (repeat (first | assumption | exact List.mem_cons_self | apply List.mem_cons_of_mem)))) (hZ.rest (by (repeat (first | assumption | exact List.mem_cons_self | apply List.mem_cons_of_mem)))) (hZ.rest (by (repeat (first | assumption | exact List.mem_cons_self | apply List.mem_cons_of_mem)))) (hZ.rest (by (repeat (first | assumption | exact List.mem_cons_self | apply List.mem_cons_of_mem)))) (hZ.rest (by (repeat (first | assumption | exact List.mem_cons_self | apply List.mem_cons_of_mem)))) (hZ.rest (by (repeat (first | assumption | exact List.mem_cons_self | apply List.mem_cons_of_mem)))))).app (ben3_ok (e1 := e1) (hZ.rest (by (repeat (first | assumption | exact List.mem_cons_self | apply List.mem_cons_of_mem)))) (hZ.rest (by (repeat (first | assumption | exact List.mem_cons_self | apply List.mem_cons_of_mem)))) (hZ.rest (by (repeat (first | assumption | exact List.mem_cons_self | apply List.mem_cons_of_mem)))) (hZ.rest (by (repeat (first | assumption | exact List.mem_cons_self | apply List.mem_cons_of_mem)))))
    have sA : SqL K (del HK a) A ((oddU l0 d0 t0 t1 l1 g (netT M.ps M.ms)).map (·.1)) := SqL.of (hZ.rest (by (repeat (first | assumption | exact List.mem_cons_self | apply List.mem_cons_of_mem))))
    have sZ : SqL K (del HK a) Z ((ben1 b1 b2 b3 b4 b5 b6 b7 b8 ++ ben2 c1 c2 c3 c5 c6 c7 ++ ben3 e2 e3 e4).map (·.1)) := SqL.of (hZ.rest (by (repeat (first | assumption | exact List.mem_cons_self | apply List.mem_cons_of_mem))))
    have sB : SqL K (del HK a) B ((othU l0 d0 t0 t1 l1 d1 t2 g (netT M.ps M.ms) M.pl (M.gs.map (·.1))).map (·.1)) := SqL.of (by
      have e : (othU l0 d0 t0 t1 l1 d1 t2 g (netT M.ps M.ms) M.pl (M.gs.map (·.1))).map (·.1) = (([.non, .int 0, .bl true, .str "", .ref l0, .ref d0, .ref t0, .str "P", .ref t1, .ref l1, .str (g ++ "?"), .str (netT M.ps M.ms), .int (-1)] ++ pl.map V.str) ++ (M.gs.map (·.1)).map V.str) ++ [.ref d1, .ref t2, .str (g ++ "z")] := by
        rw [eP]
        simp [othU, oddU, extU, strU, Function.comp_def]
      rw [e]
      exact hZ.rest (by (repeat (first | assumption | exact List.mem_cons_self | apply List.mem_cons_of_mem))))
    have sD : SqL K (del HK a) D ((M.ps.map (·.1)).map V.str) := SqL.of (hZ.rest (by (repeat (first | assumption | exact List.mem_cons_self | apply List.mem_cons_of_mem))))
    have nrs : NetR K CN CP CM (del HK a) x M.ps M.ms := (nr6.del ea6).ext (same_del (grow_del hZ.gr))
    have hK := (hZ.sub (L' := []) fun p hp => nomatch hp).rebase
    have gK : Grow a H HK := g46.trans hZ.gr
    have lO : (oddU l0 d0 t0 t1 l1 g (netT M.ps M.ms)).length = 13 := rfl
    have lB : (othU l0 d0 t0 t1 l1 d1 t2 g (netT M.ps M.ms) M.pl (M.gs.map (·.1))).length = 16 + M.pl.length + M.gs.length := by
      simp [othU, oddU, extU]
      omega
    have lF : (ben1 b1 b2 b3 b4 b5 b6 b7 b8 ++ ben2 c1 c2 c3 c5 c6 c7 ++ ben3 e2 e3 e4).length = 20 := rfl
    have p4 := ok.p4
    generalize oddU l0 d0 t0 t1 l1 g (netT M.ps M.ms) = UO at gO sA lO
    generalize othU l0 d0 t0 t1 l1 d1 t2 g (netT M.ps M.ms) M.pl (M.gs.map (·.1)) = UB at gB sB lB
    generalize ben1 b1 b2 b3 b4 b5 b6 b7 b8 ++ ben2 c1 c2 c3 c5 c6 c7 ++ ben3 e2 e3 e4 = UF at gF sZ lF
    clear hZ kB sF
    have sK : ∀ {H'}, Grow a HK H' → Same (del HK a) H' := fun gr => grow_del gr
    generalize del HK a = Hs at gO gB gF sA sB sZ sD nrs sK
    refine ⟨8, rfl, by decide, by decide, for_range (lo := 0) (n := 8) (fun i σ H' => (∃ o8 o9 o10 o11 o12 o13 o14, σ = [some (.ref a), some (.ref l), some (.ref x), some (.str g), some (.ref D), some (.ref A), some (.ref B), some (.ref Z), o8, o9, o10, o11, o12, o13, o14]) ∧ Has HK a (n + 2001 + 20 * i) [] H') ⟨⟨_, _, _, _, _, _, _, rfl⟩, hK⟩ ?_ ?_⟩
    · rintro i σ H1 hi ⟨⟨o8, o9, o10, o11, o12, o13, o14, rfl⟩, h1⟩
      dsimp only [gName]
      have uk : ∀ {us : List (V × PyData)} {r : Int}, 0 ≤ r → r < (us.map (·.1)).length → ∃ u ∈ us, atI (us.map (·.1)) r = some u.1 := fun {us r} r0 r1 => by
        obtain ⟨i, rfl⟩ : ∃ i : Nat, r = (i : Int) := ⟨r.toNat, by omega⟩
        have hi : i < us.length := by rw [List.length_map] at r1; omega
        exact ⟨us[i], List.getElem_mem hi, atI_nat (by rw [List.getElem?_map, List.getElem?_eq_getElem hi]; rfl)⟩
      -- the net
      refine seq_of (fun σ' H' => ∃ v9, FO K x v9 Hs ∧ (∃ o8, σ' = [some (.ref a), some (.ref l), some (.ref x), some (.str g), some (.ref D), some (.ref A), some (.ref B), some (.ref Z), o8, some v9, o10, o11, o12, o13, o14]) ∧ Has HK a (n + 2001 + 20 * i + 2) [] H') ?q0 ?p0
      case p0 =>
        intro N hN
        refine ⟨_, rfl, irr ⟨a, 4, _, rfl, h1.well, by omega, by decide, by decide, fun r H2 r0 r1 g2 w2 => ⟨rfl, _, rfl, ?_⟩⟩⟩
        have h2 := h1.grow g2 w2
        refine ite2 (fun _ => ?_) fun _ => ?_
        · refine ⟨_, rfl, _, rfl, _, rfl, A, _, rfl, .inl (sA.ext (sK h2.gr)), irr ⟨a, _, _, rfl, w2, by omega, by rw [List.length_map]; omega, by rw [List.length_map]; omega, fun r H3 r0 r1 g3 w3 => ?_⟩⟩
          have h3 := h2.grow g3 w3
          obtain ⟨u, hu, eu⟩ := uk r0 r1
          exact ⟨A, _, r, u.1, rfl, rfl, sA.ext (sK h3.gr), eu, hN _ _ ⟨u.1, .inr ⟨u.2, gO u hu⟩, ⟨_, rfl⟩, h3⟩⟩
        · exact ⟨_, rfl, hN _ _ ⟨_, .inl rfl, ⟨_, rfl⟩, h2.wm (by omega)⟩⟩
      clear h1
      rintro σ H1 ⟨v9, f9, ⟨o8, rfl⟩, h1⟩
      -- the name
      refine seq_of (fun σ' H' => ∃ v10 d10, FB K v10 d10 Hs ∧ (∃ o8, σ' = [some (.ref a), some (.ref l), some (.ref x), some (.str g), some (.ref D), some (.ref A), some (.ref B), some (.ref Z), o8, some v9, some v10, o11, o12, o13, o14]) ∧ Has HK a (n + 2001 + 20 * i + 4) [] H') ?q1 ?p1
      case p1 =>
        intro N hN
        refine ⟨_, rfl, irr ⟨a, 3, _, rfl, h1.well, by omega, by decide, by decide, fun r H2 r0 r1 g2 w2 => ⟨rfl, _, rfl, ?_⟩⟩⟩
        have h2 := h1.grow g2 w2
        refine ite2 (fun _ => ?_) fun _ => ?_
        · refine ⟨_, rfl, _, rfl, _, rfl, B, _, rfl, .inl (sB.ext (sK h2.gr)), irr ⟨a, _, _, rfl, w2, by omega, by rw [List.length_map]; omega, by rw [List.length_map]; omega, fun r H3 r0 r1 g3 w3 => ?_⟩⟩
          have h3 := h2.grow g3 w3
          obtain ⟨u, hu, eu⟩ := uk r0 r1
          exact ⟨B, _, r, u.1, rfl, rfl, sB.ext (sK h3.gr), eu, hN _ _ ⟨u.1, u.2, gB u hu, ⟨_, rfl⟩, h3⟩⟩
        · exact ⟨_, rfl, hN _ _ ⟨.str g, .str g, ⟨.dat (.str g), fine_str (low_nm gIs) (by omega)⟩, ⟨_, rfl⟩, h2.wm (by omega)⟩⟩
      clear h1
      rintro σ H1 ⟨v10, d10, f10, ⟨o8, rfl⟩, h1⟩
      -- the faults
      refine ⟨_, rfl, irr ⟨a, 4, _, rfl, h1.well, by omega, by decide, by decide, fun r2 H2 r20 r21 g2 w2 => ⟨_, rfl, irr ⟨a, 4, _, rfl, w2, by omega, by decide, by decide, fun r3 H3 r30 r31 g3 w3 => ⟨sz3 3 rfl, fun T0 nT0 => ?_⟩⟩⟩⟩⟩
      have h3 := ((h1.grow g2 w2).grow g3 w3).new nT0 (o := .tup [.int r2, .int 3, .int r3])
      clear h1
      revert h3
      generalize upd H3 T0 _ = H4
      intro h4
      dsimp only [gName]
      refine seq_of (fun σ' H' => ∃ v11 d11, FF K a v11 d11 Hs H' ∧ (∃ o8, σ' = [some (.ref a), some (.ref l), some (.ref x), some (.str g), some (.ref D), some (.ref A), some (.ref B), some (.ref Z), o8, some v9, some v10, some v11, o12, o13, o14]) ∧ Has HK a (n + 2001 + 20 * i + 8) [] H') ?q2 ?p2
      case p2 =>
        intro N hN
        refine ⟨_, rfl, irr ⟨a, 2, _, rfl, h4.well, by omega, by decide, by decide, fun r H5 r0 r1 g5 w5 => ⟨rfl, _, rfl, ?_⟩⟩⟩
        have h5 := h4.grow g5 w5
        refine ite2 (fun _ => ?_) fun _ => ?_
        · refine ⟨_, rfl, _, rfl, _, rfl, Z, _, rfl, .inl (sZ.ext (sK h5.gr)), irr ⟨a, _, _, rfl, w5, by omega, by rw [List.length_map]; omega, by rw [List.length_map]; omega, fun r H6 r0 r1 g6 w6 => ?_⟩⟩
          have h6 := h5.grow g6 w6
          obtain ⟨u, hu, eu⟩ := uk r0 r1
          exact ⟨Z, _, r, u.1, rfl, rfl, sZ.ext (sK h6.gr), eu, hN _ _ ⟨u.1, u.2, ⟨(gF u hu).2, .inl (gF u hu).1⟩, ⟨_, rfl⟩, h6.sub (L' := []) fun p hp => nomatch hp⟩⟩
        · exact ⟨_, rfl, hN _ _ ⟨.ref T0, fltD r2 r3, ⟨fit_flt r20 r21 r30 r31, .inr ⟨T0, r2, r3, rfl, rfl, (h5.here _ List.mem_cons_self).1, (h5.here _ List.mem_cons_self).2⟩⟩, ⟨_, rfl⟩, (h5.sub (L' := []) fun p hp => nomatch hp).wm (by omega)⟩⟩
      clear h4
      rintro σ H1 ⟨v11, d11, f11, ⟨o8, rfl⟩, h1⟩
      -- the way
      refine ⟨_, rfl, irr ⟨a, 4, _, rfl, h1.well, by omega, by decide, by decide, fun wy H2 wy0 wy1 g2 w2 => ⟨sz3 3 rfl, fun W0 nW0 => ⟨_, _, rfl, ?_⟩⟩⟩⟩
      have f12 := (f11.grow g2)
      have h2 := (h1.grow g2 w2).new nW0 (o := .tup [.str "none", .str "None", .bl true])
      have O11 := (f12.odd (sK (h1.grow g2 w2).gr)).same (same_new nW0 (o := .tup [.str "none", .str "None", .bl true]))
      clear h1 f11
      revert h2 O11
      generalize upd H2 W0 _ = H5
      intro h5 O11
      obtain ⟨way, rfl⟩ : ∃ way : Nat, wy = (way : Int) := ⟨wy.toNat, by omega⟩
      have hw : way < 4 := by omega
      have s5 := sK h5.gr
      have O10 := f10.1.same s5
      have eW := h5.at List.mem_cons_self
      have F11 := f12.1
      have F10 := f10.2
      have nr5 := nrs.ext s5
      have sD5 := sD.ext s5
      dsimp only [tNext]
      refine seq_of (fun σ' H' => ∃ v13, DueAt H' v13 (due3 way d11) ∧ (∃ o8, σ' = [some (.ref a), some (.ref l), some (.ref x), some (.str g), some (.ref D), some (.ref A), some (.ref B), some (.ref Z), o8, some v9, some v10, some v11, some (.int (way : Int)), some v13, o14]) ∧ Same H5 H') ?q3 ?p3
      case p3 =>
        intro N hN
        refine ⟨_, rfl, _, _, rfl, rfl, _, rfl, ?_⟩
        refine ite2 (fun hc => ?_) fun hc => ?_
        · have w1 : 1 < way := by
            have := of_decide_eq_true hc
            omega
          refine ⟨_, rfl, irr ⟨v11, d11, rfl, O11, F11, fun H6 s6 => ⟨_, rfl, ?_⟩⟩⟩
          cases hb : ftB d11 with
          | true => exact iteF (hN _ _ ⟨_, ⟨W0, rfl, by rw [due3, if_neg (by simp [hb])]; exact s6 _ _ eW⟩, ⟨_, rfl⟩, s6⟩)
          | false =>
            refine iteT ⟨_, rfl, reprO_of (O11.same s6) F11.fine ⟨sz3 3 rfl, fun t nt => hN _ _ ⟨_, ⟨t, rfl, by rw [due3, if_pos ⟨w1, hb⟩]; exact upd_same⟩, ⟨_, rfl⟩, s6.trans (same_new nt)⟩⟩⟩
        · have w1 : ¬ 1 < way := fun z => hc (decide_eq_true (by omega))
          exact iteF (hN _ _ ⟨_, ⟨W0, rfl, by rw [due3, if_neg fun z => w1 z.1]; exact eW⟩, ⟨_, rfl⟩, Same.refl _⟩)
      rintro σ H6 ⟨v13, du, ⟨o8, rfl⟩, s6⟩
      refine seq_of (fun σ' H' => ∃ v13, DueAt H' v13 (due2 (M.ps.map (·.1)) d10 (due3 way d11)) ∧ (∃ o8, σ' = [some (.ref a), some (.ref l), some (.ref x), some (.str g), some (.ref D), some (.ref A), some (.ref B), some (.ref Z), o8, some v9, some v10, some v11, some (.int (way : Int)), some v13, o14]) ∧ Same H5 H') ?q4 ?p4
      case p4 =>
        intro N hN
        have O10' := O10.same s6
        refine ⟨_, rfl, _, _, _, .type "str", isS d10, rfl, .ty _, O10'.ty, kit_odS K d10, isS d10, rfl, ?_⟩
        cases hs : isS d10 with
        | false =>
          have hb : badB d10 (M.ps.map (·.1)) = true := by
            cases d10 with
            | str y => cases hs
            | _ => rfl
          refine iteT (iteT ⟨_, rfl, reprO_of O10' F10 ⟨sz3 3 rfl, fun t nt => hN _ _ ⟨_, ⟨t, rfl, by rw [due2, if_pos hb]; exact upd_same⟩, ⟨_, rfl⟩, s6.trans (same_new nt)⟩⟩⟩)
        | true =>
          obtain ⟨y, rfl⟩ : ∃ y, d10 = .str y := by
            cases d10 with
            | str y => exact ⟨y, rfl⟩
            | _ => cases hs
          obtain rfl : v10 = .str y := by
            cases O10 with
            | dat o => cases o; rfl
          refine iteF ⟨_, rfl, _, rfl, D, _, rfl, .inl (sD5.ext s6), rfl, (by rw [List.all_map]; exact List.all_eq_true.mpr fun _ _ => rfl), ?_⟩
          rw [inV_str, if_pos rfl]
          refine ⟨_, rfl, ?_⟩
          have eb : badB (.str y) (M.ps.map (·.1)) = !decide (y ∈ M.ps.map (·.1)) := rfl
          refine ite2 (fun hb => ?_) fun hb => ?_
          · refine ⟨_, rfl, reprO_of O10' F10 ⟨sz3 3 rfl, fun t nt => hN _ _ ⟨_, ⟨t, rfl, by rw [due2, if_pos (eb.trans hb)]; exact upd_same⟩, ⟨_, rfl⟩, s6.trans (same_new nt)⟩⟩⟩
          · refine hN _ _ ⟨v13, ?_, ⟨_, rfl⟩, s6⟩
            rw [due2, if_neg (by rw [eb]; exact hb)]
            exact du
      rintro σ H7 ⟨v13', du', ⟨o8', rfl⟩, s7⟩
      obtain ⟨kt, ht, hk⟩ : ∃ kt : Str × Str, ToldF K CN CP CM way v9 v10 v11 H5 kt.1 kt.2 ∧ ((v9 = .ref x ∧ kt = due2 (M.ps.map (·.1)) d10 (due3 way d11)) ∨ ∃ d, Odd K H5 v9 d ∧ Fine d ∧ kt = (("net" : Str), d.shown)) := by
        rcases f9 with rfl | ⟨d9, o, F⟩
        · exact ⟨_, .inr (told_of nr5 po mo O10 F10 O11 F11.fine _ rfl), .inl ⟨rfl, rfl⟩⟩
        · exact ⟨(("net" : Str), d9.shown), .inl ⟨d9, o.same s5, F, rfl, rfl⟩, .inr ⟨d9, o.same s5, F, rfl⟩⟩
      refine seq_of (fun σ' H' => ∃ v13, DueAt H' v13 kt ∧ (∃ o8, σ' = [some (.ref a), some (.ref l), some (.ref x), some (.str g), some (.ref D), some (.ref A), some (.ref B), some (.ref Z), o8, some v9, some v10, some v11, some (.int (way : Int)), some v13, o14]) ∧ Same H5 H') ?q5 ?p5
      case p5 =>
        intro N hN
        rcases hk with ⟨rfl, rfl⟩ | ⟨d9, O9, F9, rfl⟩
        · obtain ⟨dx, _, _, _, _, ex, _⟩ := (nr5.ext s7).ex
          exact ⟨_, rfl, _, _, _, .ref CN, true, rfl, .own CN, NC.x.ty ex, NC.me, true, rfl, iteF (hN _ _ ⟨v13', du', ⟨_, rfl⟩, s7⟩)⟩
        · have O9' := O9.same s7
          exact ⟨_, rfl, _, _, _, .ref CN, false, rfl, .own CN, O9'.ty, al d9, false, rfl, iteT ⟨_, rfl, reprO_of O9' F9 ⟨sz3 3 rfl, fun t nt => hN _ _ ⟨_, ⟨t, rfl, upd_same⟩, ⟨_, rfl⟩, s7.trans (same_new nt)⟩⟩⟩⟩
      rintro σ H8 ⟨v14, ⟨t14, rfl, e14⟩, ⟨o9', rfl⟩, s8⟩
      have ht8 : ToldF K CN CP CM way v9 v10 v11 H8 kt.1 kt.2 := ht.same s8
      refine ⟨_, rfl, _, rfl, _, rfl, _, rfl, irr ⟨way, v9, v10, v11, kt.1, kt.2, rfl, hw, ht8, fun t H9 s9 e9 => ⟨_, rfl, .tuple [.str kt.1, .str kt.2, .bool true], .tuple [.str kt.1, .str kt.2, .bool true], .tup (SqT.of e9) (.cons (.str _) (.cons (.str _) (.cons (.bl _) .nil))), .tup (SqT.of (s9 _ _ e14)) (.cons (.str _) (.cons (.str _) (.cons (.bl _) .nil))), shaped3 ht.ok.1 ht.ok.2, shaped3 ht.ok.1 ht.ok.2, _, rfl, ?_⟩⟩⟩
      rw [show PyData.eqv (.tuple [.str kt.1, .str kt.2, .bool true]) (.tuple [.str kt.1, .str kt.2, .bool true]) = true by simp [PyData.eqv, PyData.eqvAll]]
      exact iteF ⟨⟨_, _, _, _, _, _, _, rfl⟩, ((h5.sub (L' := []) fun p hp => nomatch hp).same (s8.trans s9)).wm (by omega)⟩
    · rintro σ H1 ⟨_, h1⟩
      exact k H1 (gK.trans h1.gr)
end
end RV
namespace RV
open PySem L2 TL
section
variable {P : Program} {w : World} {K : PySem.W.Frag} {mg : Str → Option Value} {base : Heap}
theorem ok_law {f : Addr} {fd : FuncData} (F : Fun K "law" "law" s_law f fd) (T : Blt mg)
    (h_well : Fn P w K mg base "_law_well" 1 ["_law_script", "_law_k"] (sp_well K)) (h_right : FnGd P w K mg base "_law_right" 13 ["_law_well_here"] sp_right23) : FnG P w K mg base 14 f fd ["_law_script"] (spLaw K) := by
  refine gFun F sc_law (fun vs H Q E h => ?_) (fun cdv A outer s H vs Q E gs hr h => ?_)
  · obtain ⟨_, _, rfl, _⟩ := h
    rfl
  · obtain ⟨c, ns, rfl, hS, hl, k⟩ := h
    refine ⟨_, (pss_cons (ps_for PassesOwn.never rfl (pi_range1 rfl T.b_range (pa_cons (pe_callB (call_max2 rfl) (by rfl) T.b_max (by decide +kernel) (pa_cons pe_int (pa_cons (pe_callB (call_min2 rfl) (by rfl) T.b_min (by decide +kernel) (pa_cons (pe_callB call_len_seq (by rfl) T.b_len (by decide +kernel) (pa_cons (pv 0) pa_nil)) (pa_cons pe_int pa_nil))) pa_nil))) pa_nil)) (pg_name (i := 1) sc_law.nd rfl (Or.inl rfl)) (pss_one (ps_if (pt_not (pt_val (pe_fnG h_right gs (hr.mono (by decide)) (pa_cons (pe_fn h_well (hr.mono (by decide)) (pa_cons (pv 0) (pa_cons (pv 1) pa_nil))) pa_nil)))) (pss_one (ps_ret pe_bl)) pss_nil)))
      (pss_one (ps_ret pe_bl))), ?_⟩
    refine ⟨_, rfl, c, _, rfl, .inl hS, _, _, rfl, _, _, rfl, ?_⟩
    rw [List.length_map]
    generalize hj : (if (if (6 : Int) < (ns.length : Int) then (6 : Int) else (ns.length : Int)) > 2 then (if (6 : Int) < (ns.length : Int) then (6 : Int) else (ns.length : Int)) else 2) = j
    have hj2 : 2 ≤ j ∧ j ≤ 6 := by
      subst hj
      constructor <;> (repeat' split) <;> omega
    clear hj
    refine ⟨j, rfl, by omega, by omega, for_range (lo := 0) (n := j.toNat) (fun i σ H' => Same H H' ∧ ∃ o1, σ = [some (.ref c), o1]) ⟨Same.refl H, none, rfl⟩ ?_ ?_⟩
    · rintro i σ H1 hi ⟨s1, o1, rfl⟩
      refine ⟨_, rfl, _, rfl, c, ns, i, by rw [Int.zero_add]; rfl, hS.ext s1, hl, by omega, fun a H3 na s3 w3 => ?_⟩
      refine ⟨a, _, rfl, w3, by omega, fun H5 g5 => ?_⟩
      exact ⟨true, rfl, iteF ⟨fun b o e => g5 b o (ne_of_none (s1 b o e) na) (s3 b o (s1 b o e)), _, rfl⟩⟩
    · rintro σ H1 ⟨s1, o1, rfl⟩
      exact k H1
end
end RV
namespace RV
open PySem L2
theorem all_mk {l : PySem.W.OpenLaw} {w : World} {K : PySem.W.Frag} {h : Heap} {mg : Str → Option Value} {fa : Addr} (X : K.In h) (G : h.Ns mainGlobals mg) (hfa : mg "law" = some (.ref fa))
    {tkA : Tok}
    {tkB : Tok}
    {tkC : Tok}
    {tkF : Tok}
    {tkG : Tok}
    {fIn : Addr}
    {odIn anIn : Option Addr} {slIn : Array (Option Value)} {ocIn kVIn dcIn pmIn cdIn ctIn : Value}
    {fCn : Addr}
    {odCn anCn : Option Addr} {slCn : Array (Option Value)} {ocCn kVCn dcCn pmCn cdCn ctCn : Value}
    {CP : Addr}
    {CM : Addr}
    {fPi : Addr}
    {odPi anPi : Option Addr} {slPi : Array (Option Value)} {ocPi kVPi dcPi pmPi cdPi ctPi : Value}
    {fMi : Addr}
    {odMi anMi : Option Addr} {slMi : Array (Option Value)} {ocMi dcMi pmMi cdMi ctMi : Value} {kDMi : Addr}
    {ppn : Addr}
    {fpn : Addr}
    {rpn : List Value}
    {odpn anpn : Option Addr} {slpn : Array (Option Value)} {ocpn kVpn dcpn pmpn cdpn ctpn : Value}
    {pps : Addr}
    {fps : Addr}
    {rps : List Value}
    {odps anps : Option Addr} {slps : Array (Option Value)} {ocps kVps dcps pmps cdps ctps : Value}
    {ppe : Addr}
    {fpe : Addr}
    {rpe : List Value}
    {odpe anpe : Option Addr} {slpe : Array (Option Value)} {ocpe kVpe dcpe pmpe cdpe ctpe : Value}
    {pmn : Addr}
    {fmn : Addr}
    {rmn : List Value}
    {odmn anmn : Option Addr} {slmn : Array (Option Value)} {ocmn kVmn dcmn pmmn cdmn ctmn : Value}
    {pma : Addr}
    {fma : Addr}
    {rma : List Value}
    {odma anma : Option Addr} {slma : Array (Option Value)} {ocma kVma dcma pmma cdma ctma : Value}
    {pmz : Addr}
    {fmz : Addr}
    {rmz : List Value}
    {odmz anmz : Option Addr} {slmz : Array (Option Value)} {ocmz kVmz dcmz pmmz cdmz ctmz : Value}
    {fPq : Addr}
    {odPq anPq : Option Addr} {slPq : Array (Option Value)} {ocPq kVPq dcPq pmPq cdPq ctPq : Value}
    {fMq : Addr}
    {odMq anMq : Option Addr} {slMq : Array (Option Value)} {ocMq kVMq dcMq pmMq cdMq ctMq : Value}
    {CN : Addr}
    {fIo : Addr}
    {odIo anIo : Option Addr} {slIo : Array (Option Value)} {ocIo kVIo dcIo pmIo cdIo ctIo : Value}
    {fCp : Addr}
    {odCp anCp : Option Addr} {slCp : Array (Option Value)} {ocCp kVCp dcCp pmCp cdCp ctCp : Value}
    {fCm : Addr}
    {odCm anCm : Option Addr} {slCm : Array (Option Value)} {ocCm kVCm dcCm pmCm cdCm ctCm : Value}
    {fPl : Addr}
    {odPl anPl : Option Addr} {slPl : Array (Option Value)} {ocPl kVPl dcPl pmPl cdPl ctPl : Value}
    {fMl : Addr}
    {odMl anMl : Option Addr} {slMl : Array (Option Value)} {ocMl kVMl dcMl pmMl cdMl ctMl : Value}
    {fLs : Addr}
    {odLs anLs : Option Addr} {slLs : Array (Option Value)} {ocLs kVLs dcLs pmLs cdLs ctLs : Value}
    {fNi : Addr}
    {tD : Addr}
    {t0 : Addr}
    {odNi anNi odT : Option Addr} {slNi slT : Array (Option Value)} {ocNi kVNi dcNi pmNi cdNi ctNi : Value} {nT : Nat}
    {pnp : Addr}
    {fnp : Addr}
    {rnp : List Value}
    {odnp annp : Option Addr} {slnp : Array (Option Value)} {ocnp kVnp dcnp pmnp cdnp ctnp : Value}
    {pnm : Addr}
    {fnm : Addr}
    {rnm : List Value}
    {odnm annm : Option Addr} {slnm : Array (Option Value)} {ocnm kVnm dcnm pmnm cdnm ctnm : Value}
    {fNl : Addr}
    {odNl anNl : Option Addr} {slNl : Array (Option Value)} {ocNl kVNl dcNl pmNl cdNl ctNl : Value}
    {fNs : Addr}
    {odNs anNs : Option Addr} {slNs : Array (Option Value)} {ocNs kVNs dcNs pmNs cdNs ctNs : Value}
    {fNq : Addr}
    {odNq anNq : Option Addr} {slNq : Array (Option Value)} {ocNq kVNq dcNq pmNq cdNq ctNq : Value}
    {fRw : Addr}
    {odRw anRw : Option Addr} {slRw : Array (Option Value)} {ocRw kVRw dcRw pmRw cdRw ctRw : Value}
    {fPn : Addr}
    {odPn anPn : Option Addr} {slPn : Array (Option Value)} {ocPn kVPn dcPn pmPn cdPn ctPn : Value}
    {fMn : Addr}
    {odMn anMn : Option Addr} {slMn : Array (Option Value)} {ocMn kVMn dcMn pmMn cdMn ctMn : Value}
    {pNr : Addr}
    {fNr : Addr}
    {rNr : List Value}
    {odNr anNr : Option Addr} {slNr : Array (Option Value)} {ocNr kVNr dcNr pmNr cdNr ctNr : Value}
    {fPp : Addr}
    {odPp anPp : Option Addr} {slPp : Array (Option Value)} {ocPp kVPp dcPp pmPp cdPp ctPp : Value}
    {fKn : Addr}
    {odKn anKn : Option Addr} {slKn : Array (Option Value)} {ocKn kVKn dcKn pmKn cdKn ctKn : Value}
    {fKp : Addr}
    {odKp anKp : Option Addr} {slKp : Array (Option Value)} {ocKp kVKp dcKp pmKp cdKp ctKp : Value}
    {fMa : Addr}
    {odMa anMa : Option Addr} {slMa : Array (Option Value)} {ocMa kVMa dcMa pmMa cdMa ctMa : Value}
    {fSa : Addr}
    {odSa anSa : Option Addr} {slSa : Array (Option Value)} {ocSa kVSa dcSa pmSa cdSa ctSa : Value}
    {fAm : Addr}
    {odAm anAm : Option Addr} {slAm : Array (Option Value)} {ocAm kVAm dcAm pmAm cdAm ctAm : Value}
    {fLk : Addr}
    {odLk anLk : Option Addr} {slLk : Array (Option Value)} {ocLk kVLk dcLk pmLk cdLk ctLk : Value}
    {fLd : Addr}
    {odLd anLd : Option Addr} {slLd : Array (Option Value)} {ocLd kVLd dcLd pmLd cdLd ctLd : Value}
    {fSw : Addr}
    {odSw anSw : Option Addr} {slSw : Array (Option Value)} {ocSw kVSw dcSw pmSw cdSw ctSw : Value}
    {fWb : Addr}
    {odWb anWb : Option Addr} {slWb : Array (Option Value)} {ocWb kVWb dcWb pmWb cdWb ctWb : Value}
    {fSt : Addr}
    {odSt anSt : Option Addr} {slSt : Array (Option Value)} {ocSt kVSt dcSt pmSt cdSt ctSt : Value}
    {tkH : Tok}
    {fNu : Addr}
    {odNu anNu : Option Addr} {slNu : Array (Option Value)} {ocNu kVNu dcNu pmNu cdNu ctNu : Value}
    {fIb : Addr}
    {odIb anIb : Option Addr} {slIb : Array (Option Value)} {ocIb kVIb dcIb pmIb cdIb ctIb : Value}
    {fAf : Addr}
    {odAf anAf : Option Addr} {slAf : Array (Option Value)} {ocAf kVAf dcAf pmAf cdAf ctAf : Value}
    {fCf : Addr}
    {odCf anCf : Option Addr} {slCf : Array (Option Value)} {ocCf kVCf dcCf pmCf cdCf ctCf : Value}
    {fCt : Addr}
    {odCt anCt : Option Addr} {slCt : Array (Option Value)} {ocCt kVCt dcCt pmCt cdCt ctCt : Value}
    {ppl : Addr}
    {fpl : Addr}
    {rpl : List Value}
    {odpl anpl : Option Addr} {slpl : Array (Option Value)} {ocpl kVpl dcpl pmpl cdpl ctpl : Value}
    {fKa : Addr}
    {odKa anKa : Option Addr} {slKa : Array (Option Value)} {ocKa kVKa dcKa pmKa cdKa ctKa : Value}
    {fFw : Addr}
    {odFw anFw : Option Addr} {slFw : Array (Option Value)} {ocFw kVFw dcFw pmFw cdFw ctFw : Value}
    {fRt : Addr}
    {odRt anRt : Option Addr} {slRt : Array (Option Value)} {ocRt kVRt dcRt pmRt cdRt ctRt : Value}
    {fRo : Addr}
    {odRo anRo : Option Addr} {slRo : Array (Option Value)} {ocRo kVRo dcRo pmRo cdRo ctRo : Value}
    {fSb : Addr}
    {odSb anSb : Option Addr} {slSb : Array (Option Value)} {ocSb kVSb dcSb pmSb cdSb ctSb : Value}
    {fMi2 : Addr}
    {odMi2 anMi2 : Option Addr} {slMi2 : Array (Option Value)} {ocMi2 kVMi2 dcMi2 pmMi2 cdMi2 ctMi2 : Value}
    {fWe : Addr}
    {odWe anWe : Option Addr} {slWe : Array (Option Value)} {ocWe kVWe dcWe pmWe cdWe ctWe : Value}
    {fDi : Addr}
    {odDi anDi : Option Addr} {slDi : Array (Option Value)} {ocDi kVDi dcDi pmDi cdDi ctDi : Value}
    {fNa : Addr}
    {odNa anNa : Option Addr} {slNa : Array (Option Value)} {ocNa kVNa dcNa pmNa cdNa ctNa : Value}
    {fMo : Addr}
    {odMo anMo : Option Addr} {slMo : Array (Option Value)} {ocMo kVMo dcMo pmMo cdMo ctMo : Value}
    {fTx : Addr}
    {odTx anTx : Option Addr} {slTx : Array (Option Value)} {ocTx kVTx dcTx pmTx cdTx ctTx : Value}
    {CE : Addr}
    {fiE : Addr}
    {odiE aniE : Option Addr} {sliE : Array (Option Value)} {ociE kViE dciE pmiE cdiE ctiE : Value}
    {CU : Addr}
    {fiU : Addr}
    {odiU aniU : Option Addr} {sliU : Array (Option Value)} {ociU kViU dciU pmiU cdiU ctiU : Value}
    {CF : Addr}
    {fiF : Addr}
    {odiF aniF : Option Addr} {sliF : Array (Option Value)} {ociF kViF dciF pmiF cdiF ctiF : Value}
    {CV : Addr}
    {CB : Addr}
    {CA : Addr}
    {fCl : Addr}
    {odCl anCl : Option Addr} {slCl : Array (Option Value)} {ocCl kVCl dcCl pmCl cdCl ctCl : Value}
    {fTo : Addr}
    {odTo anTo : Option Addr} {slTo : Array (Option Value)} {ocTo kVTo dcTo pmTo cdTo ctTo : Value}
    {fFf : Addr}
    {odFf anFf : Option Addr} {slFf : Array (Option Value)} {ocFf kVFf dcFf pmFf cdFf ctFf : Value}
    {fRi : Addr}
    {odRi anRi : Option Addr} {slRi : Array (Option Value)} {ocRi kVRi dcRi pmRi cdRi ctRi : Value}
    {fLa : Addr}
    {odLa anLa : Option Addr} {slLa : Array (Option Value)} {ocLa kVLa dcLa pmLa cdLa ctLa : Value}
    (b_len : PySem.W.nsIn K mainGlobals "len" = some none)
    (b_int : PySem.W.nsIn K mainGlobals "int" = some none)
    (b_abs : PySem.W.nsIn K mainGlobals "abs" = some none)
    (b_max : PySem.W.nsIn K mainGlobals "max" = some none)
    (b_min : PySem.W.nsIn K mainGlobals "min" = some none)
    (b_all : PySem.W.nsIn K mainGlobals "all" = some none)
    (b_any : PySem.W.nsIn K mainGlobals "any" = some none)
    (b_repr : PySem.W.nsIn K mainGlobals "repr" = some none)
    (b_range : PySem.W.nsIn K mainGlobals "range" = some none)
    (b_divmod : PySem.W.nsIn K mainGlobals "divmod" = some none)
    (b_isinstance : PySem.W.nsIn K mainGlobals "isinstance" = some none)
    (b_str : PySem.W.nsIn K mainGlobals "str" = some none)
    (b_sum : PySem.W.nsIn K mainGlobals "sum" = some none)
    (b_sorted : PySem.W.nsIn K mainGlobals "sorted" = some none)
    (b_set : PySem.W.nsIn K mainGlobals "set" = some none)
    (b_tuple : PySem.W.nsIn K mainGlobals "tuple" = some none)
    (b_enumerate : PySem.W.nsIn K mainGlobals "enumerate" = some none)
    (b_bool : PySem.W.nsIn K mainGlobals "bool" = some none)
    (g__LETTERS : PySem.W.nsIn K mainGlobals "_LETTERS" = some (some (.str "abcdefghijklmnopqrstuvwxyz" tkA)))
    (g__DIGITS : PySem.W.nsIn K mainGlobals "_DIGITS" = some (some (.str "0123456789" tkB)))
    (g__LONGEST_NAME : PySem.W.nsIn K mainGlobals "_LONGEST_NAME" = some (some (.int 8 tkC)))
    (g_MOST_PIPES : PySem.W.nsIn K mainGlobals "MOST_PIPES" = some (some (.int 12 tkF)))
    (g_MOST_METERS : PySem.W.nsIn K mainGlobals "MOST_METERS" = some (some (.int 12 tkG)))
    (aIn : PySem.W.nsIn K mainGlobals "is_name" = some (some (.ref fIn)))
    (lIn : K.lookup fIn = some ⟨ocIn, odIn, .func (PySem.W.fnOf "is_name" "is_name" (defArgs s_is_name) (defBody s_is_name) (defScope s_is_name) .none kVIn dcIn pmIn anIn cdIn ctIn), slIn⟩)
    (cIn : PySem.W.codeIn K cdIn "is_name" = true)
    (kIn : PySem.W.keepIn K (.ref fIn) = true)
    (aCn : PySem.W.nsIn K mainGlobals "_check_names" = some (some (.ref fCn)))
    (lCn : K.lookup fCn = some ⟨ocCn, odCn, .func (PySem.W.fnOf "_check_names" "_check_names" (defArgs s_check_names) (defBody s_check_names) (defScope s_check_names) .none kVCn dcCn pmCn anCn cdCn ctCn), slCn⟩)
    (cCn : PySem.W.codeIn K cdCn "_check_names" = true)
    (kCn : PySem.W.keepIn K (.ref fCn) = true)
    (nP : PySem.W.nsIn K mainGlobals "Pipe" = some (some (.ref CP)))
    (pgP : PySem.W.plainGet K CP Str.empty = true)
    (hdP : PySem.W.hasDictIn K CP = true)
    (poP : PySem.W.plainOver K CP = true)
    (saP : PySem.W.findIn K (.ref CP) "__setattr__" = some (some (.builtin "object.__setattr__")))
    (mkP : PySem.W.makesIn K CP = true)
    (kcP : PySem.W.keepIn K (.ref CP) = true)
    (haP : PySem.W.findIn K (.ref CP) "__class__" = some (some (.builtin "object.__class__")))
    (hmP : PySem.W.mroIn K CP (.type "object") = some true)
    (tyP : PySem.W.typeIn K (.ref CP) = some (.type "type"))
    (suP : PySem.W.subIn K (.ref CP) (.ref CP) = some true)
    (obP : PySem.W.subIn K (.ref CP) (.type "object") = some true)
    (noP0 : PySem.W.findIn K (.ref CP) "_name" = some none)
    (noP1 : PySem.W.findIn K (.ref CP) "_start" = some none)
    (noP2 : PySem.W.findIn K (.ref CP) "_end" = some none)
    (nM : PySem.W.nsIn K mainGlobals "Meter" = some (some (.ref CM)))
    (pgM : PySem.W.plainGet K CM Str.empty = true)
    (hdM : PySem.W.hasDictIn K CM = true)
    (poM : PySem.W.plainOver K CM = true)
    (saM : PySem.W.findIn K (.ref CM) "__setattr__" = some (some (.builtin "object.__setattr__")))
    (mkM : PySem.W.makesIn K CM = true)
    (kcM : PySem.W.keepIn K (.ref CM) = true)
    (haM : PySem.W.findIn K (.ref CM) "__class__" = some (some (.builtin "object.__class__")))
    (hmM : PySem.W.mroIn K CM (.type "object") = some true)
    (tyM : PySem.W.typeIn K (.ref CM) = some (.type "type"))
    (suM : PySem.W.subIn K (.ref CM) (.ref CM) = some true)
    (obM : PySem.W.subIn K (.ref CM) (.type "object") = some true)
    (noM0 : PySem.W.findIn K (.ref CM) "_name" = some none)
    (noM1 : PySem.W.findIn K (.ref CM) "_at" = some none)
    (noM2 : PySem.W.findIn K (.ref CM) "_sealed" = some none)
    (hn : PySem.W.specialIn K (.builtin "object.__class__") "__get__" = some (some (.builtin "getset_descriptor.__get__")))
    (htk : PySem.W.takesIn K (.builtin "object.__class__") = some true)
    (neP : PySem.W.findIn K (.ref CP) "__ne__" = some (some (.builtin "object.__ne__")))
    (neM : PySem.W.findIn K (.ref CM) "__ne__" = some (some (.builtin "object.__ne__")))
    (aPi : PySem.W.findIn K (.ref CP) "__init__" = some (some (.ref fPi)))
    (iPi : PySem.W.isFn K (.ref fPi) = true)
    (lPi : K.lookup fPi = some ⟨ocPi, odPi, .func (PySem.W.fnOf "__init__" "Pipe.__init__" (defArgs s_Pipe___init__) (defBody s_Pipe___init__) (defScope s_Pipe___init__) .none kVPi dcPi pmPi anPi cdPi ctPi), slPi⟩)
    (cPi : PySem.W.codeIn K cdPi "Pipe.__init__" = true)
    (kPi : PySem.W.keepIn K (.ref fPi) = true)
    (aMi : PySem.W.findIn K (.ref CM) "__init__" = some (some (.ref fMi)))
    (iMi : PySem.W.isFn K (.ref fMi) = true)
    (lMi : K.lookup fMi = some ⟨ocMi, odMi, .func (PySem.W.fnOf "__init__" "Meter.__init__" (defArgs s_Meter___init__) (defBody s_Meter___init__) (defScope s_Meter___init__) .none (.ref kDMi) dcMi pmMi anMi cdMi ctMi), slMi⟩)
    (cMi : PySem.W.codeIn K cdMi "Meter.__init__" = true)
    (kMi : PySem.W.keepIn K (.ref fMi) = true)
    (kd : PySem.W.nsIn K kDMi "sealed" = some (some (.bool false)))
    (apn : PySem.W.findIn K (.ref CP) "name" = some (some (.ref ppn)))
    (gpn : PySem.W.specialIn K (.ref ppn) "__get__" = some (some (.builtin "property.__get__")))
    (tpn : PySem.W.takesIn K (.ref ppn) = some true)
    (rpn_ : PySem.W.recIn K ppn "property" = some (.ref fpn :: rpn))
    (lpn : K.lookup fpn = some ⟨ocpn, odpn, .func (PySem.W.fnOf "name" "Pipe.name" (defArgs s_Pipe_name) (defBody s_Pipe_name) (defScope s_Pipe_name) .none kVpn dcpn pmpn anpn cdpn ctpn), slpn⟩)
    (cpn : PySem.W.codeIn K cdpn "Pipe.name" = true)
    (kpn : PySem.W.keepIn K (.ref fpn) = true)
    (aps : PySem.W.findIn K (.ref CP) "start" = some (some (.ref pps)))
    (gps : PySem.W.specialIn K (.ref pps) "__get__" = some (some (.builtin "property.__get__")))
    (tps : PySem.W.takesIn K (.ref pps) = some true)
    (rps_ : PySem.W.recIn K pps "property" = some (.ref fps :: rps))
    (lps : K.lookup fps = some ⟨ocps, odps, .func (PySem.W.fnOf "start" "Pipe.start" (defArgs s_Pipe_start) (defBody s_Pipe_start) (defScope s_Pipe_start) .none kVps dcps pmps anps cdps ctps), slps⟩)
    (cps : PySem.W.codeIn K cdps "Pipe.start" = true)
    (kps : PySem.W.keepIn K (.ref fps) = true)
    (ape : PySem.W.findIn K (.ref CP) "end" = some (some (.ref ppe)))
    (gpe : PySem.W.specialIn K (.ref ppe) "__get__" = some (some (.builtin "property.__get__")))
    (tpe : PySem.W.takesIn K (.ref ppe) = some true)
    (rpe_ : PySem.W.recIn K ppe "property" = some (.ref fpe :: rpe))
    (lpe : K.lookup fpe = some ⟨ocpe, odpe, .func (PySem.W.fnOf "end" "Pipe.end" (defArgs s_Pipe_end) (defBody s_Pipe_end) (defScope s_Pipe_end) .none kVpe dcpe pmpe anpe cdpe ctpe), slpe⟩)
    (cpe : PySem.W.codeIn K cdpe "Pipe.end" = true)
    (kpe : PySem.W.keepIn K (.ref fpe) = true)
    (amn : PySem.W.findIn K (.ref CM) "name" = some (some (.ref pmn)))
    (gmn : PySem.W.specialIn K (.ref pmn) "__get__" = some (some (.builtin "property.__get__")))
    (tmn : PySem.W.takesIn K (.ref pmn) = some true)
    (rmn_ : PySem.W.recIn K pmn "property" = some (.ref fmn :: rmn))
    (lmn : K.lookup fmn = some ⟨ocmn, odmn, .func (PySem.W.fnOf "name" "Meter.name" (defArgs s_Meter_name) (defBody s_Meter_name) (defScope s_Meter_name) .none kVmn dcmn pmmn anmn cdmn ctmn), slmn⟩)
    (cmn : PySem.W.codeIn K cdmn "Meter.name" = true)
    (kmn : PySem.W.keepIn K (.ref fmn) = true)
    (ama : PySem.W.findIn K (.ref CM) "at" = some (some (.ref pma)))
    (gma : PySem.W.specialIn K (.ref pma) "__get__" = some (some (.builtin "property.__get__")))
    (tma : PySem.W.takesIn K (.ref pma) = some true)
    (rma_ : PySem.W.recIn K pma "property" = some (.ref fma :: rma))
    (lma : K.lookup fma = some ⟨ocma, odma, .func (PySem.W.fnOf "at" "Meter.at" (defArgs s_Meter_at) (defBody s_Meter_at) (defScope s_Meter_at) .none kVma dcma pmma anma cdma ctma), slma⟩)
    (cma : PySem.W.codeIn K cdma "Meter.at" = true)
    (kma : PySem.W.keepIn K (.ref fma) = true)
    (amz : PySem.W.findIn K (.ref CM) "sealed" = some (some (.ref pmz)))
    (gmz : PySem.W.specialIn K (.ref pmz) "__get__" = some (some (.builtin "property.__get__")))
    (tmz : PySem.W.takesIn K (.ref pmz) = some true)
    (rmz_ : PySem.W.recIn K pmz "property" = some (.ref fmz :: rmz))
    (lmz : K.lookup fmz = some ⟨ocmz, odmz, .func (PySem.W.fnOf "sealed" "Meter.sealed" (defArgs s_Meter_sealed) (defBody s_Meter_sealed) (defScope s_Meter_sealed) .none kVmz dcmz pmmz anmz cdmz ctmz), slmz⟩)
    (cmz : PySem.W.codeIn K cdmz "Meter.sealed" = true)
    (kmz : PySem.W.keepIn K (.ref fmz) = true)
    (aPq : PySem.W.findIn K (.ref CP) "__eq__" = some (some (.ref fPq)))
    (iPq : PySem.W.isFn K (.ref fPq) = true)
    (lPq : K.lookup fPq = some ⟨ocPq, odPq, .func (PySem.W.fnOf "__eq__" "Pipe.__eq__" (defArgs s_Pipe___eq__) (defBody s_Pipe___eq__) (defScope s_Pipe___eq__) .none kVPq dcPq pmPq anPq cdPq ctPq), slPq⟩)
    (cPq : PySem.W.codeIn K cdPq "Pipe.__eq__" = true)
    (kPq : PySem.W.keepIn K (.ref fPq) = true)
    (fiPq : PySem.W.fnIn K fPq = true)
    (aMq : PySem.W.findIn K (.ref CM) "__eq__" = some (some (.ref fMq)))
    (iMq : PySem.W.isFn K (.ref fMq) = true)
    (lMq : K.lookup fMq = some ⟨ocMq, odMq, .func (PySem.W.fnOf "__eq__" "Meter.__eq__" (defArgs s_Meter___eq__) (defBody s_Meter___eq__) (defScope s_Meter___eq__) .none kVMq dcMq pmMq anMq cdMq ctMq), slMq⟩)
    (cMq : PySem.W.codeIn K cdMq "Meter.__eq__" = true)
    (kMq : PySem.W.keepIn K (.ref fMq) = true)
    (fiMq : PySem.W.fnIn K fMq = true)
    (nN : PySem.W.nsIn K mainGlobals "Net" = some (some (.ref CN)))
    (pgN : PySem.W.plainGet K CN Str.empty = true)
    (hdN : PySem.W.hasDictIn K CN = true)
    (poN : PySem.W.plainOver K CN = true)
    (saN : PySem.W.findIn K (.ref CN) "__setattr__" = some (some (.builtin "object.__setattr__")))
    (mkN : PySem.W.makesIn K CN = true)
    (kcN : PySem.W.keepIn K (.ref CN) = true)
    (haN : PySem.W.findIn K (.ref CN) "__class__" = some (some (.builtin "object.__class__")))
    (hmN : PySem.W.mroIn K CN (.type "object") = some true)
    (tyN : PySem.W.typeIn K (.ref CN) = some (.type "type"))
    (suN : PySem.W.subIn K (.ref CN) (.ref CN) = some true)
    (obN : PySem.W.subIn K (.ref CN) (.type "object") = some true)
    (noN0 : PySem.W.findIn K (.ref CN) "_pipes" = some none)
    (noN1 : PySem.W.findIn K (.ref CN) "_meters" = some none)
    (neN : PySem.W.findIn K (.ref CN) "__ne__" = some (some (.builtin "object.__ne__")))
    (aIo : PySem.W.nsIn K mainGlobals "_index_of" = some (some (.ref fIo)))
    (lIo : K.lookup fIo = some ⟨ocIo, odIo, .func (PySem.W.fnOf "_index_of" "_index_of" (defArgs s_index_of) (defBody s_index_of) (defScope s_index_of) .none kVIo dcIo pmIo anIo cdIo ctIo), slIo⟩)
    (cIo : PySem.W.codeIn K cdIo "_index_of" = true)
    (kIo : PySem.W.keepIn K (.ref fIo) = true)
    (aCp : PySem.W.nsIn K mainGlobals "_check_pipes" = some (some (.ref fCp)))
    (lCp : K.lookup fCp = some ⟨ocCp, odCp, .func (PySem.W.fnOf "_check_pipes" "_check_pipes" (defArgs s_check_pipes) (defBody s_check_pipes) (defScope s_check_pipes) .none kVCp dcCp pmCp anCp cdCp ctCp), slCp⟩)
    (cCp : PySem.W.codeIn K cdCp "_check_pipes" = true)
    (kCp : PySem.W.keepIn K (.ref fCp) = true)
    (aCm : PySem.W.nsIn K mainGlobals "_check_meters" = some (some (.ref fCm)))
    (lCm : K.lookup fCm = some ⟨ocCm, odCm, .func (PySem.W.fnOf "_check_meters" "_check_meters" (defArgs s_check_meters) (defBody s_check_meters) (defScope s_check_meters) .none kVCm dcCm pmCm anCm cdCm ctCm), slCm⟩)
    (cCm : PySem.W.codeIn K cdCm "_check_meters" = true)
    (kCm : PySem.W.keepIn K (.ref fCm) = true)
    (aPl : PySem.W.nsIn K mainGlobals "_pipe_line" = some (some (.ref fPl)))
    (lPl : K.lookup fPl = some ⟨ocPl, odPl, .func (PySem.W.fnOf "_pipe_line" "_pipe_line" (defArgs s_pipe_line) (defBody s_pipe_line) (defScope s_pipe_line) .none kVPl dcPl pmPl anPl cdPl ctPl), slPl⟩)
    (cPl : PySem.W.codeIn K cdPl "_pipe_line" = true)
    (kPl : PySem.W.keepIn K (.ref fPl) = true)
    (aMl : PySem.W.nsIn K mainGlobals "_meter_line" = some (some (.ref fMl)))
    (lMl : K.lookup fMl = some ⟨ocMl, odMl, .func (PySem.W.fnOf "_meter_line" "_meter_line" (defArgs s_meter_line) (defBody s_meter_line) (defScope s_meter_line) .none kVMl dcMl pmMl anMl cdMl ctMl), slMl⟩)
    (cMl : PySem.W.codeIn K cdMl "_meter_line" = true)
    (kMl : PySem.W.keepIn K (.ref fMl) = true)
    (aLs : PySem.W.nsIn K mainGlobals "_lines" = some (some (.ref fLs)))
    (lLs : K.lookup fLs = some ⟨ocLs, odLs, .func (PySem.W.fnOf "_lines" "_lines" (defArgs s_lines) (defBody s_lines) (defScope s_lines) .none kVLs dcLs pmLs anLs cdLs ctLs), slLs⟩)
    (cLs : PySem.W.codeIn K cdLs "_lines" = true)
    (kLs : PySem.W.keepIn K (.ref fLs) = true)
    (aNi : PySem.W.findIn K (.ref CN) "__init__" = some (some (.ref fNi)))
    (iNi : PySem.W.isFn K (.ref fNi) = true)
    (lNi : K.lookup fNi = some ⟨ocNi, odNi, .func (PySem.W.fnOf "__init__" "Net.__init__" (defArgs s_Net___init__) (defBody s_Net___init__) (defScope s_Net___init__) (.ref tD) kVNi dcNi pmNi anNi cdNi ctNi), slNi⟩)
    (cNi : PySem.W.codeIn K cdNi "Net.__init__" = true)
    (kNi : PySem.W.keepIn K (.ref fNi) = true)
    (lT : K.lookup tD = some ⟨.type "tuple", odT, .seq #[.ref t0] nT, slT⟩)
    (anp : PySem.W.findIn K (.ref CN) "pipes" = some (some (.ref pnp)))
    (gnp : PySem.W.specialIn K (.ref pnp) "__get__" = some (some (.builtin "property.__get__")))
    (tnp : PySem.W.takesIn K (.ref pnp) = some true)
    (rnp_ : PySem.W.recIn K pnp "property" = some (.ref fnp :: rnp))
    (lnp : K.lookup fnp = some ⟨ocnp, odnp, .func (PySem.W.fnOf "pipes" "Net.pipes" (defArgs s_Net_pipes) (defBody s_Net_pipes) (defScope s_Net_pipes) .none kVnp dcnp pmnp annp cdnp ctnp), slnp⟩)
    (cnp : PySem.W.codeIn K cdnp "Net.pipes" = true)
    (knp : PySem.W.keepIn K (.ref fnp) = true)
    (anm : PySem.W.findIn K (.ref CN) "meters" = some (some (.ref pnm)))
    (gnm : PySem.W.specialIn K (.ref pnm) "__get__" = some (some (.builtin "property.__get__")))
    (tnm : PySem.W.takesIn K (.ref pnm) = some true)
    (rnm_ : PySem.W.recIn K pnm "property" = some (.ref fnm :: rnm))
    (lnm : K.lookup fnm = some ⟨ocnm, odnm, .func (PySem.W.fnOf "meters" "Net.meters" (defArgs s_Net_meters) (defBody s_Net_meters) (defScope s_Net_meters) .none kVnm dcnm pmnm annm cdnm ctnm), slnm⟩)
    (cnm : PySem.W.codeIn K cdnm "Net.meters" = true)
    (knm : PySem.W.keepIn K (.ref fnm) = true)
    (aNl : PySem.W.findIn K (.ref CN) "__len__" = some (some (.ref fNl)))
    (iNl : PySem.W.isFn K (.ref fNl) = true)
    (lNl : K.lookup fNl = some ⟨ocNl, odNl, .func (PySem.W.fnOf "__len__" "Net.__len__" (defArgs s_Net___len__) (defBody s_Net___len__) (defScope s_Net___len__) .none kVNl dcNl pmNl anNl cdNl ctNl), slNl⟩)
    (cNl : PySem.W.codeIn K cdNl "Net.__len__" = true)
    (kNl : PySem.W.keepIn K (.ref fNl) = true)
    (fiNl : PySem.W.fnIn K fNl = true)
    (aNs : PySem.W.findIn K (.ref CN) "__str__" = some (some (.ref fNs)))
    (iNs : PySem.W.isFn K (.ref fNs) = true)
    (lNs : K.lookup fNs = some ⟨ocNs, odNs, .func (PySem.W.fnOf "__str__" "Net.__str__" (defArgs s_Net___str__) (defBody s_Net___str__) (defScope s_Net___str__) .none kVNs dcNs pmNs anNs cdNs ctNs), slNs⟩)
    (cNs : PySem.W.codeIn K cdNs "Net.__str__" = true)
    (kNs : PySem.W.keepIn K (.ref fNs) = true)
    (fiNs : PySem.W.fnIn K fNs = true)
    (aNq : PySem.W.findIn K (.ref CN) "__eq__" = some (some (.ref fNq)))
    (iNq : PySem.W.isFn K (.ref fNq) = true)
    (lNq : K.lookup fNq = some ⟨ocNq, odNq, .func (PySem.W.fnOf "__eq__" "Net.__eq__" (defArgs s_Net___eq__) (defBody s_Net___eq__) (defScope s_Net___eq__) .none kVNq dcNq pmNq anNq cdNq ctNq), slNq⟩)
    (cNq : PySem.W.codeIn K cdNq "Net.__eq__" = true)
    (kNq : PySem.W.keepIn K (.ref fNq) = true)
    (fiNq : PySem.W.fnIn K fNq = true)
    (aRw : PySem.W.nsIn K mainGlobals "_rows_in" = some (some (.ref fRw)))
    (lRw : K.lookup fRw = some ⟨ocRw, odRw, .func (PySem.W.fnOf "_rows_in" "_rows_in" (defArgs s_rows_in) (defBody s_rows_in) (defScope s_rows_in) .none kVRw dcRw pmRw anRw cdRw ctRw), slRw⟩)
    (cRw : PySem.W.codeIn K cdRw "_rows_in" = true)
    (kRw : PySem.W.keepIn K (.ref fRw) = true)
    (aPn : PySem.W.nsIn K mainGlobals "_pipes_in" = some (some (.ref fPn)))
    (lPn : K.lookup fPn = some ⟨ocPn, odPn, .func (PySem.W.fnOf "_pipes_in" "_pipes_in" (defArgs s_pipes_in) (defBody s_pipes_in) (defScope s_pipes_in) .none kVPn dcPn pmPn anPn cdPn ctPn), slPn⟩)
    (cPn : PySem.W.codeIn K cdPn "_pipes_in" = true)
    (kPn : PySem.W.keepIn K (.ref fPn) = true)
    (aMn : PySem.W.nsIn K mainGlobals "_meters_in" = some (some (.ref fMn)))
    (lMn : K.lookup fMn = some ⟨ocMn, odMn, .func (PySem.W.fnOf "_meters_in" "_meters_in" (defArgs s_meters_in) (defBody s_meters_in) (defScope s_meters_in) .none kVMn dcMn pmMn anMn cdMn ctMn), slMn⟩)
    (cMn : PySem.W.codeIn K cdMn "_meters_in" = true)
    (kMn : PySem.W.keepIn K (.ref fMn) = true)
    (rdN : PySem.W.readsIn K CN (.type "type") = true)
    (gaN : PySem.W.specialIn K (.ref CN) "__getattribute__" = some (some (.builtin "type.__getattribute__")))
    (aNr : PySem.W.findCls K (.ref CN) (.type "type") "read" = some (.get (.builtin "classmethod.__get__") (.ref pNr) .none (.ref CN)))
    (rNr_ : PySem.W.recIn K pNr "classmethod" = some (.ref fNr :: rNr))
    (fiNr : PySem.W.fnIn K fNr = true)
    (lNr : K.lookup fNr = some ⟨ocNr, odNr, .func (PySem.W.fnOf "read" "Net.read" (defArgs s_Net_read) (defBody s_Net_read) (defScope s_Net_read) .none kVNr dcNr pmNr anNr cdNr ctNr), slNr⟩)
    (cNr : PySem.W.codeIn K cdNr "Net.read" = true)
    (kNr : PySem.W.keepIn K (.ref fNr) = true)
    (b_zip : PySem.W.nsIn K mainGlobals "zip" = some none)
    (aPp : PySem.W.findIn K (.ref CN) "pipe" = some (some (.ref fPp)))
    (iPp : PySem.W.isFn K (.ref fPp) = true)
    (lPp : K.lookup fPp = some ⟨ocPp, odPp, .func (PySem.W.fnOf "pipe" "Net.pipe" (defArgs s_Net_pipe) (defBody s_Net_pipe) (defScope s_Net_pipe) .none kVPp dcPp pmPp anPp cdPp ctPp), slPp⟩)
    (cPp : PySem.W.codeIn K cdPp "Net.pipe" = true)
    (kPp : PySem.W.keepIn K (.ref fPp) = true)
    (aKn : PySem.W.nsIn K mainGlobals "check_net" = some (some (.ref fKn)))
    (lKn : K.lookup fKn = some ⟨ocKn, odKn, .func (PySem.W.fnOf "check_net" "check_net" (defArgs s_check_net) (defBody s_check_net) (defScope s_check_net) .none kVKn dcKn pmKn anKn cdKn ctKn), slKn⟩)
    (cKn : PySem.W.codeIn K cdKn "check_net" = true)
    (kKn : PySem.W.keepIn K (.ref fKn) = true)
    (aKp : PySem.W.nsIn K mainGlobals "check_pipe" = some (some (.ref fKp)))
    (lKp : K.lookup fKp = some ⟨ocKp, odKp, .func (PySem.W.fnOf "check_pipe" "check_pipe" (defArgs s_check_pipe) (defBody s_check_pipe) (defScope s_check_pipe) .none kVKp dcKp pmKp anKp cdKp ctKp), slKp⟩)
    (cKp : PySem.W.codeIn K cdKp "check_pipe" = true)
    (kKp : PySem.W.keepIn K (.ref fKp) = true)
    (aMa : PySem.W.nsIn K mainGlobals "meters_at" = some (some (.ref fMa)))
    (lMa : K.lookup fMa = some ⟨ocMa, odMa, .func (PySem.W.fnOf "meters_at" "meters_at" (defArgs s_meters_at) (defBody s_meters_at) (defScope s_meters_at) .none kVMa dcMa pmMa anMa cdMa ctMa), slMa⟩)
    (cMa : PySem.W.codeIn K cdMa "meters_at" = true)
    (kMa : PySem.W.keepIn K (.ref fMa) = true)
    (aSa : PySem.W.nsIn K mainGlobals "sealed_at" = some (some (.ref fSa)))
    (lSa : K.lookup fSa = some ⟨ocSa, odSa, .func (PySem.W.fnOf "sealed_at" "sealed_at" (defArgs s_sealed_at) (defBody s_sealed_at) (defScope s_sealed_at) .none kVSa dcSa pmSa anSa cdSa ctSa), slSa⟩)
    (cSa : PySem.W.codeIn K cdSa "sealed_at" = true)
    (kSa : PySem.W.keepIn K (.ref fSa) = true)
    (aAm : PySem.W.nsIn K mainGlobals "_amounts" = some (some (.ref fAm)))
    (lAm : K.lookup fAm = some ⟨ocAm, odAm, .func (PySem.W.fnOf "_amounts" "_amounts" (defArgs s_amounts) (defBody s_amounts) (defScope s_amounts) .none kVAm dcAm pmAm anAm cdAm ctAm), slAm⟩)
    (cAm : PySem.W.codeIn K cdAm "_amounts" = true)
    (kAm : PySem.W.keepIn K (.ref fAm) = true)
    (aLk : PySem.W.nsIn K mainGlobals "_links" = some (some (.ref fLk)))
    (lLk : K.lookup fLk = some ⟨ocLk, odLk, .func (PySem.W.fnOf "_links" "_links" (defArgs s_links) (defBody s_links) (defScope s_links) .none kVLk dcLk pmLk anLk cdLk ctLk), slLk⟩)
    (cLk : PySem.W.codeIn K cdLk "_links" = true)
    (kLk : PySem.W.keepIn K (.ref fLk) = true)
    (aLd : PySem.W.nsIn K mainGlobals "_lead_on" = some (some (.ref fLd)))
    (lLd : K.lookup fLd = some ⟨ocLd, odLd, .func (PySem.W.fnOf "_lead_on" "_lead_on" (defArgs s_lead_on) (defBody s_lead_on) (defScope s_lead_on) .none kVLd dcLd pmLd anLd cdLd ctLd), slLd⟩)
    (cLd : PySem.W.codeIn K cdLd "_lead_on" = true)
    (kLd : PySem.W.keepIn K (.ref fLd) = true)
    (aSw : PySem.W.nsIn K mainGlobals "shortest_ways" = some (some (.ref fSw)))
    (lSw : K.lookup fSw = some ⟨ocSw, odSw, .func (PySem.W.fnOf "shortest_ways" "shortest_ways" (defArgs s_shortest_ways) (defBody s_shortest_ways) (defScope s_shortest_ways) .none kVSw dcSw pmSw anSw cdSw ctSw), slSw⟩)
    (cSw : PySem.W.codeIn K cdSw "shortest_ways" = true)
    (kSw : PySem.W.keepIn K (.ref fSw) = true)
    (aWb : PySem.W.nsIn K mainGlobals "_way_back" = some (some (.ref fWb)))
    (lWb : K.lookup fWb = some ⟨ocWb, odWb, .func (PySem.W.fnOf "_way_back" "_way_back" (defArgs s_way_back) (defBody s_way_back) (defScope s_way_back) .none kVWb dcWb pmWb anWb cdWb ctWb), slWb⟩)
    (cWb : PySem.W.codeIn K cdWb "_way_back" = true)
    (kWb : PySem.W.keepIn K (.ref fWb) = true)
    (aSt : PySem.W.nsIn K mainGlobals "strength" = some (some (.ref fSt)))
    (lSt : K.lookup fSt = some ⟨ocSt, odSt, .func (PySem.W.fnOf "strength" "strength" (defArgs s_strength) (defBody s_strength) (defScope s_strength) .none kVSt dcSt pmSt anSt cdSt ctSt), slSt⟩)
    (cSt : PySem.W.codeIn K cdSt "strength" = true)
    (kSt : PySem.W.keepIn K (.ref fSt) = true)
    (g_MOST_FAULTS : PySem.W.nsIn K mainGlobals "MOST_FAULTS" = some (some (.int 3 tkH)))
    (aNu : PySem.W.nsIn K mainGlobals "is_number" = some (some (.ref fNu)))
    (lNu : K.lookup fNu = some ⟨ocNu, odNu, .func (PySem.W.fnOf "is_number" "is_number" (defArgs s_is_number) (defBody s_is_number) (defScope s_is_number) .none kVNu dcNu pmNu anNu cdNu ctNu), slNu⟩)
    (cNu : PySem.W.codeIn K cdNu "is_number" = true)
    (kNu : PySem.W.keepIn K (.ref fNu) = true)
    (aIb : PySem.W.nsIn K mainGlobals "is_bound" = some (some (.ref fIb)))
    (lIb : K.lookup fIb = some ⟨ocIb, odIb, .func (PySem.W.fnOf "is_bound" "is_bound" (defArgs s_is_bound) (defBody s_is_bound) (defScope s_is_bound) .none kVIb dcIb pmIb anIb cdIb ctIb), slIb⟩)
    (cIb : PySem.W.codeIn K cdIb "is_bound" = true)
    (kIb : PySem.W.keepIn K (.ref fIb) = true)
    (aAf : PySem.W.nsIn K mainGlobals "are_faults" = some (some (.ref fAf)))
    (lAf : K.lookup fAf = some ⟨ocAf, odAf, .func (PySem.W.fnOf "are_faults" "are_faults" (defArgs s_are_faults) (defBody s_are_faults) (defScope s_are_faults) .none kVAf dcAf pmAf anAf cdAf ctAf), slAf⟩)
    (cAf : PySem.W.codeIn K cdAf "are_faults" = true)
    (kAf : PySem.W.keepIn K (.ref fAf) = true)
    (aCf : PySem.W.nsIn K mainGlobals "check_faults" = some (some (.ref fCf)))
    (lCf : K.lookup fCf = some ⟨ocCf, odCf, .func (PySem.W.fnOf "check_faults" "check_faults" (defArgs s_check_faults) (defBody s_check_faults) (defScope s_check_faults) .none kVCf dcCf pmCf anCf cdCf ctCf), slCf⟩)
    (cCf : PySem.W.codeIn K cdCf "check_faults" = true)
    (kCf : PySem.W.keepIn K (.ref fCf) = true)
    (aCt : PySem.W.nsIn K mainGlobals "can_tell" = some (some (.ref fCt)))
    (lCt : K.lookup fCt = some ⟨ocCt, odCt, .func (PySem.W.fnOf "can_tell" "can_tell" (defArgs s_can_tell) (defBody s_can_tell) (defScope s_can_tell) .none kVCt dcCt pmCt anCt cdCt ctCt), slCt⟩)
    (cCt : PySem.W.codeIn K cdCt "can_tell" = true)
    (kCt : PySem.W.keepIn K (.ref fCt) = true)
    (apl : PySem.W.findIn K (.ref CN) "places" = some (some (.ref ppl)))
    (gpl : PySem.W.specialIn K (.ref ppl) "__get__" = some (some (.builtin "property.__get__")))
    (tpl : PySem.W.takesIn K (.ref ppl) = some true)
    (rpl_ : PySem.W.recIn K ppl "property" = some (.ref fpl :: rpl))
    (lpl : K.lookup fpl = some ⟨ocpl, odpl, .func (PySem.W.fnOf "places" "Net.places" (defArgs s_Net_places) (defBody s_Net_places) (defScope s_Net_places) .none kVpl dcpl pmpl anpl cdpl ctpl), slpl⟩)
    (cpl : PySem.W.codeIn K cdpl "Net.places" = true)
    (kpl : PySem.W.keepIn K (.ref fpl) = true)
    (aKa : PySem.W.nsIn K mainGlobals "_kept_at" = some (some (.ref fKa)))
    (lKa : K.lookup fKa = some ⟨ocKa, odKa, .func (PySem.W.fnOf "_kept_at" "_kept_at" (defArgs s_kept_at) (defBody s_kept_at) (defScope s_kept_at) .none kVKa dcKa pmKa anKa cdKa ctKa), slKa⟩)
    (cKa : PySem.W.codeIn K cdKa "_kept_at" = true)
    (kKa : PySem.W.keepIn K (.ref fKa) = true)
    (aFw : PySem.W.nsIn K mainGlobals "is_flow" = some (some (.ref fFw)))
    (lFw : K.lookup fFw = some ⟨ocFw, odFw, .func (PySem.W.fnOf "is_flow" "is_flow" (defArgs s_is_flow) (defBody s_is_flow) (defScope s_is_flow) .none kVFw dcFw pmFw anFw cdFw ctFw), slFw⟩)
    (cFw : PySem.W.codeIn K cdFw "is_flow" = true)
    (kFw : PySem.W.keepIn K (.ref fFw) = true)
    (aRt : PySem.W.nsIn K mainGlobals "ring_through" = some (some (.ref fRt)))
    (lRt : K.lookup fRt = some ⟨ocRt, odRt, .func (PySem.W.fnOf "ring_through" "ring_through" (defArgs s_ring_through) (defBody s_ring_through) (defScope s_ring_through) .none kVRt dcRt pmRt anRt cdRt ctRt), slRt⟩)
    (cRt : PySem.W.codeIn K cdRt "ring_through" = true)
    (kRt : PySem.W.keepIn K (.ref fRt) = true)
    (aRo : PySem.W.nsIn K mainGlobals "readings_of" = some (some (.ref fRo)))
    (lRo : K.lookup fRo = some ⟨ocRo, odRo, .func (PySem.W.fnOf "readings_of" "readings_of" (defArgs s_readings_of) (defBody s_readings_of) (defScope s_readings_of) .none kVRo dcRo pmRo anRo cdRo ctRo), slRo⟩)
    (cRo : PySem.W.codeIn K cdRo "readings_of" = true)
    (kRo : PySem.W.keepIn K (.ref fRo) = true)
    (aSb : PySem.W.nsIn K mainGlobals "_seen_in_both" = some (some (.ref fSb)))
    (lSb : K.lookup fSb = some ⟨ocSb, odSb, .func (PySem.W.fnOf "_seen_in_both" "_seen_in_both" (defArgs s_seen_in_both) (defBody s_seen_in_both) (defScope s_seen_in_both) .none kVSb dcSb pmSb anSb cdSb ctSb), slSb⟩)
    (cSb : PySem.W.codeIn K cdSb "_seen_in_both" = true)
    (kSb : PySem.W.keepIn K (.ref fSb) = true)
    (aMi2 : PySem.W.nsIn K mainGlobals "misleading" = some (some (.ref fMi2)))
    (lMi2 : K.lookup fMi2 = some ⟨ocMi2, odMi2, .func (PySem.W.fnOf "misleading" "misleading" (defArgs s_misleading) (defBody s_misleading) (defScope s_misleading) .none kVMi2 dcMi2 pmMi2 anMi2 cdMi2 ctMi2), slMi2⟩)
    (cMi2 : PySem.W.codeIn K cdMi2 "misleading" = true)
    (kMi2 : PySem.W.keepIn K (.ref fMi2) = true)
    (aWe : PySem.W.nsIn K mainGlobals "_law_well" = some (some (.ref fWe)))
    (lWe : K.lookup fWe = some ⟨ocWe, odWe, .func (PySem.W.fnOf "_law_well" "_law_well" (defArgs s_well) (defBody s_well) (defScope s_well) .none kVWe dcWe pmWe anWe cdWe ctWe), slWe⟩)
    (cWe : PySem.W.codeIn K cdWe "_law_well" = true)
    (kWe : PySem.W.keepIn K (.ref fWe) = true)
    (aDi : PySem.W.nsIn K mainGlobals "_law_dip" = some (some (.ref fDi)))
    (lDi : K.lookup fDi = some ⟨ocDi, odDi, .func (PySem.W.fnOf "_law_dip" "_law_dip" (defArgs s_dip) (defBody s_dip) (defScope s_dip) .none kVDi dcDi pmDi anDi cdDi ctDi), slDi⟩)
    (cDi : PySem.W.codeIn K cdDi "_law_dip" = true)
    (kDi : PySem.W.keepIn K (.ref fDi) = true)
    (aNa : PySem.W.nsIn K mainGlobals "_law_names" = some (some (.ref fNa)))
    (lNa : K.lookup fNa = some ⟨ocNa, odNa, .func (PySem.W.fnOf "_law_names" "_law_names" (defArgs s_names) (defBody s_names) (defScope s_names) .none kVNa dcNa pmNa anNa cdNa ctNa), slNa⟩)
    (cNa : PySem.W.codeIn K cdNa "_law_names" = true)
    (kNa : PySem.W.keepIn K (.ref fNa) = true)
    (aMo : PySem.W.nsIn K mainGlobals "_law_model" = some (some (.ref fMo)))
    (lMo : K.lookup fMo = some ⟨ocMo, odMo, .func (PySem.W.fnOf "_law_model" "_law_model" (defArgs s_model) (defBody s_model) (defScope s_model) .none kVMo dcMo pmMo anMo cdMo ctMo), slMo⟩)
    (cMo : PySem.W.codeIn K cdMo "_law_model" = true)
    (kMo : PySem.W.keepIn K (.ref fMo) = true)
    (aTx : PySem.W.nsIn K mainGlobals "_law_text" = some (some (.ref fTx)))
    (lTx : K.lookup fTx = some ⟨ocTx, odTx, .func (PySem.W.fnOf "_law_text" "_law_text" (defArgs s_text) (defBody s_text) (defScope s_text) .none kVTx dcTx pmTx anTx cdTx ctTx), slTx⟩)
    (cTx : PySem.W.codeIn K cdTx "_law_text" = true)
    (kTx : PySem.W.keepIn K (.ref fTx) = true)
    (nE : PySem.W.nsIn K mainGlobals "NotANet" = some (some (.ref CE)))
    (hdE : PySem.W.hasDictIn K CE = true)
    (tyE : PySem.W.typeIn K (.ref CE) = some (.type "type"))
    (suE : PySem.W.subIn K (.ref CE) (.ref CE) = some true)
    (inE : PySem.W.excInitIn K CE [.type "ValueError", .type "Exception", .type "BaseException", .type "object"] "ValueError.__new__" = true)
    (ovE : PySem.W.excOver K CE [.type "ValueError", .type "Exception", .type "BaseException", .type "object"] = true)
    (saE : PySem.W.findIn K (.ref CE) "__setattr__" = some (some (.builtin "object.__setattr__")))
    (ebE : PySem.W.subIn K (.ref CE) (.type "BaseException") = some true)
    (kpE : PySem.W.keepIn K (.ref CE) = true)
    (gaE : PySem.W.findIn K (.ref CE) "__getattribute__" = some (some (.builtin "BaseException.__getattribute__")))
    (ggE : PySem.W.findIn K (.ref CE) "__getattr__" = some none)
    (haE : PySem.W.findIn K (.ref CE) "__class__" = some (some (.builtin "object.__class__")))
    (hmE : PySem.W.mroIn K CE (.type "object") = some true)
    (tkE : PySem.W.takerIn K CE "given" = some none)
    (noE : PySem.W.findIn K (.ref CE) "given" = some none)
    (aiE : PySem.W.findIn K (.ref CE) "__init__" = some (some (.ref fiE)))
    (iiE : PySem.W.isFn K (.ref fiE) = true)
    (liE : K.lookup fiE = some ⟨ociE, odiE, .func (PySem.W.fnOf "__init__" "NotANet.__init__" (defArgs s_NotANet___init__) (defBody s_NotANet___init__) (defScope s_NotANet___init__) .none kViE dciE pmiE aniE cdiE ctiE), sliE⟩)
    (ciE : PySem.W.codeIn K cdiE "NotANet.__init__" = true)
    (kiE : PySem.W.keepIn K (.ref fiE) = true)
    (tiE : PySem.W.typeIn K (.ref fiE) = some (.type "function"))
    (nU : PySem.W.nsIn K mainGlobals "UnknownName" = some (some (.ref CU)))
    (hdU : PySem.W.hasDictIn K CU = true)
    (tyU : PySem.W.typeIn K (.ref CU) = some (.type "type"))
    (suU : PySem.W.subIn K (.ref CU) (.ref CU) = some true)
    (inU : PySem.W.excInitIn K CU [.type "LookupError", .type "Exception", .type "BaseException", .type "object"] "LookupError.__new__" = true)
    (ovU : PySem.W.excOver K CU [.type "LookupError", .type "Exception", .type "BaseException", .type "object"] = true)
    (saU : PySem.W.findIn K (.ref CU) "__setattr__" = some (some (.builtin "object.__setattr__")))
    (ebU : PySem.W.subIn K (.ref CU) (.type "BaseException") = some true)
    (kpU : PySem.W.keepIn K (.ref CU) = true)
    (gaU : PySem.W.findIn K (.ref CU) "__getattribute__" = some (some (.builtin "BaseException.__getattribute__")))
    (ggU : PySem.W.findIn K (.ref CU) "__getattr__" = some none)
    (haU : PySem.W.findIn K (.ref CU) "__class__" = some (some (.builtin "object.__class__")))
    (hmU : PySem.W.mroIn K CU (.type "object") = some true)
    (tkU : PySem.W.takerIn K CU "given" = some none)
    (noU : PySem.W.findIn K (.ref CU) "given" = some none)
    (aiU : PySem.W.findIn K (.ref CU) "__init__" = some (some (.ref fiU)))
    (iiU : PySem.W.isFn K (.ref fiU) = true)
    (liU : K.lookup fiU = some ⟨ociU, odiU, .func (PySem.W.fnOf "__init__" "UnknownName.__init__" (defArgs s_UnknownName___init__) (defBody s_UnknownName___init__) (defScope s_UnknownName___init__) .none kViU dciU pmiU aniU cdiU ctiU), sliU⟩)
    (ciU : PySem.W.codeIn K cdiU "UnknownName.__init__" = true)
    (kiU : PySem.W.keepIn K (.ref fiU) = true)
    (tiU : PySem.W.typeIn K (.ref fiU) = some (.type "function"))
    (nF : PySem.W.nsIn K mainGlobals "InvalidFaults" = some (some (.ref CF)))
    (hdF : PySem.W.hasDictIn K CF = true)
    (tyF : PySem.W.typeIn K (.ref CF) = some (.type "type"))
    (suF : PySem.W.subIn K (.ref CF) (.ref CF) = some true)
    (inF : PySem.W.excInitIn K CF [.type "ValueError", .type "Exception", .type "BaseException", .type "object"] "ValueError.__new__" = true)
    (ovF : PySem.W.excOver K CF [.type "ValueError", .type "Exception", .type "BaseException", .type "object"] = true)
    (saF : PySem.W.findIn K (.ref CF) "__setattr__" = some (some (.builtin "object.__setattr__")))
    (ebF : PySem.W.subIn K (.ref CF) (.type "BaseException") = some true)
    (kpF : PySem.W.keepIn K (.ref CF) = true)
    (gaF : PySem.W.findIn K (.ref CF) "__getattribute__" = some (some (.builtin "BaseException.__getattribute__")))
    (ggF : PySem.W.findIn K (.ref CF) "__getattr__" = some none)
    (haF : PySem.W.findIn K (.ref CF) "__class__" = some (some (.builtin "object.__class__")))
    (hmF : PySem.W.mroIn K CF (.type "object") = some true)
    (tkF : PySem.W.takerIn K CF "given" = some none)
    (noF : PySem.W.findIn K (.ref CF) "given" = some none)
    (aiF : PySem.W.findIn K (.ref CF) "__init__" = some (some (.ref fiF)))
    (iiF : PySem.W.isFn K (.ref fiF) = true)
    (liF : K.lookup fiF = some ⟨ociF, odiF, .func (PySem.W.fnOf "__init__" "InvalidFaults.__init__" (defArgs s_InvalidFaults___init__) (defBody s_InvalidFaults___init__) (defScope s_InvalidFaults___init__) .none kViF dciF pmiF aniF cdiF ctiF), sliF⟩)
    (ciF : PySem.W.codeIn K cdiF "InvalidFaults.__init__" = true)
    (kiF : PySem.W.keepIn K (.ref fiF) = true)
    (tiF : PySem.W.typeIn K (.ref fiF) = some (.type "function"))
    (nV : PySem.W.nsIn K mainGlobals "BadValue" = some (some (.ref CV)))
    (hdV : PySem.W.hasDictIn K CV = true)
    (tyV : PySem.W.typeIn K (.ref CV) = some (.type "type"))
    (suV : PySem.W.subIn K (.ref CV) (.ref CV) = some true)
    (nB : PySem.W.nsIn K mainGlobals "BadName" = some (some (.ref CB)))
    (hdB : PySem.W.hasDictIn K CB = true)
    (tyB : PySem.W.typeIn K (.ref CB) = some (.type "type"))
    (suB : PySem.W.subIn K (.ref CB) (.ref CB) = some true)
    (nA : PySem.W.nsIn K mainGlobals "NoAnswer" = some (some (.ref CA)))
    (hdA : PySem.W.hasDictIn K CA = true)
    (tyA : PySem.W.typeIn K (.ref CA) = some (.type "type"))
    (suA : PySem.W.subIn K (.ref CA) (.ref CA) = some true)
    (al_NoneType : PySem.W.subIn K (.type "NoneType") (.ref CN) = some false)
    (al_bool : PySem.W.subIn K (.type "bool") (.ref CN) = some false)
    (al_int : PySem.W.subIn K (.type "int") (.ref CN) = some false)
    (al_str : PySem.W.subIn K (.type "str") (.ref CN) = some false)
    (al_list : PySem.W.subIn K (.type "list") (.ref CN) = some false)
    (al_tuple : PySem.W.subIn K (.type "tuple") (.ref CN) = some false)
    (al_dict : PySem.W.subIn K (.type "dict") (.ref CN) = some false)
    (b_ValueError : PySem.W.nsIn K mainGlobals "ValueError" = some none)
    (b_LookupError : PySem.W.nsIn K mainGlobals "LookupError" = some none)
    (s_F_E : PySem.W.subIn K (.ref CF) (.ref CE) = some false)
    (s_U_E : PySem.W.subIn K (.ref CU) (.ref CE) = some false)
    (s_U_F : PySem.W.subIn K (.ref CU) (.ref CF) = some false)
    (s_E_V : PySem.W.subIn K (.ref CE) (.ref CV) = some true)
    (t_E_ValueError : PySem.W.subIn K (.ref CE) (.type "ValueError") = some true)
    (s_E_F : PySem.W.subIn K (.ref CE) (.ref CF) = some false)
    (s_E_B : PySem.W.subIn K (.ref CE) (.ref CB) = some false)
    (s_E_A : PySem.W.subIn K (.ref CE) (.ref CA) = some false)
    (s_F_V : PySem.W.subIn K (.ref CF) (.ref CV) = some true)
    (t_F_ValueError : PySem.W.subIn K (.ref CF) (.type "ValueError") = some true)
    (t_F_LookupError : PySem.W.subIn K (.ref CF) (.type "LookupError") = some false)
    (s_F_B : PySem.W.subIn K (.ref CF) (.ref CB) = some false)
    (s_F_A : PySem.W.subIn K (.ref CF) (.ref CA) = some false)
    (s_U_B : PySem.W.subIn K (.ref CU) (.ref CB) = some true)
    (t_U_LookupError : PySem.W.subIn K (.ref CU) (.type "LookupError") = some true)
    (t_U_ValueError : PySem.W.subIn K (.ref CU) (.type "ValueError") = some false)
    (s_U_A : PySem.W.subIn K (.ref CU) (.ref CA) = some false)
    (aCl : PySem.W.nsIn K mainGlobals "_law_called" = some (some (.ref fCl)))
    (lCl : K.lookup fCl = some ⟨ocCl, odCl, .func (PySem.W.fnOf "_law_called" "_law_called" (defArgs s_called) (defBody s_called) (defScope s_called) .none kVCl dcCl pmCl anCl cdCl ctCl), slCl⟩)
    (cCl : PySem.W.codeIn K cdCl "_law_called" = true)
    (kCl : PySem.W.keepIn K (.ref fCl) = true)
    (aTo : PySem.W.nsIn K mainGlobals "_law_told" = some (some (.ref fTo)))
    (lTo : K.lookup fTo = some ⟨ocTo, odTo, .func (PySem.W.fnOf "_law_told" "_law_told" (defArgs s_told) (defBody s_told) (defScope s_told) .none kVTo dcTo pmTo anTo cdTo ctTo), slTo⟩)
    (cTo : PySem.W.codeIn K cdTo "_law_told" = true)
    (kTo : PySem.W.keepIn K (.ref fTo) = true)
    (aFf : PySem.W.nsIn K mainGlobals "_law_faults_fit" = some (some (.ref fFf)))
    (lFf : K.lookup fFf = some ⟨ocFf, odFf, .func (PySem.W.fnOf "_law_faults_fit" "_law_faults_fit" (defArgs s_faults_fit) (defBody s_faults_fit) (defScope s_faults_fit) .none kVFf dcFf pmFf anFf cdFf ctFf), slFf⟩)
    (cFf : PySem.W.codeIn K cdFf "_law_faults_fit" = true)
    (kFf : PySem.W.keepIn K (.ref fFf) = true)
    (aRi : PySem.W.nsIn K mainGlobals "_law_right" = some (some (.ref fRi)))
    (lRi : K.lookup fRi = some ⟨ocRi, odRi, .func (PySem.W.fnOf "_law_right" "_law_right" (defArgs s_right) (defBody s_right) (defScope s_right) .none kVRi dcRi pmRi anRi cdRi ctRi), slRi⟩)
    (cRi : PySem.W.codeIn K cdRi "_law_right" = true)
    (kRi : PySem.W.keepIn K (.ref fRi) = true)
    (aLa : PySem.W.nsIn K mainGlobals "law" = some (some (.ref fLa)))
    (lLa : K.lookup fLa = some ⟨ocLa, odLa, .func (PySem.W.fnOf "law" "law" (defArgs s_law) (defBody s_law) (defScope s_law) .none kVLa dcLa pmLa anLa cdLa ctLa), slLa⟩)
    (cLa : PySem.W.codeIn K cdLa "law" = true)
    (kLa : PySem.W.keepIn K (.ref fLa) = true)
    : ∃ fd : FuncData, (∀ (s : Shared) (v : Value), BindsTo s fd ⟨[v], []⟩ [("_law_script", v)]) ∧ ∀ base : Heap, K.In base → base.Ns mainGlobals mg → FnG l.prog w K mg base 14 fa fd ["_law_script"] (spLaw K) := by
  have e := hfa.symm.trans (PySem.W.mg_of X G aLa)
  cases e
  have T : Blt mg := ⟨PySem.W.mg_none_of X G b_len, PySem.W.mg_none_of X G b_int, PySem.W.mg_none_of X G b_abs, PySem.W.mg_none_of X G b_max, PySem.W.mg_none_of X G b_min, PySem.W.mg_none_of X G b_all, PySem.W.mg_none_of X G b_any, PySem.W.mg_none_of X G b_repr, PySem.W.mg_none_of X G b_range, PySem.W.mg_none_of X G b_divmod, PySem.W.mg_none_of X G b_isinstance, PySem.W.mg_none_of X G b_str⟩
  have T2 : Blt2 mg := ⟨PySem.W.mg_none_of X G b_sum, PySem.W.mg_none_of X G b_sorted, PySem.W.mg_none_of X G b_set, PySem.W.mg_none_of X G b_tuple, PySem.W.mg_none_of X G b_enumerate, PySem.W.mg_none_of X G b_bool⟩
  have Cs : Cst mg := ⟨⟨_, PySem.W.mg_of X G g__LETTERS, _, rfl⟩, ⟨_, PySem.W.mg_of X G g__DIGITS, _, rfl⟩, ⟨_, PySem.W.mg_of X G g__LONGEST_NAME, _, rfl⟩⟩
  have Cs3 : Cst3 mg := ⟨⟨_, PySem.W.mg_of X G g_MOST_PIPES, _, rfl⟩, ⟨_, PySem.W.mg_of X G g_MOST_METERS, _, rfl⟩⟩
  have FIn := fun_mk (st := s_is_name) lIn cIn kIn
  have bIn : Binds K _ ["value"] [] := FIn.binds (ps := ["value"]) fun _ _ _ _ _ _ us hl => match us, hl with | [_], _ => rfl
  have FCn := fun_mk (st := s_check_names) lCn cCn kCn
  have bCn : Binds K _ ["values"] [] := FCn.binds (ps := ["values"]) fun _ _ _ _ _ _ us hl => match us, hl with | [_], _ => rfl
  have clP : Cls K CP := ⟨pgP, hdP, poP, saP⟩
  have clM : Cls K CM := ⟨pgM, hdM, poM, saM⟩
  have PC : PClass K mg CP := ⟨⟨clP, haP, hn, htk, hmP⟩, PySem.W.mg_of X G nP, noP0, noP1, noP2, kit_self K CP⟩
  have MC : MClass K mg CM := ⟨⟨clM, haM, hn, htk, hmM⟩, PySem.W.mg_of X G nM, noM0, noM1, noM2, kit_self K CM⟩
  have FPi := fun_mk (st := s_Pipe___init__) lPi cPi kPi
  have bPi : Binds K _ ["self", "name", "start", "end"] [] := FPi.binds (ps := ["self", "name", "start", "end"]) fun _ _ _ _ _ _ us hl => match us, hl with | [_, _, _, _], _ => rfl
  have MkP : Mk K CP fPi := ⟨mkP, aPi, iPi, kcP⟩
  have FMi : FunD K "__init__" "Meter.__init__" (defArgs s_Meter___init__) (defBody s_Meter___init__) (defScope s_Meter___init__) [] [("sealed", V.bl false)] fMi _ := ⟨⟨_, _, _, _, _, _, _, _, _, _, rfl, lMi, cMi, .inl ⟨rfl, rfl⟩, .inr ⟨kDMi, rfl, fun q hq => by
    rw [List.mem_singleton.mp hq]
    exact ⟨_, kd, rfl⟩⟩⟩, kMi⟩
  have MkM : Mk K CM fMi := ⟨mkM, aMi, iMi, kcM⟩
  have Fpn := fun_mk (st := s_Pipe_name) lpn cpn kpn
  have bpn : Binds K _ ["self"] [] := Fpn.binds (ps := ["self"]) fun _ _ _ _ _ _ us hl => match us, hl with | [_], _ => rfl
  have Fps := fun_mk (st := s_Pipe_start) lps cps kps
  have bps : Binds K _ ["self"] [] := Fps.binds (ps := ["self"]) fun _ _ _ _ _ _ us hl => match us, hl with | [_], _ => rfl
  have Fpe := fun_mk (st := s_Pipe_end) lpe cpe kpe
  have bpe : Binds K _ ["self"] [] := Fpe.binds (ps := ["self"]) fun _ _ _ _ _ _ us hl => match us, hl with | [_], _ => rfl
  have Fmn := fun_mk (st := s_Meter_name) lmn cmn kmn
  have bmn : Binds K _ ["self"] [] := Fmn.binds (ps := ["self"]) fun _ _ _ _ _ _ us hl => match us, hl with | [_], _ => rfl
  have Fma := fun_mk (st := s_Meter_at) lma cma kma
  have bma : Binds K _ ["self"] [] := Fma.binds (ps := ["self"]) fun _ _ _ _ _ _ us hl => match us, hl with | [_], _ => rfl
  have Fmz := fun_mk (st := s_Meter_sealed) lmz cmz kmz
  have bmz : Binds K _ ["self"] [] := Fmz.binds (ps := ["self"]) fun _ _ _ _ _ _ us hl => match us, hl with | [_], _ => rfl
  have FPq := fun_mk (st := s_Pipe___eq__) lPq cPq kPq
  have bPq : Binds K _ ["self", "other"] [] := FPq.binds (ps := ["self", "other"]) fun _ _ _ _ _ _ us hl => match us, hl with | [_, _], _ => rfl
  have FMq := fun_mk (st := s_Meter___eq__) lMq cMq kMq
  have bMq : Binds K _ ["self", "other"] [] := FMq.binds (ps := ["self", "other"]) fun _ _ _ _ _ _ us hl => match us, hl with | [_, _], _ => rfl
  have clN : Cls K CN := ⟨pgN, hdN, poN, saN⟩
  have NC : NClass K mg CN := ⟨⟨clN, haN, hn, htk, hmN⟩, PySem.W.mg_of X G nN, noN0, noN1, kit_self K CN⟩
  have FIo := fun_mk (st := s_index_of) lIo cIo kIo
  have bIo : Binds K _ ["parts", "name"] [] := FIo.binds (ps := ["parts", "name"]) fun _ _ _ _ _ _ us hl => match us, hl with | [_, _], _ => rfl
  have FCp := fun_mk (st := s_check_pipes) lCp cCp kCp
  have bCp : Binds K _ ["pipes"] [] := FCp.binds (ps := ["pipes"]) fun _ _ _ _ _ _ us hl => match us, hl with | [_], _ => rfl
  have FCm := fun_mk (st := s_check_meters) lCm cCm kCm
  have bCm : Binds K _ ["meters", "pipes"] [] := FCm.binds (ps := ["meters", "pipes"]) fun _ _ _ _ _ _ us hl => match us, hl with | [_, _], _ => rfl
  have FPl := fun_mk (st := s_pipe_line) lPl cPl kPl
  have bPl : Binds K _ ["part"] [] := FPl.binds (ps := ["part"]) fun _ _ _ _ _ _ us hl => match us, hl with | [_], _ => rfl
  have FMl := fun_mk (st := s_meter_line) lMl cMl kMl
  have bMl : Binds K _ ["part"] [] := FMl.binds (ps := ["part"]) fun _ _ _ _ _ _ us hl => match us, hl with | [_], _ => rfl
  have FLs := fun_mk (st := s_lines) lLs cLs kLs
  have bLs : Binds K _ ["pipes", "meters"] [] := FLs.binds (ps := ["pipes", "meters"]) fun _ _ _ _ _ _ us hl => match us, hl with | [_, _], _ => rfl
  have FNi : FunD K "__init__" "Net.__init__" (defArgs s_Net___init__) (defBody s_Net___init__) (defScope s_Net___init__) [.ref t0] [] fNi _ := ⟨⟨_, _, _, _, _, _, _, _, _, _, rfl, lNi, cNi, .inr ⟨by simp, tD, _, [.ref t0], nT, rfl, lT, rfl, .cons rfl .nil⟩, .inl rfl⟩, kNi⟩
  obtain ⟨dsN, vdN, bdN⟩ := chainN FNi
  have MkN : Mk K CN fNi := ⟨mkN, aNi, iNi, kcN⟩
  have Fnp := fun_mk (st := s_Net_pipes) lnp cnp knp
  have bnp : Binds K _ ["self"] [] := Fnp.binds (ps := ["self"]) fun _ _ _ _ _ _ us hl => match us, hl with | [_], _ => rfl
  have Fnm := fun_mk (st := s_Net_meters) lnm cnm knm
  have bnm : Binds K _ ["self"] [] := Fnm.binds (ps := ["self"]) fun _ _ _ _ _ _ us hl => match us, hl with | [_], _ => rfl
  have FNl := fun_mk (st := s_Net___len__) lNl cNl kNl
  have bNl : Binds K _ ["self"] [] := FNl.binds (ps := ["self"]) fun _ _ _ _ _ _ us hl => match us, hl with | [_], _ => rfl
  have FNs := fun_mk (st := s_Net___str__) lNs cNs kNs
  have bNs : Binds K _ ["self"] [] := FNs.binds (ps := ["self"]) fun _ _ _ _ _ _ us hl => match us, hl with | [_], _ => rfl
  have FNq := fun_mk (st := s_Net___eq__) lNq cNq kNq
  have bNq : Binds K _ ["self", "other"] [] := FNq.binds (ps := ["self", "other"]) fun _ _ _ _ _ _ us hl => match us, hl with | [_, _], _ => rfl
  have FRw := fun_mk (st := s_rows_in) lRw cRw kRw
  have bRw : Binds K _ ["text"] [] := FRw.binds (ps := ["text"]) fun _ _ _ _ _ _ us hl => match us, hl with | [_], _ => rfl
  have FPn := fun_mk (st := s_pipes_in) lPn cPn kPn
  have bPn : Binds K _ ["text"] [] := FPn.binds (ps := ["text"]) fun _ _ _ _ _ _ us hl => match us, hl with | [_], _ => rfl
  have FMn := fun_mk (st := s_meters_in) lMn cMn kMn
  have bMn : Binds K _ ["text"] [] := FMn.binds (ps := ["text"]) fun _ _ _ _ _ _ us hl => match us, hl with | [_], _ => rfl
  have RN : ClX.CRead K CN (.type "type") := ⟨rdN, gaN⟩
  have FNr := fun_mk (st := s_Net_read) lNr cNr kNr
  have bNr : Binds K _ ["cls", "text"] [] := FNr.binds (ps := ["cls", "text"]) fun _ _ _ _ _ _ us hl => match us, hl with | [_, _], _ => rfl
  have FPp := fun_mk (st := s_Net_pipe) lPp cPp kPp
  have bPp : Binds K _ ["self", "name"] [] := FPp.binds (ps := ["self", "name"]) fun _ _ _ _ _ _ us hl => match us, hl with | [_, _], _ => rfl
  have FKn := fun_mk (st := s_check_net) lKn cKn kKn
  have bKn : Binds K _ ["net"] [] := FKn.binds (ps := ["net"]) fun _ _ _ _ _ _ us hl => match us, hl with | [_], _ => rfl
  have FKp := fun_mk (st := s_check_pipe) lKp cKp kKp
  have bKp : Binds K _ ["net", "pipe"] [] := FKp.binds (ps := ["net", "pipe"]) fun _ _ _ _ _ _ us hl => match us, hl with | [_, _], _ => rfl
  have FMa := fun_mk (st := s_meters_at) lMa cMa kMa
  have bMa : Binds K _ ["net", "name"] [] := FMa.binds (ps := ["net", "name"]) fun _ _ _ _ _ _ us hl => match us, hl with | [_, _], _ => rfl
  have FSa := fun_mk (st := s_sealed_at) lSa cSa kSa
  have bSa : Binds K _ ["net", "name"] [] := FSa.binds (ps := ["net", "name"]) fun _ _ _ _ _ _ us hl => match us, hl with | [_, _], _ => rfl
  have FAm := fun_mk (st := s_amounts) lAm cAm kAm
  have bAm : Binds K _ ["net", "index", "amount"] [] := FAm.binds (ps := ["net", "index", "amount"]) fun _ _ _ _ _ _ us hl => match us, hl with | [_, _, _], _ => rfl
  have FLk := fun_mk (st := s_links) lLk cLk kLk
  have bLk : Binds K _ ["net", "pipe"] [] := FLk.binds (ps := ["net", "pipe"]) fun _ _ _ _ _ _ us hl => match us, hl with | [_, _], _ => rfl
  have FLd := fun_mk (st := s_lead_on) lLd cLd kLd
  have bLd : Binds K _ ["ways", "start", "end", "many", "amounts"] [] := FLd.binds (ps := ["ways", "start", "end", "many", "amounts"]) fun _ _ _ _ _ _ us hl => match us, hl with | [_, _, _, _, _], _ => rfl
  have FSw := fun_mk (st := s_shortest_ways) lSw cSw kSw
  have bSw : Binds K _ ["net", "pipe"] [] := FSw.binds (ps := ["net", "pipe"]) fun _ _ _ _ _ _ us hl => match us, hl with | [_, _], _ => rfl
  have FWb := fun_mk (st := s_way_back) lWb cWb kWb
  have bWb : Binds K _ ["net", "pipe"] [] := FWb.binds (ps := ["net", "pipe"]) fun _ _ _ _ _ _ us hl => match us, hl with | [_, _], _ => rfl
  have FSt := fun_mk (st := s_strength) lSt cSt kSt
  have bSt : Binds K _ ["net", "pipe"] [] := FSt.binds (ps := ["net", "pipe"]) fun _ _ _ _ _ _ us hl => match us, hl with | [_, _], _ => rfl
  have FNu := fun_mk (st := s_is_number) lNu cNu kNu
  have bNu : Binds K _ ["value"] [] := FNu.binds (ps := ["value"]) fun _ _ _ _ _ _ us hl => match us, hl with | [_], _ => rfl
  have FIb := fun_mk (st := s_is_bound) lIb cIb kIb
  have bIb : Binds K _ ["value"] [] := FIb.binds (ps := ["value"]) fun _ _ _ _ _ _ us hl => match us, hl with | [_], _ => rfl
  have FAf := fun_mk (st := s_are_faults) lAf cAf kAf
  have bAf : Binds K _ ["value"] [] := FAf.binds (ps := ["value"]) fun _ _ _ _ _ _ us hl => match us, hl with | [_], _ => rfl
  have FCf := fun_mk (st := s_check_faults) lCf cCf kCf
  have bCf : Binds K _ ["faults"] [] := FCf.binds (ps := ["faults"]) fun _ _ _ _ _ _ us hl => match us, hl with | [_], _ => rfl
  have FCt := fun_mk (st := s_can_tell) lCt cCt kCt
  have bCt : Binds K _ ["net", "pipe", "faults"] [] := FCt.binds (ps := ["net", "pipe", "faults"]) fun _ _ _ _ _ _ us hl => match us, hl with | [_, _, _], _ => rfl
  have Fpl := fun_mk (st := s_Net_places) lpl cpl kpl
  have bpl : Binds K _ ["self"] [] := Fpl.binds (ps := ["self"]) fun _ _ _ _ _ _ us hl => match us, hl with | [_], _ => rfl
  have FKa := fun_mk (st := s_kept_at) lKa cKa kKa
  have bKa : Binds K _ ["net", "flow", "place"] [] := FKa.binds (ps := ["net", "flow", "place"]) fun _ _ _ _ _ _ us hl => match us, hl with | [_, _, _], _ => rfl
  have FFw := fun_mk (st := s_is_flow) lFw cFw kFw
  have bFw : Binds K _ ["net", "value"] [] := FFw.binds (ps := ["net", "value"]) fun _ _ _ _ _ _ us hl => match us, hl with | [_, _], _ => rfl
  have FRt := fun_mk (st := s_ring_through) lRt cRt kRt
  have bRt : Binds K _ ["net", "pipe"] [] := FRt.binds (ps := ["net", "pipe"]) fun _ _ _ _ _ _ us hl => match us, hl with | [_, _], _ => rfl
  have FRo := fun_mk (st := s_readings_of) lRo cRo kRo
  have bRo : Binds K _ ["net", "flow"] [] := FRo.binds (ps := ["net", "flow"]) fun _ _ _ _ _ _ us hl => match us, hl with | [_, _], _ => rfl
  have FSb := fun_mk (st := s_seen_in_both) lSb cSb kSb
  have bSb : Binds K _ ["net", "ring", "faults"] [] := FSb.binds (ps := ["net", "ring", "faults"]) fun _ _ _ _ _ _ us hl => match us, hl with | [_, _, _], _ => rfl
  have FMi2 := fun_mk (st := s_misleading) lMi2 cMi2 kMi2
  have bMi2 : Binds K _ ["net", "pipe", "faults"] [] := FMi2.binds (ps := ["net", "pipe", "faults"]) fun _ _ _ _ _ _ us hl => match us, hl with | [_, _, _], _ => rfl
  have FWe := fun_mk (st := s_well) lWe cWe kWe
  have bWe : Binds K _ ["_law_script", "_law_k"] [] := FWe.binds (ps := ["_law_script", "_law_k"]) fun _ _ _ _ _ _ us hl => match us, hl with | [_, _], _ => rfl
  have FDi := fun_mk (st := s_dip) lDi cDi kDi
  have bDi : Binds K _ ["_law_well_here", "_law_many"] [] := FDi.binds (ps := ["_law_well_here", "_law_many"]) fun _ _ _ _ _ _ us hl => match us, hl with | [_, _], _ => rfl
  have FNa := fun_mk (st := s_names) lNa cNa kNa
  have bNa : Binds K _ ["_law_well_here", "_law_many"] [] := FNa.binds (ps := ["_law_well_here", "_law_many"]) fun _ _ _ _ _ _ us hl => match us, hl with | [_, _], _ => rfl
  have FMo := fun_mk (st := s_model) lMo cMo kMo
  have bMo : Binds K _ ["_law_well_here", "_law_most", "_law_more"] [] := FMo.binds (ps := ["_law_well_here", "_law_most", "_law_more"]) fun _ _ _ _ _ _ us hl => match us, hl with | [_, _, _], _ => rfl
  have FTx := fun_mk (st := s_text) lTx cTx kTx
  have bTx : Binds K _ ["_law_model_here"] [] := FTx.binds (ps := ["_law_model_here"]) fun _ _ _ _ _ _ us hl => match us, hl with | [_], _ => rfl
  have FiE := fun_mk (st := s_NotANet___init__) liE ciE kiE
  have biE : Binds K _ ["self", "given"] [] := FiE.binds (ps := ["self", "given"]) fun _ _ _ _ _ _ us hl => match us, hl with | [_, _], _ => rfl
  have OE : OwnX K CE := ⟨_, _, _, _, ⟨PySem.F.excBase_ValueError, PySem.F.store_ValueError, inE, ovE, hdE, saE, ebE, tyE, kpE, gaE, ggE, haE, hn, htk, hmE⟩⟩
  have FiU := fun_mk (st := s_UnknownName___init__) liU ciU kiU
  have biU : Binds K _ ["self", "given"] [] := FiU.binds (ps := ["self", "given"]) fun _ _ _ _ _ _ us hl => match us, hl with | [_, _], _ => rfl
  have OU : OwnX K CU := ⟨_, _, _, _, ⟨PySem.F.excBase_LookupError, PySem.F.store_LookupError, inU, ovU, hdU, saU, ebU, tyU, kpU, gaU, ggU, haU, hn, htk, hmU⟩⟩
  have FiF := fun_mk (st := s_InvalidFaults___init__) liF ciF kiF
  have biF : Binds K _ ["self", "given"] [] := FiF.binds (ps := ["self", "given"]) fun _ _ _ _ _ _ us hl => match us, hl with | [_, _], _ => rfl
  have OF : OwnX K CF := ⟨_, _, _, _, ⟨PySem.F.excBase_ValueError, PySem.F.store_ValueError, inF, ovF, hdF, saF, ebF, tyF, kpF, gaF, ggF, haF, hn, htk, hmF⟩⟩
  have al : Alien K CN := fun d => by cases d <;> first | exact kit_eq hdN tyN suN al_NoneType | exact kit_eq hdN tyN suN al_bool | exact kit_eq hdN tyN suN al_int | exact kit_eq hdN tyN suN al_str | exact kit_eq hdN tyN suN al_list | exact kit_eq hdN tyN suN al_tuple | exact kit_eq hdN tyN suN al_dict
  have fam : Fam K mg CE CU CF CV CB CA := ⟨PySem.W.mg_of X G nE, PySem.W.mg_of X G nU, PySem.W.mg_of X G nF, PySem.W.mg_of X G nV, PySem.W.mg_of X G nB, PySem.W.mg_of X G nA, PySem.W.mg_none_of X G b_ValueError, PySem.W.mg_none_of X G b_LookupError, OE, OU, OF, noE, noU, noF, exm_eq ebE hdE tyE suE, exm_eq ebE hdE tyE s_F_E, exm_eq ebF hdF tyF suF, exm_eq ebE hdE tyE s_U_E, exm_eq ebF hdF tyF s_U_F, exm_eq ebU hdU tyU suU, kit_eq hdV tyV suV s_E_V, kit_blt (by rfl) t_E_ValueError, kit_eq hdF tyF suF s_E_F, kit_eq hdB tyB suB s_E_B, kit_eq hdA tyA suA s_E_A, kit_eq hdV tyV suV s_F_V, kit_blt (by rfl) t_F_ValueError, kit_blt (by rfl) t_F_LookupError, kit_eq hdB tyB suB s_F_B, kit_eq hdA tyA suA s_F_A, kit_eq hdB tyB suB s_U_B, kit_blt (by rfl) t_U_LookupError, kit_blt (by rfl) t_U_ValueError, kit_eq hdA tyA suA s_U_A⟩
  have FCl := fun_mk (st := s_called) lCl cCl kCl
  have bCl : Binds K _ ["_law_way", "_law_net", "_law_pipe", "_law_faults"] [] := FCl.binds (ps := ["_law_way", "_law_net", "_law_pipe", "_law_faults"]) fun _ _ _ _ _ _ us hl => match us, hl with | [_, _, _, _], _ => rfl
  have FTo := fun_mk (st := s_told) lTo cTo kTo
  have bTo : Binds K _ ["_law_way", "_law_net", "_law_pipe", "_law_faults"] [] := FTo.binds (ps := ["_law_way", "_law_net", "_law_pipe", "_law_faults"]) fun _ _ _ _ _ _ us hl => match us, hl with | [_, _, _, _], _ => rfl
  have FFf := fun_mk (st := s_faults_fit) lFf cFf kFf
  have bFf : Binds K _ ["_law_value"] [] := FFf.binds (ps := ["_law_value"]) fun _ _ _ _ _ _ us hl => match us, hl with | [_], _ => rfl
  have FRi := fun_mk (st := s_right) lRi cRi kRi
  have bRi : Binds K _ ["_law_well_here"] [] := FRi.binds (ps := ["_law_well_here"]) fun _ _ _ _ _ _ us hl => match us, hl with | [_], _ => rfl
  refine ⟨PySem.W.fnOf "law" "law" (defArgs s_law) (defBody s_law) (defScope s_law) .none kVLa dcLa pmLa anLa cdLa ctLa, fun s v => .of_eq rfl, fun base _ _ => ?_⟩
  have GIn : Fn l.prog w K mg base "is_name" 1 ["value"] (sp_is_name K) := ⟨_, _, PySem.W.mg_of X G aIn, kIn, bIn, ok_is_name FIn T Cs⟩
  have GCn : Fn l.prog w K mg base "_check_names" 2 ["values"] (sp_check K) := ⟨_, _, PySem.W.mg_of X G aCn, kCn, bCn, ok_check_names FCn GIn.irr⟩
  have OPi : FnOk l.prog w K mg base CX0 3 fPi _ ["self", "name", "start", "end"] (sp_Pipe CP) := ok_Pipe_i FPi PC GCn.irr
  have P0 : Mkr l.prog w K mg base "Pipe" CP 3 (sp_Pipe CP) [] := ⟨PC.k, _, _, _, [], MkP, bPi, .nil, OPi⟩
  have OMi : FnOk l.prog w K mg base CX0 3 fMi _ ["self", "name", "at", "sealed"] (sp_Meter CM) := ok_Meter_i FMi MC GCn.irr
  have M2 : MkrK l.prog w K mg base "Meter" CM 3 2 ["sealed"] (sp_Meter CM) gM2 := ⟨MC.k, _, _, _, _, MkM, kbM2 FMi, OMi⟩
  have Gpn : Prp l.prog w K mg base CP "name" 1 (sp_pn CP) := ⟨clP, _, _, _, _, ⟨apn, gpn, tpn, _, rpn_⟩, bpn, ok_Pipe_name Fpn PC⟩
  have Gps : Prp l.prog w K mg base CP "start" 1 (sp_ps CP) := ⟨clP, _, _, _, _, ⟨aps, gps, tps, _, rps_⟩, bps, ok_Pipe_start Fps PC⟩
  have Gpe : Prp l.prog w K mg base CP "end" 1 (sp_pe CP) := ⟨clP, _, _, _, _, ⟨ape, gpe, tpe, _, rpe_⟩, bpe, ok_Pipe_end Fpe PC⟩
  have Gmn : Prp l.prog w K mg base CM "name" 1 (sp_mn CM) := ⟨clM, _, _, _, _, ⟨amn, gmn, tmn, _, rmn_⟩, bmn, ok_Meter_name Fmn MC⟩
  have Gma : Prp l.prog w K mg base CM "at" 1 (sp_ma CM) := ⟨clM, _, _, _, _, ⟨ama, gma, tma, _, rma_⟩, bma, ok_Meter_at Fma MC⟩
  have Gmz : Prp l.prog w K mg base CM "sealed" 1 (sp_mz CM) := ⟨clM, _, _, _, _, ⟨amz, gmz, tmz, _, rmz_⟩, bmz, ok_Meter_sealed Fmz MC⟩
  have GPq : OwnM l.prog w K mg base CP "__eq__" 1 (sp_Peq CP) := ⟨_, _, _, aPq, iPq, fiPq, bPq, ok_Pipe_q FPq PC T⟩
  have GMq : OwnM l.prog w K mg base CM "__eq__" 1 (sp_Meq CM) := ⟨_, _, _, aMq, iMq, fiMq, bMq, ok_Meter_q FMq MC T⟩
  have qP : OwnEq l.prog w K mg base CP 1 (sp_Peq CP) := ⟨⟨_, _, _, aPq, iPq, bPq, ok_Pipe_q FPq PC T⟩, neP, obP⟩
  have qM : OwnEq l.prog w K mg base CM 1 (sp_Meq CM) := ⟨⟨_, _, _, aMq, iMq, bMq, ok_Meter_q FMq MC T⟩, neM, obM⟩
  have GIo : Fn l.prog w K mg base "_index_of" 3 ["parts", "name"] (sp_index K CP) := ⟨_, _, PySem.W.mg_of X G aIo, kIo, bIo, ok_index_of FIo T T2 Gpn.irr⟩
  have GCp : Fn l.prog w K mg base "_check_pipes" 3 ["pipes"] (sp_chkP K CP) := ⟨_, _, PySem.W.mg_of X G aCp, kCp, bCp, ok_check_pipes FCp T T2 Cs3 PC Gpn.irr⟩
  have GCm : Fn l.prog w K mg base "_check_meters" 4 ["meters", "pipes"] (sp_chkM K CP CM) := ⟨_, _, PySem.W.mg_of X G aCm, kCm, bCm, ok_check_meters FCm T T2 Cs3 MC Gmn.irr Gma.irr GIo.irr⟩
  have GPl : Fn l.prog w K mg base "_pipe_line" 3 ["part"] (sp_pline CP) := ⟨_, _, PySem.W.mg_of X G aPl, kPl, bPl, ok_pipe_line FPl Gpn.irr Gps.irr Gpe.irr⟩
  have GMl : Fn l.prog w K mg base "_meter_line" 3 ["part"] (sp_mline CM) := ⟨_, _, PySem.W.mg_of X G aMl, kMl, bMl, ok_meter_line FMl Gmn.irr Gma.irr Gmz.irr⟩
  have GLs : Fn l.prog w K mg base "_lines" 4 ["pipes", "meters"] (sp_lines K CP CM) := ⟨_, _, PySem.W.mg_of X G aLs, kLs, bLs, ok_lines FLs GPl.irr GMl.irr⟩
  have ONi : FnOk l.prog w K mg base CX0 5 fNi _ ["self", "pipes", "meters"] (sp_Net K CN CP CM) := ok_Net_i FNi NC GCp.irr GCm.irr
  have N1 : Mkr l.prog w K mg base "Net" CN 5 (sp_Net K CN CP CM) [] := ⟨NC.k, _, _, _, dsN, MkN, bdN, vdN, ONi⟩
  have Gnp : Prp l.prog w K mg base CN "pipes" 1 (sp_npi CN) := ⟨clN, _, _, _, _, ⟨anp, gnp, tnp, _, rnp_⟩, bnp, ok_Net_p Fnp NC⟩
  have Gnm : Prp l.prog w K mg base CN "meters" 1 (sp_nme CN) := ⟨clN, _, _, _, _, ⟨anm, gnm, tnm, _, rnm_⟩, bnm, ok_Net_m Fnm NC⟩
  have GNl : OwnM l.prog w K mg base CN "__len__" 1 (sp_nlen K CN) := ⟨_, _, _, aNl, iNl, fiNl, bNl, ok_Net_l FNl NC T⟩
  have GNs : OwnM l.prog w K mg base CN "__str__" 5 (sp_nstr K CN CP CM) := ⟨_, _, _, aNs, iNs, fiNs, bNs, ok_Net_s FNs NC GLs.irr⟩
  have GNq : OwnM l.prog w K mg base CN "__eq__" 4 (sp_Neq K CN CP CM) := ⟨_, _, _, aNq, iNq, fiNq, bNq, ok_Net_q FNq NC T qP qM⟩
  have qN : OwnEq l.prog w K mg base CN 4 (sp_Neq K CN CP CM) := ⟨⟨_, _, _, aNq, iNq, bNq, ok_Net_q FNq NC T qP qM⟩, neN, obN⟩
  have GRw : Fn l.prog w K mg base "_rows_in" 1 ["text"] (sp_rows) := ⟨_, _, PySem.W.mg_of X G aRw, kRw, bRw, ok_rows_in (K := K) FRw ⟩
  have GPn : Fn l.prog w K mg base "_pipes_in" 5 ["text"] (sp_pin K CP) := ⟨_, _, PySem.W.mg_of X G aPn, kPn, bPn, ok_pipes_in FPn T T2 GRw.irr P0.irr⟩
  have GMn : Fn l.prog w K mg base "_meters_in" 5 ["text"] (sp_min K CM) := ⟨_, _, PySem.W.mg_of X G aMn, kMn, bMn, ok_meters_in FMn T T2 GRw.irr M2.irr⟩
  have ONr := ok_Net_r (P := l.prog) (w := w) (mg := mg) (base := base) FNr T N1.irr GPn.irr GMn.irr GNs.irr
  have GNr : ClsM l.prog w K mg base CN "read" 8 ["cls", "text"] (sp_nread K CN CP CM) := ⟨.type "type", pNr, fNr, _, RN, ⟨aNr, ⟨_, rNr_⟩, fiNr⟩, bNr, ONr⟩
  have GNk : ClsMK l.prog w K mg base CN "read" 8 ["text"] (sp_nread K CN CP CM) gR := ⟨.type "type", pNr, fNr, _, _, _, RN, ⟨aNr, ⟨_, rNr_⟩, fiNr⟩, kbNR FNr, ONr⟩
  have GPp : Mtd l.prog w K mg base CN "pipe" 4 ["self", "name"] (sp_gpipe K CN CP CM) := ⟨clN, _, _, ⟨aPp, iPp, kPp⟩, bPp, ok_gpipe FPp NC GIo.irr⟩
  have GKn : Fn l.prog w K mg base "check_net" 1 ["net"] (sp_chkn K CN CP CM) := ⟨_, _, PySem.W.mg_of X G aKn, kKn, bKn, ok_chkn FKn T NC⟩
  have GKp : Fn l.prog w K mg base "check_pipe" 5 ["net", "pipe"] (sp_chkp K CN CP CM) := ⟨_, _, PySem.W.mg_of X G aKp, kKp, bKp, ok_chkp FKp GPp.irr⟩
  have GMa : Fn l.prog w K mg base "meters_at" 3 ["net", "name"] (sp_mat K CN CP CM) := ⟨_, _, PySem.W.mg_of X G aMa, kMa, bMa, ok_mat FMa Gnm.irr Gma.irr⟩
  have GSa : Fn l.prog w K mg base "sealed_at" 4 ["net", "name"] (sp_sat K CN CP CM) := ⟨_, _, PySem.W.mg_of X G aSa, kSa, bSa, ok_sat FSa GMa.irr Gmn.irr Gmz.irr⟩
  have GAm : Fn l.prog w K mg base "_amounts" 3 ["net", "index", "amount"] (sp_amt K CN CP CM) := ⟨_, _, PySem.W.mg_of X G aAm, kAm, bAm, ok_amt FAm T T2 Gnp.irr⟩
  have GLk : Fn l.prog w K mg base "_links" 5 ["net", "pipe"] (sp_lnks K CN CP CM) := ⟨_, _, PySem.W.mg_of X G aLk, kLk, bLk, ok_lnks FLk T T2 Gnp.irr Gpn.irr Gps.irr Gpe.irr GSa.irr GMa.irr GAm.irr⟩
  have GLd : Fn l.prog w K mg base "_lead_on" 1 ["ways", "start", "end", "many", "amounts"] (sp_lead) := ⟨_, _, PySem.W.mg_of X G aLd, kLd, bLd, ok_lead FLd (PySem.W.mg_none_of X G b_zip) T2⟩
  have GSw : Fn l.prog w K mg base "shortest_ways" 6 ["net", "pipe"] (sp_ways K CN CP CM) := ⟨_, _, PySem.W.mg_of X G aSw, kSw, bSw, ok_ways FSw GPp.irr Gnp.irr Gpe.irr GAm.irr GLk.irr GLd.irr⟩
  have GWb : Fn l.prog w K mg base "_way_back" 7 ["net", "pipe"] (sp_back K CN CP CM) := ⟨_, _, PySem.W.mg_of X G aWb, kWb, bWb, ok_back FWb GPp.irr Gps.irr GSa.irr GSw.irr⟩
  have GSt : Fn l.prog w K mg base "strength" 8 ["net", "pipe"] (sp_stren K CN CP CM) := ⟨_, _, PySem.W.mg_of X G aSt, kSt, bSt, ok_stren FSt T GKn.irr GKp.irr GWb.irr GMa.irr⟩
  have GNu : Fn l.prog w K mg base "is_number" 1 ["value"] (sp_is_number K) := ⟨_, _, PySem.W.mg_of X G aNu, kNu, bNu, ok_is_number FNu T T2⟩
  have GIb : Fn l.prog w K mg base "is_bound" 2 ["value"] (sp_isb) := ⟨_, _, PySem.W.mg_of X G aIb, kIb, bIb, ok_isb FIb ⟨_, PySem.W.mg_of X G g_MOST_FAULTS, _, rfl⟩ GNu.irr⟩
  have GAf : Fn l.prog w K mg base "are_faults" 3 ["value"] (sp_arf K) := ⟨_, _, PySem.W.mg_of X G aAf, kAf, bAf, ok_arf FAf T T2 GIb.irr⟩
  have GCf : Fn l.prog w K mg base "check_faults" 4 ["faults"] (sp_chf K) := ⟨_, _, PySem.W.mg_of X G aCf, kCf, bCf, ok_chf FCf GAf.irr⟩
  have GCt : Fn l.prog w K mg base "can_tell" 9 ["net", "pipe", "faults"] (sp_tell K CN CP CM) := ⟨_, _, PySem.W.mg_of X G aCt, kCt, bCt, ok_tell FCt T2 GKn.irr GKp.irr GCf.irr GSt.irr⟩
  have Gpl : Prp l.prog w K mg base CN "places" 3 (sp_plc K CN CP CM) := ⟨clN, _, _, _, _, ⟨apl, gpl, tpl, _, rpl_⟩, bpl, ok_Net_pl Fpl T T2 NC Gps.irr Gpe.irr⟩
  have GKa : Fn l.prog w K mg base "_kept_at" 3 ["net", "flow", "place"] (sp_kat K CN CP CM) := ⟨_, _, PySem.W.mg_of X G aKa, kKa, bKa, ok_kat FKa (PySem.W.mg_none_of X G b_zip) T2 Gnp.irr Gps.irr Gpe.irr⟩
  have GFw : Fn l.prog w K mg base "is_flow" 5 ["net", "value"] (sp_isf K CN CP CM) := ⟨_, _, PySem.W.mg_of X G aFw, kFw, bFw, ok_isf FFw T T2 GKn.irr Gnp.irr Gpl.irr GNu.irr GKa.irr⟩
  have GRt : Fn l.prog w K mg base "ring_through" 8 ["net", "pipe"] (sp_ring K CN CP CM) := ⟨_, _, PySem.W.mg_of X G aRt, kRt, bRt, ok_ring FRt (PySem.W.mg_none_of X G b_zip) T2 GKn.irr GKp.irr GWb.irr Gnp.irr Gpn.irr⟩
  have GRo : Fn l.prog w K mg base "readings_of" 6 ["net", "flow"] (sp_rof K CN CP CM) := ⟨_, _, PySem.W.mg_of X G aRo, kRo, bRo, ok_rof FRo (PySem.W.mg_none_of X G b_zip) T2 GFw.irr Gnp.irr Gnm.irr Gpn.irr Gma.irr⟩
  have GSb : Fn l.prog w K mg base "_seen_in_both" 7 ["net", "ring", "faults"] (sp_seen K CN CP CM) := ⟨_, _, PySem.W.mg_of X G aSb, kSb, bSb, ok_seen FSb T2 GRo.irr⟩
  have GMi2 : Fn l.prog w K mg base "misleading" 10 ["net", "pipe", "faults"] (sp_misl K CN CP CM) := ⟨_, _, PySem.W.mg_of X G aMi2, kMi2, bMi2, ok_misl FMi2 T2 GCt.irr GRt.irr GSb.irr Gnp.irr⟩
  have GWe : Fn l.prog w K mg base "_law_well" 1 ["_law_script", "_law_k"] (sp_well K) := ⟨_, _, PySem.W.mg_of X G aWe, kWe, bWe, ok_well2 FWe T⟩
  have GDi : Fn l.prog w K mg base "_law_dip" 1 ["_law_well_here", "_law_many"] (sp_dip) := ⟨_, _, PySem.W.mg_of X G aDi, kDi, bDi, ok_dip2 FDi T⟩
  have GNa : Fn l.prog w K mg base "_law_names" 2 ["_law_well_here", "_law_many"] (sp_names) := ⟨_, _, PySem.W.mg_of X G aNa, kNa, bNa, ok_names FNa T GDi.irr⟩
  have GMo : Fn l.prog w K mg base "_law_model" 3 ["_law_well_here", "_law_most", "_law_more"] (sp_model) := ⟨_, _, PySem.W.mg_of X G aMo, kMo, bMo, ok_model FMo T GDi.irr GNa.irr⟩
  have GTx : Fn l.prog w K mg base "_law_text" 1 ["_law_model_here"] (sp_mtext) := ⟨_, _, PySem.W.mg_of X G aTx, kTx, bTx, ok_mtext FTx ⟩
  have EE : Err l.prog w K mg base "NotANet" CE "given" := ⟨PySem.W.mg_of X G nE, OE, tkE, noE, fiE, _, ["self", "given"], aiE, tiE, biE, ok_give_net FiE OE tkE⟩
  have EU : Err l.prog w K mg base "UnknownName" CU "given" := ⟨PySem.W.mg_of X G nU, OU, tkU, noU, fiU, _, ["self", "given"], aiU, tiU, biU, ok_give_name FiU OU tkU⟩
  have EF : Err l.prog w K mg base "InvalidFaults" CF "given" := ⟨PySem.W.mg_of X G nF, OF, tkF, noF, fiF, _, ["self", "given"], aiF, tiF, biF, ok_give_faults FiF OF tkF⟩
  have XKn : Fx l.prog w K mg base "check_net" 3 ["net"] (orS (sp_chkn K CN CP CM) (sp_chnX K CE)) := ⟨_, _, PySem.W.mg_of X G aKn, kKn, bKn, fok_or ((ok_chkn FKn T NC).mono (by decide)) (ok_chnX FKn T NC al EE)⟩
  have GIo2 : Fn l.prog w K mg base "_index_of" 3 ["parts", "name"] (sp_indexO K CP) := ⟨_, _, PySem.W.mg_of X G aIo, kIo, bIo, ok_indexO FIo T T2 Gpn.irr⟩
  have XPp : MtdX l.prog w K mg base CN "pipe" 4 ["self", "name"] (sp_gpipeX K CN CP CM CU) := ⟨clN, _, _, ⟨aPp, iPp, kPp⟩, bPp, ok_gpipeX FPp NC GIo2.irr EU⟩
  have XKp : Fx l.prog w K mg base "check_pipe" 5 ["net", "pipe"] (orS (sp_chkp K CN CP CM) (sp_gpipeX K CN CP CM CU)) := ⟨_, _, PySem.W.mg_of X G aKp, kKp, bKp, fok_or (ok_chkp FKp GPp.irr) (ok_chpX FKp XPp.irr)⟩
  have GIb2 : Fn l.prog w K mg base "is_bound" 2 ["value"] (sp_isbO K) := ⟨_, _, PySem.W.mg_of X G aIb, kIb, bIb, ok_isbO FIb ⟨_, PySem.W.mg_of X G g_MOST_FAULTS, _, rfl⟩ GNu.irr⟩
  have GAf2 : Fn l.prog w K mg base "are_faults" 3 ["value"] (sp_arfO K) := ⟨_, _, PySem.W.mg_of X G aAf, kAf, bAf, ok_arfO FAf T T2 GIb2.irr⟩
  have XCf : Fx l.prog w K mg base "check_faults" 4 ["faults"] (orS (sp_chf K) (sp_chfX K CF)) := ⟨_, _, PySem.W.mg_of X G aCf, kCf, bCf, fok_or (ok_chf FCf GAf.irr) (ok_chfX FCf GAf2.irr EF)⟩
  have XSt : Fx l.prog w K mg base "strength" 8 ["net", "pipe"] (orS (sp_stren K CN CP CM) (sp_twoX K CN CP CM CE CU)) := ⟨_, _, PySem.W.mg_of X G aSt, kSt, bSt, fok_or (ok_stren FSt T GKn.irr GKp.irr GWb.irr GMa.irr) (ok_strX FSt XKn.irr XKp.irr)⟩
  have XRt : Fx l.prog w K mg base "ring_through" 8 ["net", "pipe"] (orS (sp_ring K CN CP CM) (sp_twoX K CN CP CM CE CU)) := ⟨_, _, PySem.W.mg_of X G aRt, kRt, bRt, fok_or (ok_ring FRt (PySem.W.mg_none_of X G b_zip) T2 GKn.irr GKp.irr GWb.irr Gnp.irr Gpn.irr) (ok_rngX FRt XKn.irr XKp.irr)⟩
  have XCt : Fx l.prog w K mg base "can_tell" 9 ["net", "pipe", "faults"] (orS (sp_tell K CN CP CM) (sp_threeX K CN CP CM CE CU CF)) := ⟨_, _, PySem.W.mg_of X G aCt, kCt, bCt, fok_or (ok_tell FCt T2 GKn.irr GKp.irr GCf.irr GSt.irr) (ok_telX FCt XKn.irr XKp.irr XCf.irr)⟩
  have XMi2 : Fx l.prog w K mg base "misleading" 10 ["net", "pipe", "faults"] (orS (sp_misl K CN CP CM) (sp_threeX K CN CP CM CE CU CF)) := ⟨_, _, PySem.W.mg_of X G aMi2, kMi2, bMi2, fok_or (ok_misl FMi2 T2 GCt.irr GRt.irr GSb.irr Gnp.irr) (ok_mslX FMi2 XCt.irr)⟩
  have XCl : Fx l.prog w K mg base "_law_called" 11 ["_law_way", "_law_net", "_law_pipe", "_law_faults"] (sp_called K CN CP CM CE CU CF) := ⟨_, _, PySem.W.mg_of X G aCl, kCl, bCl, ok_called FCl XSt.irr XRt.irr XCt.irr XMi2.irr⟩
  have GTo : FnGd l.prog w K mg base "_law_told" 12 ["_law_way", "_law_net", "_law_pipe", "_law_faults"] (sp_told K CN CP CM) := ⟨_, _, PySem.W.mg_of X G aTo, kTo, bTo, ok_told FTo T fam XCl.irr⟩
  have GFf : FnGd l.prog w K mg base "_law_faults_fit" 3 ["_law_value"] (sp_fit K) := ⟨_, _, PySem.W.mg_of X G aFf, kFf, bFf, ok_fit FFf T T2⟩
  have GRi : FnGd l.prog w K mg base "_law_right" 13 ["_law_well_here"] (sp_right23) := ⟨_, _, PySem.W.mg_of X G aRi, kRi, bRi, ok_right FRi T T2 NC al GDi.irr GMo.irr GTx.irr GNr.irr GFf.irr GTo.irr⟩
  exact ok_law (fun_mk (st := s_law) lLa cLa kLa) T GWe GRi
end RV
open PySem PySem.W PyProof.Rows in
set_option maxRecDepth 100000 in
set_option maxHeartbeats 0 in
theorem PySem.Challenge.cw_ringvotes_k32_errors_of_strengths_in_ord_holds : PySem.Challenge.rw_ringvotes_k32_errors_of_strengths_in_ord.Holds := by
  w_on; o_law; k_head; (case hw => w_witness2)
  k_fill
  refine RV.walkGx "_law_script" 14 (l := PySem.Challenge.rw_ringvotes_k32_errors_of_strengths_in_ord) ⟨rfl, by decide, by decide⟩ rfl rfl (fun w h Y => PySem.W.kIn_of Y) ?F
  case F =>
    intro w mg fa h KX G hmg
    refine' RV.all_mk KX G hmg ?b_len ?b_int ?b_abs ?b_max ?b_min ?b_all ?b_any ?b_repr ?b_range ?b_divmod ?b_isinstance ?b_str ?b_sum ?b_sorted ?b_set ?b_tuple ?b_enumerate ?b_bool ?g__LETTERS ?g__DIGITS ?g__LONGEST_NAME ?g_MOST_PIPES ?g_MOST_METERS ?aIn ?lIn ?cIn ?kIn ?aCn ?lCn ?cCn ?kCn ?nP ?pgP ?hdP ?poP ?saP ?mkP ?kcP ?haP ?hmP ?tyP ?suP ?obP ?noP0 ?noP1 ?noP2 ?nM ?pgM ?hdM ?poM ?saM ?mkM ?kcM ?haM ?hmM ?tyM ?suM ?obM ?noM0 ?noM1 ?noM2 ?hn ?htk ?neP ?neM ?aPi ?iPi ?lPi ?cPi ?kPi ?aMi ?iMi ?lMi ?cMi ?kMi ?kd ?apn ?gpn ?tpn ?rpn_ ?lpn ?cpn ?kpn ?aps ?gps ?tps ?rps_ ?lps ?cps ?kps ?ape ?gpe ?tpe ?rpe_ ?lpe ?cpe ?kpe ?amn ?gmn ?tmn ?rmn_ ?lmn ?cmn ?kmn ?ama ?gma ?tma ?rma_ ?lma ?cma ?kma ?amz ?gmz ?tmz ?rmz_ ?lmz ?cmz ?kmz ?aPq ?iPq ?lPq ?cPq ?kPq ?fiPq ?aMq ?iMq ?lMq ?cMq ?kMq ?fiMq ?nN ?pgN ?hdN ?poN ?saN ?mkN ?kcN ?haN ?hmN ?tyN ?suN ?obN ?noN0 ?noN1 ?neN ?aIo ?lIo ?cIo ?kIo ?aCp ?lCp ?cCp ?kCp ?aCm ?lCm ?cCm ?kCm ?aPl ?lPl ?cPl ?kPl ?aMl ?lMl ?cMl ?kMl ?aLs ?lLs ?cLs ?kLs ?aNi ?iNi ?lNi ?cNi ?kNi ?lT ?anp ?gnp ?tnp ?rnp_ ?lnp ?cnp ?knp ?anm ?gnm ?tnm ?rnm_ ?lnm ?cnm ?knm ?aNl ?iNl ?lNl ?cNl ?kNl ?fiNl ?aNs ?iNs ?lNs ?cNs ?kNs ?fiNs ?aNq ?iNq ?lNq ?cNq ?kNq ?fiNq ?aRw ?lRw ?cRw ?kRw ?aPn ?lPn ?cPn ?kPn ?aMn ?lMn ?cMn ?kMn ?rdN ?gaN ?aNr ?rNr_ ?fiNr ?lNr ?cNr ?kNr ?b_zip ?aPp ?iPp ?lPp ?cPp ?kPp ?aKn ?lKn ?cKn ?kKn ?aKp ?lKp ?cKp ?kKp ?aMa ?lMa ?cMa ?kMa ?aSa ?lSa ?cSa ?kSa ?aAm ?lAm ?cAm ?kAm ?aLk ?lLk ?cLk ?kLk ?aLd ?lLd ?cLd ?kLd ?aSw ?lSw ?cSw ?kSw ?aWb ?lWb ?cWb ?kWb ?aSt ?lSt ?cSt ?kSt ?g_MOST_FAULTS ?aNu ?lNu ?cNu ?kNu ?aIb ?lIb ?cIb ?kIb ?aAf ?lAf ?cAf ?kAf ?aCf ?lCf ?cCf ?kCf ?aCt ?lCt ?cCt ?kCt ?apl ?gpl ?tpl ?rpl_ ?lpl ?cpl ?kpl ?aKa ?lKa ?cKa ?kKa ?aFw ?lFw ?cFw ?kFw ?aRt ?lRt ?cRt ?kRt ?aRo ?lRo ?cRo ?kRo ?aSb ?lSb ?cSb ?kSb ?aMi2 ?lMi2 ?cMi2 ?kMi2 ?aWe ?lWe ?cWe ?kWe ?aDi ?lDi ?cDi ?kDi ?aNa ?lNa ?cNa ?kNa ?aMo ?lMo ?cMo ?kMo ?aTx ?lTx ?cTx ?kTx ?nE ?hdE ?tyE ?suE ?inE ?ovE ?saE ?ebE ?kpE ?gaE ?ggE ?haE ?hmE ?tkE ?noE ?aiE ?iiE ?liE ?ciE ?kiE ?tiE ?nU ?hdU ?tyU ?suU ?inU ?ovU ?saU ?ebU ?kpU ?gaU ?ggU ?haU ?hmU ?tkU ?noU ?aiU ?iiU ?liU ?ciU ?kiU ?tiU ?nF ?hdF ?tyF ?suF ?inF ?ovF ?saF ?ebF ?kpF ?gaF ?ggF ?haF ?hmF ?tkF ?noF ?aiF ?iiF ?liF ?ciF ?kiF ?tiF ?nV ?hdV ?tyV ?suV ?nB ?hdB ?tyB ?suB ?nA ?hdA ?tyA ?suA ?al_NoneType ?al_bool ?al_int ?al_str ?al_list ?al_tuple ?al_dict ?b_ValueError ?b_LookupError ?s_F_E ?s_U_E ?s_U_F ?s_E_V ?t_E_ValueError ?s_E_F ?s_E_B ?s_E_A ?s_F_V ?t_F_ValueError ?t_F_LookupError ?s_F_B ?s_F_A ?s_U_B ?t_U_LookupError ?t_U_ValueError ?s_U_A ?aCl ?lCl ?cCl ?kCl ?aTo ?lTo ?cTo ?kTo ?aFf ?lFf ?cFf ?kFf ?aRi ?lRi ?cRi ?kRi ?aLa ?lLa ?cLa ?kLa
    (case b_len => k_is)
    (case b_int => k_is)
    (case b_abs => k_is)
    (case b_max => k_is)
    (case b_min => k_is)
    (case b_all => k_is)
    (case b_any => k_is)
    (case b_repr => k_is)
    (case b_range => k_is)
    (case b_divmod => k_is)
    (case b_isinstance => k_is)
    (case b_str => k_is)
    (case b_sum => k_is)
    (case b_sorted => k_is)
    (case b_set => k_is)
    (case b_tuple => k_is)
    (case b_enumerate => k_is)
    (case b_bool => k_is)
    (case g__LETTERS => k_is)
    (case g__DIGITS => k_is)
    (case g__LONGEST_NAME => k_is)
    (case g_MOST_PIPES => k_is)
    (case g_MOST_METERS => k_is)
    (case aIn => k_is)
    (case lIn => k_is)
    (case cIn => k_is)
    (case kIn => k_is)
    (case aCn => k_is)
    (case lCn => k_is)
    (case cCn => k_is)
    (case kCn => k_is)
    (case nP => k_is)
    (case pgP => k_is)
    (case hdP => k_is)
    (case poP => k_is)
    (case saP => k_is)
    (case mkP => k_is)
    (case kcP => k_is)
    (case haP => k_is)
    (case hmP => k_is)
    (case tyP => k_is)
    (case suP => k_is)
    (case obP => k_is)
    (case noP0 => k_is)
    (case noP1 => k_is)
    (case noP2 => k_is)
    (case nM => k_is)
    (case pgM => k_is)
    (case hdM => k_is)
    (case poM => k_is)
    (case saM => k_is)
    (case mkM => k_is)
    (case kcM => k_is)
    (case haM => k_is)
    (case hmM => k_is)
    (case tyM => k_is)
    (case suM => k_is)
    (case obM => k_is)
    (case noM0 => k_is)
    (case noM1 => k_is)
    (case noM2 => k_is)
    (case hn => k_is)
    (case htk => k_is)
    (case neP => k_is)
    (case neM => k_is)
    (case aPi => k_is)
    (case iPi => k_is)
    (case lPi => k_is)
    (case cPi => k_is)
    (case kPi => k_is)
    (case aMi => k_is)
    (case iMi => k_is)
    (case lMi => k_is)
    (case cMi => k_is)
    (case kMi => k_is)
    (case kd => k_is)
    (case apn => k_is)
    (case gpn => k_is)
    (case tpn => k_is)
    (case rpn_ => k_is)
    (case lpn => k_is)
    (case cpn => k_is)
    (case kpn => k_is)
    (case aps => k_is)
    (case gps => k_is)
    (case tps => k_is)
    (case rps_ => k_is)
    (case lps => k_is)
    (case cps => k_is)
    (case kps => k_is)
    (case ape => k_is)
    (case gpe => k_is)
    (case tpe => k_is)
    (case rpe_ => k_is)
    (case lpe => k_is)
    (case cpe => k_is)
    (case kpe => k_is)
    (case amn => k_is)
    (case gmn => k_is)
    (case tmn => k_is)
    (case rmn_ => k_is)
    (case lmn => k_is)
    (case cmn => k_is)
    (case kmn => k_is)
    (case ama => k_is)
    (case gma => k_is)
    (case tma => k_is)
    (case rma_ => k_is)
    (case lma => k_is)
    (case cma => k_is)
    (case kma => k_is)
    (case amz => k_is)
    (case gmz => k_is)
    (case tmz => k_is)
    (case rmz_ => k_is)
    (case lmz => k_is)
    (case cmz => k_is)
    (case kmz => k_is)
    (case aPq => k_is)
    (case iPq => k_is)
    (case lPq => k_is)
    (case cPq => k_is)
    (case kPq => k_is)
    (case fiPq => k_is)
    (case aMq => k_is)
    (case iMq => k_is)
    (case lMq => k_is)
    (case cMq => k_is)
    (case kMq => k_is)
    (case fiMq => k_is)
    (case nN => k_is)
    (case pgN => k_is)
    (case hdN => k_is)
    (case poN => k_is)
    (case saN => k_is)
    (case mkN => k_is)
    (case kcN => k_is)
    (case haN => k_is)
    (case hmN => k_is)
    (case tyN => k_is)
    (case suN => k_is)
    (case obN => k_is)
    (case noN0 => k_is)
    (case noN1 => k_is)
    (case neN => k_is)
    (case aIo => k_is)
    (case lIo => k_is)
    (case cIo => k_is)
    (case kIo => k_is)
    (case aCp => k_is)
    (case lCp => k_is)
    (case cCp => k_is)
    (case kCp => k_is)
    (case aCm => k_is)
    (case lCm => k_is)
    (case cCm => k_is)
    (case kCm => k_is)
    (case aPl => k_is)
    (case lPl => k_is)
    (case cPl => k_is)
    (case kPl => k_is)
    (case aMl => k_is)
    (case lMl => k_is)
    (case cMl => k_is)
    (case kMl => k_is)
    (case aLs => k_is)
    (case lLs => k_is)
    (case cLs => k_is)
    (case kLs => k_is)
    (case aNi => k_is)
    (case iNi => k_is)
    (case lNi => k_is)
    (case cNi => k_is)
    (case kNi => k_is)
    (case lT => k_is)
    (case anp => k_is)
    (case gnp => k_is)
    (case tnp => k_is)
    (case rnp_ => k_is)
    (case lnp => k_is)
    (case cnp => k_is)
    (case knp => k_is)
    (case anm => k_is)
    (case gnm => k_is)
    (case tnm => k_is)
    (case rnm_ => k_is)
    (case lnm => k_is)
    (case cnm => k_is)
    (case knm => k_is)
    (case aNl => k_is)
    (case iNl => k_is)
    (case lNl => k_is)
    (case cNl => k_is)
    (case kNl => k_is)
    (case fiNl => k_is)
    (case aNs => k_is)
    (case iNs => k_is)
    (case lNs => k_is)
    (case cNs => k_is)
    (case kNs => k_is)
    (case fiNs => k_is)
    (case aNq => k_is)
    (case iNq => k_is)
    (case lNq => k_is)
    (case cNq => k_is)
    (case kNq => k_is)
    (case fiNq => k_is)
    (case aRw => k_is)
    (case lRw => k_is)
    (case cRw => k_is)
    (case kRw => k_is)
    (case aPn => k_is)
    (case lPn => k_is)
    (case cPn => k_is)
    (case kPn => k_is)
    (case aMn => k_is)
    (case lMn => k_is)
    (case cMn => k_is)
    (case kMn => k_is)
    (case rdN => k_is)
    (case gaN => k_is)
    (case aNr => k_is)
    (case rNr_ => k_is)
    (case fiNr => k_is)
    (case lNr => k_is)
    (case cNr => k_is)
    (case kNr => k_is)
    (case b_zip => k_is)
    (case aPp => k_is)
    (case iPp => k_is)
    (case lPp => k_is)
    (case cPp => k_is)
    (case kPp => k_is)
    (case aKn => k_is)
    (case lKn => k_is)
    (case cKn => k_is)
    (case kKn => k_is)
    (case aKp => k_is)
    (case lKp => k_is)
    (case cKp => k_is)
    (case kKp => k_is)
    (case aMa => k_is)
    (case lMa => k_is)
    (case cMa => k_is)
    (case kMa => k_is)
    (case aSa => k_is)
    (case lSa => k_is)
    (case cSa => k_is)
    (case kSa => k_is)
    (case aAm => k_is)
    (case lAm => k_is)
    (case cAm => k_is)
    (case kAm => k_is)
    (case aLk => k_is)
    (case lLk => k_is)
    (case cLk => k_is)
    (case kLk => k_is)
    (case aLd => k_is)
    (case lLd => k_is)
    (case cLd => k_is)
    (case kLd => k_is)
    (case aSw => k_is)
    (case lSw => k_is)
    (case cSw => k_is)
    (case kSw => k_is)
    (case aWb => k_is)
    (case lWb => k_is)
    (case cWb => k_is)
    (case kWb => k_is)
    (case aSt => k_is)
    (case lSt => k_is)
    (case cSt => k_is)
    (case kSt => k_is)
    (case g_MOST_FAULTS => k_is)
    (case aNu => k_is)
    (case lNu => k_is)
    (case cNu => k_is)
    (case kNu => k_is)
    (case aIb => k_is)
    (case lIb => k_is)
    (case cIb => k_is)
    (case kIb => k_is)
    (case aAf => k_is)
    (case lAf => k_is)
    (case cAf => k_is)
    (case kAf => k_is)
    (case aCf => k_is)
    (case lCf => k_is)
    (case cCf => k_is)
    (case kCf => k_is)
    (case aCt => k_is)
    (case lCt => k_is)
    (case cCt => k_is)
    (case kCt => k_is)
    (case apl => k_is)
    (case gpl => k_is)
    (case tpl => k_is)
    (case rpl_ => k_is)
    (case lpl => k_is)
    (case cpl => k_is)
    (case kpl => k_is)
    (case aKa => k_is)
    (case lKa => k_is)
    (case cKa => k_is)
    (case kKa => k_is)
    (case aFw => k_is)
    (case lFw => k_is)
    (case cFw => k_is)
    (case kFw => k_is)
    (case aRt => k_is)
    (case lRt => k_is)
    (case cRt => k_is)
    (case kRt => k_is)
    (case aRo => k_is)
    (case lRo => k_is)
    (case cRo => k_is)
    (case kRo => k_is)
    (case aSb => k_is)
    (case lSb => k_is)
    (case cSb => k_is)
    (case kSb => k_is)
    (case aMi2 => k_is)
    (case lMi2 => k_is)
    (case cMi2 => k_is)
    (case kMi2 => k_is)
    (case aWe => k_is)
    (case lWe => k_is)
    (case cWe => k_is)
    (case kWe => k_is)
    (case aDi => k_is)
    (case lDi => k_is)
    (case cDi => k_is)
    (case kDi => k_is)
    (case aNa => k_is)
    (case lNa => k_is)
    (case cNa => k_is)
    (case kNa => k_is)
    (case aMo => k_is)
    (case lMo => k_is)
    (case cMo => k_is)
    (case kMo => k_is)
    (case aTx => k_is)
    (case lTx => k_is)
    (case cTx => k_is)
    (case kTx => k_is)
    (case nE => k_is)
    (case hdE => k_is)
    (case tyE => k_is)
    (case suE => k_is)
    (case inE => kx_is)
    (case ovE => kx_is)
    (case saE => k_is)
    (case ebE => k_is)
    (case kpE => k_is)
    (case gaE => k_is)
    (case ggE => k_is)
    (case haE => k_is)
    (case hmE => k_is)
    (case tkE => k_is)
    (case noE => k_is)
    (case aiE => k_is)
    (case iiE => k_is)
    (case liE => k_is)
    (case ciE => k_is)
    (case kiE => k_is)
    (case tiE => k_is)
    (case nU => k_is)
    (case hdU => k_is)
    (case tyU => k_is)
    (case suU => k_is)
    (case inU => kx_is)
    (case ovU => kx_is)
    (case saU => k_is)
    (case ebU => k_is)
    (case kpU => k_is)
    (case gaU => k_is)
    (case ggU => k_is)
    (case haU => k_is)
    (case hmU => k_is)
    (case tkU => k_is)
    (case noU => k_is)
    (case aiU => k_is)
    (case iiU => k_is)
    (case liU => k_is)
    (case ciU => k_is)
    (case kiU => k_is)
    (case tiU => k_is)
    (case nF => k_is)
    (case hdF => k_is)
    (case tyF => k_is)
    (case suF => k_is)
    (case inF => kx_is)
    (case ovF => kx_is)
    (case saF => k_is)
    (case ebF => k_is)
    (case kpF => k_is)
    (case gaF => k_is)
    (case ggF => k_is)
    (case haF => k_is)
    (case hmF => k_is)
    (case tkF => k_is)
    (case noF => k_is)
    (case aiF => k_is)
    (case iiF => k_is)
    (case liF => k_is)
    (case ciF => k_is)
    (case kiF => k_is)
    (case tiF => k_is)
    (case nV => k_is)
    (case hdV => k_is)
    (case tyV => k_is)
    (case suV => k_is)
    (case nB => k_is)
    (case hdB => k_is)
    (case tyB => k_is)
    (case suB => k_is)
    (case nA => k_is)
    (case hdA => k_is)
    (case tyA => k_is)
    (case suA => k_is)
    (case al_NoneType => k_is)
    (case al_bool => k_is)
    (case al_int => k_is)
    (case al_str => k_is)
    (case al_list => k_is)
    (case al_tuple => k_is)
    (case al_dict => k_is)
    (case b_ValueError => k_is)
    (case b_LookupError => k_is)
    (case s_F_E => k_is)
    (case s_U_E => k_is)
    (case s_U_F => k_is)
    (case s_E_V => k_is)
    (case t_E_ValueError => k_is)
    (case s_E_F => k_is)
    (case s_E_B => k_is)
    (case s_E_A => k_is)
    (case s_F_V => k_is)
    (case t_F_ValueError => k_is)
    (case t_F_LookupError => k_is)
    (case s_F_B => k_is)
    (case s_F_A => k_is)
    (case s_U_B => k_is)
    (case t_U_LookupError => k_is)
    (case t_U_ValueError => k_is)
    (case s_U_A => k_is)
    (case aCl => k_is)
    (case lCl => k_is)
    (case cCl => k_is)
    (case kCl => k_is)
    (case aTo => k_is)
    (case lTo => k_is)
    (case cTo => k_is)
    (case kTo => k_is)
    (case aFf => k_is)
    (case lFf => k_is)
    (case cFf => k_is)
    (case kFf => k_is)
    (case aRi => k_is)
    (case lRi => k_is)
    (case cRi => k_is)
    (case kRi => k_is)
    (case aLa => k_is)
    (case lLa => k_is)
    (case cLa => k_is)
    (case kLa => k_is)
