import PyProof.Rows.All
import Wide.All
import OpenK.AllK
import Wide.FinOn
import HandS.ForMost
import HandS.WideBits
import HandS.Wide
import HandS.IsInst
import HandS.Property
import HandS.MakeKwOnly
import HandS.Defaults
import HandS.OwnEq
import HandS.Steps
import HandS.TupLe
import HandS.Style
import PySem.Challenge.RW_ringvotes_k09_pipes_and_meters
set_option Elab.async false
set_option maxRecDepth 100000
set_option maxHeartbeats 8000000
/-! What every law of this program shares: the well from which it draws, what is known of the heap, the end. -/
namespace RV
open PySem L2

/-! ### what is known of the heap -/
/-- a list of three ints from which numbers are drawn, at a; at most n draws so far -/
def WellAt (H : Hp) (a : Addr) (n : Nat) : Prop :=
  ∃ x y z : Int, H a = some (.lst [.int x, .int y, .int z]) ∧ (0 ≤ x ∧ x < 2147483629) ∧ 0 ≤ y ∧ (0 ≤ z ∧ z ≤ n)
/-- all but the well stands as it stood -/
def Grow (a : Addr) (H H' : Hp) : Prop := ∀ b o, b ≠ a → H b = some o → H' b = some o
theorem Grow.refl (a : Addr) (H : Hp) : Grow a H H := fun _ _ _ h => h
theorem Grow.trans {a : Addr} {H H1 H2 : Hp} (g : Grow a H H1) (k : Grow a H1 H2) : Grow a H H2 := fun b o n h => k b o n (g b o n h)
theorem Grow.new {a p : Addr} {H : Hp} {o : HO} (np : H p = none) : Grow a H (upd H p o) := fun b u _ h => by
  rw [upd_ne (ne_of_none h np)]
  exact h
/-- from the heap H0 on all but the well at a is kept; the well; things that stand elsewhere -/
structure Has (H0 : Hp) (a : Addr) (n : Nat) (L : List (Addr × HO)) (H : Hp) : Prop where
  gr : Grow a H0 H
  well : WellAt H a n
  here : ∀ p ∈ L, p.1 ≠ a ∧ H p.1 = some p.2
section
variable {a p : Addr} {n m : Nat} {L : List (Addr × HO)} {H0 H H' : Hp} {o : HO}
theorem Has.start (w : WellAt H a n) : Has H a n [] H := ⟨Grow.refl a H, w, fun _ hp => nomatch hp⟩
theorem Has.grow (h : Has H0 a n L H) (g : Grow a H H') (w : WellAt H' a m) : Has H0 a m L H' := ⟨h.gr.trans g, w, fun p hp => ⟨(h.here p hp).1, g _ _ (h.here p hp).1 (h.here p hp).2⟩⟩
theorem Has.new (h : Has H0 a n L H) (np : H p = none) : Has H0 a n ((p, o) :: L) (upd H p o) := by
  obtain ⟨g, ⟨x, y, z, e, r⟩, k⟩ := h
  refine ⟨g.trans (Grow.new np), ⟨x, y, z, by rw [upd_ne (ne_of_none e np)]; exact e, r⟩, fun q hq => ?_⟩
  rcases List.mem_cons.mp hq with rfl | hq
  · refine ⟨?_, upd_same⟩
    intro w
    have w' : p = a := w
    rw [w', e] at np
    cases np
  · exact ⟨(k q hq).1, by rw [upd_ne (ne_of_none (k q hq).2 np)]; exact (k q hq).2⟩
theorem Has.at (h : Has H0 a n L H) (hp : (p, o) ∈ L) : H p = some o := (h.here _ hp).2
theorem Has.sub {L' : List (Addr × HO)} (h : Has H0 a n L H) (s : ∀ p ∈ L', p ∈ L) : Has H0 a n L' H := ⟨h.gr, h.well, fun p hp => h.here p (s p hp)⟩
end

/-! ### the end -/
theorem mg_of' {K : PySem.W.Frag} {h : Heap} {mg : Str → Option Value} {x : Str} {v : Value} (X : K.In h) (G : h.Ns mainGlobals mg) (e : PySem.W.nsIn K mainGlobals x = some (some v)) : mg x = some v := PySem.W.mg_of X G e
def spLaw (K : PySem.W.Frag) : Sp := fun vs H Q _ => ∃ (a : Addr) (ns : List Int), vs = [.ref a] ∧ SqL K H a (ns.map V.int) ∧ ns.length ≤ 63 ∧ ∀ H', Q (.bl true) H'
theorem walk (k : Nat) {l : PySem.W.OpenLaw} {q : Program} {loose : List Str} {XP : (Str → Option Value) → Heap → Prop} {YP : World → Heap → Prop} {d : DefRec} {K : Params → PySem.W.Frag} (hr : Room k callerA) (hn : l.most = some 63) (hdf : d.params.defaults = [])
    (hY : ∀ (w : World) (h : Heap), YP w h → (K w.params).In h)
    (F : ∀ (w : World) (mg : Str → Option Value) (fa : Addr) (h : Heap), (K w.params).In h → h.Ns mainGlobals mg → mg d.name = some (.ref fa) →
      ∃ fd : FuncData, (∀ (s : Shared) (u : Value), BindsTo s fd ⟨[u], []⟩ [("_law_cells", u)]) ∧ ∀ base : Heap, (K w.params).In base → base.Ns mainGlobals mg → FnOk l.prog w (K w.params) mg base CX0 k fa fd ["_law_cells"] (spLaw (K w.params))) :
    PySem.W.WalkO q loose XP YP l.row.toRowW d [] (fun f vs => PySem.call f vs) :=
  L2.walk_of (n := 63) (k := k) (x := "_law_cells") (CX := fun _ => CX0) (sp := fun w => spLaw (K w.params)) hn (by decide) hdf hr hY F (fun _ _ a ns hl _ hS => ⟨a, ns, rfl, hS, hl, fun _ => rfl⟩) fun _ _ _ _ _ z => z
end RV
namespace RV
open PySem L2
section
variable {σ : L2.St} {H : Hp} {t : TT} {ta tb : TE} {Q : VK} {b : Bool}
/-- an int on either way: what follows is shown once -/
theorem tif_int (ht : Ans t σ H b) (ha : b = true → ∃ z : Int, Val ta σ H (.int z)) (hb : b = false → ∃ z : Int, Val tb σ H (.int z)) (k : ∀ z : Int, Q (.int z) H) : tIf t ta tb σ H Q := by
  refine ht _ ?_
  cases b with
  | true => exact iteT (let ⟨z, h⟩ := ha rfl; h _ (k z))
  | false => exact iteF (let ⟨z, h⟩ := hb rfl; h _ (k z))
end
/-- a function of the module, as its callers see it -/
def Fn (P : Program) (w : World) (K : PySem.W.Frag) (mg : Str → Option Value) (base : Heap) (x : Str) (k : Nat) (ps : List Str) (sp : Sp) : Prop :=
  ∃ f fd, mg x = some (.ref f) ∧ PySem.W.keepIn K (.ref f) = true ∧ Binds K fd ps [] ∧ FnOk P w K mg base CX0 k f fd ps sp
section
variable {X : Cx} {x : Str} {k : Nat} {ps : List Str} {sp : Sp} {e : Expr} {es : List Expr} {t : TA} {p pos : Pos}
theorem pe_fn (h : Fn X.prog X.w X.K X.mg X.base x k ps sp) (hr : Room k X.A) (ha : PA X (e :: es) t) (hg : Gl X x := by rfl) (hdb : (x == ("__debug__" : Str)) = false := by decide)
    (he : starEach (e :: es) X.env = (false, eval e X.env) :: starEach es X.env := by rfl) (hpl : (backTo pos (starEach es X.env)).any (·.1) = false := by rfl) :
    PE X (.Call (.Name x p) (e :: es) [] pos) (tCall sp [] E0 t) := by
  obtain ⟨f, fd, hm, hk, hb, F⟩ := h
  exact pe_call F hr hg hm hk hb .nil pass0 ha hdb he hpl
/-- a text, an int of the module's top -/
theorem pe_gS {z : Str} (h : ∃ u, X.mg x = some u ∧ RelV (.str z) u) (hg : Gl X x := by rfl) (hd : (x == ("__debug__" : Str)) = false := by decide) : PE X (.Name x pos) (tC (.str z)) := by
  obtain ⟨u, hm, r⟩ := h
  exact pe_glob hg hm r hd
theorem pe_gI {z : Int} (h : ∃ u, X.mg x = some u ∧ RelV (.int z) u) (hg : Gl X x := by rfl) (hd : (x == ("__debug__" : Str)) = false := by decide) : PE X (.Name x pos) (tC (.int z)) := by
  obtain ⟨u, hm, r⟩ := h
  exact pe_glob hg hm r hd
theorem pe_gC {C : Addr} (hm : X.mg x = some (.ref C)) (hg : Gl X x := by rfl) (hd : (x == ("__debug__" : Str)) = false := by decide) : PE X (.Name x pos) (tC (.ref C)) := pe_glob hg hm rfl hd
end
end RV
namespace RV
open PySem L2
/-! the same rules where the written part is a letter (within a comprehension's block) -/
section
variable {X : Cx} {K : PySem.W.Frag}
theorem op_inK (h : X.K = K := by rfl) : OpR X (compareOp .In) (rIn K false) := h ▸ op_in_seq
theorem op_notInK (h : X.K = K := by rfl) : OpR X (compareOp .NotIn) (rIn K true) := h ▸ op_notIn_seq
theorem ix_listK (h : X.K = K := by rfl) : IxR X (rIxL K) := h ▸ ix_list
theorem ix_tupK (h : X.K = K := by rfl) : IxR X (rIxT K) := h ▸ ix_tup
theorem op_eqDK (hu : X.A.units + 64 < cLine) (h : X.K = K := by rfl) : OpR X (compareOp .Eq) (rEqD K) := h ▸ op_eqD hu
theorem op_neDK (hu : X.A.units + 64 < cLine) (h : X.K = K := by rfl) : OpR X (compareOp .NotEq) (rNeD K) := h ▸ op_neD hu
theorem call_isiK (h : X.K = K := by rfl) : CallR X (.builtin "isinstance") (rIsi K) := h ▸ call_isi
def rLenQ (K : PySem.W.Frag) : List V → Hp → VK → Prop := fun xs H Q => ∃ p ys, xs = [.ref p] ∧ (SqL K H p ys ∨ SqT K H p ys) ∧ Q (.int ys.length) H
theorem call_lenK (h : X.K = K := by rfl) : CallR X (.builtin "len") (rLenQ K) := h ▸ call_len_seq
end
end RV
/-! Names: what they are, by their signs. -/
namespace RV
open PySem L2
def lowC (c : Nat) : Bool := decide (97 ≤ c) && decide (c ≤ 122)
def digC (c : Nat) : Bool := decide (48 ≤ c) && decide (c ≤ 57)
def tailC (c : Nat) : Bool := lowC c || digC c
/-- one to eight signs, letters and digits, a letter first -/
def isNm : List Nat → Bool
  | [] => false
  | c :: r => lowC c && r.all tailC && decide (r.length ≤ 7)
def IsNm (x : Str) : Prop := isNm x.cps.toList = true
abbrev cd (x : Str) : List Nat := x.cps.toList
theorem cd_inj {x y : Str} (h : cd x = cd y) : x = y := PyProof.Rows.ext_toList h
theorem cd_app (x y : Str) : cd (x ++ y) = cd x ++ cd y := by
  show (x ++ y).cps.toList = _
  exact Array.toList_append
theorem cd_len (x : Str) : x.length = (cd x).length := by
  show x.cps.size = x.cps.toList.length
  rw [Array.length_toList]
theorem cd_one (c : Nat) : cd ⟨#[c]⟩ = [c] := rfl
theorem isNm_iff {l : List Nat} : isNm l = true ↔ ∃ c r, l = c :: r ∧ lowC c = true ∧ r.all tailC = true ∧ r.length ≤ 7 := by
  cases l with
  | nil => simp [isNm]
  | cons c r =>
    constructor
    · intro h
      simp only [isNm, Bool.and_eq_true, decide_eq_true_eq] at h
      exact ⟨c, r, rfl, h.1.1, h.1.2, h.2⟩
    · rintro ⟨c', r', e, h1, h2, h3⟩
      cases e
      simp [isNm, h1, h2, h3]
theorem isNm_len {l : List Nat} (h : isNm l = true) : 1 ≤ l.length ∧ l.length ≤ 8 := by
  obtain ⟨c, r, rfl, _, _, h3⟩ := isNm_iff.mp h
  simp
  omega
theorem isNm_snoc {l : List Nat} {c : Nat} (h : isNm l = true) (hl : l.length ≤ 7) (hc : tailC c = true) : isNm (l ++ [c]) = true := by
  obtain ⟨d, r, rfl, h1, h2, _⟩ := isNm_iff.mp h
  refine isNm_iff.mpr ⟨d, r ++ [c], rfl, h1, ?_, ?_⟩
  · rw [List.all_append, h2]
    simp [hc]
  · simp at hl ⊢
    omega
theorem tail_of_low {c : Nat} (h : lowC c = true) : tailC c = true := by simp [tailC, h]
theorem isNm_all {l : List Nat} (h : isNm l = true) : l.all tailC = true := by
  obtain ⟨d, r, rfl, h1, h2, _⟩ := isNm_iff.mp h
  simp only [List.all_cons, tail_of_low h1, h2, Bool.and_self]
theorem all_take {l : List Nat} {k : Nat} (h : l.all tailC = true) : (l.take k).all tailC = true := by
  rw [List.all_eq_true] at h ⊢
  exact fun x hx => h x (List.mem_of_mem_take hx)
/-- the first signs of a name with more signs behind it -/
theorem isNm_cut {l m : List Nat} {k : Nat} (h : isNm l = true) (hm : m.all tailC = true) (h1 : 1 ≤ k) (h8 : k ≤ 8) : isNm ((l ++ m).take k) = true := by
  obtain ⟨d, r, rfl, a1, a2, _⟩ := isNm_iff.mp h
  obtain ⟨j, rfl⟩ : ∃ j, k = j + 1 := ⟨k - 1, by omega⟩
  refine isNm_iff.mpr ⟨d, (r ++ m).take j, by simp, a1, all_take ?_, ?_⟩
  · rw [List.all_append, a2, hm]
    rfl
  · rw [List.length_take]
    omega
theorem isNm_take {l : List Nat} {k : Nat} (h : isNm l = true) (h1 : 1 ≤ k) (h8 : k ≤ 8) : isNm (l.take k) = true := by
  have := isNm_cut (m := []) h rfl h1 h8
  rwa [List.append_nil] at this
def signs : Str := "abcdefghijklmnopqrstuvwxyz0123456789"
theorem cd_signs : cd signs = [97, 98, 99, 100, 101, 102, 103, 104, 105, 106, 107, 108, 109, 110, 111, 112, 113, 114, 115, 116, 117, 118, 119, 120, 121, 122, 48, 49, 50, 51, 52, 53, 54, 55, 56, 57] := by decide +kernel
theorem sign_low : ∀ i : Fin 26, ∃ c, (cd signs)[i.val]? = some c ∧ lowC c = true := by
  rw [cd_signs]
  intro i
  have h : ∀ i : Fin 26, (match ([97, 98, 99, 100, 101, 102, 103, 104, 105, 106, 107, 108, 109, 110, 111, 112, 113, 114, 115, 116, 117, 118, 119, 120, 121, 122, 48, 49, 50, 51, 52, 53, 54, 55, 56, 57] : List Nat)[i.val]? with | some c => lowC c | none => false) = true := by decide
  have hi := h i
  split at hi
  · rename_i c e
    exact ⟨c, e, hi⟩
  · cases hi
theorem sign_tail : ∀ i : Fin 36, ∃ c, (cd signs)[i.val]? = some c ∧ tailC c = true := by
  rw [cd_signs]
  intro i
  have h : ∀ i : Fin 36, (match ([97, 98, 99, 100, 101, 102, 103, 104, 105, 106, 107, 108, 109, 110, 111, 112, 113, 114, 115, 116, 117, 118, 119, 120, 121, 122, 48, 49, 50, 51, 52, 53, 54, 55, 56, 57] : List Nat)[i.val]? with | some c => tailC c | none => false) = true := by decide
  have hi := h i
  split at hi
  · rename_i c e
    exact ⟨c, e, hi⟩
  · cases hi
theorem at_low {r : Int} (h0 : 0 ≤ r) (h : r < 26) : ∃ c, atI (cd signs) r = some c ∧ lowC c = true := by
  obtain ⟨n, rfl⟩ := Int.eq_ofNat_of_zero_le h0
  obtain ⟨c, e, hc⟩ := sign_low ⟨n, by omega⟩
  exact ⟨c, atI_nat e, hc⟩
theorem at_tail {r : Int} (h0 : 0 ≤ r) (h : r < 36) : ∃ c, atI (cd signs) r = some c ∧ tailC c = true := by
  obtain ⟨n, rfl⟩ := Int.eq_ofNat_of_zero_le h0
  obtain ⟨c, e, hc⟩ := sign_tail ⟨n, by omega⟩
  exact ⟨c, atI_nat e, hc⟩
theorem at_of_list {α : Type} {l : List α} {P : α → Prop} (h : ∀ x ∈ l, P x) {r : Int} (h0 : 0 ≤ r) (h1 : r < l.length) : ∃ c, atI l r = some c ∧ P c ∧ c ∈ l := by
  obtain ⟨n, rfl⟩ := Int.eq_ofNat_of_zero_le h0
  have hn : n < l.length := by omega
  exact ⟨l[n], atI_nat (List.getElem?_eq_getElem hn), h _ (List.getElem_mem hn), List.getElem_mem hn⟩
/-! slices of texts -/
theorem cd_cutS (z : Str) (lo hi : Option Int) : cd (cutS z lo hi) = ((cd z).drop (HT.sIx z.length 0 lo)).take (HT.sIx z.length z.length hi - HT.sIx z.length 0 lo) := by
  show (((z.cps.toList.drop _).take _).toArray).toList = _
  rfl
theorem sIx_some (n d : Nat) (k : Nat) : HT.sIx n d (some (k : Int)) = min k n := by
  unfold HT.sIx
  simp
  omega
theorem sIx_none (n d : Nat) : HT.sIx n d none = d := rfl
theorem cd_pre (z : Str) (k : Nat) : cd (cutS z none (some (k : Int))) = (cd z).take k := by
  rw [cd_cutS, sIx_none, sIx_some, List.drop_zero, Nat.sub_zero, cd_len]
  rw [← List.take_take, List.take_length]
theorem inV_str (x : Str) (xs : List Str) : inV (.str x) (xs.map V.str) = decide (x ∈ xs) := by
  induction xs with
  | nil => rfl
  | cons y ys ih =>
    show (eqV (.str y) (.str x) || inV (.str x) (ys.map V.str)) = _
    rw [ih]
    show ((y == x) || decide (x ∈ ys)) = _
    by_cases e : y = x
    · subst e
      simp
    · have e' : ¬ x = y := fun h => e h.symm
      simp [e, e']
theorem flat_str (xs : List Str) : (xs.map V.str).all flatV = true := by
  rw [List.all_eq_true]
  intro v hv
  obtain ⟨x, _, rfl⟩ := List.mem_map.mp hv
  rfl
/-- of more different things than a list has one is not in it -/
theorem one_free {α : Type} [DecidableEq α] : ∀ {ys xs : List α}, ys.Nodup → xs.length < ys.length → ∃ y ∈ ys, y ∉ xs
  | [], xs, _, h => by simp at h
  | y :: ys, xs, hn, h => by
    by_cases hy : y ∈ xs
    · obtain ⟨hy', hn'⟩ := List.nodup_cons.mp hn
      have hl : (xs.erase y).length < ys.length := by
        rw [List.length_erase_of_mem hy]
        have : 0 < xs.length := List.length_pos_of_mem hy
        simp at h
        omega
      obtain ⟨z, hz, hzx⟩ := one_free hn' hl
      refine ⟨z, List.mem_cons_of_mem _ hz, fun q => hzx ?_⟩
      have hne : z ≠ y := fun e => hy' (e ▸ hz)
      exact (List.mem_erase_of_ne hne).mpr q
    · exact ⟨y, List.mem_cons_self, hy⟩
/-! walks over any thing that is walked in order -/
theorem lc_it {J : It} {n : Nat} {g : TG} {tt : TT} {te : TE} {vs : List Nat} {σ : L2.St} {H1 : Hp} {D : Addr} {Qd : Hp → Prop} (Pv : Nat → Hp → Prop)
    (hgo : ∀ i H, i < n → Pv i H → J.go i H) (hst : ∀ H, Pv n H → J.stop n H) (h0 : Pv 0 (upd H1 D (.lst [])))
    (hs : ∀ i x H H', i < n → Pv i H → J.yld i H x H' → g x (wipe σ vs) H' fun σ2 H2 => wipe σ2 vs = wipe σ vs ∧ tt σ2 H2 fun b H3 =>
      if b = true then te σ2 H3 fun y H4 => ∃ acc, H4 D = some (.lst acc) ∧ acc.length < sizeLine ∧ Pv (i + 1) (upd H4 D (.lst (acc ++ [y]))) else Pv (i + 1) H3) (hd : ∀ H, Pv n H → Qd H) :
    ∃ W : Nat → Nat → Hp → Prop, (∃ m, W 0 m (upd H1 D (.lst []))) ∧ ∀ i m H, W i m H →
      (J.stop i H ∧ Qd H) ∨ (J.go i H ∧ ∃ Nx : Hp → Prop, (∀ H', Nx H' → ∃ m', m' < m ∧ W (i + 1) m' H') ∧ ∀ x H', J.yld i H x H' → g x (wipe σ vs) H' fun σ2 H2 => wipe σ2 vs = wipe σ vs ∧ tt σ2 H2 fun b H3 =>
        if b = true then te σ2 H3 fun y H4 => ∃ acc, H4 D = some (.lst acc) ∧ acc.length < sizeLine ∧ Nx (upd H4 D (.lst (acc ++ [y]))) else Nx H3) := by
  refine ⟨fun i m H => m = n - i ∧ i ≤ n ∧ Pv i H, ⟨n, by simp, Nat.zero_le _, h0⟩, ?_⟩
  rintro i m H ⟨rfl, hi, p⟩
  by_cases hlt : i < n
  · refine .inr ⟨hgo i H hlt p, Pv (i + 1), fun H' p' => ⟨n - (i + 1), by omega, rfl, hlt, p'⟩, fun x H' y => ?_⟩
    exact hs i x H H' hlt p y
  · have e : i = n := by omega
    subst e
    exact .inl ⟨hst H p, hd H p⟩
theorem lc_str {z : Str} {g : TG} {tt : TT} {te : TE} {vs : List Nat} {σ : L2.St} {H1 : Hp} {D : Addr} {Qd : Hp → Prop} (Pv : Nat → Hp → Prop) (h0 : Pv 0 (upd H1 D (.lst [])))
    (hs : ∀ i c H, (cd z)[i]? = some c → Pv i H → g (.str ⟨#[c]⟩) (wipe σ vs) H fun σ2 H2 => wipe σ2 vs = wipe σ vs ∧ tt σ2 H2 fun b H3 =>
      if b = true then te σ2 H3 fun y H4 => ∃ acc, H4 D = some (.lst acc) ∧ acc.length < sizeLine ∧ Pv (i + 1) (upd H4 D (.lst (acc ++ [y]))) else Pv (i + 1) H3) (hd : ∀ H, Pv (cd z).length H → Qd H) :
    ∃ W : Nat → Nat → Hp → Prop, (∃ m, W 0 m (upd H1 D (.lst []))) ∧ ∀ i m H, W i m H →
      ((Its z).stop i H ∧ Qd H) ∨ ((Its z).go i H ∧ ∃ Nx : Hp → Prop, (∀ H', Nx H' → ∃ m', m' < m ∧ W (i + 1) m' H') ∧ ∀ x H', (Its z).yld i H x H' → g x (wipe σ vs) H' fun σ2 H2 => wipe σ2 vs = wipe σ vs ∧ tt σ2 H2 fun b H3 =>
        if b = true then te σ2 H3 fun y H4 => ∃ acc, H4 D = some (.lst acc) ∧ acc.length < sizeLine ∧ Nx (upd H4 D (.lst (acc ++ [y]))) else Nx H3) :=
  lc_it (J := Its z) (n := (cd z).length) Pv (fun i _ h _ => by
    show i < z.cps.size
    rwa [← Array.length_toList]) (fun _ _ => by
    show z.cps.size ≤ (cd z).length
    rw [← Array.length_toList]
    exact Nat.le_refl _) h0 (fun i x H H' hi p y => by
    obtain ⟨e, c, hc, ex⟩ := y
    subst e ex
    exact hs i c H' (by rw [← hc]; exact Array.getElem?_toList ..) p) hd
end RV
namespace RV
open PySem L2
/-- what follows a statement is shown once, from what the statement leaves -/
theorem seq_of {t R : TS} {D : Ends} {σ : L2.St} {H : Hp} (mid : L2.St → Hp → Prop) (h2 : ∀ σ' H', mid σ' H' → R D σ' H') (h1 : ∀ N : L2.St → Hp → Prop, (∀ σ' H', mid σ' H' → N σ' H') → t { D with nx := N } σ H) : tSeq t R D σ H := h1 (R D) h2
theorem val_of {te : TE} {σ : L2.St} {H : Hp} {Q : VK} (mid : V → Hp → Prop) (k : ∀ v H', mid v H' → Q v H') (h : ∀ Q' : VK, (∀ v H', mid v H' → Q' v H') → te σ H Q') : te σ H Q := h Q k
theorem tst_of {tt : TT} {σ : L2.St} {H : Hp} {Q : Bool → Hp → Prop} (mid : Bool → Hp → Prop) (k : ∀ v H', mid v H' → Q v H') (h : ∀ Q' : Bool → Hp → Prop, (∀ v H', mid v H' → Q' v H') → tt σ H Q') : tt σ H Q := h Q k
theorem szn {n : Nat} (h : n ≤ 1000) : n ≤ sizeLine := Nat.le_trans h (by decide)
/-- texts as data -/
theorem dps {K : PySem.W.Frag} {H : Hp} : ∀ xs : List Str, DpAll K H (xs.map V.str) (xs.map PyData.str)
  | [] => .nil
  | x :: xs => .cons (.str x) (dps xs)
theorem strOk_nm {x : Str} (h : IsNm x) : PyData.strOk x = true := by
  have h1 := List.all_eq_true.mp (isNm_all h)
  unfold PyData.strOk
  rw [← Array.all_toList, List.all_eq_true]
  intro c hc
  have q := h1 c hc
  simp only [tailC, lowC, digC, Bool.or_eq_true, Bool.and_eq_true, decide_eq_true_eq] at q
  exact decide_eq_true (by omega)
theorem shaped_strs {xs : List Str} (h : ∀ x ∈ xs, IsNm x) : SeqAt.shaped (.list (xs.map PyData.str)) = true := by
  have h1 : ∀ xs : List Str, (∀ x ∈ xs, IsNm x) → PyData.canLayAll0 (xs.map PyData.str) = true := by
    intro xs
    induction xs with
    | nil => intro _; simp [PyData.canLayAll0]
    | cons x xs ih =>
      intro h
      have a := strOk_nm (h x List.mem_cons_self)
      have b := ih fun y hy => h y (List.mem_cons_of_mem _ hy)
      simp [PyData.canLayAll0, PyData.canLay0, a, b]
  have h2 : ∀ xs : List Str, PyData.depthAll (xs.map PyData.str) = 0 := by
    intro xs
    induction xs with
    | nil => simp [PyData.depthAll]
    | cons x xs ih => simp [PyData.depthAll, PyData.depth, ih]
  simp [SeqAt.shaped, PyData.canLay0, PyData.depth, h1 xs h, h2]
theorem shaped_nil : SeqAt.shaped (.list []) = true := by simp [SeqAt.shaped, PyData.canLay0, PyData.canLayAll0, PyData.depth, PyData.depthAll]
theorem eqv_nil (xs : List Str) : PyData.eqv (.list (xs.map PyData.str)) (.list []) = xs.isEmpty := by
  cases xs <;> simp [PyData.eqv, PyData.eqvAll]
end RV
/-! Rules for own classes: ==, !=, truth; repr of data. -/
namespace PySem.W
open PySem PySem.Calls PyProof.Rows Builtin
section
variable {prog : Program} {w : World} {A : Around} {E : Value → Shared → Prop} {s : Shared} {K : Frag} {x C L f : Addr} {h₀ : Heap} {m : Str → Option Value} {ox : Obj} {od : Option Obj} {b tb : Value}
/-- the default !=, by the class's own == that gives a bool -/
theorem rv_ne_K {Q : Value → Shared → Prop} (hu : A.units + 1 < cLine) (F : Fr h₀ L s.heap m) (X₀ : K.In h₀) (I : InstAt s.heap x ox C od) (hb : Looks (model prog w) s.heap (typeOf b) tb) (hn : notFirst K C tb = true)
    (hs : findIn K (.ref C) "__eq__" = some (some (.ref f))) (hf : isFn K (.ref f) = true) (hne : findIn K (.ref C) "__ne__" = some (some (.builtin "object.__ne__"))) (hob : subIn K (.ref C) (.type "object") = some true)
    (h : wpAny (model prog w) A.in1 (call (.ref f) [.ref x, b]) (fun v s' => ∃ c, v = .bool c ∧ Q (.bool (!c)) s') E s) : wpAny (model prog w) A (richCompare .NotEq (.ref x) b) Q E s := by
  have X := X₀.keeps F.keep
  have entry : wpAny (model prog w) A.in1 (Builtin.«object.__ne__» ⟨[.ref x, b], []⟩) (fun fin s' => ∃ v, fin = .done (.ret v) ∧ ∃ c, v = .bool (!c) ∧ Q (.bool (!c)) s') E s := by
    unfold Builtin.«object.__ne__»
    refine wpAny_bind (m := slotArgs "__ne__" 1 _) (wpAny_pure ?_)
    refine wpAny_bind (wpAny_cRoomFor (show A.units + 1 < cLine from hu) ?_)
    refine wpAny_bind (m := callSpecialIfBound? (.ref x) (Str.ofString "__eq__") [b]) (ifBound_K X I hs hf (wpAny_mono h (fun v s' hv => ?_) fun _ _ e => e))
    obtain ⟨c, rfl, hq⟩ := hv
    refine wpAny_bind (m := truthy (.bool c)) (wpAny_truthy_bool ?_)
    exact wpAny_pure ⟨_, rfl, c, rfl, hq⟩
  have chk : wpAny (model prog w) A.in1 (checkBuiltinCall "object.__ne__" ⟨[.ref x, b], []⟩) (fun _ s1 => s1 = s) E s := by
    simp only [checkBuiltinCall, PySem.F.cmpKind_ne, PySem.F.cmpSplit_ne]
    refine wpAny_bind ?_
    unfold isInstance
    refine wpAny_bind (I.type.here ?_)
    refine (looks_subIn X hob).here ?_
    have ha : argsOk "object.__ne__" ⟨[.ref x, b], []⟩ := PySem.F.cmpArgs_ne _ _
    cases hsig : Manifest.signature? "object.__ne__" with
    | none => exact wpAny_pure rfl
    | some sig =>
      simp only [argsOk, hsig] at ha
      have h2 : Bind.checkArgs "object.__ne__" sig ⟨[.ref x, b], []⟩ = pure () := ha
      show wpAny _ A.in1 (Bind.checkArgs "object.__ne__" sig ⟨[.ref x, b], []⟩) _ E _
      rw [h2]
      exact wpAny_pure rfl
  have callne : wpAny (model prog w) A (call (.builtin "object.__ne__") [.ref x, b]) (fun v s' => ∃ c, v = .bool (!c) ∧ Q (.bool (!c)) s') E s := by
    refine wpAny_call (codeAny_call_builtin PySem.F.slot_object_ne.plain PySem.F.cmpEntry_ne (wpAny_mono chk (fun _ s1 e => ?_) fun _ _ e => e))
    subst e
    refine wpAny_mono entry (fun fin s' hq => ?_) fun _ _ e => e
    obtain ⟨v, rfl, c, rfl, q⟩ := hq
    exact ⟨c, rfl, q⟩
  have one : wpAny (model prog w) A (tryCompare (.ref x) "__ne__" b) (fun r s' => ∃ v, r = some v ∧ Q v s') E s := by
    unfold tryCompare
    refine wpAny_bind (m := callSpecialIfBound? (.ref x) (Str.ofString "__ne__") [b]) ?_
    simp only [callSpecialIfBound?, bindSpecialIfBound?]
    refine wpAny_holding (wpAny_bind (wpAny_bind (wpAny_bind (I.type.here ((looks_findIn X hne).here ?_)))))
    simp only [PySem.F.slot_object_ne.bind]
    refine wpAny_bind (wpAny_askSetting (wpAny_ite ?_))
    have fin : ∀ R : Option Value → Shared → Prop, (∀ (c : Bool) s', Q (.bool (!c)) s' → R (some (.bool (!c))) s') → wpAny (model prog w) A (call (.builtin "object.__ne__") ([.ref x] ++ [b]) >>= fun v => pure (some v)) R E s := by
      intro R hR
      refine wpAny_bind (wpAny_mono callne (fun v s' hq => ?_) fun _ _ e => e)
      obtain ⟨c, rfl, q⟩ := hq
      exact wpAny_pure (hR c s' q)
    split
    · exact wpAny_bind (wpAny_pure (wpAny_pure (fin _ fun c s' q => wpAny_pure ⟨_, rfl, q⟩)))
    · exact wpAny_tryCatch (wpAny_bind (wpAny_pure (wpAny_pure (fin _ fun c s' q => wpAny_pure ⟨_, rfl, q⟩))))
  unfold richCompare
  simp only [oneThing_ref]
  refine wpAny_holding (wpAny_bind (wpAny_cRoomFor (Nat.lt_of_succ_lt hu) ?_))
  rw [cmpInfo_NotEq]
  dsimp only
  refine wpAny_bind (I.type.here (wpAny_bind (hb.here ?_)))
  split
  · rename_i q
    have e : subIn K tb (.ref C) = some false := by
      rcases Bool.or_eq_true_iff.mp hn with e | e
      · rw [beq_iff_eq.mp e] at q; simp at q
      · exact beq_iff_eq.mp e
    refine wpAny_bind ((looks_subIn X e).here ?_)
    simp only [Bool.false_eq_true, if_false]
    refine wpAny_bind (wpAny_mono one (fun r s' z => ?_) fun _ _ e => e)
    obtain ⟨v, rfl, hq⟩ := z
    exact wpAny_pure hq
  · refine wpAny_bind (wpAny_pure ?_)
    simp only [Bool.false_eq_true, if_false]
    refine wpAny_bind (wpAny_mono one (fun r s' z => ?_) fun _ _ e => e)
    obtain ⟨v, rfl, hq⟩ := z
    exact wpAny_pure hq
end
end PySem.W

namespace RV
open PySem L2
/-- the kind of a value, for a comparison -/
inductive TyL (H : Hp) : V → Value → Prop where
  | non : TyL H .non (.type "NoneType")
  | bl (b : Bool) : TyL H (.bl b) (.type "bool")
  | int (i : Int) : TyL H (.int i) (.type "int")
  | str (x : Str) : TyL H (.str x) (.type "str")
  | lst {a : Addr} {xs : List V} (e : H a = some (.lst xs)) : TyL H (.ref a) (.type "list")
  | tup {a : Addr} {xs : List V} (e : H a = some (.tup xs)) : TyL H (.ref a) (.type "tuple")
  | dK {a : Addr} {kvs : List (Key × V)} (e : H a = some (.dK kvs)) : TyL H (.ref a) (.type "dict")
  | ins {a C dx : Addr} {fs : List (Str × V)} (e : H a = some (.ins C dx fs)) : TyL H (.ref a) (.ref C)
section
variable {X : Cx} {pins : List (Addr × Obj)} {σ : L2.St} {H : Hp} {s : Shared}
theorem looks_obj {M : Model} {h : Heap} {a : Addr} {o : Obj} {t : Value} (e : h.get? a = some o) (c : o.cls = t) : PySem.W.Looks M h (typeOf (.ref a)) t := by
  intro A Q E s k q
  exact wpAny_typeOf_ref (k _ _ e) (c ▸ q)
theorem TyL.looks (I : Inv X pins σ H s) {v : V} {u t : Value} (r : RelV v u) (ty : TyL H v t) : PySem.W.Looks (model X.prog X.w) s.heap (typeOf u) t := by
  cases ty with
  | non => cases r; exact PySem.W.Looks.of_pure rfl
  | bl b => cases r; exact PySem.W.Looks.of_pure rfl
  | int i => obtain ⟨_, rfl⟩ := r; exact PySem.W.Looks.of_pure rfl
  | str x => obtain ⟨_, rfl⟩ := r; exact PySem.W.Looks.of_pure rfl
  | lst e => cases r; obtain ⟨_, _, _, _, g⟩ := I.hok _ _ e; exact looks_obj g rfl
  | tup e => cases r; obtain ⟨_, _, _, o, g, c, _⟩ := I.hok _ _ e; exact looks_obj g c
  | dK e => cases r; obtain ⟨_, _, _, _, o, es, ep, g, c, _⟩ := I.hok _ _ e; exact looks_obj g c.1
  | ins e => cases r; obtain ⟨mA, J, _⟩ := ins_get I.hok e; obtain ⟨od, J, _⟩ := J.look; exact J.type

/-- the class C has an own == that promises sp, and no own != -/
structure OwnEq (P : Program) (w : World) (K : PySem.W.Frag) (mg : Str → Option Value) (base : Heap) (C : Addr) (k : Nat) (sp : Sp) : Prop where
  fn : ∃ f fd ps, PySem.W.findIn K (.ref C) "__eq__" = some (some (.ref f)) ∧ PySem.W.isFn K (.ref f) = true ∧ Binds K fd ps [] ∧ FnOk P w K mg base CX0 k f fd ps sp
  ne : PySem.W.findIn K (.ref C) "__ne__" = some (some (.builtin "object.__ne__"))
  ob : PySem.W.subIn K (.ref C) (.type "object") = some true
@[irreducible] def rEqO (neg : Bool) (K : PySem.W.Frag) (C : Addr) (sp : Sp) : R2 := fun x y H Q => ∃ a dx fs t, x = .ref a ∧ H a = some (.ins C dx fs) ∧ TyL H y t ∧ PySem.W.notFirst K C t = true ∧
  sp [x, y] H (fun v H' => ∃ b, v = .bl b ∧ Q (.bl (if neg then !b else b)) H') E0
variable {P : Program} {w : World} {K : PySem.W.Frag} {mg : Str → Option Value} {base : Heap} {C : Addr} {k : Nat} {sp : Sp}
theorem call_own {A : Around} {f : Addr} {fd : FuncData} {ps : List Str} {Q : VK} {x y : V} {u v : Value} (F : FnOk X.prog X.w X.K X.mg X.base CX0 k f fd ps sp) (hb : Binds X.K fd ps []) (hr : Room k A) (hf : A.frames = X.A.frames)
    (I : Inv X pins σ H s) (rx : RelV x u) (ry : RelV y v) (hsp : sp [x, y] H Q E0) : wpAny (model X.prog X.w) A (call (.ref f) [u, v]) (EP X pins σ Q) X.xe s := by
  have e0 : Env0 X.prog X.w X.K X.mg X.base A X.stack s H := by
    have e := I.env0
    exact ⟨by rw [hf]; exact e.frames, e.mod, e.bs, e.bsz, e.funs, e.frf, e.hok, e.bare⟩
  have hl := F.len _ _ _ _ hsp
  have r2 : Vals [x, y] [u, v] := .cons rx (.cons ry .nil)
  refine wpAny_call (codeAny_mono (F.run A X.stack s H ⟨[u, v], []⟩ [u, v] [x, y] _ E0 hr e0 (by
    have := hb s [u, v] I.kIn (by simpa using hl)
    simpa using this) r2 hsp) fun r s' hq => ?_)
  cases r with
  | error e => exact (hq : False).elim
  | ok fl =>
    cases fl with
    | ret w => exact I.after hq
    | next => exact False.elim hq
    | brk => exact False.elim hq
    | cont => exact False.elim hq
theorem op_eqO (h : OwnEq X.prog X.w X.K X.mg X.base C k sp) (hr : Room k X.A) : OpR X (compareOp .Eq) (rEqO false X.K C sp) := by
  intro pins s σ H x y v u Q I rx ry hq
  unfold rEqO at hq
  obtain ⟨a, dx, fs, t, rfl, ha, ty, hn, hsp⟩ := hq
  obtain ⟨f, fd, ps, hs, hf, hb, F⟩ := h.fn
  have rx' := rx
  cases rx
  have lb := ty.looks I ry
  obtain ⟨mA, J, _⟩ := ins_get I.hok ha
  obtain ⟨od, J, _⟩ := J.look
  obtain ⟨m, hF⟩ := I.fr
  show wpAny (model X.prog X.w) X.A (richCompare .Eq (.ref a) u) (EP X pins σ Q) X.xe s
  refine PySem.W.cmp_K (op := .Eq) (tb := t) hr.units0 hF I.ok.mod.kin J lb hn hs hf ?_
  refine wpAny_mono (call_own F hb hr rfl I rx' ry hsp) (fun r s' z => ?_) fun _ _ x => x
  obtain ⟨v, H', I', rv, b, ev, q⟩ := z
  subst ev
  cases rv
  exact ⟨.bl b, H', I', rfl, q⟩
theorem op_neO (h : OwnEq X.prog X.w X.K X.mg X.base C k sp) (hr : Room (k + 1) X.A) : OpR X (compareOp .NotEq) (rEqO true X.K C sp) := by
  intro pins s σ H x y v u Q I rx ry hq
  unfold rEqO at hq
  obtain ⟨a, dx, fs, t, rfl, ha, ty, hn, hsp⟩ := hq
  obtain ⟨f, fd, ps, hs, hf, hb, F⟩ := h.fn
  have rx' := rx
  cases rx
  have lb := ty.looks I ry
  obtain ⟨mA, J, _⟩ := ins_get I.hok ha
  obtain ⟨od, J, _⟩ := J.look
  obtain ⟨m, hF⟩ := I.fr
  show wpAny (model X.prog X.w) X.A (richCompare .NotEq (.ref a) u) (EP X pins σ Q) X.xe s
  refine PySem.W.rv_ne_K (tb := t) (by have := hr.units; omega) hF I.ok.mod.kin J lb hn hs hf h.ne h.ob ?_
  refine wpAny_mono (call_own F hb hr.in1 rfl I rx' ry hsp) (fun r s' z => ?_) fun _ _ x => x
  obtain ⟨v, H', I', rv, b, ev, q⟩ := z
  subst ev
  cases rv
  exact ⟨b, rfl, .bl (!b), H', I', rfl, q⟩
theorem op_eqOK (h : OwnEq P w K mg base C k sp) (hr : Room k X.A) (e : X.prog = P ∧ X.w = w ∧ X.K = K ∧ X.mg = mg ∧ X.base = base := by exact ⟨rfl, rfl, rfl, rfl, rfl⟩) : OpR X (compareOp .Eq) (rEqO false K C sp) := by
  obtain ⟨rfl, rfl, rfl, rfl, rfl⟩ := e
  exact op_eqO h hr
theorem op_neOK (h : OwnEq P w K mg base C k sp) (hr : Room (k + 1) X.A) (e : X.prog = P ∧ X.w = w ∧ X.K = K ∧ X.mg = mg ∧ X.base = base := by exact ⟨rfl, rfl, rfl, rfl, rfl⟩) : OpR X (compareOp .NotEq) (rEqO true K C sp) := by
  obtain ⟨rfl, rfl, rfl, rfl, rfl⟩ := e
  exact op_neO h hr
/-- an instance of a class without a truth or a length of its own is true -/
def rTrO (C : Addr) : V → Hp → (Bool → Hp → Prop) → Prop := fun x H Q => ∃ a dx fs, x = .ref a ∧ H a = some (.ins C dx fs) ∧ Q true H
theorem tru_obj (hb : PySem.W.findIn X.K (.ref C) "__bool__" = some none) (hl : PySem.W.findIn X.K (.ref C) "__len__" = some none) : TruR X (rTrO C) := by
  intro pins s σ H x v Q I rx h
  obtain ⟨a, dx, fs, rfl, ha, q⟩ := h
  cases rx
  obtain ⟨mA, J, _⟩ := ins_get I.hok ha
  obtain ⟨od, J, _⟩ := J.look
  obtain ⟨m, hF⟩ := I.fr
  exact PySem.W.truthy_K0 hF I.ok.mod.kin J hb hl ⟨H, I, q⟩
/-! ### repr -/
mutual
theorem Dp.noDict {K : PySem.W.Frag} {H : Hp} : ∀ {v : V} {d : PyData}, Dp K H v d → d.hasDict = false
  | _, _, .non => by simp [PyData.hasDict]
  | _, _, .bl _ => by simp [PyData.hasDict]
  | _, _, .int _ => by simp [PyData.hasDict]
  | _, _, .str _ => by simp [PyData.hasDict]
  | _, _, .lst _ h => by simp [PyData.hasDict, DpAll.noDict h]
  | _, _, .tup _ h => by simp [PyData.hasDict, DpAll.noDict h]
theorem DpAll.noDict {K : PySem.W.Frag} {H : Hp} : ∀ {vs : List V} {ds : List PyData}, DpAll K H vs ds → PyData.hasDictAll ds = false
  | _, _, .nil => by simp [PyData.hasDictAll]
  | _, _, .cons h t => by simp [PyData.hasDictAll, Dp.noDict h, DpAll.noDict t]
end
@[irreducible] def rRepr (K : PySem.W.Frag) : List V → Hp → VK → Prop := fun xs H Q => ∃ a d, xs = [.ref a] ∧ Dp K H (.ref a) d ∧ d.showable = true ∧ d.depth ≤ 60 ∧ d.shown.length ≤ sizeLine ∧ Q (.str d.shown) H
theorem call_reprD (hu : X.A.units + 64 < cLine) (hg : X.A.guards = some []) : CallR X (.builtin "repr") (rRepr X.K) := by
  intro pins s σ H xs us Q I r h
  unfold rRepr at h
  obtain ⟨a, d, rfl, hd, hs, hdp, hsz, q⟩ := h
  obtain ⟨as, rd⟩ := Dp.reads I d _ _ hd (rfl : RelV (.ref a) (.ref a))
  have eu : us = [.ref a] := by
    cases r with
    | cons r1 r2 => cases r2; cases r1; rfl
  subst eu
  have nod : d.hasDict = true → sysModules ∉ as := fun hh => by
    rw [Dp.noDict hd] at hh
    cases hh
  refine repr_of_reads' rd hs nod hg (by omega) (fun _ _ e => e) (fun h' u tk hk => ⟨.str d.shown, H, I.kept hk, ⟨u, rfl⟩, q⟩) hsz
end
end RV
/-! Defs that must not run within a repr: as FnOk, but only where no repr is under way. -/
namespace RV
open PySem L2 PyProof.Rows
section
variable {P : Program} {w : World} {K : PySem.W.Frag} {mg : Str → Option Value} {base : Heap}
structure FnG (P : Program) (w : World) (K : PySem.W.Frag) (mg : Str → Option Value) (base : Heap) (k : Nat) (f : Addr) (fd : FuncData) (ps : List Str) (sp : Sp) : Prop where
  len : ∀ vs H Q E, sp vs H Q E → vs.length = ps.length
  run : ∀ (A : Around) (outer : List Env) (s : Shared) (H : Hp) (args : Args) (us : List Value) (vs : List V) (Q : VK) (E : XK), A.guards = some [] → Room k A → Env0 P w K mg base A outer s H → BindsTo s fd args (ps.zip us) → Vals vs us → sp vs H Q E →
    codeAny (model P w) A (.call (.ref f) args) (CR CX0 outer P w H s Q E) s
theorem gFun {x qual : Str} {st : Stmt} {f : Addr} {fd : FuncData} {N ps : List Str} {k : Nat} {sp : Sp} (F : Fun K x qual st f fd) (S : FnScope N ps (defScope st)) (len : ∀ vs H Q E, sp vs H Q E → vs.length = ps.length)
    (hbody : ∀ (cdv : Value) (A : Around) (outer : List Env) (s : Shared) (H : Hp) (vs : List V) (Q : VK) (E : XK), (A.deeper (envOfC qual (defScope st) s.heap.objs.size f cdv)).guards = some [] → Room k (A.deeper (envOfC qual (defScope st) s.heap.objs.size f cdv)) → sp vs H Q E →
      ∃ t, PSs (cxOf CX0 P w K mg base N qual (defScope st) f cdv A outer s H E).nox (defBody st) t ∧ t { nx := fun _ H' => Q .non H', rt := Q } (start N vs) H) : FnG P w K mg base (k + 1) f fd ps sp := by
  refine ⟨len, fun A outer s H args us vs Q E gs hr e0 hb r hsp => ?_⟩


  obtain ⟨oc, od, kV, doc, pm, an, cdv, ct, osl, rfl, lk, hcd⟩ := F.ex
  have hl := len _ _ _ _ hsp
  have KX : K.In s.heap := e0.mod.kin.keeps fun b o e => (e0.bs b o e).1
  have lim := e0.mod.nolimit.keeps fun b o e => (e0.bs b o e).1
  refine codeAny_call_function hr.depth (KX _ _ lk) rfl S.co S.gen rfl (PySem.W.codeRec_of KX hcd) (hb _ _ _ _ ?_)
  refine wpAny_newFunctionEnv_cells S.kind (fun y hy => ?_) fun env he s1 x => ?_
  · have hin : y.1 ∈ ps := by
      obtain ⟨n, v⟩ := y
      exact (List.of_mem_zip hy).1
    exact (S.par _ hin).imp id fun q => ⟨q, PySem.W.cellsFrom_some _ _ _ (.inl q)⟩
  subst he
  refine ⟨lim.keeps x.toInCall.keep, codeAny_func ?_⟩
  obtain ⟨t, ht, hq⟩ := hbody cdv A outer s H vs Q E gs (hr.deeper _) hsp
  have I := inv_start (CX := CX0) (cd := cdv) (E := E) S hr.hd e0 hl r x
  refine wpAny_mono (ht.nox.run [] s1 (start N vs) H _ I hq) (fun fl s' hs => ?_) fun _ _ hs => hs
  match fl, hs with
  | .ret u, ⟨v, _, H', J, rv, q⟩ => exact ⟨v, H', J.os, J.bare, J.base, J.hok, rv, q⟩
  | .next, ⟨_, H', J, q⟩ => exact ⟨V.non, H', J.os, J.bare, J.base, J.hok, rfl, q⟩
  | .brk, ⟨_, _, _, q⟩ => exact q.elim
  | .cont, ⟨_, _, _, q⟩ => exact q.elim
/-- such a function of the module, as its callers see it -/
def FnGd (P : Program) (w : World) (K : PySem.W.Frag) (mg : Str → Option Value) (base : Heap) (x : Str) (k : Nat) (ps : List Str) (sp : Sp) : Prop :=
  ∃ f fd, mg x = some (.ref f) ∧ PySem.W.keepIn K (.ref f) = true ∧ Binds K fd ps [] ∧ FnG P w K mg base k f fd ps sp
end
section
variable {X : Cx} {x : Str} {k : Nat} {ps : List Str} {sp : Sp} {e : Expr} {es : List Expr} {t : TA} {p pos : Pos}
theorem pe_fnG (h : FnGd X.prog X.w X.K X.mg X.base x k ps sp) (gs : X.A.guards = some []) (hr : Room k X.A) (ha : PA X (e :: es) t) (hg : Gl X x := by rfl) (hdb : (x == ("__debug__" : Str)) = false := by decide)
    (he : starEach (e :: es) X.env = (false, eval e X.env) :: starEach es X.env := by rfl) (hpl : (backTo pos (starEach es X.env)).any (·.1) = false := by rfl) :
    PE X (.Call (.Name x p) (e :: es) [] pos) (tCall sp [] E0 t) := by
  obtain ⟨f, fd, hm, hk, hb, F⟩ := h
  refine ⟨fun pins s σ H Q I h => wpAny_Call_Name_kw (ld_glob I hg hm ?_ hdb)⟩
  refine PySem.W.callWith_K (h₀ := X.base) I.ok.mod.kin hk (thn (ha.run pos pins s σ H _ I h) fun us s1 ⟨vs, H1, I1, r, q⟩ => ⟨I1.kIn, ?_⟩) he hpl
  have q' : sp vs H1 Q E0 := by rw [← List.append_nil vs]; exact q
  have hl : us.length = ps.length := r.length ▸ F.len _ _ _ _ q'
  have hbb : BindsTo s1 fd ⟨us, []⟩ (ps.zip us) := by
    have z := hb s1 us I1.kIn (by rw [List.append_nil]; exact hl)
    rwa [List.append_nil] at z
  refine wpAny_call (codeAny_mono (F.run X.A X.stack s1 H1 ⟨us, []⟩ us vs Q E0 gs hr I1.env0 hbb r q') fun res s' hq => ?_)
  match res, hq with
  | .ok (.ret u), hq => exact I1.after hq
  | .ok .next, hq => exact False.elim hq
  | .ok .brk, hq => exact False.elim hq
  | .ok .cont, hq => exact False.elim hq
  | .error e, hq => exact False.elim hq
end
/-- the law's own call: nothing is tracked but the script -/
theorem callG {P : Program} {w : World} {K : PySem.W.Frag} {mg mb : Str → Option Value} {k : Nat} {fa a : Addr} {fd : FuncData} {x : Str} {sp : Sp} {s₁ : Shared} {vs : List Value} {ns : List Int}
    (KX : K.In s₁.heap) (hns : s₁.heap.Ns mainGlobals mg) (hb : s₁.heap.Ns builtinsNs mb) (hbb : ∀ x : Str, x ≠ "__name__" → mb x = bootBuiltins x) (hlim : s₁.heap.NoLimit) (hg : s₁.gens = #[])
    (ha : s₁.heap.get? a = some { cls := .type "list", data := .seq vs.toArray }) (hi : IntsAre vs ns) (hl : ns.length ≤ sizeLine) (hr : Room k callerA)
    (F : ∀ base : Heap, K.In base → base.Ns mainGlobals mg → FnG P w K mg base k fa fd [x] sp) (hbind : ∀ (s : Shared) (u : Value), BindsTo s fd ⟨[u], []⟩ [(x, u)])
    (hsp : ∀ H : Hp, SqL K H a (ns.map V.int) → sp [.ref a] H (fun v _ => v = .bl true) E0) :
    codeAny (model P w) callerA (.call (.ref fa) ⟨[.ref a], []⟩) (fun r s' => r = .ok (.ret (.bool true)) ∧ OldK s₁.heap s'.heap ∧ s'.os = s₁.os ∧ AllBare s'.gens) s₁ := by
  have rv := vals_ints hi
  let scr : Obj := { cls := .type "list", data := .seq vs.toArray }
  -- H tracks at most the script, locked
  have core : ∀ H : Hp, (∀ b u, H b = some u → b = a ∧ u = .frz scr (.lst (ns.map V.int)) ∧ K.lookup a = none) → SqL K H a (ns.map V.int) →
      codeAny (model P w) callerA (.call (.ref fa) ⟨[.ref a], []⟩) (fun r s' => r = .ok (.ret (.bool true)) ∧ OldK s₁.heap s'.heap ∧ s'.os = s₁.os ∧ AllBare s'.gens) s₁ := by
    intro H hO hS
    have hok : HOk P w H s₁.heap := fun b u e => by
      obtain ⟨rfl, rfl, _⟩ := hO b u e
      exact ⟨ha, by rw [List.length_map]; exact hl, vs, _, rv, ha⟩
    have other : ∀ {b : Addr} {o : Obj}, s₁.heap.get? b = some o → o ≠ scr → H b = none := fun {b o} e d => by
      cases q : H b with
      | none => rfl
      | some u =>
        obtain ⟨rfl, _, _⟩ := hO b u q
        rw [ha] at e
        exact absurd (Option.some.inj e).symm d
    have spaces : ∀ {b : Addr} {m : Str → Option Value}, s₁.heap.Ns b m → (hidT s₁.heap H).Ns b m := fun {b m} z => by
      obtain ⟨o, es, ep, e, d, r⟩ := z
      refine ⟨o, es, ep, hidT_get e (other e fun q => ?_), d, r⟩
      subst q
      obtain ⟨_, d'⟩ := d
    have kin : K.In (hidT s₁.heap H) := fun b o e => hidT_get (KX b o e) (by
      cases q : H b with
      | none => rfl
      | some u =>
        obtain ⟨rfl, _, z⟩ := hO b u q
        rw [z] at e
        cases e)
    obtain ⟨mc, l1, l2⟩ := hlim
    have e0 : Env0 P w K mg (hidT s₁.heap H) callerA [] s₁ H :=
      { frames := rfl, mod := ⟨kin, spaces hns, ⟨mb, spaces hb, hbb⟩, ⟨mc, spaces l1, l2⟩⟩, bs := fun _ _ e => of_hidT e, bsz := Nat.le_of_eq (hidT_size _ _), funs := trivial, frf := fun _ hb => (nomatch hb), hok := hok, bare := .of_eq hg }
    refine codeAny_mono ((F _ kin (spaces hns)).run callerA [] s₁ H ⟨[.ref a], []⟩ [.ref a] [.ref a] _ _ rfl hr e0 (hbind s₁ (.ref a)) (.cons rfl .nil) (hsp H hS)) fun res s' z => ?_
    match res, z with
    | .ok (.ret u), ⟨v, H', os, bare, un, hok', rel, ev⟩ =>
      have ev' : v = .bl true := ev
      subst ev'
      have eu : u = Value.bool true := rel
      subst eu
      refine ⟨rfl, OldK.of_keep fun b o e => ?_, os, bare⟩
      cases q : H b with
      | none => exact un.keep b o e q (fun z => nomatch z) (fun z => nomatch z)
      | some u =>
        obtain ⟨rfl, rfl, _⟩ := hO b u q
        have z1 := (hok' b _ (un.frzs b _ _ q)).1
        rw [ha] at e
        rw [← e]
        exact z1
    | .ok .next, z => exact False.elim z
    | .ok .brk, z => exact False.elim z
    | .ok .cont, z => exact False.elim z
    | .error e, z => exact False.elim z
  cases hk : K.lookup a with
  | some o =>
    have e := KX a o hk
    rw [ha] at e
    cases e
    exact core (fun _ => none) (fun _ _ z => nomatch z) (.inr ⟨_, vs.toArray, _, hk, rfl, rfl, rfl, by rw [List.size_toArray, hi.length]; exact hl, by simpa using rv⟩)
  | none =>
    refine core (fun b => if b = a then some (.frz scr (.lst (ns.map V.int))) else none) (fun b u z => ?_) (.inl (.inr ⟨scr, if_pos rfl⟩))
    by_cases hb : b = a
    · rw [if_pos hb] at z
      exact ⟨hb, (Option.some.inj z).symm, hk⟩
    · rw [if_neg hb] at z
      cases z
theorem walkG (k : Nat) {l : PySem.W.OpenLaw} {q : Program} {loose : List Str} {XP : (Str → Option Value) → Heap → Prop} {YP : World → Heap → Prop} {d : DefRec} {K : Params → PySem.W.Frag} (hr : Room k callerA) (hn : l.most = some 63) (hdf : d.params.defaults = [])
    (hY : ∀ (w : World) (h : Heap), YP w h → (K w.params).In h)
    (F : ∀ (w : World) (mg : Str → Option Value) (fa : Addr) (h : Heap), (K w.params).In h → h.Ns mainGlobals mg → mg d.name = some (.ref fa) →
      ∃ fd : FuncData, (∀ (s : Shared) (u : Value), BindsTo s fd ⟨[u], []⟩ [("_law_cells", u)]) ∧ ∀ base : Heap, (K w.params).In base → base.Ns mainGlobals mg → FnG l.prog w (K w.params) mg base k fa fd ["_law_cells"] (spLaw (K w.params))) :
    PySem.W.WalkO q loose XP YP l.row.toRowW d [] (fun f vs => PySem.call f vs) := by
  refine Att.attach_call hn hdf fun w s₀ s₁ mg mb fa o pm cd doc a vs ns G Y ho hd hcd hmg hobj hints hlen hg => ?_
  obtain ⟨fd, hb, hF⟩ := F w mg fa _ (hY w _ Y) G.T.g hmg
  exact callG (hY w _ Y) G.T.g G.T.b G.T.builtins G.T.nolimit hg hobj hints (Nat.le_trans hlen (by decide)) hr hF hb fun H hS => ⟨a, ns, rfl, hS, hlen, fun _ => rfl⟩
end RV
/-! Classes of the text, as their callers see them. -/
namespace RV
open PySem L2 PyProof.Rows
/-- the class x of the module stands at C; C(..) of positional values, the defaults dvs behind them -/
def Mkr (P : Program) (w : World) (K : PySem.W.Frag) (mg : Str → Option Value) (base : Heap) (x : Str) (C : Addr) (k : Nat) (sp : Sp) (dvs : List V) : Prop :=
  mg x = some (.ref C) ∧ ∃ f fd ps ds, Mk K C f ∧ Binds K fd ps ds ∧ Vals dvs ds ∧ FnOk P w K mg base CX0 k f fd ps sp
def MkrK (P : Program) (w : World) (K : PySem.W.Frag) (mg : Str → Option Value) (base : Heap) (x : Str) (C : Addr) (k n : Nat) (ks : List Str) (sp : Sp) (gV : List V → List V → List V) : Prop :=
  mg x = some (.ref C) ∧ ∃ f fd ps g, Mk K C f ∧ KBn K fd ps (n + 1) ks g gV ∧ FnOk P w K mg base CX0 k f fd ps sp
/-- what isinstance asks of a class of the text -/
structure ClsX (K : PySem.W.Frag) (C : Addr) : Prop where
  cl : Cls K C
  ha : PySem.W.findIn K (.ref C) "__class__" = some (some (.builtin "object.__class__"))
  hn : PySem.W.specialIn K (.builtin "object.__class__") "__get__" = some (some (.builtin "getset_descriptor.__get__"))
  htk : PySem.W.takesIn K (.builtin "object.__class__") = some true
  hm : PySem.W.mroIn K C (.type "object") = some true
theorem ClsX.ty {K : PySem.W.Frag} {C a dx : Addr} {H : Hp} {fs : List (Str × V)} (c : ClsX K C) (e : H a = some (.ins C dx fs)) : TyX K H (.ref a) (.ref C) := .base (.ins e c.cl c.ha c.hn c.htk c.hm)
/-- a property -/
def Prp (P : Program) (w : World) (K : PySem.W.Frag) (mg : Str → Option Value) (base : Heap) (C : Addr) (f : Str) (k : Nat) (sp : Sp) : Prop :=
  Cls K C ∧ ∃ p g fd ps, PropOf K C f p g ∧ Binds K fd ps [] ∧ FnOk P w K mg base CX0 k g fd ps sp
section
variable {X : Cx} {x f : Str} {C : Addr} {k n : Nat} {ks : List Str} {sp : Sp} {dvs : List V} {gV : List V → List V → List V} {e : Expr} {es : List Expr} {kws : List Keyword} {t tk : TA} {ta : TE} {p pos : Pos}
theorem pe_mk (h : Mkr X.prog X.w X.K X.mg X.base x C k sp dvs) (hr : Room (k + 1) X.A) (ha : PA X (e :: es) t) (hg : Gl X x := by rfl) (hdb : (x == ("__debug__" : Str)) = false := by decide)
    (he : starEach (e :: es) X.env = (false, eval e X.env) :: starEach es X.env := by rfl) (hpl : (backTo pos (starEach es X.env)).any (·.1) = false := by rfl) : PE X (.Call (.Name x p) (e :: es) [] pos) (tMake C sp dvs E0 t) := by
  obtain ⟨hm, f, fd, ps, ds, M, hb, hd, F⟩ := h
  exact pe_make M F hr hg hm hb hd pass0 ha hdb he hpl
theorem pe_mkK (h : MkrK X.prog X.w X.K X.mg X.base x C k n ks sp gV) (hr : Room (k + 1) X.A) (ha : PA X (e :: es) t) (hkw : PK X kws tk) (hg : Gl X x := by rfl)
    (hall : (backToKw pos (keywordEach kws X.env)).all (·.1.isSome) = true := by rfl) (hks : (backToKw pos (keywordEach kws X.env)).filterMap (·.1) = ks := by rfl) (hdb : (x == ("__debug__" : Str)) = false := by decide)
    (he : starEach (e :: es) X.env = (false, eval e X.env) :: starEach es X.env := by rfl) (hpl : ((backTo pos (starEach (e :: es) X.env)).any (·.1) || (backToKw pos (keywordEach kws X.env)).any (·.1.isNone)) = false := by rfl) :
    PE X (.Call (.Name x p) (e :: es) kws pos) (tMakeK C n ks.length sp gV E0 t tk) := by
  obtain ⟨hm, f, fd, ps, g, M, hb, F⟩ := h
  exact pe_makeK M F hr hg hm hb pass0 ha hkw hall hks hdb he hpl
theorem pe_mkK0 (h : MkrK X.prog X.w X.K X.mg X.base x C k 0 ks sp gV) (hr : Room (k + 1) X.A) (hkw : PK X kws tk) (hg : Gl X x := by rfl)
    (hall : (backToKw pos (keywordEach kws X.env)).all (·.1.isSome) = true := by rfl) (hks : (backToKw pos (keywordEach kws X.env)).filterMap (·.1) = ks := by rfl) (hdb : (x == ("__debug__" : Str)) = false := by decide)
    (hpl : ((backTo pos (starEach [] X.env)).any (·.1) || (backToKw pos (keywordEach kws X.env)).any (·.1.isNone)) = false := by rfl) :
    PE X (.Call (.Name x p) [] kws pos) (tMakeK C 0 ks.length sp gV E0 tNil tk) := by
  obtain ⟨hm, f, fd, ps, g, M, hb, F⟩ := h
  exact pe_makeK0 M F hr hg hm hb pass0 hkw hall hks hdb hpl
theorem pe_propN (h : Prp X.prog X.w X.K X.mg X.base C f k sp) (hr : Room (k + 1) X.A) (he : PE X e ta) (hab : attributeBase e f X.env (eval e X.env) = eval e X.env := by rfl) : PE X (.Attribute e f pos) (tProp C sp [] E0 ta) := by
  obtain ⟨c, q, g, fd, ps, hp, hb, F⟩ := h
  exact pe_prop he c hp F hr hb .nil pass0 hab
/-- a test that is an instance's truth -/
theorem pt_obj (hb : PySem.W.findIn X.K (.ref C) "__bool__" = some none) (hl : PySem.W.findIn X.K (.ref C) "__len__" = some none) (ha : PE X e ta) (he : ∀ whole, isTrue e X.env whole = (do let v ← whole; standAt e.pos; holding [v] (truthy v)) := by intro _; rfl) :
    PT X e (fun σ H Q => ta σ H fun x H' => rTrO C x H' Q) := by
  refine ⟨fun pins s σ H Q I h => ?_⟩
  exact isTrue_plain (thn (ha.run pins s σ H _ I h) fun v s1 ⟨x, H1, I1, r1, q1⟩ => tru_obj hb hl pins s1 σ H1 x v Q I1 r1 q1) (he _)
end
end RV
namespace RV
open PySem L2
def top (i : Nat) : Stmt := PySem.Challenge.pw_ringvotes_k09_pipes_and_meters.main.body.getD i (.Pass ⟨0, 0, 0, 0⟩)
/-- the built-in names that the text uses are still the built-ins -/
structure Blt (mg : Str → Option Value) : Prop where
  b_len : mg "len" = none
  b_int : mg "int" = none
  b_abs : mg "abs" = none
  b_max : mg "max" = none
  b_min : mg "min" = none
  b_all : mg "all" = none
  b_any : mg "any" = none
  b_repr : mg "repr" = none
  b_range : mg "range" = none
  b_divmod : mg "divmod" = none
  b_isinstance : mg "isinstance" = none
  b_str : mg "str" = none

/-! ### the well -/
def sp_well (K : PySem.W.Frag) : Sp := fun vs H Q _ => ∃ (c : Addr) (ns : List Int) (k : Nat), vs = [.ref c, .int k] ∧ SqL K H c (ns.map V.int) ∧ ns.length ≤ 63 ∧ k ≤ 100 ∧
  ∀ a H', H a = none → Same H H' → WellAt H' a 0 → Q (.ref a) H'
def sp_dip : Sp := fun vs H Q _ => ∃ (a : Addr) (m : Int) (n : Nat), vs = [.ref a, .int m] ∧ WellAt H a n ∧ n < 1000000 ∧ 0 < m ∧ m ≤ 10 ^ 60 ∧
  ∀ (r : Int) H', 0 ≤ r → r < m → Grow a H H' → WellAt H' a (n + 1) → Q (.int r) H'
section
variable {P : Program} {w : World} {K : PySem.W.Frag} {mg : Str → Option Value} {base : Heap}
abbrev s_well : Stmt := top 15
abbrev sc_well_N : List Str := ["_law_cells", "_law_k", "_law_cell", "_law_other"]
theorem sc_well : FnScope sc_well_N ["_law_cells", "_law_k"] (defScope s_well) := ⟨rfl, rfl, rfl, by decide +kernel, rfl, by decide +kernel, by decide +kernel⟩
theorem ok_well {f : Addr} {fd : FuncData} (F : Fun K "_law_well" "_law_well" s_well f fd) (T : Blt mg) : FnOk P w K mg base CX0 1 f fd ["_law_cells", "_law_k"] (sp_well K) := by
  refine F.ok sc_well (fun vs H Q E h => ?_) (fun cdv A outer s H vs Q E hr h => ?_)
  · obtain ⟨_, _, _, rfl, _⟩ := h
    rfl
  · obtain ⟨c, ns, i, rfl, hS, hl, hi, k⟩ := h
    refine ⟨_, (pss_cons (ps_set (i := 2) sc_well.nd rfl (Or.inl rfl) (pe_ifExp (pt_cmpR op_lt (pv 1) (pe_callB call_len_seq (by rfl) T.b_len (by decide +kernel) (pa_cons (pv 0) pa_nil)) (nomark _)) (pe_ix ix_list (pv 0) (pv 1) (fun _ _ => rfl)) (pe_op op_mul (pe_op op_mul pe_int (pe_op op_add (pv 1) pe_int)) (pe_op op_add (pv 1) pe_int))))
      (pss_cons (ps_if (pt_cmpR op_ge (pv 1) (pe_callB call_len_seq (by rfl) T.b_len (by decide +kernel) (pa_cons (pv 0) pa_nil)) (nomark _)) (pss_one (ps_for PassesOwn.never rfl (pi_list (pv 0)) (pg_name (i := 3) sc_well.nd rfl (Or.inl rfl)) (pss_one (ps_set (i := 2) sc_well.nd rfl (Or.inl rfl) (pe_op op_mod (pe_callTy call_int1 (by rfl) T.b_int (by decide +kernel) (pa_cons (pe_op op_add (pe_op op_mul (pv 2) pe_int) (pv 3)) pa_nil)) pe_int))))) pss_nil)
      (pss_one (ps_ret (pe_lst (pa_cons (pe_op op_mod (pe_callTy call_int1 (by rfl) T.b_int (by decide +kernel) (pa_cons (pv 2) pa_nil)) pe_int) (pa_cons (pe_ifExp (pt_cmpR op_ge (pe_callB call_abs (by rfl) T.b_abs (by decide +kernel) (pa_cons (pv 2) pa_nil)) (pe_op op_pow pe_int pe_int) (nomark _)) (pe_callB call_abs (by rfl) T.b_abs (by decide +kernel) (pa_cons (pv 2) pa_nil)) pe_int) (pa_cons pe_int pa_nil)))))))), ?_⟩
    -- the end, from any number in the cell's slot
    have fin : ∀ (z : Int) (o : Option V), (tRet (tLst (tCons (tOp (rI (fun _ j => 0 < j) fun i j => .int (i % j)) (tCB (fun xs H Q => (∃ i, xs = [.int i] ∧ Q (.int i) H) ∨ ∃ k, xs = [.bl k] ∧ Q (.int (if k then 1 else 0)) H) (tCons (tVar 2) tNil)) (tC (.int 2147483629)))
        (tCons (tIf (tTest (tOp (rI0 fun i j => .bl (decide (j ≤ i))) (tCB (fun xs H Q => ∃ i, xs = [.int i] ∧ Q (.int (if i < 0 then -i else i)) H) (tCons (tVar 2) tNil)) (tOp (rI CPow fun i j => .int (i ^ j.toNat)) (tC (.int 10)) (tC (.int 18)))))
          (tCB (fun xs H Q => ∃ i, xs = [.int i] ∧ Q (.int (if i < 0 then -i else i)) H) (tCons (tVar 2) tNil)) (tC (.int 0))) (tCons (tC (.int 0)) tNil))))) { nx := fun _ H' => Q .non H', rt := Q } [some (.ref c), some (.int i), some (.int z), o] H := by
      intro z o
      refine ⟨_, rfl, .inl ⟨_, rfl, _, _, rfl, rfl, (by show (0 : Int) < 2147483629; decide), ?_⟩⟩
      have hz : (0 : Int) ≤ if z < 0 then -z else z := by split <;> omega
      have out : ∀ y : Int, 0 ≤ y → ∀ p, H p = none → Q (.ref p) (upd H p (.lst [.int (z % 2147483629), .int y, .int 0])) := fun y hy p np =>
        k p _ np (fun b o e => by rw [upd_ne (ne_of_none e np)]; exact e) ⟨_, _, _, upd_same, ⟨by omega, by omega⟩, hy, by omega⟩
      refine ⟨_, rfl, _, rfl, _, _, rfl, rfl, ⟨by decide, by decide, by decide⟩, _, _, rfl, rfl, _, rfl, ?_⟩
      refine ite2 (fun _ => ?_) (fun _ => ?_)
      · exact ⟨_, rfl, _, rfl, (by show 3 ≤ sizeLine; decide), out _ hz⟩
      · exact ⟨(by show 3 ≤ sizeLine; decide), out _ (by decide)⟩
    refine tif_int (b := decide ((i : Int) < ns.length)) (fun R r => ⟨_, rfl, _, rfl, c, _, rfl, .inl hS, _, _, rfl, rfl, _, rfl, by rw [List.length_map]; exact r⟩) (fun hb => ?_) (fun hb => ?_) (fun z => ?_)
    · have hlt : (i : Int) < ns.length := of_decide_eq_true hb
      have hlt' : i < ns.length := by omega
      exact ⟨ns[i], fun R r => ⟨_, rfl, _, rfl, c, _, _, _, rfl, rfl, hS, atI_nat (by rw [List.getElem?_map, List.getElem?_eq_getElem hlt']; rfl), r⟩⟩
    · exact ⟨_, fun R r => ⟨_, rfl, _, _, rfl, rfl, _, _, rfl, rfl, .inl ⟨by decide, by decide⟩, _, rfl, _, _, rfl, rfl, _, _, rfl, rfl, .inl ⟨by omega, by omega⟩, r⟩⟩
    · refine ⟨_, rfl, _, rfl, c, _, rfl, .inl hS, _, _, rfl, rfl, _, rfl, ?_⟩
      refine ite2 (fun _ => ?_) (fun _ => fin z _)
      refine ⟨_, rfl, c, rfl, ⟨_, hS⟩, for_list (K := K) (a := c) (xs := ns.map V.int) (fun j σ H' => H' = H ∧ ∃ (z : Int) (o : Option V), σ = [some (.ref c), some (.int i), some (.int z), o]) ⟨rfl, z, none, rfl⟩ (fun j σ H' _ h => by rw [h.1]; exact hS) ?_ ?_⟩
      · rintro j y σ H' hj ⟨rfl, z, o, rfl⟩
        obtain ⟨u, rfl⟩ : ∃ u, y = V.int u := by
          rw [List.getElem?_map] at hj
          cases e : ns[j]? with
          | none => rw [e] at hj; cases hj
          | some u => rw [e] at hj; exact ⟨u, (Option.some.inj hj).symm⟩
        exact ⟨_, rfl, _, _, rfl, rfl, .inr ⟨by decide, by decide⟩, _, rfl, _, _, rfl, rfl, .inl ⟨_, rfl, _, _, rfl, rfl, (by show (0 : Int) < 2147483629; decide), rfl, _, _, rfl⟩⟩
      · rintro σ H' ⟨rfl, z, o, rfl⟩
        exact fin z o

abbrev s_dip : Stmt := top 16
abbrev sc_dip_N : List Str := ["_law_well_here", "_law_many", "_law_digit", "_law_mixed"]
theorem sc_dip : FnScope sc_dip_N ["_law_well_here", "_law_many"] (defScope s_dip) := ⟨rfl, rfl, rfl, by decide +kernel, rfl, by decide +kernel, by decide +kernel⟩
theorem ok_dip {f : Addr} {fd : FuncData} (F : Fun K "_law_dip" "_law_dip" s_dip f fd) (T : Blt mg) : FnOk P w K mg base CX0 1 f fd ["_law_well_here", "_law_many"] sp_dip := by
  refine F.ok sc_dip (fun vs H Q E h => ?_) (fun cdv A outer s H vs Q E hr h => ?_)
  · obtain ⟨_, _, _, rfl, _⟩ := h
    rfl
  · obtain ⟨a, m, n, rfl, ⟨x, y, z, e, hx, hy, hz⟩, hn, hm, hm2, k⟩ := h
    refine ⟨_, (pss_cons (ps_asg (pe_op op_add (pe_ix ix_list (pv 0) pe_int (fun _ _ => rfl)) pe_int) (pg_sub (pv 0) pe_int set_list))
      (pss_cons (ps_if (pt_cmpR op_gt (pe_ix ix_list (pv 0) pe_int (fun _ _ => rfl)) pe_int (nomark _)) (pss_cons (ps_asg (pe_callB call_divmodW (by rfl) T.b_divmod (by decide +kernel) (pa_cons (pe_ix ix_list (pv 0) pe_int (fun _ _ => rfl)) (pa_cons (pv 1) pa_nil))) (pg_tup (by rfl) (pgs_cons (pg_sub (pv 0) pe_int set_list) (pgs_cons (pg_name (i := 2) sc_dip.nd rfl (Or.inl rfl)) pgs_nil)))) (pss_one (ps_ret (pv 2)))) pss_nil)
      (pss_cons (ps_asg (pe_op op_mod (pe_callTy call_int1 (by rfl) T.b_int (by decide +kernel) (pa_cons (pe_op op_add (pe_op op_add (pe_op op_mul (pe_ix ix_list (pv 0) pe_int (fun _ _ => rfl)) pe_int) (pe_op op_mul (pe_op op_mul pe_int (pe_ix ix_list (pv 0) pe_int (fun _ _ => rfl))) (pe_ix ix_list (pv 0) pe_int (fun _ _ => rfl)))) pe_int) pa_nil)) pe_int) (pg_sub (pv 0) pe_int set_list))
      (pss_cons (ps_set (i := 3) sc_dip.nd rfl (Or.inl rfl) (pe_op op_mod (pe_callTy call_int1 (by rfl) T.b_int (by decide +kernel) (pa_cons (pe_op op_mul (pe_ix ix_list (pv 0) pe_int (fun _ _ => rfl)) (pe_op op_add (pe_op op_mod (pe_callTy call_int1 (by rfl) T.b_int (by decide +kernel) (pa_cons (pe_ix ix_list (pv 0) pe_int (fun _ _ => rfl)) pa_nil)) pe_int) pe_int)) pa_nil)) pe_int))
      (pss_one (ps_ret (pe_op op_mod (pe_callTy call_int1 (by rfl) T.b_int (by decide +kernel) (pa_cons (pe_op op_fdiv (pv 3) pe_int) pa_nil)) (pv 1)))))))), ?_⟩
    refine ⟨_, rfl, a, _, 2, _, rfl, rfl, SqL.of e, rfl, _, _, rfl, rfl, _, rfl, a, _, _, 2, rfl, rfl, e, rfl, ?_⟩
    refine ⟨_, rfl, a, _, 1, _, rfl, rfl, SqL.of upd_same, rfl, _, _, rfl, rfl, _, rfl, ?_⟩
    refine ite2 (fun hp => ?_) (fun _ => ?_)
    · refine ⟨_, rfl, a, _, 1, _, rfl, rfl, SqL.of upd_same, rfl, _, rfl, _, _, rfl, ⟨hm, ?_⟩, fun p np => ?_⟩
      · refine PyProof.noPylong_of_log2 ?_
        have q := PySem.Flt.log2_lt_of (n := m.natAbs) (k := 200) (by decide) (by omega)
        omega
      · have npa : a ≠ p := fun w => by rw [← w, upd_same] at np; cases np
        refine ⟨p, _, rfl, SqT.of upd_same, rfl, _, _, rfl, ⟨_, rfl, a, _, _, 1, rfl, rfl, Eq.trans (upd_ne npa) upd_same, rfl, _, _, rfl, ⟨rfl, _, rfl, ?_⟩⟩⟩
        refine k _ _ (Int.emod_nonneg _ (by omega)) (Int.emod_lt_of_pos _ hm) (fun b o hb eb => ?_) ⟨_, _, _, upd_same, hx, Int.ediv_nonneg hy (by omega), by omega, by omega⟩
        rw [upd_ne hb, upd_ne (ne_of_none (o := o) (by rw [upd_ne hb]; exact eb) np), upd_ne hb]
        exact eb
    · refine ⟨_, rfl, a, _, 0, _, rfl, rfl, SqL.of upd_same, rfl, _, _, rfl, rfl, .inr ⟨by decide, by decide⟩, _, rfl, a, _, 2, _, rfl, rfl, SqL.of upd_same, rfl, _, _, rfl, rfl, .inl ⟨by decide, by decide⟩, _, rfl, a, _, 2, _, rfl, rfl, SqL.of upd_same, rfl, _, _, rfl, rfl, .inl ⟨by omega, by omega⟩,
        _, _, rfl, rfl, _, _, rfl, rfl, .inl ⟨_, rfl, _, _, rfl, rfl, (by show (0 : Int) < 2147483629; decide), _, rfl, a, _, _, 0, rfl, rfl, upd_same, rfl, ?_⟩⟩
      refine ⟨_, rfl, a, _, 0, _, rfl, rfl, SqL.of upd_same, rfl, _, rfl, a, _, 0, _, rfl, rfl, SqL.of upd_same, rfl, .inl ⟨_, rfl, _, _, rfl, rfl, (by show (0 : Int) < 30011; decide), _, _, rfl, rfl, _, _, rfl, rfl, .inl ⟨?_, ?_⟩, .inl ⟨_, rfl, _, _, rfl, rfl, (by show (0 : Int) < 2147483587; decide), ?_⟩⟩⟩
      · omega
      · omega
      refine ⟨_, rfl, _, _, rfl, rfl, ⟨by decide, by decide⟩, .inl ⟨_, rfl, _, rfl, _, _, rfl, rfl, hm, ?_⟩⟩
      refine k _ _ (Int.emod_nonneg _ (by omega)) (Int.emod_lt_of_pos _ hm) (fun b o hb eb => by rw [upd_ne hb, upd_ne hb]; exact eb) ⟨_, _, _, upd_same, ⟨by omega, by omega⟩, hy, by omega, by omega⟩
end
end RV
namespace RV
open PySem L2
theorem WellAt.mono {H : Hp} {a : Addr} {n m : Nat} (w : WellAt H a n) (h : n ≤ m) : WellAt H a m := by
  obtain ⟨x, y, z, e, hx, hy, hz⟩ := w
  exact ⟨x, y, z, e, hx, hy, by omega, by omega⟩
theorem WellAt.new {H : Hp} {a p : Addr} {n : Nat} {o : HO} (w : WellAt H a n) (np : H p = none) : WellAt (upd H p o) a n := by
  obtain ⟨x, y, z, e, hx, hy, hz⟩ := w
  exact ⟨x, y, z, by rw [upd_ne (ne_of_none e np)]; exact e, hx, hy, hz⟩
theorem WellAt.ne {H : Hp} {a p : Addr} {n : Nat} (w : WellAt H a n) (np : H p = none) : a ≠ p := by
  obtain ⟨x, y, z, e, _⟩ := w
  exact ne_of_none e np
def sp_name : Sp := fun vs H Q _ => ∃ (a : Addr) (n : Nat), vs = [.ref a] ∧ WellAt H a n ∧ n < 900000 ∧
  ∀ (x : Str) H', IsNm x → Grow a H H' → WellAt H' a (n + 10) → Q (.str x) H'
def sp_fresh : Sp := fun vs H Q _ => ∃ (a t : Addr) (n : Nat) (xs : List Str), vs = [.ref a, .ref t] ∧ WellAt H a n ∧ n < 800000 ∧ H t = some (.lst (xs.map V.str)) ∧ t ≠ a ∧ (∀ x ∈ xs, IsNm x) ∧ xs.length ≤ 35 ∧
  ∀ (x : Str) H', IsNm x → x ∉ xs → Grow a H H' → WellAt H' a (n + 13) → Q (.str x) H'
section
variable {P : Program} {w : World} {K : PySem.W.Frag} {mg : Str → Option Value} {base : Heap}
abbrev s_name : Stmt := top 17
abbrev sc_name_N : List Str := ["_law_well_here", "_law_signs", "_law_line", "_law_turn"]
theorem sc_name : FnScope sc_name_N ["_law_well_here"] (defScope s_name) := ⟨rfl, rfl, rfl, by decide +kernel, rfl, by decide +kernel, by decide +kernel⟩
def words : List Str := ["pipe", "meter", "sealed", "self", "net", "tell", "if", "a"]
theorem words_nm : ∀ x ∈ words, IsNm x := by
  have h : words.all (fun x => isNm (cd x)) = true := by decide +kernel
  exact fun x hx => List.all_eq_true.mp h x hx
theorem ok_name {f : Addr} {fd : FuncData} (F : Fun K "_law_name" "_law_name" s_name f fd) (T : Blt mg) (h_dip : Fn P w K mg base "_law_dip" 1 ["_law_well_here", "_law_many"] sp_dip) : FnOk P w K mg base CX0 2 f fd ["_law_well_here"] sp_name := by
  refine F.ok sc_name (fun vs H Q E h => ?_) (fun cdv A outer s H vs Q E hr h => ?_)
  · obtain ⟨_, _, rfl, _⟩ := h
    rfl
  · obtain ⟨a, n, rfl, wl, hn, k⟩ := h
    refine ⟨_, (pss_cons (ps_if (pt_cmpR op_eq (pe_fn h_dip (hr.mono (by decide)) (pa_cons (pv 0) (pa_cons pe_int pa_nil))) pe_int (nomark _)) (pss_one (ps_ret (pe_ix ix_list (pe_lst (pa_cons pe_str (pa_cons pe_str (pa_cons pe_str (pa_cons pe_str (pa_cons pe_str (pa_cons pe_str (pa_cons pe_str (pa_cons pe_str pa_nil))))))))) (pe_fn h_dip (hr.mono (by decide)) (pa_cons (pv 0) (pa_cons pe_int pa_nil))) (fun _ _ => rfl)))) pss_nil)
      (pss_cons (ps_set (i := 1) sc_name.nd rfl (Or.inl rfl) pe_str)
      (pss_cons (ps_set (i := 2) sc_name.nd rfl (Or.inl rfl) (pe_ix ix_str (pv 1) (pe_fn h_dip (hr.mono (by decide)) (pa_cons (pv 0) (pa_cons pe_int pa_nil))) (fun _ _ => rfl)))
      (pss_cons (ps_for PassesOwn.never rfl (pi_range1 rfl T.b_range (pa_cons (pe_fn h_dip (hr.mono (by decide)) (pa_cons (pv 0) (pa_cons pe_int pa_nil))) pa_nil)) (pg_name (i := 3) sc_name.nd rfl (Or.inl rfl)) (pss_one (ps_set (i := 2) sc_name.nd rfl (Or.inl rfl) (pe_op op_add_str (pv 2) (pe_ix ix_str (pv 1) (pe_fn h_dip (hr.mono (by decide)) (pa_cons (pv 0) (pa_cons pe_int pa_nil))) (fun _ _ => rfl))))))
      (pss_one (ps_ret (pv 2))))))), ?_⟩
    refine ⟨_, rfl, a, 6, n, rfl, wl, by omega, by decide, by decide, fun r H1 r0 r6 g1 w1 => ⟨rfl, _, rfl, ?_⟩⟩
    refine ite2 (fun _ => ?_) (fun _ => ?_)
    · refine ⟨(by show 8 ≤ sizeLine; decide), fun p np => ?_⟩
      refine ⟨_, rfl, a, 8, n + 1, rfl, w1.new np, by omega, by decide, by decide, fun r2 H2 r20 r28 g2 w2 => ?_⟩
      obtain ⟨x, hx, hnm, hm⟩ := at_of_list words_nm r20 r28
      have e2 : H2 p = some (.lst (words.map V.str)) := g2 p _ (w1.ne np).symm upd_same
      refine ⟨p, _, _, .str x, rfl, rfl, SqL.of e2, ?_, ?_⟩
      · unfold atI at hx ⊢
        rw [List.length_map]
        revert hx
        cases ixN words.length r2 with
        | none => intro hx; cases hx
        | some j =>
          intro hx
          show (words.map V.str)[j]? = _
          rw [List.getElem?_map, show words[j]? = some x from hx]
          rfl
      · exact k x H2 hnm ((g1.trans (Grow.new np)).trans g2) (w2.mono (by omega))
    · refine ⟨_, rfl, _, rfl, a, 26, n + 1, rfl, w1, by omega, by decide, by decide, fun r2 H2 r20 r26 g2 w2 => ?_⟩
      obtain ⟨c, hc, lc⟩ := at_low r20 r26
      refine ⟨signs, _, c, rfl, rfl, by decide, hc, ?_⟩
      refine ⟨_, rfl, a, 8, n + 2, rfl, w2, by omega, by decide, by decide, fun m H3 m0 m8 g3 w3 => ?_⟩
      obtain ⟨mn, rfl⟩ := Int.eq_ofNat_of_zero_le m0
      have hm8 : mn < 8 := by omega
      refine ⟨_, rfl, by omega, by omega, for_range (lo := 0) (n := mn) (fun i σ H' => ∃ (x : Str) (o : Option V), σ = [some (.ref a), some (.str signs), some (.str x), o] ∧ isNm (cd x) = true ∧ (cd x).length = i + 1 ∧ Grow a H H' ∧ WellAt H' a (n + 3 + i))
        ⟨⟨#[c]⟩, none, rfl, isNm_iff.mpr ⟨c, [], rfl, lc, rfl, by decide⟩, rfl, (g1.trans g2).trans g3, w3⟩ ?_ ?_⟩
      · rintro i σ H4 hi ⟨x, o, rfl, hx, hl, g4, w4⟩
        refine ⟨_, rfl, _, rfl, _, rfl, a, 36, n + 3 + i, rfl, w4, by omega, by decide, by decide, fun r5 H5 r50 r536 g5 w5 => ?_⟩
        obtain ⟨c5, hc5, lc5⟩ := at_tail r50 r536
        refine ⟨signs, _, c5, rfl, rfl, by decide, hc5, ?_⟩
        refine ⟨_, _, rfl, rfl, ?_, ?_⟩
        · have e1 : x.length = i + 1 := by rw [cd_len]; exact hl
          have e2 : Str.length ⟨#[c5]⟩ = 1 := rfl
          rw [e1, e2]
          exact Nat.le_trans (show i + 1 + 1 ≤ 20 by omega) (by decide)
        · refine ⟨x ++ ⟨#[c5]⟩, _, rfl, ?_, ?_, g4.trans g5, w5⟩
          · rw [cd_app, cd_one]
            exact isNm_snoc hx (by omega) lc5
          · rw [cd_app, cd_one, List.length_append, hl]
            rfl
      · rintro σ H4 ⟨x, o, rfl, hx, hl, g4, w4⟩
        exact ⟨_, rfl, k x H4 hx g4 (w4.mono (by omega))⟩
end
end RV
/-! What is known of the heap, step by step; repr of lists of short things. -/
namespace RV
open PySem L2 PyProof.Rows
/-- a promise that the unifier does not open -/
@[irreducible] def Irr (sp : Sp) : Sp := sp
theorem irr {sp : Sp} {vs : List V} {H : Hp} {Q : VK} {E : XK} (h : sp vs H Q E) : Irr sp vs H Q E := by unfold Irr; exact h
theorem irr_of {sp : Sp} {vs : List V} {H : Hp} {Q : VK} {E : XK} (h : Irr sp vs H Q E) : sp vs H Q E := by unfold Irr at h; exact h
theorem Fn.irr {P : Program} {w : World} {K : PySem.W.Frag} {mg : Str → Option Value} {base : Heap} {x : Str} {k : Nat} {ps : List Str} {sp : Sp} (h : Fn P w K mg base x k ps sp) : Fn P w K mg base x k ps (Irr sp) := by
  obtain ⟨f, fd, a, b, c, F⟩ := h
  exact ⟨f, fd, a, b, c, F.imp fun _ _ _ _ z => irr_of z⟩
theorem Mkr.irr {P : Program} {w : World} {K : PySem.W.Frag} {mg : Str → Option Value} {base : Heap} {x : Str} {C : Addr} {k : Nat} {sp : Sp} {dvs : List V} (h : Mkr P w K mg base x C k sp dvs) : Mkr P w K mg base x C k (Irr sp) dvs := by
  obtain ⟨m, f, fd, ps, ds, a, b, c, F⟩ := h
  exact ⟨m, f, fd, ps, ds, a, b, c, F.imp fun _ _ _ _ z => irr_of z⟩
theorem MkrK.irr {P : Program} {w : World} {K : PySem.W.Frag} {mg : Str → Option Value} {base : Heap} {x : Str} {C : Addr} {k n : Nat} {ks : List Str} {sp : Sp} {gV : List V → List V → List V} (h : MkrK P w K mg base x C k n ks sp gV) : MkrK P w K mg base x C k n ks (Irr sp) gV := by
  obtain ⟨m, f, fd, ps, g, a, b, F⟩ := h
  exact ⟨m, f, fd, ps, g, a, b, F.imp fun _ _ _ _ z => irr_of z⟩
section
variable {a p x : Addr} {n m : Nat} {L : List (Addr × HO)} {H0 H : Hp} {o : HO} {Q : VK} {E : XK}
theorem Has.ne (h : Has H0 a n L H) (np : H p = none) : p ≠ a := (h.well.ne np).symm
theorem Has.free (h : Has H0 a n L H) (np : H p = none) : ∀ q ∈ L, q.1 ≠ p := fun q hq => ne_of_none (h.here q hq).2 np
theorem Has.none0 (h : Has H0 a n L H) (np : H p = none) : H0 p = none := by
  cases e : H0 p with
  | none => rfl
  | some o =>
    rw [h.gr p o (h.ne np) e] at np
    cases np
/-- a thing that is not among them changes -/
theorem Has.put (h : Has H0 a n L H) (h0 : H0 p = none) (hp : ∀ q ∈ L, q.1 ≠ p) (pa : p ≠ a) : Has H0 a n L (upd H p o) := by
  obtain ⟨g, ⟨x, y, z, e, r⟩, k⟩ := h
  refine ⟨fun b u hb eb => ?_, ⟨x, y, z, by rw [upd_ne pa.symm]; exact e, r⟩, fun q hq => ⟨(k q hq).1, by rw [upd_ne (hp q hq)]; exact (k q hq).2⟩⟩
  rw [upd_ne (ne_of_none eb h0)]
  exact g b u hb eb
theorem Has.same (h : Has H0 a n L H) {H' : Hp} (g : Same H H') : Has H0 a n L H' := by
  obtain ⟨g0, ⟨x, y, z, e, r⟩, k⟩ := h
  exact ⟨fun b u hb eb => g _ _ (g0 b u hb eb), ⟨x, y, z, g _ _ e, r⟩, fun q hq => ⟨(k q hq).1, g _ _ (k q hq).2⟩⟩
theorem name_step (h : Has H0 a n L H) (hn : n < 900000) (k : ∀ x H', IsNm x → Has H0 a (n + 10) L H' → Q (.str x) H') : Irr sp_name [.ref a] H Q E :=
  irr ⟨a, n, rfl, h.well, hn, fun x H' hx g w => k x H' hx (h.grow g w)⟩
theorem dip_step {q : Int} (h : Has H0 a n L H) (hn : n < 1000000) (h0 : 0 < q) (h1 : q ≤ 10 ^ 60) (k : ∀ (r : Int) H', 0 ≤ r → r < q → Has H0 a (n + 1) L H' → Q (.int r) H') : Irr sp_dip [.ref a, .int q] H Q E :=
  irr ⟨a, q, n, rfl, h.well, hn, h0, h1, fun r H' r0 r1 g w => k r H' r0 r1 (h.grow g w)⟩
theorem fresh_step {t : Addr} {xs : List Str} (h : Has H0 a n L H) (hn : n < 800000) (ht : (t, HO.lst (xs.map V.str)) ∈ L) (hx : ∀ x ∈ xs, IsNm x) (hl : xs.length ≤ 35) (k : ∀ x H', IsNm x → x ∉ xs → Has H0 a (n + 13) L H' → Q (.str x) H') :
    Irr sp_fresh [.ref a, .ref t] H Q E :=
  irr ⟨a, t, n, xs, rfl, h.well, hn, h.at ht, (h.here _ ht).1, hx, hl, fun x H' hx hn g w => k x H' hx hn (h.grow g w)⟩
end
/-! ### short data -/
structure Short (d : PyData) : Prop where
  sh : d.showable = true
  dp : d.depth = 0
  ln : d.shown.length ≤ 100
theorem short_nm {x : Str} (h : IsNm x) : Short (.str x) := by
  refine ⟨by simp [PyData.showable], by simp [PyData.depth], ?_⟩
  have h1 := StrLaws.reprText_len x (fun c hc => by
    have q := List.all_eq_true.mp (isNm_all h) c hc
    simp only [tailC, lowC, digC, Bool.or_eq_true, Bool.and_eq_true, decide_eq_true_eq] at q
    omega)
  have h2 := isNm_len h
  rw [← cd_len] at h2
  have : (PyData.str x).shown = reprText x := by simp only [PyData.shown]
  rw [this]
  omega
theorem short_bl (b : Bool) : Short (.bool b) := by
  refine ⟨by simp [PyData.showable], by simp [PyData.depth], ?_⟩
  cases b <;> simp only [PyData.shown] <;> decide +kernel
theorem short_list {ds : List PyData} (h : ∀ d ∈ ds, Short d) (hl : ds.length ≤ 100) : (PyData.list ds).showable = true ∧ (PyData.list ds).depth ≤ 60 ∧ (PyData.list ds).shown.length ≤ sizeLine := by
  have h1 : ∀ ds : List PyData, (∀ d ∈ ds, Short d) → PyData.showableAll ds = true ∧ PyData.depthAll ds = 0 ∧ ((PyData.shownAll ds).map (·.length)).sum ≤ 100 * ds.length ∧ (PyData.shownAll ds).length = ds.length := by
    intro ds
    induction ds with
    | nil => intro _; simp [PyData.showableAll, PyData.depthAll, PyData.shownAll]
    | cons d ds ih =>
      intro h
      obtain ⟨a1, a2, a3⟩ := h d List.mem_cons_self
      obtain ⟨b1, b2, b3, b4⟩ := ih fun e he => h e (List.mem_cons_of_mem _ he)
      refine ⟨by simp [PyData.showableAll, a1, b1], by simp [PyData.depthAll, a2, b2], ?_, by simp [PyData.shownAll, b4]⟩
      simp only [PyData.shownAll, List.map_cons, List.sum_cons, List.length_cons]
      omega
  obtain ⟨a1, a2, a3, a4⟩ := h1 ds h
  refine ⟨by simp [PyData.showable, a1], by simp [PyData.depth, a2], ?_⟩
  have e : (PyData.list ds).shown = listText (PyData.shownAll ds) := by simp only [PyData.shown]
  rw [e]
  have := listText_len_le (PyData.shownAll ds)
  exact Nat.le_trans (show _ ≤ 20000 by omega) (by decide)
/-- repr of a list of short things that stands in the heap -/
theorem repr_step {K : PySem.W.Frag} {a : Addr} {vs : List V} {ds : List PyData} {H : Hp} {Q : VK} (h : H a = some (.lst vs)) (hd : DpAll K H vs ds) (hs : ∀ d ∈ ds, Short d) (hl : ds.length ≤ 100) (k : Q (.str (PyData.list ds).shown) H) : rRepr K [.ref a] H Q := by
  obtain ⟨h1, h2, h3⟩ := short_list hs hl
  unfold rRepr
  exact ⟨a, .list ds, rfl, .lst (SqL.of h) hd, h1, h2, h3, k⟩
end RV
namespace RV
open PySem L2
/-- the names that differ from x in their last sign alone -/
def cands (x : Str) : List Str := (cd signs).map fun c => cutS x none (some 7) ++ ⟨#[c]⟩
theorem cand_cd (x : Str) (c : Nat) : cd (cutS x none (some 7) ++ ⟨#[c]⟩) = (cd x).take 7 ++ [c] := by
  rw [cd_app, cd_one]
  exact congrArg (· ++ [c]) (cd_pre x 7)
theorem cands_nm {x : Str} (h : IsNm x) : ∀ y ∈ cands x, IsNm y := by
  intro y hy
  obtain ⟨c, hc, rfl⟩ := List.mem_map.mp hy
  have ht : tailC c = true := by
    have : ((cd signs).all tailC) = true := by rw [cd_signs]; decide
    exact List.all_eq_true.mp this c hc
  show isNm (cd _) = true
  rw [cand_cd]
  exact isNm_snoc (isNm_take h (by decide) (by decide)) (by rw [List.length_take]; omega) ht
theorem nodup_map {α β : Type} {f : α → β} (hf : ∀ a b, f a = f b → a = b) : ∀ {l : List α}, l.Nodup → (l.map f).Nodup
  | [], _ => List.nodup_nil
  | a :: l, h => by
    obtain ⟨h1, h2⟩ := List.nodup_cons.mp h
    rw [List.map_cons, List.nodup_cons]
    refine ⟨fun hm => ?_, nodup_map hf h2⟩
    obtain ⟨b, hb, e⟩ := List.mem_map.mp hm
    exact h1 (hf _ _ e ▸ hb)
theorem cands_nodup (x : Str) : (cands x).Nodup := by
  refine nodup_map (fun a b e => ?_) (by rw [cd_signs]; decide)
  have e2 := congrArg cd e
  rw [cand_cd, cand_cd] at e2
  have e3 := List.append_cancel_left e2
  exact (List.cons.inj e3).1
theorem cands_len (x : Str) : (cands x).length = 36 := by
  unfold cands
  rw [List.length_map, cd_signs]
  rfl
section
variable {P : Program} {w : World} {K : PySem.W.Frag} {mg : Str → Option Value} {base : Heap}
abbrev s_fresh : Stmt := top 18
abbrev sc_fresh_N : List Str := ["_law_well_here", "_law_taken", "_law_way", "_law_title", "_law_mate", "_law_free", "_law_sign", "_law_each"]
theorem sc_fresh : FnScope sc_fresh_N ["_law_well_here", "_law_taken"] (defScope s_fresh) := ⟨rfl, rfl, rfl, by decide +kernel, rfl, by decide +kernel, by decide +kernel⟩
theorem ok_fresh {f : Addr} {fd : FuncData} (F : Fun K "_law_fresh" "_law_fresh" s_fresh f fd) (T : Blt mg) (h_dip : Fn P w K mg base "_law_dip" 1 ["_law_well_here", "_law_many"] sp_dip) (h_name : Fn P w K mg base "_law_name" 2 ["_law_well_here"] sp_name) : FnOk P w K mg base CX0 3 f fd ["_law_well_here", "_law_taken"] sp_fresh := by
  refine F.ok sc_fresh (fun vs H Q E h => ?_) (fun cdv A outer s H vs Q E hr h => ?_)
  · obtain ⟨_, _, _, _, rfl, _⟩ := h
    rfl
  · obtain ⟨a, t, n, xs, rfl, wl, hn, ht, nta, hxs, hlen, k⟩ := h
    refine ⟨_, (pss_cons (ps_asg (pe_tup (pa_cons (pe_fn h_dip (hr.mono (by decide)) (pa_cons (pv 0) (pa_cons pe_int pa_nil))) (pa_cons (pe_fn h_name (hr.mono (by decide)) (pa_cons (pv 0) pa_nil)) pa_nil))) (pg_tup (by rfl) (pgs_cons (pg_name (i := 2) sc_fresh.nd rfl (Or.inl rfl)) (pgs_cons (pg_name (i := 3) sc_fresh.nd rfl (Or.inr rfl)) pgs_nil))))
      (pss_cons (ps_if (PW.pt (pw_and (pt_cmpR (op_neD hr.units) (pv 1) (pe_lst pa_nil) (nomark _)) (pw_and1 (pt_cmpR op_lt (pv 2) pe_int (nomark _))))) (pss_cons (ps_set (i := 4) sc_fresh.nd rfl (Or.inl rfl) (pe_ix ix_list (pv 1) (pe_fn h_dip (hr.mono (by decide)) (pa_cons (pv 0) (pa_cons (pe_callB call_len_seq (by rfl) T.b_len (by decide +kernel) (pa_cons (pv 1) pa_nil)) pa_nil))) (fun _ _ => rfl))) (pss_one (ps_set (i := 3) sc_fresh.nd rfl (Or.inr rfl) (pe_ifExp (pt_cmpR op_eq (pv 2) pe_int (nomark _)) (pe_slice sl_str (pe_op op_add_str (pv 4) (pv 3)) po_none (po_some pe_int)) (pe_slice sl_str (pv 4) po_none (po_some (pe_op op_add pe_int (pe_fn h_dip (hr.mono (by decide)) (pa_cons (pv 0) (pa_cons pe_int pa_nil)))))))))) pss_nil)
      (pss_cons (ps_if (pt_cmpR op_notIn_seq (pv 3) (pv 1) (by rfl)) (pss_one (ps_ret (pv 3))) pss_nil)
      (pss_cons (ps_setLc (i := 5) (own := [("_law_sign", 6)]) (g := gName 6) (tt := tYes) rfl sc_fresh.nd rfl rfl (sw_true rfl rfl rfl (by decide +kernel)) (pi_str pe_str) (blkOk_by (N := sc_fresh_N) (sc := defScope s_fresh) (by decide +kernel)) (fun _ _ _ _ _ => pg_name (i := 6) sc_fresh.nd rfl (Or.inl rfl)) (fun _ _ _ _ _ => pts_nil) (fun _ _ _ _ _ => (pe_op op_add_str (pe_slice sl_str (pv 3) po_none (po_some pe_int)) (pv 6))))
      (pss_one (ps_ret (pe_ix ix_list (pe_lc (own := [("_law_each", 7)]) (g := gName 7) rfl sc_fresh.nd (pi_list (pv 5)) (blkOk_by (N := sc_fresh_N) (sc := defScope s_fresh) (by decide +kernel)) (fun _ _ _ _ _ => pg_name (i := 7) sc_fresh.nd rfl (Or.inl rfl)) (fun _ _ _ _ _ => pts_one (pt_cmpR (op_notInK (K := K)) (pv 7) (pv 1) (by rfl))) (fun _ _ _ _ _ => (pv 7))) pe_int (fun _ _ => rfl)))))))), ?_⟩
    refine ⟨_, rfl, a, 4, n, rfl, wl, by omega, by decide, by decide, fun way H1 wy0 wy4 g1 w1 => ?_⟩
    refine ⟨_, rfl, a, n + 1, rfl, w1, by omega, fun x H2 hx g2 w2 => ⟨(by show 2 ≤ sizeLine; decide), fun p np => ?_⟩⟩
    refine ⟨p, _, rfl, SqT.of upd_same, rfl, _, _, rfl, _, _, rfl, rfl, ?_⟩
    have g3 : Grow a H (upd H2 p (.tup [.int way, .str x])) := (g1.trans g2).trans (Grow.new np)
    have w3 := w2.new (o := .tup [.int way, .str x]) np
    revert g3 w3
    generalize upd H2 p (.tup [.int way, .str x]) = H3
    intro g3 w3
    -- the title as it stands behind the if
    dsimp only
    refine seq_of (fun σ' H' => ∃ (x : Str) (o : Option V), σ' = [some (.ref a), some (.ref t), some (.int way), some (.str x), o, none, none, none] ∧ IsNm x ∧ Grow a H H' ∧ WellAt H' a (n + 13)) ?rest (fun N hN => ?main)
    case main =>
      have ht3 := g3 t _ nta ht
      have st : N [some (.ref a), some (.ref t), some (.int way), some (.str x), none, none, none, none] H3 := hN _ _ ⟨x, none, rfl, hx, g3, w3.mono (by omega)⟩
      refine ⟨_, rfl, by decide, fun p2 np2 => ?_⟩
      have g4 : Grow a H (upd H3 p2 (.lst [])) := g3.trans (Grow.new np2)
      have w4 := w3.new (o := .lst []) np2
      have np2' : t ≠ p2 := ne_of_none ht3 np2
      have ht4 : (upd H3 p2 (.lst [])) t = some (.lst (xs.map V.str)) := by rw [upd_ne np2']; exact ht3
      refine ⟨_, _, .lst (SqL.of ht4) (dps xs), .lst (SqL.of upd_same) .nil, shaped_strs hxs, shaped_nil, _, rfl, ?_⟩
      rw [eqv_nil]
      revert g4 w4 ht4
      generalize upd H3 p2 (.lst []) = H4
      intro g4 w4 ht4
      cases he : xs.isEmpty with
      | true => exact iteF (iteF (hN _ _ ⟨x, none, rfl, hx, g4, w4.mono (by omega)⟩))
      | false =>
        refine iteT ⟨_, rfl, _, _, rfl, rfl, _, rfl, ?_⟩
        refine ite2 (fun hw => ?_) (fun _ => hN _ _ ⟨x, none, rfl, hx, g4, w4.mono (by omega)⟩)
        have hpos : 0 < xs.length := by cases xs with | nil => cases he | cons x0 xr => simp
        refine ⟨_, rfl, _, rfl, _, rfl, t, _, rfl, .inl (SqL.of ht4), a, _, n + 11, rfl, w4, by omega, ?_, ?_, fun r H5 r0 r1 g5 w5 => ?_⟩
        · rw [List.length_map]; omega
        · rw [List.length_map]; omega
        rw [List.length_map] at r1
        obtain ⟨y, hy, hynm, _⟩ := at_of_list hxs r0 r1
        have ht5 := g5 t _ nta ht4
        refine ⟨t, _, r, .str y, rfl, rfl, SqL.of ht5, ?_, ?_⟩
        · unfold atI at hy ⊢
          rw [List.length_map]
          revert hy
          cases ixN xs.length r with
          | none => intro hy; cases hy
          | some j =>
            intro hy
            show (xs.map V.str)[j]? = _
            rw [List.getElem?_map, show xs[j]? = some y from hy]
            rfl
        · have ly := (isNm_len hynm)
          have lx := (isNm_len hx)
          rw [← cd_len] at ly lx
          refine ⟨_, rfl, rfl, _, rfl, ?_⟩
          refine ite2 (fun _ => ?_) (fun _ => ?_)
          · refine ⟨_, rfl, _, rfl, _, _, rfl, rfl, szn (by omega), _, rfl, _, rfl, ?_, ?_⟩
            · rw [cd_len, cd_app, List.length_append, ← cd_len, ← cd_len]
              exact szn (by omega)
            · refine hN _ _ ⟨_, _, rfl, ?_, g4.trans g5, w5.mono (by omega)⟩
              show isNm (cd _) = true
              rw [show cutS (y ++ x) none (some 8) = cutS (y ++ x) none (some ((8 : Nat) : Int)) from rfl, cd_pre, cd_app]
              exact isNm_cut hynm (isNm_all hx) (by decide) (by decide)
          · refine ⟨_, rfl, _, rfl, a, 7, n + 12, rfl, w5, by omega, by decide, by decide, fun r6 H6 r60 r67 g6 w6 => ?_⟩
            obtain ⟨m, rfl⟩ := Int.eq_ofNat_of_zero_le r60
            refine ⟨_, _, rfl, rfl, _, rfl, _, rfl, szn (by omega), ?_⟩
            refine hN _ _ ⟨_, _, rfl, ?_, (g4.trans g5).trans g6, w6.mono (by omega)⟩
            show isNm (cd _) = true
            rw [show (1 : Int) + ((m : Nat) : Int) = ((1 + m : Nat) : Int) by omega, cd_pre]
            exact isNm_take hynm (by omega) (by omega)
    case rest =>
      rintro σ' H5 ⟨x, o, rfl, hx, g5, w5⟩
      have ht5 := g5 t _ nta ht
      have lx := (isNm_len hx)
      rw [← cd_len] at lx
      refine ⟨_, rfl, _, rfl, t, _, rfl, .inl (SqL.of ht5), rfl, flat_str xs, _, rfl, ?_⟩
      rw [inV_str]
      refine ite2 (fun hin => ?_) (fun _ => ?_)
      · refine ⟨_, rfl, k x H5 hx (fun hm => ?_) g5 w5⟩
        simp [hm] at hin
      -- the free ones
      refine ⟨signs, rfl, fun D nD => lc_str (z := signs) (fun i H' => Grow a H H' ∧ WellAt H' a (n + 13) ∧ H' D = some (.lst (((cands x).take i).map V.str))) ⟨g5.trans (Grow.new nD), w5.new nD, upd_same⟩ ?_ ?_⟩
      · rintro i c H6 hi ⟨g6, w6, h6⟩
        have nDa : D ≠ a := (w5.ne nD).symm
        refine ⟨rfl, _, rfl, _, rfl, _, rfl, szn (by omega), _, rfl, _, _, rfl, rfl, ?_, _, h6, ?_, ?_⟩
        · rw [show cutS x none (some 7) = cutS x none (some ((7 : Nat) : Int)) from rfl, cd_len, cd_pre, List.length_take, ← cd_len]
          have e2 : Str.length ⟨#[c]⟩ = 1 := rfl
          rw [e2]
          exact szn (by omega)
        · rw [List.length_map, List.length_take]
          exact Nat.lt_of_lt_of_le (show min i (cands x).length < 1000 by rw [cands_len]; omega) (by decide)
        · refine ⟨fun b o hb eb => ?_, ?_, ?_⟩
          · rw [upd_ne (ne_of_none (g5 b o hb eb) nD)]
            exact g6 b o hb eb
          · obtain ⟨x1, y1, z1, e1, r1⟩ := w6
            exact ⟨x1, y1, z1, by rw [upd_ne nDa.symm]; exact e1, r1⟩
          · rw [upd_same]
            have e : (cands x)[i]? = some (cutS x none (some 7) ++ ⟨#[c]⟩) := by
              unfold cands
              rw [List.getElem?_map, hi]
              rfl
            obtain ⟨hl, e'⟩ := List.getElem?_eq_some_iff.mp e
            rw [List.take_succ_eq_append_getElem hl, e', List.map_append]
            rfl
      · intro H6 ⟨g6, w6, h6⟩
        rw [List.take_of_length_le (by rw [cands_len, cd_signs]; decide)] at h6
        have ht6 := g6 t _ nta ht
        refine ⟨_, rfl, D, rfl, ⟨_, SqL.of h6⟩, fun D2 nD2 => lc_list (K := K) (a := D) (xs := (cands x).map V.str) (fun i H' => Grow a H H' ∧ WellAt H' a (n + 13) ∧ H' D = some (.lst ((cands x).map V.str)) ∧ H' t = some (.lst (xs.map V.str)) ∧ H' D2 = some (.lst ((((cands x).take i).filter (fun y => decide (y ∉ xs))).map V.str)))
          ⟨g6.trans (Grow.new nD2), w6.new nD2, by rw [upd_ne (ne_of_none h6 nD2)]; exact h6, by rw [upd_ne (ne_of_none ht6 nD2)]; exact ht6, upd_same⟩ (fun _ _ _ h => SqL.of h.2.2.1) ?_ ?_⟩
        · rintro i v H7 hi ⟨g7, w7, h7, t7, d7⟩
          obtain ⟨y, rfl, hy⟩ : ∃ y, v = V.str y ∧ (cands x)[i]? = some y := by
            rw [List.getElem?_map] at hi
            cases e : (cands x)[i]? with
            | none => rw [e] at hi; cases hi
            | some y => rw [e] at hi; exact ⟨y, (Option.some.inj hi).symm, rfl⟩
          have eT : (cands x).take (i + 1) = (cands x).take i ++ [y] := by
            obtain ⟨hl, e'⟩ := List.getElem?_eq_some_iff.mp hy
            rw [List.take_succ_eq_append_getElem hl, e']
          refine ⟨rfl, _, rfl, _, rfl, t, _, rfl, .inl (SqL.of t7), rfl, flat_str xs, _, rfl, ?_⟩
          rw [inV_str]
          refine ite2 (fun hin => ?_) (fun hin => ?_)
          · have hn' : y ∉ xs := by simpa using hin
            refine ⟨_, rfl, _, d7, ?_, ?_⟩
            · rw [List.length_map]
              have := List.length_filter_le (fun y => decide (y ∉ xs)) ((cands x).take i)
              rw [List.length_take, cands_len] at this
              exact Nat.lt_of_lt_of_le (show _ < 1000 by omega) (by decide)
            · refine ⟨fun b o hb eb => ?_, ?_, ?_, ?_, ?_⟩
              · rw [upd_ne (ne_of_none (g6 b o hb eb) nD2)]
                exact g7 b o hb eb
              · obtain ⟨x1, y1, z1, e1, r1⟩ := w7
                exact ⟨x1, y1, z1, by rw [upd_ne (w6.ne nD2)]; exact e1, r1⟩
              · rw [upd_ne (ne_of_none h6 nD2)]; exact h7
              · rw [upd_ne (ne_of_none ht6 nD2)]; exact t7
              · rw [upd_same, eT, List.filter_append, List.map_append]
                simp [hn']
          · have hn' : y ∈ xs := by simpa using hin
            refine ⟨g7, w7, h7, t7, ?_⟩
            rw [d7, eT, List.filter_append]
            simp [hn']
        · rintro H7 ⟨g7, w7, h7, t7, d7⟩
          rw [List.length_map, List.take_of_length_le (Nat.le_refl _)] at d7
          obtain ⟨y, hy, hyx⟩ := one_free (cands_nodup x) (xs := xs) (by rw [cands_len]; omega)
          have hm : y ∈ (cands x).filter (fun y => decide (y ∉ xs)) := List.mem_filter.mpr ⟨hy, decide_eq_true hyx⟩
          cases ef : (cands x).filter (fun y => decide (y ∉ xs)) with
          | nil => rw [ef] at hm; cases hm
          | cons z zs =>
            rw [ef] at d7
            have hz : z ∈ (cands x).filter (fun y => decide (y ∉ xs)) := by rw [ef]; exact List.mem_cons_self
            obtain ⟨hz1, hz2⟩ := List.mem_filter.mp hz
            exact ⟨D2, _, 0, .str z, rfl, rfl, SqL.of d7, atI_nat (j := 0) rfl, k z H7 (cands_nm hx z hz1) (of_decide_eq_true hz2) g7 w7⟩
end
end RV
namespace RV
open PySem L2
/-- what is_name says of any value whose kind is known -/
def sp_is_name (K : PySem.W.Frag) : Sp := fun vs H Q _ => ∃ v, vs = [v] ∧ ((∃ x : Str, v = .str x ∧ x.length ≤ sizeLine ∧ ∀ H', Same H H' → Q (.bl (isNm (cd x))) H') ∨
  (∃ t, TyX K H v t ∧ PySem.W.kitOne K t (.type "str") = some false ∧ Q (.bl false) H))
structure Cst (mg : Str → Option Value) : Prop where
  c__LETTERS : ∃ u, mg "_LETTERS" = some u ∧ RelV (.str "abcdefghijklmnopqrstuvwxyz") u
  c__DIGITS : ∃ u, mg "_DIGITS" = some u ∧ RelV (.str "0123456789") u
  c__LONGEST_NAME : ∃ u, mg "_LONGEST_NAME" = some u ∧ RelV (.int 8) u
theorem cd_letters : cd "abcdefghijklmnopqrstuvwxyz" = [97, 98, 99, 100, 101, 102, 103, 104, 105, 106, 107, 108, 109, 110, 111, 112, 113, 114, 115, 116, 117, 118, 119, 120, 121, 122] := by decide +kernel
theorem cd_digits : cd "0123456789" = [48, 49, 50, 51, 52, 53, 54, 55, 56, 57] := by decide +kernel
theorem low_in (c : Nat) : decide (c ∈ cd "abcdefghijklmnopqrstuvwxyz") = lowC c := by
  rw [cd_letters]
  simp only [lowC]
  by_cases h : 97 ≤ c ∧ c ≤ 122
  · have : c = 97 ∨ c = 98 ∨ c = 99 ∨ c = 100 ∨ c = 101 ∨ c = 102 ∨ c = 103 ∨ c = 104 ∨ c = 105 ∨ c = 106 ∨ c = 107 ∨ c = 108 ∨ c = 109 ∨ c = 110 ∨ c = 111 ∨ c = 112 ∨ c = 113 ∨ c = 114 ∨ c = 115 ∨ c = 116 ∨ c = 117 ∨ c = 118 ∨ c = 119 ∨ c = 120 ∨ c = 121 ∨ c = 122 := by omega
    rcases this with e | e | e | e | e | e | e | e | e | e | e | e | e | e | e | e | e | e | e | e | e | e | e | e | e | e <;> subst e <;> decide
  · have h1 : (decide (97 ≤ c) && decide (c ≤ 122)) = false := by
      simp only [Bool.and_eq_false_iff, decide_eq_false_iff_not]
      omega
    rw [h1]
    simp only [decide_eq_false_iff_not, List.mem_cons, List.not_mem_nil, or_false]
    omega
theorem tail_in (c : Nat) : decide (c ∈ cd (("abcdefghijklmnopqrstuvwxyz" : Str) ++ ("0123456789" : Str))) = tailC c := by
  rw [cd_app]
  have h2 : decide (c ∈ cd "0123456789") = digC c := by
    rw [cd_digits]
    simp only [digC]
    by_cases h : 48 ≤ c ∧ c ≤ 57
    · have : c = 48 ∨ c = 49 ∨ c = 50 ∨ c = 51 ∨ c = 52 ∨ c = 53 ∨ c = 54 ∨ c = 55 ∨ c = 56 ∨ c = 57 := by omega
      rcases this with e | e | e | e | e | e | e | e | e | e <;> subst e <;> decide
    · have h1 : (decide (48 ≤ c) && decide (c ≤ 57)) = false := by
        simp only [Bool.and_eq_false_iff, decide_eq_false_iff_not]
        omega
      rw [h1]
      simp only [decide_eq_false_iff_not, List.mem_cons, List.not_mem_nil, or_false]
      omega
  rw [tailC, ← low_in, ← h2]
  by_cases a : c ∈ cd "abcdefghijklmnopqrstuvwxyz" <;> by_cases b : c ∈ cd "0123456789" <;> simp [a, b]
section
variable {P : Program} {w : World} {K : PySem.W.Frag} {mg : Str → Option Value} {base : Heap}
abbrev s_is_name : Stmt := top 4
abbrev sc_is_name_N : List Str := ["value", "letter"]
theorem sc_is_name : FnScope sc_is_name_N ["value"] (defScope s_is_name) := ⟨rfl, rfl, rfl, by decide +kernel, rfl, by decide +kernel, by decide +kernel⟩
theorem ok_is_name {f : Addr} {fd : FuncData} (F : Fun K "is_name" "is_name" s_is_name f fd) (T : Blt mg) (C : Cst mg) : FnOk P w K mg base CX0 1 f fd ["value"] (sp_is_name K) := by
  refine F.ok sc_is_name (fun vs H Q E h => ?_) (fun cdv A outer s H vs Q E hr h => ?_)
  · obtain ⟨_, rfl, _⟩ := h
    rfl
  · obtain ⟨v, rfl, k⟩ := h
    refine ⟨_, (pss_cons (ps_if (PW.pt (pw_or (pt_not (pt_val (pe_callB call_isi (by rfl) T.b_isinstance (by decide +kernel) (pa_cons (pv 0) (pa_cons (pe_bltn (v := .ty "str") (by rfl) T.b_str (by decide +kernel) rfl) pa_nil))))) (pw_or1 (pt_not (pt_chain op_le op_le pe_int (pe_callB call_len_str (by rfl) T.b_len (by decide +kernel) (pa_cons (pv 0) pa_nil)) (pe_gI C.c__LONGEST_NAME)))))) (pss_one (ps_ret pe_bl)) pss_nil)
      (pss_one (ps_ret (pe_and (pe_cmpR op_in_sign (pe_ix ix_str (pv 0) pe_int (fun _ _ => rfl)) (pe_gS C.c__LETTERS) (by rfl)) (pe_one (pe_callB (cr_all rfl) (by rfl) T.b_all (by decide +kernel) (pa_cons (pe_lc (own := [("letter", 1)]) (g := gName 1) (tt := tYes) rfl sc_is_name.nd (pi_str (pv 0)) (blkOk_by (N := sc_is_name_N) (sc := defScope s_is_name) (by decide +kernel)) (fun _ _ _ _ _ => pg_name (i := 1) sc_is_name.nd rfl (Or.inl rfl)) (fun _ _ _ _ _ => pts_nil) (fun _ _ _ _ _ => (pe_cmpR op_in_sign (pv 1) (pe_op op_add_str (pe_gS C.c__LETTERS) (pe_gS C.c__DIGITS)) (by rfl)))) pa_nil))))))), ?_⟩
    rcases k with ⟨x, rfl, hx, k⟩ | ⟨t, ty, kt, k⟩
    · refine ⟨_, rfl, _, _, .type "str", .type "str", true, rfl, .ty _, .base (.str x), kit_ty (by decide +kernel), true, rfl, ?_⟩
      refine iteF ⟨_, rfl, _, rfl, hx, _, _, rfl, rfl, _, rfl, ?_⟩
      have out : isNm (cd x) = false → Q (.bl false) H := fun e => e ▸ k H (Same.refl H)
      refine ite2 (fun h1 => ?_) (fun h1 => ?_)
      · refine ⟨_, _, rfl, rfl, _, rfl, ?_⟩
        have h1' := of_decide_eq_true h1
        cases e8 : decide ((x.length : Int) ≤ 8) with
        | false =>
          refine out ?_
          cases q : isNm (cd x) with
          | false => rfl
          | true =>
            have := isNm_len q
            rw [← cd_len] at this
            have h8 := of_decide_eq_false e8
            omega
        | true =>
          have h8 := of_decide_eq_true e8
          obtain ⟨c, r, ec⟩ : ∃ c r, cd x = c :: r := by
            cases e : cd x with
            | nil =>
              rw [cd_len, e] at h1'
              simp at h1'
            | cons c r => exact ⟨c, r, rfl⟩
          have hr7 : r.length ≤ 7 := by
            rw [cd_len, ec, List.length_cons] at h8
            omega
          refine ⟨_, rfl, x, _, c, rfl, rfl, hx, atI_nat (j := 0) (by show (cd x)[0]? = some c; rw [ec]; rfl), c, _, rfl, rfl, _, rfl, ?_⟩
          have el : decide (c ∈ cd "abcdefghijklmnopqrstuvwxyz") = lowC c := low_in c
          refine ite2 (fun hl => ?_) (fun hl => ?_)
          · have hl' : lowC c = true := el.symm.trans hl
            refine ⟨_, rfl, x, rfl, fun D nD => lc_str (z := x) (fun i H' => Same H H' ∧ H' D = some (.lst ((((cd x).take i).map tailC).map V.bl))) ⟨fun b o e => by rw [upd_ne (ne_of_none e nD)]; exact e, upd_same⟩ ?_ ?_⟩
            · rintro i d H6 hi ⟨s6, h6⟩
              refine ⟨rfl, _, rfl, _, _, rfl, rfl, by decide, d, _, rfl, rfl, _, h6, ?_, ?_⟩
              · rw [List.length_map, List.length_map, List.length_take, ← cd_len]
                exact Nat.lt_of_lt_of_le (show _ < 1000 by omega) (by decide)
              · refine ⟨fun b o e => by rw [upd_ne (ne_of_none e nD)]; exact s6 b o e, ?_⟩
                rw [upd_same]
                obtain ⟨hl6, e'⟩ := List.getElem?_eq_some_iff.mp hi
                rw [List.take_succ_eq_append_getElem hl6, e', List.map_append, List.map_append]
                show some (HO.lst (_ ++ [V.bl (decide (d ∈ cd (("abcdefghijklmnopqrstuvwxyz" : Str) ++ ("0123456789" : Str))))])) = _
                rw [tail_in]
                rfl
            · rintro H6 ⟨s6, h6⟩
              rw [List.take_of_length_le (Nat.le_refl _)] at h6
              refine ⟨D, _, rfl, SqL.of h6, ?_⟩
              have e : isNm (cd x) = ((cd x).map tailC).all id := by
                rw [ec]
                show (lowC c && r.all tailC && decide (r.length ≤ 7)) = (tailC c && (r.map tailC).all id)
                rw [hl', tail_of_low hl', decide_eq_true hr7, List.all_map]
                simp
              have := k H6 s6
              rwa [e] at this
          · refine out ?_
            have hl' : lowC c = false := by
              rw [← el]
              exact Bool.eq_false_iff.mpr hl
            rw [ec]
            simp [isNm, hl']
      · refine ⟨_, rfl, ?_⟩
        refine out ?_
        cases q : isNm (cd x) with
        | false => rfl
        | true =>
          have := isNm_len q
          rw [← cd_len] at this
          exact absurd (decide_eq_true (by omega)) h1
    · refine ⟨_, rfl, _, _, t, .type "str", false, rfl, .ty _, ty, kt, false, rfl, ?_⟩
      exact iteT (iteT k)
end
end RV
namespace RV
open PySem L2
/-! ### the program's classes -/
def sp_check (K : PySem.W.Frag) : Sp := fun vs H Q _ => ∃ (t : Addr) (xs : List Str), vs = [.ref t] ∧ SqT K H t (xs.map V.str) ∧ (∀ x ∈ xs, IsNm x) ∧ ∀ H', Same H H' → Q .non H'
theorem k12 : ¬ (("_name" : Str) = "_start") := by decide +kernel
theorem k13 : ¬ (("_name" : Str) = "_end") := by decide +kernel
theorem k23 : ¬ (("_start" : Str) = "_end") := by decide +kernel
theorem k14 : ¬ (("_name" : Str) = "_at") := by decide +kernel
theorem k15 : ¬ (("_name" : Str) = "_sealed") := by decide +kernel
theorem k45 : ¬ (("_at" : Str) = "_sealed") := by decide +kernel
def pipeF (n s e : Str) : List (Str × V) := putF "_end" (.str e) (putF "_start" (.str s) (putF "_name" (.str n) []))
theorem pipeF_n (n s e : Str) : (pipeF n s e).lookup ("_name" : Str) = some (.str n) := by
  unfold pipeF
  rw [lookup_putF, if_neg k13, lookup_putF, if_neg k12, lookup_putF, if_pos rfl]
theorem pipeF_s (n s e : Str) : (pipeF n s e).lookup ("_start" : Str) = some (.str s) := by
  unfold pipeF
  rw [lookup_putF, if_neg k23, lookup_putF, if_pos rfl]
theorem pipeF_e (n s e : Str) : (pipeF n s e).lookup ("_end" : Str) = some (.str e) := by
  unfold pipeF
  rw [lookup_putF, if_pos rfl]
theorem putF_len (f : Str) (v : V) : ∀ fs : List (Str × V), (putF f v fs).length ≤ fs.length + 1
  | [] => Nat.le_refl _
  | (g, x) :: r => by
    show (if g = f then (g, v) :: r else (g, x) :: putF f v r).length ≤ _
    split
    · simp
    · have := putF_len f v r
      simp only [List.length_cons]
      omega
def metF (n a : Str) (z : Bool) : List (Str × V) := putF "_sealed" (.bl z) (putF "_at" (.str a) (putF "_name" (.str n) []))
theorem metF_n (n a : Str) (z : Bool) : (metF n a z).lookup ("_name" : Str) = some (.str n) := by
  unfold metF
  rw [lookup_putF, if_neg k15, lookup_putF, if_neg k14, lookup_putF, if_pos rfl]
theorem metF_a (n a : Str) (z : Bool) : (metF n a z).lookup ("_at" : Str) = some (.str a) := by
  unfold metF
  rw [lookup_putF, if_neg k45, lookup_putF, if_pos rfl]
theorem metF_z (n a : Str) (z : Bool) : (metF n a z).lookup ("_sealed" : Str) = some (.bl z) := by
  unfold metF
  rw [lookup_putF, if_pos rfl]
def sp_Pipe (C : Addr) : Sp := fun vs H Q _ => ∃ (x dx : Addr) (n s e : Str), vs = [.ref x, .str n, .str s, .str e] ∧ H x = some (.ins C dx []) ∧ IsNm n ∧ IsNm s ∧ IsNm e ∧ e ≠ s ∧
  ∀ H', (∀ b o, b ≠ x → H b = some o → H' b = some o) → (∃ dx, H' x = some (.ins C dx (pipeF n s e))) → Q .non H'
def sp_Meter (C : Addr) : Sp := fun vs H Q _ => ∃ (x dx : Addr) (n a : Str) (z : Bool), vs = [.ref x, .str n, .str a, .bl z] ∧ H x = some (.ins C dx []) ∧ IsNm n ∧ IsNm a ∧
  ∀ H', (∀ b o, b ≠ x → H b = some o → H' b = some o) → (∃ dx, H' x = some (.ins C dx (metF n a z))) → Q .non H'
def PipeAt (C : Addr) (H : Hp) (p : Addr) (n s e : Str) : Prop := ∃ dx, H p = some (.ins C dx (pipeF n s e))
def MetAt (C : Addr) (H : Hp) (p : Addr) (n a : Str) (z : Bool) : Prop := ∃ dx, H p = some (.ins C dx (metF n a z))
def sp_Peq (K : PySem.W.Frag) (C : Addr) : Sp := fun vs H Q _ => ∃ (a : Addr) (y : V) (n s e : Str), vs = [.ref a, y] ∧ PipeAt C H a n s e ∧
  ((∃ b n' s' e', y = .ref b ∧ PipeAt C H b n' s' e' ∧ Q (.bl (decide (n = n' ∧ s = s' ∧ e = e'))) H) ∨ (∃ t, TyX K H y t ∧ PySem.W.kitOne K t (.ref C) = some false ∧ Q (.bl false) H))
def sp_Meq (K : PySem.W.Frag) (C : Addr) : Sp := fun vs H Q _ => ∃ (a : Addr) (y : V) (n t : Str) (z : Bool), vs = [.ref a, y] ∧ MetAt C H a n t z ∧
  ((∃ b n' t' z', y = .ref b ∧ MetAt C H b n' t' z' ∧ Q (.bl (decide (n = n' ∧ t = t' ∧ z = z'))) H) ∨ (∃ t, TyX K H y t ∧ PySem.W.kitOne K t (.ref C) = some false ∧ Q (.bl false) H))
structure PClass (K : PySem.W.Frag) (mg : Str → Option Value) (C : Addr) : Prop where
  x : ClsX K C
  k : mg "Pipe" = some (.ref C)
  n1 : NoAttr K C "_name"
  n2 : NoAttr K C "_start"
  n3 : NoAttr K C "_end"
  me : PySem.W.kitOne K (.ref C) (.ref C) = some true
structure MClass (K : PySem.W.Frag) (mg : Str → Option Value) (C : Addr) : Prop where
  x : ClsX K C
  k : mg "Meter" = some (.ref C)
  n1 : NoAttr K C "_name"
  n2 : NoAttr K C "_at"
  n3 : NoAttr K C "_sealed"
  me : PySem.W.kitOne K (.ref C) (.ref C) = some true
section
variable {P : Program} {w : World} {K : PySem.W.Frag} {mg : Str → Option Value} {base : Heap}
abbrev s_check_names : Stmt := top 13
abbrev sc_check_names_N : List Str := ["values", "value"]
theorem sc_check_names : FnScope sc_check_names_N ["values"] (defScope s_check_names) := ⟨rfl, rfl, rfl, by decide +kernel, rfl, by decide +kernel, by decide +kernel⟩
theorem ok_check_names {f : Addr} {fd : FuncData} (F : Fun K "_check_names" "_check_names" s_check_names f fd) (h_is_name : Fn P w K mg base "is_name" 1 ["value"] (sp_is_name K)) : FnOk P w K mg base CX0 2 f fd ["values"] (sp_check K) := by
  refine F.ok sc_check_names (fun vs H Q E h => ?_) (fun cdv A outer s H vs Q E hr h => ?_)
  · obtain ⟨_, _, rfl, _⟩ := h
    rfl
  · obtain ⟨t, xs, rfl, ht, hx, k⟩ := h
    refine ⟨_, (pss_one (ps_for PassesOwn.never rfl (pi_tup (pv 0)) (pg_name (i := 1) sc_check_names.nd rfl (Or.inl rfl)) (pss_one (ps_if (pt_not (pt_val (pe_fn h_is_name (hr.mono (by decide)) (pa_cons (pv 1) pa_nil)))) (pss_one ps_never) pss_nil)))), ?_⟩
    have sqt : ∀ {H'}, Same H H' → SqT K H' t (xs.map V.str) := fun e => by
      rcases ht with (h | ⟨o, h⟩) | h
      · exact .inl (.inl (e _ _ h))
      · exact .inl (.inr ⟨o, e _ _ h⟩)
      · exact .inr h
    refine ⟨_, rfl, t, rfl, ⟨_, ht⟩, for_tup (K := K) (a := t) (xs := xs.map V.str) (fun i σ H' => Same H H' ∧ ∃ o, σ = [some (.ref t), o]) ⟨Same.refl H, none, rfl⟩ (fun _ _ _ _ h => sqt h.1) ?_ ?_⟩
    · rintro i v σ H' hi ⟨sm, o, rfl⟩
      obtain ⟨y, rfl, hy⟩ : ∃ y, v = V.str y ∧ y ∈ xs := by
        rw [List.getElem?_map] at hi
        cases e : xs[i]? with
        | none => rw [e] at hi; cases hi
        | some y => rw [e] at hi; exact ⟨y, (Option.some.inj hi).symm, List.mem_of_getElem? e⟩
      have hn := hx y hy
      have hl := isNm_len hn
      rw [← cd_len] at hl
      refine ⟨_, rfl, _, rfl, .inl ⟨y, rfl, szn (by omega), fun H2 s2 => ?_⟩⟩
      rw [show isNm (cd y) = true from hn]
      exact ⟨true, rfl, sm.trans s2, _, rfl⟩
    · rintro σ H' ⟨sm, o, rfl⟩
      exact k H' sm
abbrev s_Pipe_i : Stmt := inClass (top 11) 0
abbrev sc_Pipe_i_N : List Str := ["self", "name", "start", "end"]
theorem sc_Pipe_i : FnScope sc_Pipe_i_N ["self", "name", "start", "end"] (defScope s_Pipe_i) := ⟨rfl, rfl, rfl, by decide +kernel, rfl, by decide +kernel, by decide +kernel⟩
theorem ok_Pipe_i {C f : Addr} {fd : FuncData} (F : Fun K "__init__" "Pipe.__init__" s_Pipe_i f fd) (T : PClass K mg C) (h_check_names : Fn P w K mg base "_check_names" 2 ["values"] (sp_check K)) : FnOk P w K mg base CX0 3 f fd ["self", "name", "start", "end"] (sp_Pipe C) := by
  refine F.ok sc_Pipe_i (fun vs H Q E h => ?_) (fun cdv A outer s H vs Q E hr h => ?_)
  · obtain ⟨_, _, _, _, _, rfl, _⟩ := h
    rfl
  · obtain ⟨x, dx, n, st, e, rfl, hx, hn, hs, he, hne, k⟩ := h
    refine ⟨_, (pss_cons (ps_expr (pe_fn h_check_names (hr.mono (by decide)) (pa_cons (pe_tup (pa_cons (pv 1) (pa_cons (pv 2) (pa_cons (pv 3) pa_nil)))) pa_nil)))
      (pss_cons (ps_if (pt_cmpR op_eq (pv 3) (pv 2) (nomark _)) (pss_one ps_never) pss_nil)
      (pss_cons (ps_fld (pv 0) (pv 1) rfl)
      (pss_cons (ps_fld (pv 0) (pv 2) rfl)
      (pss_one (ps_fld (pv 0) (pv 3) rfl)))))), ?_⟩
    refine ⟨_, rfl, _, rfl, _, rfl, (by show 3 ≤ sizeLine; decide), fun p np => ⟨p, [n, st, e], rfl, SqT.of upd_same, ?_, fun H1 s1 => ?_⟩⟩
    · intro y hy
      simp only [List.mem_cons, List.not_mem_nil, or_false] at hy
      rcases hy with rfl | rfl | rfl
      · exact hn
      · exact hs
      · exact he
    have hx1 := s1 _ _ (show (upd H p (.tup ([n, st, e].map V.str))) x = _ by rw [upd_ne (ne_of_none hx np)]; exact hx)
    refine ⟨_, rfl, _, rfl, rfl, _, rfl, ?_⟩
    refine ite2 (fun q => absurd (of_decide_eq_true q) fun z => hne (V.str.inj z)) (fun _ => ?_)
    refine ⟨_, rfl, _, rfl, x, C, dx, _, rfl, hx1, T.x.cl, T.n1, (by show 0 < 1000; decide), ?_⟩
    refine ⟨_, rfl, _, rfl, x, C, dx, _, rfl, upd_same, T.x.cl, T.n2, (by have := putF_len "_name" (.str n) []; simp at this ⊢; omega), ?_⟩
    refine ⟨_, rfl, _, rfl, x, C, dx, _, rfl, upd_same, T.x.cl, T.n3, (by have := putF_len "_name" (.str n) []; have := putF_len "_start" (.str st) (putF "_name" (.str n) []); simp at *; omega), ?_⟩
    refine k _ (fun b o hb eb => ?_) ⟨dx, upd_same⟩
    rw [upd_ne hb, upd_ne hb, upd_ne hb]
    exact s1 _ _ (by rw [upd_ne (ne_of_none eb np)]; exact eb)
abbrev s_Meter_i : Stmt := inClass (top 12) 0
abbrev sc_Meter_i_N : List Str := ["self", "name", "at", "sealed"]
theorem sc_Meter_i : FnScope sc_Meter_i_N ["self", "name", "at", "sealed"] (defScope s_Meter_i) := ⟨rfl, rfl, rfl, by decide +kernel, rfl, by decide +kernel, by decide +kernel⟩
theorem ok_Meter_i {C f : Addr} {fd : FuncData} {kws : List (Str × V)} (F : FunD K "__init__" "Meter.__init__" (defArgs s_Meter_i) (defBody s_Meter_i) (defScope s_Meter_i) [] kws f fd) (T : MClass K mg C) (h_check_names : Fn P w K mg base "_check_names" 2 ["values"] (sp_check K)) : FnOk P w K mg base CX0 3 f fd ["self", "name", "at", "sealed"] (sp_Meter C) := by
  refine F.ok sc_Meter_i (fun vs H Q E h => ?_) (fun cdv A outer s H vs Q E hr h => ?_)
  · obtain ⟨_, _, _, _, _, rfl, _⟩ := h
    rfl
  · obtain ⟨x, dx, n, a, z, rfl, hx, hn, ha, k⟩ := h
    refine ⟨_, (pss_cons (ps_expr (pe_fn h_check_names (hr.mono (by decide)) (pa_cons (pe_tup (pa_cons (pv 1) (pa_cons (pv 2) pa_nil))) pa_nil)))
      (pss_cons (ps_if (PW.pt (pw_and (pt_cmpR op_isnot_bl (pv 3) pe_bl (nomark _)) (pw_and1 (pt_cmpR op_isnot_bl (pv 3) pe_bl (nomark _))))) (pss_one ps_never) pss_nil)
      (pss_cons (ps_fld (pv 0) (pv 1) rfl)
      (pss_cons (ps_fld (pv 0) (pv 2) rfl)
      (pss_one (ps_fld (pv 0) (pv 3) rfl)))))), ?_⟩
    refine ⟨_, rfl, _, rfl, (by show 2 ≤ sizeLine; decide), fun p np => ⟨p, [n, a], rfl, SqT.of upd_same, ?_, fun H1 s1 => ?_⟩⟩
    · intro y hy
      simp only [List.mem_cons, List.not_mem_nil, or_false] at hy
      rcases hy with rfl | rfl
      · exact hn
      · exact ha
    have hx1 := s1 _ _ (show (upd H p (.tup ([n, a].map V.str))) x = _ by rw [upd_ne (ne_of_none hx np)]; exact hx)
    have rest : tSeq (sFld K (tVar 0) (tVar 1) "_name") (tSeq (sFld K (tVar 0) (tVar 2) "_at") (sFld K (tVar 0) (tVar 3) "_sealed")) { nx := fun _ H' => Q .non H', rt := Q } [some (.ref x), some (.str n), some (.str a), some (.bl z)] H1 := by
      refine ⟨_, rfl, _, rfl, x, C, dx, _, rfl, hx1, T.x.cl, T.n1, (by show 0 < 1000; decide), ?_⟩
      refine ⟨_, rfl, _, rfl, x, C, dx, _, rfl, upd_same, T.x.cl, T.n2, (by have := putF_len "_name" (.str n) []; simp at this ⊢; omega), ?_⟩
      refine ⟨_, rfl, _, rfl, x, C, dx, _, rfl, upd_same, T.x.cl, T.n3, (by have := putF_len "_name" (.str n) []; have := putF_len "_at" (.str a) (putF "_name" (.str n) []); simp at *; omega), ?_⟩
      refine k _ (fun b o hb eb => ?_) ⟨dx, upd_same⟩
      rw [upd_ne hb, upd_ne hb, upd_ne hb]
      exact s1 _ _ (by rw [upd_ne (ne_of_none eb np)]; exact eb)
    refine ⟨_, rfl, _, _, rfl, rfl, _, rfl, ?_⟩
    cases z with
    | true => exact rest
    | false => exact ⟨_, rfl, _, _, rfl, rfl, _, rfl, rest⟩
abbrev s_Pipe_q : Stmt := inClass (top 11) 4
theorem sc_Pipe_q : FnScope ["self", "other"] ["self", "other"] (defScope s_Pipe_q) := ⟨rfl, rfl, rfl, by decide +kernel, rfl, by decide +kernel, by decide +kernel⟩
theorem ok_Pipe_q {C f : Addr} {fd : FuncData} (F : Fun K "__eq__" "Pipe.__eq__" s_Pipe_q f fd) (T : PClass K mg C) (B : Blt mg) : FnOk P w K mg base CX0 1 f fd ["self", "other"] (sp_Peq K C) := by
  refine F.ok sc_Pipe_q (fun vs H Q E h => ?_) (fun cdv A outer s H vs Q E hr h => ?_)
  · obtain ⟨_, _, _, _, _, rfl, _⟩ := h
    rfl
  · obtain ⟨a, y, n, st, e, rfl, ⟨dx, ha⟩, k⟩ := h
    refine ⟨_, (pss_one (ps_ret (pe_and (pe_callB call_isi (by rfl) B.b_isinstance (by decide +kernel) (pa_cons (pv 1) (pa_cons (pe_gC T.k) pa_nil))) (pe_and (pe_cmpR op_eq (pe_fld (pv 0) rfl) (pe_fld (pv 1) rfl) (nomark _)) (pe_and (pe_cmpR op_eq (pe_fld (pv 0) rfl) (pe_fld (pv 1) rfl) (nomark _)) (pe_one (pe_cmpR op_eq (pe_fld (pv 0) rfl) (pe_fld (pv 1) rfl) (nomark _)))))))), ?_⟩
    rcases k with ⟨b, n', s', e', rfl, ⟨dy, hb⟩, k⟩ | ⟨t, ty, kt, k⟩
    · have fld : ∀ {f : Str} {v : V}, NoAttr K C f → (pipeF n st e).lookup f = some v → ∀ R : V → Prop, R v → ∃ u, [some (V.ref a), some (V.ref b)][0]? = some (some u) ∧ ∃ a' C' dx' fs v', u = .ref a' ∧ H a' = some (.ins C' dx' fs) ∧ Cls K C' ∧ NoAttr K C' f ∧ fs.lookup f = some v' ∧ R v' :=
        fun nf l R r => ⟨_, rfl, a, C, dx, _, _, rfl, ha, T.x.cl, nf, l, r⟩
      refine ⟨_, rfl, _, _, _, .ref C, true, rfl, .own C, T.x.ty hb, T.me, true, rfl, iteT ?_⟩
      refine ⟨_, rfl, a, C, dx, _, _, rfl, ha, T.x.cl, T.n1, pipeF_n _ _ _, _, rfl, b, C, dy, _, _, rfl, hb, T.x.cl, T.n1, pipeF_n _ _ _, rfl, _, rfl, ?_⟩
      refine ite2 (fun h1 => ?_) (fun h1 => ?_)
      · have e1 : n = n' := V.str.inj (of_decide_eq_true h1)
        refine ⟨_, rfl, a, C, dx, _, _, rfl, ha, T.x.cl, T.n2, pipeF_s _ _ _, _, rfl, b, C, dy, _, _, rfl, hb, T.x.cl, T.n2, pipeF_s _ _ _, rfl, _, rfl, ?_⟩
        refine ite2 (fun h2 => ?_) (fun h2 => ?_)
        · have e2 : st = s' := V.str.inj (of_decide_eq_true h2)
          refine ⟨_, rfl, a, C, dx, _, _, rfl, ha, T.x.cl, T.n3, pipeF_e _ _ _, _, rfl, b, C, dy, _, _, rfl, hb, T.x.cl, T.n3, pipeF_e _ _ _, rfl, ?_⟩
          have e3 : decide (V.str e = V.str e') = decide (n = n' ∧ st = s' ∧ e = e') := by
            subst e1 e2
            by_cases q : e = e' <;> simp [q]
          show Q (.bl (decide (V.str e = V.str e'))) H
          rw [e3]
          exact k
        · have : decide (n = n' ∧ st = s' ∧ e = e') = false := decide_eq_false fun z => h2 (decide_eq_true (congrArg V.str z.2.1))
          rw [← this]
          exact k
      · have : decide (n = n' ∧ st = s' ∧ e = e') = false := decide_eq_false fun z => h1 (decide_eq_true (congrArg V.str z.1))
        rw [← this]
        exact k
    · refine ⟨_, rfl, _, _, t, .ref C, false, rfl, .own C, ty, kt, false, rfl, iteF k⟩
abbrev s_Meter_q : Stmt := inClass (top 12) 4
theorem sc_Meter_q : FnScope ["self", "other"] ["self", "other"] (defScope s_Meter_q) := ⟨rfl, rfl, rfl, by decide +kernel, rfl, by decide +kernel, by decide +kernel⟩
theorem ok_Meter_q {C f : Addr} {fd : FuncData} (F : Fun K "__eq__" "Meter.__eq__" s_Meter_q f fd) (T : MClass K mg C) (B : Blt mg) : FnOk P w K mg base CX0 1 f fd ["self", "other"] (sp_Meq K C) := by
  refine F.ok sc_Meter_q (fun vs H Q E h => ?_) (fun cdv A outer s H vs Q E hr h => ?_)
  · obtain ⟨_, _, _, _, _, rfl, _⟩ := h
    rfl
  · obtain ⟨a, y, n, st, e, rfl, ⟨dx, ha⟩, k⟩ := h
    refine ⟨_, (pss_one (ps_ret (pe_and (pe_callB call_isi (by rfl) B.b_isinstance (by decide +kernel) (pa_cons (pv 1) (pa_cons (pe_gC T.k) pa_nil))) (pe_and (pe_cmpR op_eq (pe_fld (pv 0) rfl) (pe_fld (pv 1) rfl) (nomark _)) (pe_and (pe_cmpR op_eq (pe_fld (pv 0) rfl) (pe_fld (pv 1) rfl) (nomark _)) (pe_one (pe_cmpR op_eq (pe_fld (pv 0) rfl) (pe_fld (pv 1) rfl) (nomark _)))))))), ?_⟩
    rcases k with ⟨b, n', s', e', rfl, ⟨dy, hb⟩, k⟩ | ⟨t, ty, kt, k⟩
    · refine ⟨_, rfl, _, _, _, .ref C, true, rfl, .own C, T.x.ty hb, T.me, true, rfl, iteT ?_⟩
      refine ⟨_, rfl, a, C, dx, _, _, rfl, ha, T.x.cl, T.n1, metF_n _ _ _, _, rfl, b, C, dy, _, _, rfl, hb, T.x.cl, T.n1, metF_n _ _ _, rfl, _, rfl, ?_⟩
      refine ite2 (fun h1 => ?_) (fun h1 => ?_)
      · have e1 : n = n' := V.str.inj (of_decide_eq_true h1)
        refine ⟨_, rfl, a, C, dx, _, _, rfl, ha, T.x.cl, T.n2, metF_a _ _ _, _, rfl, b, C, dy, _, _, rfl, hb, T.x.cl, T.n2, metF_a _ _ _, rfl, _, rfl, ?_⟩
        refine ite2 (fun h2 => ?_) (fun h2 => ?_)
        · have e2 : st = s' := V.str.inj (of_decide_eq_true h2)
          refine ⟨_, rfl, a, C, dx, _, _, rfl, ha, T.x.cl, T.n3, metF_z _ _ _, _, rfl, b, C, dy, _, _, rfl, hb, T.x.cl, T.n3, metF_z _ _ _, rfl, ?_⟩
          have e3 : decide (V.bl e = V.bl e') = decide (n = n' ∧ st = s' ∧ e = e') := by
            subst e1 e2
            by_cases q : e = e' <;> simp [q]
          show Q (.bl (decide (V.bl e = V.bl e'))) H
          rw [e3]
          exact k
        · have : decide (n = n' ∧ st = s' ∧ e = e') = false := decide_eq_false fun z => h2 (decide_eq_true (congrArg V.str z.2.1))
          rw [← this]
          exact k
      · have : decide (n = n' ∧ st = s' ∧ e = e') = false := decide_eq_false fun z => h1 (decide_eq_true (congrArg V.str z.1))
        rw [← this]
        exact k
    · refine ⟨_, rfl, _, _, t, .ref C, false, rfl, .own C, ty, kt, false, rfl, iteF k⟩
end
end RV
namespace RV
open PySem L2
local macro_rules | `(tactic| walk_at "mem") => `(tactic| repeat (first | exact List.Mem.head _ | refine List.Mem.tail _ ?_))
section
variable {a : Addr} {n : Nat} {L : List (Addr × HO)} {H0 H : Hp} {R : Hp → Prop} {E : XK} {C : Addr}
theorem pipe_step {x dx : Addr} {nm st e : Str} (h : Has H0 a n L H) (h1 : IsNm nm) (h2 : IsNm st) (h3 : IsNm e) (hne : e ≠ st) (hx : H x = none) (hd : H dx = none) (_ : dx ≠ x) (k : ∀ dx' H', Has H0 a n ((x, .ins C dx' (pipeF nm st e)) :: L) H' → R H') :
    Irr (sp_Pipe C) [.ref x, .str nm, .str st, .str e] (upd (upd H dx (.own x)) x (.ins C dx [])) (fun v H2 => v = .non ∧ R H2) E := by
  refine irr ⟨x, dx, nm, st, e, rfl, upd_same, h1, h2, h3, hne, fun H' g p => ⟨rfl, ?_⟩⟩
  obtain ⟨dx', p⟩ := p
  refine k dx' H' ?_
  have xa := h.ne hx
  have keep : ∀ b o, b ≠ x → H b = some o → H' b = some o := fun b o hb e => g b o hb (by rw [upd_ne hb, upd_ne (ne_of_none e hd)]; exact e)
  obtain ⟨g0, ⟨u, v, w, ew, r⟩, kk⟩ := id h
  refine ⟨fun b o hb eb => keep b o (ne_of_none eb (h.none0 hx)) (g0 b o hb eb), ⟨u, v, w, keep _ _ xa.symm ew, r⟩, fun q hq => ?_⟩
  rcases List.mem_cons.mp hq with rfl | hq
  · exact ⟨xa, p⟩
  · exact ⟨(kk q hq).1, keep _ _ (ne_of_none (kk q hq).2 hx) (kk q hq).2⟩
theorem met_step {x dx : Addr} {nm t : Str} {z : Bool} (h : Has H0 a n L H) (h1 : IsNm nm) (h2 : IsNm t) (hx : H x = none) (hd : H dx = none) (_ : dx ≠ x) (k : ∀ dx' H', Has H0 a n ((x, .ins C dx' (metF nm t z)) :: L) H' → R H') :
    Irr (sp_Meter C) [.ref x, .str nm, .str t, .bl z] (upd (upd H dx (.own x)) x (.ins C dx [])) (fun v H2 => v = .non ∧ R H2) E := by
  refine irr ⟨x, dx, nm, t, z, rfl, upd_same, h1, h2, fun H' g p => ⟨rfl, ?_⟩⟩
  obtain ⟨dx', p⟩ := p
  refine k dx' H' ?_
  have xa := h.ne hx
  have keep : ∀ b o, b ≠ x → H b = some o → H' b = some o := fun b o hb e => g b o hb (by rw [upd_ne hb, upd_ne (ne_of_none e hd)]; exact e)
  obtain ⟨g0, ⟨u, v, w, ew, r⟩, kk⟩ := id h
  refine ⟨fun b o hb eb => keep b o (ne_of_none eb (h.none0 hx)) (g0 b o hb eb), ⟨u, v, w, keep _ _ xa.symm ew, r⟩, fun q hq => ?_⟩
  rcases List.mem_cons.mp hq with rfl | hq
  · exact ⟨xa, p⟩
  · exact ⟨(kk q hq).1, keep _ _ (ne_of_none (kk q hq).2 hx) (kk q hq).2⟩
end
/-- how the kinds stand to one another -/
structure Kinds (K : PySem.W.Frag) (CP CM : Addr) : Prop where
  pt : PySem.W.notFirst K CP (.type "tuple") = true
  ps : PySem.W.notFirst K CP (.type "str") = true
  pn : PySem.W.notFirst K CP (.type "NoneType") = true
  pm : PySem.W.notFirst K CP (.ref CM) = true
  mt : PySem.W.notFirst K CM (.type "tuple") = true
  ms : PySem.W.notFirst K CM (.type "str") = true
  mp : PySem.W.notFirst K CM (.ref CP) = true
  ipt : PySem.W.kitOne K (.type "tuple") (.ref CP) = some false
  ips : PySem.W.kitOne K (.type "str") (.ref CP) = some false
  ipn : PySem.W.kitOne K (.type "NoneType") (.ref CP) = some false
  ipm : PySem.W.kitOne K (.ref CM) (.ref CP) = some false
  imt : PySem.W.kitOne K (.type "tuple") (.ref CM) = some false
  ims : PySem.W.kitOne K (.type "str") (.ref CM) = some false
  imp : PySem.W.kitOne K (.ref CP) (.ref CM) = some false
  bp : PySem.W.findIn K (.ref CP) "__bool__" = some none
  lp : PySem.W.findIn K (.ref CP) "__len__" = some none
  bm : PySem.W.findIn K (.ref CM) "__bool__" = some none
  lm : PySem.W.findIn K (.ref CM) "__len__" = some none
theorem nf_self (K : PySem.W.Frag) (C : Addr) : PySem.W.notFirst K C (.ref C) = true := by simp [PySem.W.notFirst]
theorem slen_app (x y : Str) : (x ++ y).length = x.length + y.length := by
  rw [cd_len, cd_app, List.length_append, ← cd_len, ← cd_len]
theorem slen_nm {x : Str} (h : IsNm x) : x.length ≤ 8 := by
  rw [cd_len]
  exact (isNm_len h).2
theorem bnot_if (neg : Bool) : (if neg then !false else false) = neg := by cases neg <;> rfl
section
variable {K : PySem.W.Frag} {C x d : Addr} {n s e n' s' e' : Str} {z z' : Bool} {H : Hp} {Q : VK} {neg : Bool} {y : V} {t : Value}
theorem eq_pipe {b db : Addr} (ha : H x = some (.ins C d (pipeF n s e))) (hb : H b = some (.ins C db (pipeF n' s' e'))) (r : Bool) (hr : decide (n = n' ∧ s = s' ∧ e = e') = r) (q : Q (.bl (if neg then !r else r)) H) : rEqO neg K C (sp_Peq K C) (.ref x) (.ref b) H Q := by
  unfold rEqO
  exact ⟨x, d, _, .ref C, rfl, ha, .ins hb, nf_self _ _, x, _, n, s, e, rfl, ⟨d, ha⟩, .inl ⟨b, n', s', e', rfl, ⟨db, hb⟩, r, congrArg V.bl hr, q⟩⟩
theorem eq_pother (ha : H x = some (.ins C d (pipeF n s e))) (ty : TyL H y t) (nf : PySem.W.notFirst K C t = true) (tx : TyX K H y t) (kt : PySem.W.kitOne K t (.ref C) = some false) (q : Q (.bl neg) H) : rEqO neg K C (sp_Peq K C) (.ref x) y H Q := by
  unfold rEqO
  exact ⟨x, d, _, t, rfl, ha, ty, nf, x, _, n, s, e, rfl, ⟨d, ha⟩, .inr ⟨t, tx, kt, false, rfl, by rw [bnot_if]; exact q⟩⟩
theorem eq_met {b db : Addr} (ha : H x = some (.ins C d (metF n s z))) (hb : H b = some (.ins C db (metF n' s' z'))) (r : Bool) (hr : decide (n = n' ∧ s = s' ∧ z = z') = r) (q : Q (.bl (if neg then !r else r)) H) : rEqO neg K C (sp_Meq K C) (.ref x) (.ref b) H Q := by
  unfold rEqO
  exact ⟨x, d, _, .ref C, rfl, ha, .ins hb, nf_self _ _, x, _, n, s, z, rfl, ⟨d, ha⟩, .inl ⟨b, n', s', z', rfl, ⟨db, hb⟩, r, congrArg V.bl hr, q⟩⟩
theorem eq_mother (ha : H x = some (.ins C d (metF n s z))) (ty : TyL H y t) (nf : PySem.W.notFirst K C t = true) (tx : TyX K H y t) (kt : PySem.W.kitOne K t (.ref C) = some false) (q : Q (.bl neg) H) : rEqO neg K C (sp_Meq K C) (.ref x) y H Q := by
  unfold rEqO
  exact ⟨x, d, _, t, rfl, ha, ty, nf, x, _, n, s, z, rfl, ⟨d, ha⟩, .inr ⟨t, tx, kt, false, rfl, by rw [bnot_if]; exact q⟩⟩
end
/-- [mine == other for other in others], none of them equal (and with !=) -/
theorem others_step {K : PySem.W.Frag} {H0 H : Hp} {a D l : Addr} {n : Nat} {L : List (Addr × HO)} {ys : List V} {x : V} {C : Addr} {sp : Sp} {neg : Bool} {i : Nat} {σ : L2.St} {tx : TE} {Qd : Hp → Prop} (h : Has H0 a n L H) (nD : H D = none) (hl : (l, HO.lst ys) ∈ L) (hy : ys.length ≤ 1000)
    (hx : ∀ (y : V) (H' : Hp) (Q : VK), Q x H' → tx (σ.set i (some y)) H' Q)
    (oth : ∀ y ∈ ys, ∀ (H' : Hp) (Q : VK), Has H0 a n L H' → Q (.bl neg) H' → rEqO neg K C sp x y H' Q) (hi : i < σ.length) (hw : wipe σ [i] = σ)
    (hd : ∀ H', Has H0 a n L H' → H' D = some (.lst ((List.replicate ys.length neg).map V.bl)) → Qd H') :
    ∃ W : Nat → Nat → Hp → Prop, (∃ m, W 0 m (upd H D (.lst []))) ∧ ∀ j m H, W j m H →
      ((Itl K l).stop j H ∧ Qd H) ∨ ((Itl K l).go j H ∧ ∃ Nx : Hp → Prop, (∀ H', Nx H' → ∃ m', m' < m ∧ W (j + 1) m' H') ∧ ∀ v H', (Itl K l).yld j H v H' → gName i v (wipe σ [i]) H' fun σ2 H2 => wipe σ2 [i] = wipe σ [i] ∧ tYes σ2 H2 fun b H3 =>
        if b = true then tOp (rEqO neg K C sp) tx (tVar i) σ2 H3 fun y H4 => ∃ acc, H4 D = some (.lst acc) ∧ acc.length < sizeLine ∧ Nx (upd H4 D (.lst (acc ++ [y]))) else Nx H3) := by
  have n0 := h.none0 nD
  have nL := h.free nD
  have nA := h.ne nD
  refine lc_list (K := K) (a := l) (xs := ys) (fun j H' => Has H0 a n L H' ∧ H' D = some (.lst ((List.replicate j neg).map V.bl))) ⟨h.put n0 nL nA, upd_same⟩ (fun _ _ _ p => SqL.of (p.1.at hl)) ?_ ?_
  · rintro j y H' hj ⟨h', hD⟩
    rw [hw]
    have hjl : j < ys.length := (List.getElem?_eq_some_iff.mp hj).1
    refine ⟨?_, hx y H' _ ⟨y, ?_, oth y (List.mem_of_getElem? hj) H' _ h' ⟨_, hD, ?_, h'.put n0 nL nA, ?_⟩⟩⟩
    · show (σ.set i (some y)).set i none = σ
      rw [List.set_set]
      exact hw
    · show (σ.set i (some y))[i]? = _
      rw [List.getElem?_set_self hi]
    · rw [List.length_map, List.length_replicate]
      exact Nat.lt_of_lt_of_le (show j < 1001 by omega) (by decide)
    · rw [upd_same, List.replicate_succ', List.map_append]
      rfl
  · rintro H' ⟨h', hD⟩
    exact hd H' h' hD
def sp_right : Sp := fun vs H Q _ => ∃ (a : Addr) (n : Nat), vs = [.ref a] ∧ WellAt H a n ∧ n < 700000 ∧ ∀ H', Grow a H H' → WellAt H' a (n + 100) → Q (.bl true) H'
def gP (vs zs : List V) : List V := match vs, zs with
  | [x], [e, s, n] => [x, n, s, e]
  | _, _ => []
section
variable {P : Program} {w : World} {K : PySem.W.Frag} {mg : Str → Option Value} {base : Heap}
abbrev s_pipe_right : Stmt := top 19
abbrev sc_pipe_right_N : List Str := ["_law_well_here", "_law_one", "_law_two", "_law_three", "_law_mine", "_law_mate", "_law_more", "_law_others", "_law_other"]
theorem sc_pipe_right : FnScope sc_pipe_right_N ["_law_well_here"] (defScope s_pipe_right) := ⟨rfl, rfl, rfl, by decide +kernel, rfl, by decide +kernel, by decide +kernel⟩
theorem ok_pipe_right {f CP CM : Addr} {fd : FuncData} (F : Fun K "_law_pipe_right" "_law_pipe_right" s_pipe_right f fd) (T : Blt mg) (PC : PClass K mg CP) (MC : MClass K mg CM) (KI : Kinds K CP CM)
    (h_name : Fn P w K mg base "_law_name" 2 ["_law_well_here"] (Irr sp_name)) (h_fresh : Fn P w K mg base "_law_fresh" 3 ["_law_well_here", "_law_taken"] (Irr sp_fresh))
    (h_Pipe : Mkr P w K mg base "Pipe" CP 3 (Irr (sp_Pipe CP)) []) (h_PipeK : MkrK P w K mg base "Pipe" CP 3 0 ["end", "start", "name"] (Irr (sp_Pipe CP)) gP) (h_Meter : Mkr P w K mg base "Meter" CM 3 (Irr (sp_Meter CM)) [.bl false])
    (h_n : Prp P w K mg base CP "name" 1 (getSp CP "_name")) (h_s : Prp P w K mg base CP "start" 1 (getSp CP "_start")) (h_e : Prp P w K mg base CP "end" 1 (getSp CP "_end"))
    (o_P : OwnEq P w K mg base CP 1 (sp_Peq K CP)) : FnG P w K mg base 5 f fd ["_law_well_here"] sp_right := by
  refine gFun F sc_pipe_right (fun vs H Q E h => ?_) (fun cdv A outer s H vs Q E gs hr h => ?_)
  · obtain ⟨_, _, rfl, _⟩ := h
    rfl
  · obtain ⟨a, n, rfl, wl, hn, k⟩ := h
    refine ⟨_, (pss_cons (ps_par (i := 1) (j := 2) (by rfl) sc_pipe_right.nd rfl rfl (by decide) rfl rfl (pa_cons (pe_fn h_name (hr.mono (by decide)) (pa_cons (pv 0) pa_nil)) (pa_cons (pe_fn h_name (hr.mono (by decide)) (pa_cons (pv 0) pa_nil)) pa_nil)) (by rfl))
      (pss_cons (ps_set (i := 3) sc_pipe_right.nd rfl (Or.inl rfl) (pe_fn h_fresh (hr.mono (by decide)) (pa_cons (pv 0) (pa_cons (pe_lst (pa_cons (pv 2) pa_nil)) pa_nil))))
      (pss_cons (ps_asg (pe_tup (pa_cons (pe_mk h_Pipe hr (pa_cons (pv 1) (pa_cons (pv 2) (pa_cons (pv 3) pa_nil)))) (pa_cons (pe_mkK0 h_PipeK hr (pk_cons (pv 3) (pk_cons (pv 2) (pk_cons (pv 1) pk_nil)))) pa_nil))) (pg_tup (by rfl) (pgs_cons (pg_name (i := 4) sc_pipe_right.nd rfl (Or.inr rfl)) (pgs_cons (pg_name (i := 5) sc_pipe_right.nd rfl (Or.inl rfl)) pgs_nil))))
      (pss_cons (ps_if (PW.pt (pw_or (pt_cmpR op_ne (pe_callB (call_reprD hr.units gs) (by rfl) T.b_repr (by decide +kernel) (pa_cons (pe_lst (pa_cons (pe_propN h_n (hr.mono (by decide)) (pv 4)) (pa_cons (pe_propN h_s (hr.mono (by decide)) (pv 4)) (pa_cons (pe_propN h_e (hr.mono (by decide)) (pv 4)) pa_nil)))) pa_nil)) (pe_callB (call_reprD hr.units gs) (by rfl) T.b_repr (by decide +kernel) (pa_cons (pe_lst (pa_cons (pv 1) (pa_cons (pv 2) (pa_cons (pv 3) pa_nil)))) pa_nil)) (nomark _)) (pw_or1 (pt_not (pt_obj KI.bp KI.lp (pv 4)))))) (pss_one (ps_ret pe_bl)) pss_nil)
      (pss_cons (ps_if (PW.pt (pw_or (pt_cmpR op_ne (pe_callB (call_reprD hr.units gs) (by rfl) T.b_repr (by decide +kernel) (pa_cons (pe_lst (pa_cons (pe_propN h_n (hr.mono (by decide)) (pv 5)) (pa_cons (pe_propN h_s (hr.mono (by decide)) (pv 5)) (pa_cons (pe_propN h_e (hr.mono (by decide)) (pv 5)) pa_nil)))) pa_nil)) (pe_callB (call_reprD hr.units gs) (by rfl) T.b_repr (by decide +kernel) (pa_cons (pe_lst (pa_cons (pv 1) (pa_cons (pv 2) (pa_cons (pv 3) pa_nil)))) pa_nil)) (nomark _)) (pw_or (pt_not (pt_cmpR (op_eqOK o_P (hr.mono (by decide))) (pv 4) (pv 5) (nomark _))) (pw_or1 (pt_cmpR (op_neOK o_P (hr.mono (by decide))) (pv 4) (pv 5) (nomark _)))))) (pss_one (ps_ret pe_bl)) pss_nil)
      (pss_cons (ps_set (i := 6) sc_pipe_right.nd rfl (Or.inl rfl) (pe_lst (pa_cons (pe_fn h_fresh (hr.mono (by decide)) (pa_cons (pv 0) (pa_cons (pe_lst (pa_cons (pv 1) pa_nil)) pa_nil))) (pa_cons (pe_fn h_fresh (hr.mono (by decide)) (pa_cons (pv 0) (pa_cons (pe_lst (pa_cons (pv 2) (pa_cons (pv 3) pa_nil))) pa_nil))) pa_nil))))
      (pss_cons (ps_set (i := 7) sc_pipe_right.nd rfl (Or.inl rfl) (pe_lst (pa_cons (pe_mk h_Pipe hr (pa_cons (pe_ix ix_list (pv 6) pe_int (fun _ _ => rfl)) (pa_cons (pv 2) (pa_cons (pv 3) pa_nil)))) (pa_cons (pe_mk h_Pipe hr (pa_cons (pv 1) (pa_cons (pe_ix ix_list (pv 6) pe_int (fun _ _ => rfl)) (pa_cons (pv 3) pa_nil)))) (pa_cons (pe_mk h_Pipe hr (pa_cons (pv 1) (pa_cons (pv 2) (pa_cons (pe_ix ix_list (pv 6) pe_int (fun _ _ => rfl)) pa_nil)))) (pa_cons (pe_mk h_Pipe hr (pa_cons (pv 1) (pa_cons (pv 3) (pa_cons (pv 2) pa_nil)))) pa_nil))))))
      (pss_cons (ps_set (i := 7) sc_pipe_right.nd rfl (Or.inl rfl) (pe_op op_cat (pv 7) (pe_lst (pa_cons (pe_tup (pa_cons (pv 1) (pa_cons (pv 2) (pa_cons (pv 3) pa_nil)))) (pa_cons (pe_mk h_Meter hr (pa_cons (pv 1) (pa_cons (pv 2) pa_nil))) (pa_cons (pe_op op_add_str (pe_op op_add_str (pe_op op_add_str (pe_op op_add_str (pe_op op_add_str pe_str (pv 1)) pe_str) (pv 2)) pe_str) (pv 3)) (pa_cons pe_non pa_nil)))))))
      (pss_one (ps_ret (pe_and (pe_not (pe_callB (cr_any rfl) (by rfl) T.b_any (by decide +kernel) (pa_cons (pe_lc (own := [("_law_other", 8)]) (g := gName 8) (tt := tYes) rfl sc_pipe_right.nd (pi_list (pv 7)) (blkOk_by (N := sc_pipe_right_N) (sc := defScope s_pipe_right) (by decide +kernel)) (fun _ _ _ _ _ => pg_name (i := 8) sc_pipe_right.nd rfl (Or.inl rfl)) (fun _ _ _ _ _ => pts_nil) (fun _ _ _ _ _ => (pe_cmpR (op_eqOK o_P (hr.mono (by decide))) (pv 4) (pv 8) (nomark _)))) pa_nil))) (pe_one (pe_callB (cr_all rfl) (by rfl) T.b_all (by decide +kernel) (pa_cons (pe_lc (own := [("_law_other", 8)]) (g := gName 8) (tt := tYes) rfl sc_pipe_right.nd (pi_list (pv 7)) (blkOk_by (N := sc_pipe_right_N) (sc := defScope s_pipe_right) (by decide +kernel)) (fun _ _ _ _ _ => pg_name (i := 8) sc_pipe_right.nd rfl (Or.inl rfl)) (fun _ _ _ _ _ => pts_nil) (fun _ _ _ _ _ => (pe_cmpR (op_neOK o_P (hr.mono (by decide))) (pv 4) (pv 8) (nomark _)))) pa_nil)))))))))))))), ?_⟩
    have h0 := Has.start wl
    refine ⟨_, rfl, name_step h0 (by omega) fun one H1 n1 h1 => ⟨_, rfl, name_step h1 (by omega) fun two H2 n2 h2 => ⟨_, _, rfl, ?_⟩⟩⟩
    refine ⟨_, rfl, _, rfl, (by show 1 ≤ sizeLine; decide), fun p3 np3 => fresh_step (xs := [two]) (h2.new np3) (by omega) (List.Mem.head _) ?_ (by simp) fun three H4 n4 i4 h4 => ?_⟩
    · intro x hx
      simp only [List.mem_singleton] at hx
      exact hx ▸ n2
    have ne3 : three ≠ two := fun e => i4 (e ▸ List.Mem.head _)
    -- mine, mate
    refine ⟨_, rfl, _, rfl, _, rfl, fun x5 d5 hx5 hd5 hxd5 => pipe_step h4 n1 n2 n4 ne3 hx5 hd5 hxd5 fun d5 H5 h5 => ?_⟩
    refine ⟨_, rfl, _, rfl, _, rfl, rfl, rfl, fun x6 d6 hx6 hd6 hxd6 => pipe_step h5 n1 n2 n4 ne3 hx6 hd6 hxd6 fun d6 H6 h6 => ?_⟩
    refine ⟨(by show 2 ≤ sizeLine; decide), fun p7 np7 => ?_⟩
    have h7 := h6.new (o := .tup [.ref x5, .ref x6]) np7
    have e7 := h7.at (p := p7) (o := .tup [.ref x5, .ref x6]) (by walk_at "mem")
    have m7 := h7.at (p := x5) (o := .ins CP d5 (pipeF one two three)) (by walk_at "mem")
    have t7 := h7.at (p := x6) (o := .ins CP d6 (pipeF one two three)) (by walk_at "mem")
    refine ⟨p7, _, rfl, SqT.of e7, rfl, _, _, rfl, _, _, rfl, rfl, ?_⟩
    revert h7 e7 m7 t7
    generalize upd H6 p7 (.tup [.ref x5, .ref x6]) = H7
    intro h7 e7 m7 t7
    -- what repr tells
    have ds : DpAll K H7 [.str one, .str two, .str three] [.str one, .str two, .str three] := .cons (.str _) (.cons (.str _) (.cons (.str _) .nil))
    refine ⟨_, rfl, x5, d5, _, rfl, m7, x5, d5, _, _, rfl, m7, pipeF_n _ _ _, _, rfl, x5, d5, _, rfl, m7, x5, d5, _, _, rfl, m7, pipeF_s _ _ _, _, rfl, x5, d5, _, rfl, m7, x5, d5, _, _, rfl, m7, pipeF_e _ _ _, (by show 3 ≤ sizeLine; decide), fun p8 np8 => ?_⟩
    have sh : ∀ d ∈ [PyData.str one, .str two, .str three], Short d := by
      intro d hd
      simp only [List.mem_cons, List.not_mem_nil, or_false] at hd
      rcases hd with rfl | rfl | rfl
      · exact short_nm n1
      · exact short_nm n2
      · exact short_nm n4
    have dsa : ∀ H', DpAll K H' [.str one, .str two, .str three] [.str one, .str two, .str three] := fun H' => .cons (.str _) (.cons (.str _) (.cons (.str _) .nil))
    have h8 := h7.new (o := .lst [.str one, .str two, .str three]) np8
    refine repr_step upd_same (dsa _) sh (by simp) ⟨_, rfl, _, rfl, _, rfl, (by show 3 ≤ sizeLine; decide), fun p9 np9 => repr_step upd_same (dsa _) sh (by simp) ⟨rfl, _, rfl, iteNS rfl ?_⟩⟩
    have h9 := h8.new (o := .lst [.str one, .str two, .str three]) np9
    have m9 := h9.at (p := x5) (o := .ins CP d5 (pipeF one two three)) (by walk_at "mem")
    have t9 := h9.at (p := x6) (o := .ins CP d6 (pipeF one two three)) (by walk_at "mem")
    refine ⟨_, rfl, x5, d5, _, rfl, m9, iteF ?_⟩
    -- the mate
    refine ⟨_, rfl, x6, d6, _, rfl, t9, x6, d6, _, _, rfl, t9, pipeF_n _ _ _, _, rfl, x6, d6, _, rfl, t9, x6, d6, _, _, rfl, t9, pipeF_s _ _ _, _, rfl, x6, d6, _, rfl, t9, x6, d6, _, _, rfl, t9, pipeF_e _ _ _, (by show 3 ≤ sizeLine; decide), fun p10 np10 => ?_⟩
    have h10 := h9.new (o := .lst [.str one, .str two, .str three]) np10
    refine repr_step upd_same (dsa _) sh (by simp) ⟨_, rfl, _, rfl, _, rfl, (by show 3 ≤ sizeLine; decide), fun p11 np11 => repr_step upd_same (dsa _) sh (by simp) ⟨rfl, _, rfl, iteNS rfl ?_⟩⟩
    have h11 := h10.new (o := .lst [.str one, .str two, .str three]) np11
    have m11 := h11.at (p := x5) (o := .ins CP d5 (pipeF one two three)) (by walk_at "mem")
    have t11 := h11.at (p := x6) (o := .ins CP d6 (pipeF one two three)) (by walk_at "mem")
    refine ⟨_, rfl, _, rfl, eq_pipe m11 t11 true (by simp) ⟨true, rfl, iteF ⟨_, rfl, _, rfl, eq_pipe m11 t11 true (by simp) ⟨false, rfl, iteF ?_⟩⟩⟩⟩
    -- more
    refine ⟨_, rfl, _, rfl, (by show 1 ≤ sizeLine; decide), fun p12 np12 => fresh_step (xs := [one]) (h11.new np12) (by omega) (List.Mem.head _) ?_ (by simp) fun mo H12 nmo imo h12 => ?_⟩
    · intro x hx
      simp only [List.mem_singleton] at hx
      exact hx ▸ n1
    refine ⟨_, rfl, _, rfl, _, rfl, (by show 2 ≤ sizeLine; decide), fun p13 np13 => fresh_step (xs := [two, three]) (h12.new np13) (by omega) (List.Mem.head _) ?_ (by simp) fun mp H13 nmp imp h13 => ?_⟩
    · intro x hx
      simp only [List.mem_cons, List.not_mem_nil, or_false] at hx
      rcases hx with rfl | rfl
      · exact n2
      · exact n4
    have nmo1 : mo ≠ one := fun e => imo (e ▸ List.Mem.head _)
    have nmp2 : mp ≠ two := fun e => imp (e ▸ List.Mem.head _)
    have nmp3 : mp ≠ three := fun e => imp (e ▸ .tail _ (List.Mem.head _))
    refine ⟨(by show 2 ≤ sizeLine; decide), fun p14 np14 => ?_⟩
    have h14 := h13.new (o := .lst [.str mo, .str mp]) np14
    revert h14
    generalize upd H13 p14 (.lst [.str mo, .str mp]) = H14
    intro h14
    -- others
    have e14 := h14.at (p := p14) (o := .lst [.str mo, .str mp]) (by walk_at "mem")
    refine ⟨_, rfl, p14, _, 0, _, rfl, rfl, SqL.of e14, atI_nat (j := 0) rfl, _, rfl, _, rfl, fun x15 d15 hx15 hd15 hxd15 => pipe_step h14 nmo n2 n4 ne3 hx15 hd15 hxd15 fun d15 H15 h15 => ?_⟩
    have e15 := h15.at (p := p14) (o := .lst [.str mo, .str mp]) (by walk_at "mem")
    refine ⟨_, rfl, _, rfl, p14, _, 1, _, rfl, rfl, SqL.of e15, atI_nat (j := 1) rfl, _, rfl, fun x16 d16 hx16 hd16 hxd16 => pipe_step h15 n1 nmp n4 (Ne.symm nmp3) hx16 hd16 hxd16 fun d16 H16 h16 => ?_⟩
    have e16 := h16.at (p := p14) (o := .lst [.str mo, .str mp]) (by walk_at "mem")
    refine ⟨_, rfl, _, rfl, _, rfl, p14, _, 1, _, rfl, rfl, SqL.of e16, atI_nat (j := 1) rfl, fun x17 d17 hx17 hd17 hxd17 => pipe_step h16 n1 n2 nmp nmp2 hx17 hd17 hxd17 fun d17 H17 h17 => ?_⟩
    refine ⟨_, rfl, _, rfl, _, rfl, fun x18 d18 hx18 hd18 hxd18 => pipe_step h17 n1 n4 n2 (Ne.symm ne3) hx18 hd18 hxd18 fun d18 H18 h18 => ?_⟩
    refine ⟨(by show 4 ≤ sizeLine; decide), fun p19 np19 => ?_⟩
    have h19 := h18.new (o := .lst [.ref x15, .ref x16, .ref x17, .ref x18]) np19
    revert h19
    generalize upd H18 p19 (.lst [.ref x15, .ref x16, .ref x17, .ref x18]) = H19
    intro h19
    have l1 := slen_nm n1
    have l2 := slen_nm n2
    have l4 := slen_nm n4
    refine ⟨_, rfl, _, rfl, _, rfl, _, rfl, (by show 3 ≤ sizeLine; decide), fun p20 np20 => ?_⟩
    have h20 := h19.new (o := .tup [.str one, .str two, .str three]) np20
    refine ⟨_, rfl, _, rfl, fun x21 d21 hx21 hd21 hxd21 => met_step h20 n1 n2 hx21 hd21 hxd21 fun d21 H21 h21 => ?_⟩
    have lp : Str.length ("pipe " : Str) = 5 := by decide +kernel
    have ls : Str.length (" " : Str) = 1 := by decide +kernel
    refine ⟨_, rfl, _, _, rfl, rfl, szn (by rw [lp]; omega), _, _, rfl, rfl, szn (by rw [slen_app, lp, ls]; omega), _, rfl, _, _, rfl, rfl, szn (by rw [slen_app, slen_app, lp, ls]; omega), _, _, rfl, rfl, szn (by rw [slen_app, slen_app, slen_app, lp, ls]; omega),
      _, rfl, _, _, rfl, rfl, szn (by rw [slen_app, slen_app, slen_app, slen_app, lp, ls]; omega), (by show 4 ≤ sizeLine; decide), fun p22 np22 => ?_⟩
    generalize ((((("pipe " : Str) ++ one ++ " ") ++ two) ++ " ") ++ three : Str) = txt at np22 ⊢
    have h22 := h21.new (o := .lst [.ref p20, .ref x21, .str txt, .non]) np22
    have e19 := h22.at (p := p19) (o := .lst [.ref x15, .ref x16, .ref x17, .ref x18]) (by walk_at "mem")
    refine ⟨p19, p22, _, _, rfl, rfl, e19, upd_same, (by show 4 + 4 ≤ sizeLine; decide), fun p23 np23 => ?_⟩
    have h23 := h22.new (o := .lst ([.ref x15, .ref x16, .ref x17, .ref x18] ++ [.ref p20, .ref x21, .str txt, .non])) np23
    revert h23
    generalize hH : upd (upd H21 p22 (.lst [.ref p20, .ref x21, .str txt, .non])) p23 (.lst ([.ref x15, .ref x16, .ref x17, .ref x18] ++ [.ref p20, .ref x21, .str txt, .non])) = H23
    intro h23
    have hz : Has H a (n + 59) [(p23, .lst [.ref x15, .ref x16, .ref x17, .ref x18, .ref p20, .ref x21, .str txt, .non]), (x5, .ins CP d5 (pipeF one two three)), (x15, .ins CP d15 (pipeF mo two three)), (x16, .ins CP d16 (pipeF one mp three)),
        (x17, .ins CP d17 (pipeF one two mp)), (x18, .ins CP d18 (pipeF one three two)), (p20, .tup [.str one, .str two, .str three]), (x21, .ins CM d21 (metF one two false))] H23 := by
      refine h23.sub fun q hq => ?_
      simp only [List.mem_cons, List.not_mem_nil, or_false] at hq
      rcases hq with rfl | rfl | rfl | rfl | rfl | rfl | rfl | rfl <;> walk_at "mem"
    clear h0 h1 h2 h4 h5 h6 h7 h8 h9 h10 h11 h12 h13 h14 h15 h16 h17 h18 h19 h20 h21 h22 h23
    have oth : ∀ neg : Bool, ∀ y ∈ [V.ref x15, .ref x16, .ref x17, .ref x18, .ref p20, .ref x21, .str txt, .non], ∀ (H' : Hp) (Q : VK), Has H a (n + 59) [(p23, .lst [.ref x15, .ref x16, .ref x17, .ref x18, .ref p20, .ref x21, .str txt, .non]), (x5, .ins CP d5 (pipeF one two three)), (x15, .ins CP d15 (pipeF mo two three)), (x16, .ins CP d16 (pipeF one mp three)),
        (x17, .ins CP d17 (pipeF one two mp)), (x18, .ins CP d18 (pipeF one three two)), (p20, .tup [.str one, .str two, .str three]), (x21, .ins CM d21 (metF one two false))] H' → Q (.bl neg) H' → rEqO neg K CP (sp_Peq K CP) (.ref x5) y H' Q := by
      intro neg y hy H' Q' h' q
      have m := h'.at (p := x5) (o := .ins CP d5 (pipeF one two three)) (by walk_at "mem")
      have a1 := h'.at (p := x15) (o := .ins CP d15 (pipeF mo two three)) (by walk_at "mem")
      have a2 := h'.at (p := x16) (o := .ins CP d16 (pipeF one mp three)) (by walk_at "mem")
      have a3 := h'.at (p := x17) (o := .ins CP d17 (pipeF one two mp)) (by walk_at "mem")
      have a4 := h'.at (p := x18) (o := .ins CP d18 (pipeF one three two)) (by walk_at "mem")
      have a5 := h'.at (p := p20) (o := .tup [.str one, .str two, .str three]) (by walk_at "mem")
      have a6 := h'.at (p := x21) (o := .ins CM d21 (metF one two false)) (by walk_at "mem")
      simp only [List.mem_cons, List.not_mem_nil, or_false] at hy
      rcases hy with rfl | rfl | rfl | rfl | rfl | rfl | rfl | rfl
      · exact eq_pipe m a1 false (decide_eq_false fun z => nmo1 z.1.symm) (by rw [bnot_if]; exact q)
      · exact eq_pipe m a2 false (decide_eq_false fun z => nmp2 z.2.1.symm) (by rw [bnot_if]; exact q)
      · exact eq_pipe m a3 false (decide_eq_false fun z => nmp3 z.2.2.symm) (by rw [bnot_if]; exact q)
      · exact eq_pipe m a4 false (decide_eq_false fun z => ne3 z.2.1.symm) (by rw [bnot_if]; exact q)
      · exact eq_pother m (.tup a5) KI.pt (.base (.tup a5)) KI.ipt q
      · exact eq_pother m (.ins a6) KI.pm (MC.x.ty a6) KI.ipm q
      · exact eq_pother m (.str _) KI.ps (.base (.str _)) KI.ips q
      · exact eq_pother m .non KI.pn (.base .non) KI.ipn q
    have e23 := hz.at (p := p23) (o := .lst [.ref x15, .ref x16, .ref x17, .ref x18, .ref p20, .ref x21, .str txt, .non]) (by walk_at "mem")
    refine ⟨_, rfl, p23, rfl, ⟨_, SqL.of e23⟩, fun D nD => others_step hz nD (List.Mem.head _) (by simp) (fun y H' Q q => ⟨_, rfl, q⟩) (oth false) (by show 8 < 9; decide) rfl fun H24 h24 eD => ?_⟩
    refine ⟨D, _, rfl, SqL.of eD, false, rfl, true, rfl, iteT ?_⟩
    have e24 := h24.at (p := p23) (o := .lst [.ref x15, .ref x16, .ref x17, .ref x18, .ref p20, .ref x21, .str txt, .non]) (by walk_at "mem")
    refine ⟨_, rfl, p23, rfl, ⟨_, SqL.of e24⟩, fun D2 nD2 => others_step h24 nD2 (List.Mem.head _) (by simp) (fun y H' Q q => ⟨_, rfl, q⟩) (oth true) (by show 8 < 9; decide) rfl fun H25 h25 eD2 => ?_⟩
    exact ⟨D2, _, rfl, SqL.of eD2, k H25 h25.gr (h25.well.mono (by omega))⟩
end
end RV
namespace RV
open PySem L2
local macro_rules | `(tactic| walk_at "mem") => `(tactic| repeat (first | exact List.Mem.head _ | refine List.Mem.tail _ ?_))
def gM2 (vs zs : List V) : List V := match vs, zs with
  | [x, n, a], [z] => [x, n, a, z]
  | _, _ => []
def gM0 (vs zs : List V) : List V := match vs, zs with
  | [x], [a, z, n] => [x, n, a, z]
  | _, _ => []
section
variable {P : Program} {w : World} {K : PySem.W.Frag} {mg : Str → Option Value} {base : Heap}
abbrev s_meter_right : Stmt := top 20
abbrev sc_meter_right_N : List Str := ["_law_well_here", "_law_one", "_law_two", "_law_shut", "_law_mine", "_law_mate", "_law_each", "_law_plain", "_law_others", "_law_other"]
theorem sc_meter_right : FnScope sc_meter_right_N ["_law_well_here"] (defScope s_meter_right) := ⟨rfl, rfl, rfl, by decide +kernel, rfl, by decide +kernel, by decide +kernel⟩
theorem ok_meter_right {f CP CM : Addr} {fd : FuncData} (F : Fun K "_law_meter_right" "_law_meter_right" s_meter_right f fd) (T : Blt mg) (PC : PClass K mg CP) (KI : Kinds K CP CM)
    (h_dip : Fn P w K mg base "_law_dip" 1 ["_law_well_here", "_law_many"] (Irr sp_dip)) (h_name : Fn P w K mg base "_law_name" 2 ["_law_well_here"] (Irr sp_name)) (h_fresh : Fn P w K mg base "_law_fresh" 3 ["_law_well_here", "_law_taken"] (Irr sp_fresh))
    (h_Pipe : Mkr P w K mg base "Pipe" CP 3 (Irr (sp_Pipe CP)) []) (h_Meter : Mkr P w K mg base "Meter" CM 3 (Irr (sp_Meter CM)) [.bl false])
    (h_MeterK2 : MkrK P w K mg base "Meter" CM 3 2 ["sealed"] (Irr (sp_Meter CM)) gM2) (h_MeterK0 : MkrK P w K mg base "Meter" CM 3 0 ["at", "sealed", "name"] (Irr (sp_Meter CM)) gM0)
    (h_n : Prp P w K mg base CM "name" 1 (getSp CM "_name")) (h_a : Prp P w K mg base CM "at" 1 (getSp CM "_at")) (h_z : Prp P w K mg base CM "sealed" 1 (getSp CM "_sealed"))
    (o_M : OwnEq P w K mg base CM 1 (sp_Meq K CM)) : FnG P w K mg base 5 f fd ["_law_well_here"] sp_right := by
  refine gFun F sc_meter_right (fun vs H Q E h => ?_) (fun cdv A outer s H vs Q E gs hr h => ?_)
  · obtain ⟨_, _, rfl, _⟩ := h
    rfl
  · obtain ⟨a, n, rfl, wl, hn, k⟩ := h
    refine ⟨_, (pss_cons (ps_par3 (i := 1) (j := 2) (l := 3) (by rfl) sc_meter_right.nd rfl rfl rfl (by decide) (by decide) (by decide) rfl rfl rfl (pa_cons (pe_fn h_name (hr.mono (by decide)) (pa_cons (pv 0) pa_nil)) (pa_cons (pe_fn h_name (hr.mono (by decide)) (pa_cons (pv 0) pa_nil)) (pa_cons (pe_cmpR op_eq (pe_fn h_dip (hr.mono (by decide)) (pa_cons (pv 0) (pa_cons pe_int pa_nil))) pe_int (nomark _)) pa_nil))) (by rfl))
      (pss_cons (ps_asg (pe_tup (pa_cons (pe_mkK h_MeterK2 hr (pa_cons (pv 1) (pa_cons (pv 2) pa_nil)) (pk_cons (pv 3) pk_nil)) (pa_cons (pe_mkK0 h_MeterK0 hr (pk_cons (pv 2) (pk_cons (pv 3) (pk_cons (pv 1) pk_nil)))) pa_nil))) (pg_tup (by rfl) (pgs_cons (pg_name (i := 4) sc_meter_right.nd rfl (Or.inr rfl)) (pgs_cons (pg_name (i := 5) sc_meter_right.nd rfl (Or.inl rfl)) pgs_nil))))
      (pss_cons (ps_for PassesOwn.never rfl (pi_list (pe_lst (pa_cons (pv 4) (pa_cons (pv 5) pa_nil)))) (pg_name (i := 6) sc_meter_right.nd rfl (Or.inl rfl)) (pss_one (ps_if (PW.pt (pw_or (pt_cmpR op_ne (pe_callB (call_reprD hr.units gs) (by rfl) T.b_repr (by decide +kernel) (pa_cons (pe_lst (pa_cons (pe_propN h_n (hr.mono (by decide)) (pv 6)) (pa_cons (pe_propN h_a (hr.mono (by decide)) (pv 6)) (pa_cons (pe_propN h_z (hr.mono (by decide)) (pv 6)) pa_nil)))) pa_nil)) (pe_callB (call_reprD hr.units gs) (by rfl) T.b_repr (by decide +kernel) (pa_cons (pe_lst (pa_cons (pv 1) (pa_cons (pv 2) (pa_cons (pv 3) pa_nil)))) pa_nil)) (nomark _)) (pw_or1 (pt_not (pt_obj KI.bm KI.lm (pv 6)))))) (pss_one (ps_ret pe_bl)) pss_nil)))
      (pss_cons (ps_set (i := 7) sc_meter_right.nd rfl (Or.inl rfl) (pe_mk h_Meter hr (pa_cons (pv 1) (pa_cons (pv 2) pa_nil))))
      (pss_cons (ps_if (PW.pt (pw_or (pt_cmpR op_ne (pe_callB (call_reprD hr.units gs) (by rfl) T.b_repr (by decide +kernel) (pa_cons (pe_lst (pa_cons (pe_propN h_n (hr.mono (by decide)) (pv 7)) (pa_cons (pe_propN h_a (hr.mono (by decide)) (pv 7)) (pa_cons (pe_propN h_z (hr.mono (by decide)) (pv 7)) pa_nil)))) pa_nil)) (pe_callB (call_reprD hr.units gs) (by rfl) T.b_repr (by decide +kernel) (pa_cons (pe_lst (pa_cons (pv 1) (pa_cons (pv 2) (pa_cons pe_bl pa_nil)))) pa_nil)) (nomark _)) (pw_or1 (pt_cmpR op_eq (pe_cmpR (op_eqOK o_M (hr.mono (by decide))) (pv 7) (pv 4) (nomark _)) (pv 3) (nomark _))))) (pss_one (ps_ret pe_bl)) pss_nil)
      (pss_cons (ps_set (i := 8) sc_meter_right.nd rfl (Or.inl rfl) (pe_lst (pa_cons (pe_mkK h_MeterK2 hr (pa_cons (pe_fn h_fresh (hr.mono (by decide)) (pa_cons (pv 0) (pa_cons (pe_lst (pa_cons (pv 1) pa_nil)) pa_nil))) (pa_cons (pv 2) pa_nil)) (pk_cons (pv 3) pk_nil)) (pa_cons (pe_mkK h_MeterK2 hr (pa_cons (pv 1) (pa_cons (pe_fn h_fresh (hr.mono (by decide)) (pa_cons (pv 0) (pa_cons (pe_lst (pa_cons (pv 2) pa_nil)) pa_nil))) pa_nil)) (pk_cons (pv 3) pk_nil)) pa_nil))))
      (pss_cons (ps_set (i := 8) sc_meter_right.nd rfl (Or.inl rfl) (pe_op op_cat (pv 8) (pe_lst (pa_cons (pe_mkK h_MeterK2 hr (pa_cons (pv 1) (pa_cons (pv 2) pa_nil)) (pk_cons (pe_not (pv 3)) pk_nil)) (pa_cons (pe_tup (pa_cons (pv 1) (pa_cons (pv 2) (pa_cons (pv 3) pa_nil)))) (pa_cons (pe_mk h_Pipe hr (pa_cons (pv 1) (pa_cons (pv 2) (pa_cons (pe_fn h_fresh (hr.mono (by decide)) (pa_cons (pv 0) (pa_cons (pe_lst (pa_cons (pv 2) pa_nil)) pa_nil))) pa_nil)))) (pa_cons (pv 1) pa_nil)))))))
      (pss_cons (ps_if (PW.pt (pw_or (pt_val (pe_callB (cr_any rfl) (by rfl) T.b_any (by decide +kernel) (pa_cons (pe_lc (own := [("_law_other", 9)]) (g := gName 9) (tt := tYes) rfl sc_meter_right.nd (pi_list (pv 8)) (blkOk_by (N := sc_meter_right_N) (sc := defScope s_meter_right) (by decide +kernel)) (fun _ _ _ _ _ => pg_name (i := 9) sc_meter_right.nd rfl (Or.inl rfl)) (fun _ _ _ _ _ => pts_nil) (fun _ _ _ _ _ => (pe_cmpR (op_eqOK o_M (hr.mono (by decide))) (pv 4) (pv 9) (nomark _)))) pa_nil))) (pw_or1 (pt_not (pt_val (pe_callB (cr_all rfl) (by rfl) T.b_all (by decide +kernel) (pa_cons (pe_lc (own := [("_law_other", 9)]) (g := gName 9) (tt := tYes) rfl sc_meter_right.nd (pi_list (pv 8)) (blkOk_by (N := sc_meter_right_N) (sc := defScope s_meter_right) (by decide +kernel)) (fun _ _ _ _ _ => pg_name (i := 9) sc_meter_right.nd rfl (Or.inl rfl)) (fun _ _ _ _ _ => pts_nil) (fun _ _ _ _ _ => (pe_cmpR (op_neOK o_M (hr.mono (by decide))) (pv 4) (pv 9) (nomark _)))) pa_nil))))))) (pss_one (ps_ret pe_bl)) pss_nil)
      (pss_one (ps_ret (pe_and (pe_cmpR (op_eqOK o_M (hr.mono (by decide))) (pv 4) (pv 5) (nomark _)) (pe_one (pe_not (pe_cmpR (op_neOK o_M (hr.mono (by decide))) (pv 4) (pv 5) (nomark _))))))))))))))), ?_⟩
    have h0 := Has.start wl
    refine ⟨_, rfl, name_step h0 (by omega) fun one H1 n1 h1 => ⟨_, rfl, name_step h1 (by omega) fun two H2 n2 h2 => ⟨_, rfl, dip_step h2 (by omega) (by decide) (by decide) fun r H3 _ _ h3 => ⟨rfl, _, _, _, rfl, ?_⟩⟩⟩⟩
    generalize decide (V.int r = V.int 0) = shut
    have sh : ∀ z : Bool, ∀ d ∈ [PyData.str one, .str two, .bool z], Short d := by
      intro z d hd
      simp only [List.mem_cons, List.not_mem_nil, or_false] at hd
      rcases hd with rfl | rfl | rfl
      · exact short_nm n1
      · exact short_nm n2
      · exact short_bl z
    have dsa : ∀ z H', DpAll K H' [.str one, .str two, .bl z] [.str one, .str two, .bool z] := fun z H' => .cons (.str _) (.cons (.str _) (.cons (.bl _) .nil))
    -- mine, mate
    refine ⟨_, rfl, _, rfl, _, rfl, rfl, rfl, fun x5 d5 hx5 hd5 hxd5 => met_step h3 n1 n2 hx5 hd5 hxd5 fun d5 H5 h5 => ?_⟩
    refine ⟨_, rfl, _, rfl, _, rfl, rfl, rfl, fun x6 d6 hx6 hd6 hxd6 => met_step h5 n1 n2 hx6 hd6 hxd6 fun d6 H6 h6 => ?_⟩
    refine ⟨(by show 2 ≤ sizeLine; decide), fun p7 np7 => ?_⟩
    have h7 := h6.new (o := .tup [.ref x5, .ref x6]) np7
    have e7 := h7.at (p := p7) (o := .tup [.ref x5, .ref x6]) (by walk_at "mem")
    refine ⟨p7, _, rfl, SqT.of e7, rfl, _, _, rfl, _, _, rfl, rfl, ?_⟩
    -- the loop over both
    refine ⟨_, rfl, _, rfl, (by show 2 ≤ sizeLine; decide), fun p8 np8 => ?_⟩
    have h8 := h7.new (o := .lst [.ref x5, .ref x6]) np8
    have h8' : Has H a (n + 21) [(p8, .lst [.ref x5, .ref x6]), (x5, .ins CM d5 (metF one two shut)), (x6, .ins CM d6 (metF one two shut))] _ := h8.sub fun q hq => by
      simp only [List.mem_cons, List.not_mem_nil, or_false] at hq
      rcases hq with rfl | rfl | rfl <;> walk_at "mem"
    refine ⟨p8, rfl, ⟨_, SqL.of upd_same⟩, for_list (K := K) (a := p8) (xs := [.ref x5, .ref x6]) (fun i σ H' => (∃ o, σ = [some (.ref a), some (.str one), some (.str two), some (.bl shut), some (.ref x5), some (.ref x6), o, none, none, none]) ∧
      Has H a (n + 21) [(p8, .lst [.ref x5, .ref x6]), (x5, .ins CM d5 (metF one two shut)), (x6, .ins CM d6 (metF one two shut))] H') ⟨⟨none, rfl⟩, h8'⟩ (fun i σ H' _ h => SqL.of (h.2.at (List.Mem.head _))) ?_ ?_⟩
    · rintro i y σ H' hi ⟨⟨o, rfl⟩, h'⟩
      obtain ⟨x, d, rfl, e'⟩ : ∃ x d, y = .ref x ∧ H' x = some (.ins CM d (metF one two shut)) := by
        have hy := List.mem_of_getElem? hi
        simp only [List.mem_cons, List.not_mem_nil, or_false] at hy
        rcases hy with rfl | rfl
        · exact ⟨x5, d5, rfl, h'.at (by walk_at "mem")⟩
        · exact ⟨x6, d6, rfl, h'.at (by walk_at "mem")⟩
      refine ⟨_, rfl, x, d, _, rfl, e', x, d, _, _, rfl, e', metF_n _ _ _, _, rfl, x, d, _, rfl, e', x, d, _, _, rfl, e', metF_a _ _ _, _, rfl, x, d, _, rfl, e', x, d, _, _, rfl, e', metF_z _ _ _, (by show 3 ≤ sizeLine; decide), fun p9 np9 => ?_⟩
      have h9 := h'.new (o := .lst [.str one, .str two, .bl shut]) np9
      refine repr_step upd_same (dsa _ _) (sh _) (by simp) ⟨_, rfl, _, rfl, _, rfl, (by show 3 ≤ sizeLine; decide), fun p10 np10 => repr_step upd_same (dsa _ _) (sh _) (by simp) ⟨rfl, _, rfl, iteNS rfl ?_⟩⟩
      have h10 := h9.new (o := .lst [.str one, .str two, .bl shut]) np10
      refine ⟨_, rfl, x, d, _, rfl, Eq.trans (upd_ne (ne_of_none (o := .ins CM d (metF one two shut)) (by rw [upd_ne (ne_of_none e' np9)]; exact e') np10)) (by rw [upd_ne (ne_of_none e' np9)]; exact e'), iteF ?_⟩
      exact ⟨⟨_, rfl⟩, h10.sub fun q hq => List.Mem.tail _ (List.Mem.tail _ hq)⟩
    · rintro σ H11 ⟨⟨o, rfl⟩, h11⟩
      refine ⟨_, rfl, _, rfl, fun x12 d12 hx12 hd12 hxd12 => met_step (z := false) h11 n1 n2 hx12 hd12 hxd12 fun d12 H12 h12 => ?_⟩
      have m12 := h12.at (p := x12) (o := .ins CM d12 (metF one two false)) (by walk_at "mem")
      refine ⟨_, rfl, x12, d12, _, rfl, m12, x12, d12, _, _, rfl, m12, metF_n _ _ _, _, rfl, x12, d12, _, rfl, m12, x12, d12, _, _, rfl, m12, metF_a _ _ _, _, rfl, x12, d12, _, rfl, m12, x12, d12, _, _, rfl, m12, metF_z _ _ _, (by show 3 ≤ sizeLine; decide), fun p13 np13 => ?_⟩
      have h13 := h12.new (o := .lst [.str one, .str two, .bl false]) np13
      refine repr_step upd_same (dsa _ _) (sh _) (by simp) ⟨_, rfl, _, rfl, (by show 3 ≤ sizeLine; decide), fun p14 np14 => repr_step upd_same (dsa _ _) (sh _) (by simp) ⟨rfl, _, rfl, iteNS rfl ?_⟩⟩
      have h14 := h13.new (o := .lst [.str one, .str two, .bl false]) np14
      have m14 := h14.at (p := x12) (o := .ins CM d12 (metF one two false)) (by walk_at "mem")
      have t14 := h14.at (p := x5) (o := .ins CM d5 (metF one two shut)) (by walk_at "mem")
      refine ⟨_, rfl, _, rfl, eq_met m14 t14 (!shut) (by cases shut <;> simp) ⟨_, rfl, rfl, _, rfl, ?_⟩⟩
      refine ite2 (fun q => ?_) (fun _ => ?_)
      · exfalso
        revert q
        cases shut <;> decide
      -- others
      refine ⟨_, rfl, _, rfl, (by show 1 ≤ sizeLine; decide), fun p15 np15 => fresh_step (xs := [one]) (h14.new np15) (by omega) (List.Mem.head _) ?_ (by simp) fun mo H15 nmo imo h15 => ?_⟩
      · intro x hx
        simp only [List.mem_singleton] at hx
        exact hx ▸ n1
      have nmo1 : mo ≠ one := fun e => imo (e ▸ List.Mem.head _)
      refine ⟨_, rfl, _, rfl, rfl, rfl, fun x16 d16 hx16 hd16 hxd16 => met_step h15 nmo n2 hx16 hd16 hxd16 fun d16 H16 h16 => ?_⟩
      refine ⟨_, rfl, _, rfl, _, rfl, (by show 1 ≤ sizeLine; decide), fun p17 np17 => fresh_step (xs := [two]) (h16.new np17) (by omega) (List.Mem.head _) ?_ (by simp) fun mp H17 nmp imp h17 => ?_⟩
      · intro x hx
        simp only [List.mem_singleton] at hx
        exact hx ▸ n2
      have nmp2 : mp ≠ two := fun e => imp (e ▸ List.Mem.head _)
      refine ⟨_, rfl, rfl, rfl, fun x18 d18 hx18 hd18 hxd18 => met_step h17 n1 nmp hx18 hd18 hxd18 fun d18 H18 h18 => ?_⟩
      refine ⟨(by show 2 ≤ sizeLine; decide), fun p19 np19 => ?_⟩
      have h19 := h18.new (o := .lst [.ref x16, .ref x18]) np19
      revert h19
      generalize upd H18 p19 (.lst [.ref x16, .ref x18]) = H19
      intro h19
      refine ⟨_, rfl, _, rfl, _, rfl, _, rfl, _, rfl, rfl, rfl, fun x20 d20 hx20 hd20 hxd20 => met_step (z := !shut) h19 n1 n2 hx20 hd20 hxd20 fun d20 H20 h20 => ?_⟩
      refine ⟨_, rfl, _, rfl, _, rfl, (by show 3 ≤ sizeLine; decide), fun p21 np21 => ?_⟩
      have h21 := h20.new (o := .tup [.str one, .str two, .bl shut]) np21
      refine ⟨_, rfl, _, rfl, _, rfl, _, rfl, (by show 1 ≤ sizeLine; decide), fun p22 np22 => fresh_step (xs := [two]) (h21.new np22) (by omega) (List.Mem.head _) ?_ (by simp) fun mq H22 nmq imq h22 => ?_⟩
      · intro x hx
        simp only [List.mem_singleton] at hx
        exact hx ▸ n2
      have nmq2 : mq ≠ two := fun e => imq (e ▸ List.Mem.head _)
      refine fun x23 d23 hx23 hd23 hxd23 => pipe_step h22 n1 n2 nmq nmq2 hx23 hd23 hxd23 fun d23 H23 h23 => ?_
      refine ⟨_, rfl, (by show 4 ≤ sizeLine; decide), fun p24 np24 => ?_⟩
      have h24 := h23.new (o := .lst [.ref x20, .ref p21, .ref x23, .str one]) np24
      have e19 := h24.at (p := p19) (o := .lst [.ref x16, .ref x18]) (by walk_at "mem")
      refine ⟨p19, p24, _, _, rfl, rfl, e19, upd_same, (by show 2 + 4 ≤ sizeLine; decide), fun p25 np25 => ?_⟩
      have h25 := h24.new (o := .lst ([.ref x16, .ref x18] ++ [.ref x20, .ref p21, .ref x23, .str one])) np25
      revert h25
      generalize hH : upd (upd H23 p24 (.lst [.ref x20, .ref p21, .ref x23, .str one])) p25 (.lst ([.ref x16, .ref x18] ++ [.ref x20, .ref p21, .ref x23, .str one])) = H25
      intro h25
      have hz : Has H a (n + 60) [(p25, .lst [.ref x16, .ref x18, .ref x20, .ref p21, .ref x23, .str one]), (x5, .ins CM d5 (metF one two shut)), (x6, .ins CM d6 (metF one two shut)), (x16, .ins CM d16 (metF mo two shut)), (x18, .ins CM d18 (metF one mp shut)),
          (x20, .ins CM d20 (metF one two (!shut))), (p21, .tup [.str one, .str two, .bl shut]), (x23, .ins CP d23 (pipeF one two mq))] H25 := by
        refine h25.sub fun q hq => ?_
        simp only [List.mem_cons, List.not_mem_nil, or_false] at hq
        rcases hq with rfl | rfl | rfl | rfl | rfl | rfl | rfl | rfl <;> walk_at "mem"
      clear h0 h1 h2 h3 h5 h6 h7 h8 h8' h11 h12 h13 h14 h15 h16 h17 h18 h19 h20 h21 h22 h23 h24 h25
      have oth : ∀ neg : Bool, ∀ y ∈ [V.ref x16, .ref x18, .ref x20, .ref p21, .ref x23, .str one], ∀ (H' : Hp) (Q : VK), Has H a (n + 60) [(p25, .lst [.ref x16, .ref x18, .ref x20, .ref p21, .ref x23, .str one]), (x5, .ins CM d5 (metF one two shut)), (x6, .ins CM d6 (metF one two shut)), (x16, .ins CM d16 (metF mo two shut)), (x18, .ins CM d18 (metF one mp shut)),
          (x20, .ins CM d20 (metF one two (!shut))), (p21, .tup [.str one, .str two, .bl shut]), (x23, .ins CP d23 (pipeF one two mq))] H' → Q (.bl neg) H' → rEqO neg K CM (sp_Meq K CM) (.ref x5) y H' Q := by
        intro neg y hy H' Q' h' q
        have m := h'.at (p := x5) (o := .ins CM d5 (metF one two shut)) (by walk_at "mem")
        have a1 := h'.at (p := x16) (o := .ins CM d16 (metF mo two shut)) (by walk_at "mem")
        have a2 := h'.at (p := x18) (o := .ins CM d18 (metF one mp shut)) (by walk_at "mem")
        have a3 := h'.at (p := x20) (o := .ins CM d20 (metF one two (!shut))) (by walk_at "mem")
        have a4 := h'.at (p := p21) (o := .tup [.str one, .str two, .bl shut]) (by walk_at "mem")
        have a5 := h'.at (p := x23) (o := .ins CP d23 (pipeF one two mq)) (by walk_at "mem")
        simp only [List.mem_cons, List.not_mem_nil, or_false] at hy
        rcases hy with rfl | rfl | rfl | rfl | rfl | rfl
        · exact eq_met m a1 false (decide_eq_false fun z => nmo1 z.1.symm) (by rw [bnot_if]; exact q)
        · exact eq_met m a2 false (decide_eq_false fun z => nmp2 z.2.1.symm) (by rw [bnot_if]; exact q)
        · exact eq_met m a3 false (by cases shut <;> simp) (by rw [bnot_if]; exact q)
        · exact eq_mother m (.tup a4) KI.mt (.base (.tup a4)) KI.imt q
        · exact eq_mother m (.ins a5) KI.mp (PC.x.ty a5) KI.imp q
        · exact eq_mother m (.str _) KI.ms (.base (.str _)) KI.ims q
      have e25 := hz.at (p := p25) (o := .lst [.ref x16, .ref x18, .ref x20, .ref p21, .ref x23, .str one]) (by walk_at "mem")
      refine ⟨_, rfl, p25, rfl, ⟨_, SqL.of e25⟩, fun D nD => others_step hz nD (List.Mem.head _) (by simp) (fun y H' Q q => ⟨_, rfl, q⟩) (oth false) (by show 9 < 10; decide) rfl fun H26 h26 eD => ?_⟩
      refine ⟨D, _, rfl, SqL.of eD, false, rfl, iteF ?_⟩
      have e26 := h26.at (p := p25) (o := .lst [.ref x16, .ref x18, .ref x20, .ref p21, .ref x23, .str one]) (by walk_at "mem")
      refine ⟨_, rfl, p25, rfl, ⟨_, SqL.of e26⟩, fun D2 nD2 => others_step h26 nD2 (List.Mem.head _) (by simp) (fun y H' Q q => ⟨_, rfl, q⟩) (oth true) (by show 9 < 10; decide) rfl fun H27 h27 eD2 => ?_⟩
      refine ⟨D2, _, rfl, SqL.of eD2, true, rfl, iteF ?_⟩
      have m27 := h27.at (p := x5) (o := .ins CM d5 (metF one two shut)) (by walk_at "mem")
      have t27 := h27.at (p := x6) (o := .ins CM d6 (metF one two shut)) (by walk_at "mem")
      exact ⟨_, rfl, _, rfl, eq_met m27 t27 true (by simp) ⟨true, rfl, iteT ⟨_, rfl, _, rfl, eq_met m27 t27 true (by simp) ⟨false, rfl, k H27 h27.gr (h27.well.mono (by omega))⟩⟩⟩⟩
end
end RV
namespace RV
open PySem L2
section
variable {P : Program} {w : World} {K : PySem.W.Frag} {mg : Str → Option Value} {base : Heap}
abbrev s_law : Stmt := top 21
abbrev sc_law_N : List Str := ["_law_cells", "_law_k", "_law_well_here", "_law_turn"]
theorem sc_law : FnScope sc_law_N ["_law_cells"] (defScope s_law) := ⟨rfl, rfl, rfl, by decide +kernel, rfl, by decide +kernel, by decide +kernel⟩
theorem ok_law {f : Addr} {fd : FuncData} (F : Fun K "law" "law" s_law f fd) (T : Blt mg) (h_well : Fn P w K mg base "_law_well" 1 ["_law_cells", "_law_k"] (sp_well K))
    (h_pipe_right : FnGd P w K mg base "_law_pipe_right" 5 ["_law_well_here"] sp_right) (h_meter_right : FnGd P w K mg base "_law_meter_right" 5 ["_law_well_here"] sp_right) : FnG P w K mg base 6 f fd ["_law_cells"] (spLaw K) := by
  refine gFun F sc_law (fun vs H Q E h => ?_) (fun cdv A outer s H vs Q E gs hr h => ?_)
  · obtain ⟨_, _, rfl, _⟩ := h
    rfl
  · obtain ⟨c, ns, rfl, hS, hl, k⟩ := h
    refine ⟨_, (pss_cons (ps_for PassesOwn.never rfl (pi_range1 rfl T.b_range (pa_cons (pe_callB (call_max2 rfl) (by rfl) T.b_max (by decide +kernel) (pa_cons pe_int (pa_cons (pe_callB (call_min2 rfl) (by rfl) T.b_min (by decide +kernel) (pa_cons (pe_callB call_len_seq (by rfl) T.b_len (by decide +kernel) (pa_cons (pv 0) pa_nil)) (pa_cons pe_int pa_nil))) pa_nil))) pa_nil)) (pg_name (i := 1) sc_law.nd rfl (Or.inl rfl)) (pss_cons (ps_set (i := 2) sc_law.nd rfl (Or.inr rfl) (pe_fn h_well (hr.mono (by decide)) (pa_cons (pv 0) (pa_cons (pv 1) pa_nil)))) (pss_one (ps_if (pt_not (pt_val (pe_callB (cr_all rfl) (by rfl) T.b_all (by decide +kernel) (pa_cons (pe_lc (own := [("_law_turn", 3)]) (g := gName 3) (tt := tYes) rfl sc_law.nd (pi_range1 rfl T.b_range (pa_cons pe_int pa_nil)) (blkOk_by (N := sc_law_N) (sc := defScope s_law) (by decide +kernel)) (fun _ _ _ _ _ => pg_name (i := 3) sc_law.nd rfl (Or.inl rfl)) (fun _ _ _ _ _ => pts_nil) (fun _ _ _ _ _ => (pe_and (pe_fnG h_pipe_right gs (hr.mono (by decide)) (pa_cons (pv 2) pa_nil)) (pe_one (pe_fnG h_meter_right gs (hr.mono (by decide)) (pa_cons (pv 2) pa_nil)))))) pa_nil)))) (pss_one (ps_ret pe_bl)) pss_nil))))
      (pss_one (ps_ret pe_bl))), ?_⟩
    refine ⟨_, rfl, c, _, rfl, .inl hS, _, _, rfl, _, _, rfl, ?_⟩
    rw [List.length_map]
    generalize hj : (if (if (5 : Int) < (ns.length : Int) then (5 : Int) else (ns.length : Int)) > 2 then (if (5 : Int) < (ns.length : Int) then (5 : Int) else (ns.length : Int)) else 2) = j
    have hj2 : 2 ≤ j ∧ j ≤ 5 := by
      subst hj
      constructor <;> (repeat' split) <;> omega
    clear hj
    refine ⟨j, rfl, by omega, by omega, for_range (lo := 0) (n := j.toNat) (fun i σ H' => Same H H' ∧ ∃ o1 o2 o3, σ = [some (.ref c), o1, o2, o3]) ⟨Same.refl H, none, none, none, rfl⟩ ?_ ?_⟩
    · rintro i σ H1 hi ⟨s1, o1, o2, o3, rfl⟩
      refine ⟨_, rfl, _, rfl, c, ns, i, by rw [Int.zero_add]; rfl, s1.seq hS, hl, by omega, fun a H2 na s2 w2 => ?_⟩
      refine ⟨8, rfl, by decide, by decide, fun D nD => lc_range (lo := 0) (n := 8) (fun i H' => Has H2 a (200 * i) [] H' ∧ H' D = some (.lst ((List.replicate i true).map V.bl))) ⟨(Has.start w2).put nD (fun _ hq => nomatch hq) (w2.ne nD).symm, upd_same⟩ ?_ ?_⟩
      · rintro i H3 hi ⟨h3, e3⟩
        refine ⟨rfl, _, rfl, a, _, rfl, h3.well, by omega, fun H4 g4 w4 => ⟨true, rfl, iteT ⟨_, rfl, a, _, rfl, w4, by omega, fun H5 g5 w5 => ⟨_, g5 D _ (w2.ne nD).symm (g4 D _ (w2.ne nD).symm e3), ?_, ?_, ?_⟩⟩⟩⟩
        · rw [List.length_map, List.length_replicate]
          exact Nat.lt_of_lt_of_le (show i < 9 by omega) (by decide)
        · exact ((h3.grow (g4.trans g5) (w5.mono (by omega))).put nD (fun _ hq => nomatch hq) (w2.ne nD).symm)
        · rw [upd_same, List.replicate_succ', List.map_append]
          rfl
      · rintro H3 ⟨h3, e3⟩
        refine ⟨D, _, rfl, SqL.of e3, true, rfl, iteF ?_⟩
        refine ⟨fun b o e => h3.gr b o (ne_of_none (s1 b o e) na) (s2 b o (s1 b o e)), _, _, _, rfl⟩
    · rintro σ H1 ⟨s1, o1, o2, o3, rfl⟩
      exact k H1
end
end RV
namespace RV
open PySem L2
theorem kit_self (K : PySem.W.Frag) (C : Addr) : PySem.W.kitOne K (.ref C) (.ref C) = some true := by
  unfold PySem.W.kitOne
  rw [if_pos (by simp)]
theorem kit_sub {K : PySem.W.Frag} {C : Addr} {t : Value} (hd : PySem.W.hasDictIn K C = true) (ty : PySem.W.typeIn K (.ref C) = some (.type "type")) (self : PySem.W.subIn K (.ref C) (.ref C) = some true) (hs : PySem.W.subIn K t (.ref C) = some false) : PySem.W.kitOne K t (.ref C) = some false := by
  obtain ⟨cd, hc, _⟩ := PySem.W.any_some hd
  have hne : ¬ (t == Value.ref C) = true := fun e => by
    rw [beq_iff_eq.mp e, self] at hs
    cases hs
  unfold PySem.W.kitOne
  rw [if_neg hne]
  show (if ((PySem.W.clsIn K C).isSome && PySem.W.typeIn K (Value.ref C) == some (Value.type "type")) = true then PySem.W.subIn K t (Value.ref C) else none) = some false
  rw [if_pos (by rw [hc, ty]; simp)]
  exact hs
theorem chain1 {fMi : Addr} {K : PySem.W.Frag} {fd : FuncData} (FMi : FunD K "__init__" "Meter.__init__" (defArgs s_Meter_i) (defBody s_Meter_i) (defScope s_Meter_i) [] [("sealed", V.bl false)] fMi fd) :
    ∃ ds, Vals [V.bl false] ds ∧ Binds K fd ["self", "name", "at", "sealed"] ds := by
  refine FMi.binds0 3 (by simp) rfl fun D doc pm an cdv ct us ks h1 h2 => ?_
  match us, h1, ks, h2 with
  | [x, n, a], _, [z], _ => exact ⟨_, _, _, _, _, _, rfl, rfl, rfl⟩
theorem kbM2 {fMi : Addr} {K : PySem.W.Frag} {fd : FuncData} (FMi : FunD K "__init__" "Meter.__init__" (defArgs s_Meter_i) (defBody s_Meter_i) (defScope s_Meter_i) [] [("sealed", V.bl false)] fMi fd) :
    ∃ g, KBn K fd ["self", "name", "at", "sealed"] 3 ["sealed"] g gM2 := by
  let g : List Value → List Value → List Value := fun us ws => match us, ws with
    | [x, n, a], [z] => [x, n, a, z]
    | _, _ => []
  refine ⟨g, ⟨fun s us ws X h1 h2 => ?_, fun {vs us zs ws} r1 r2 => ?_⟩⟩
  · obtain ⟨oc, od, dV, kV, doc, pm, an, cdv, ct, osl, rfl, lk, hcd, hD, hK⟩ := FMi.ex
    rcases hD with ⟨_, rfl⟩ | ⟨e, _⟩
    · match us, h1, ws, h2 with
      | [x, n, a], _, [z], _ => exact BindsTo.of_eq rfl
    · exact absurd rfl e
  · cases r1 with
    | nil => cases r2 <;> exact .nil
    | cons a1 r1 =>
      cases r1 with
      | nil => cases r2 <;> exact .nil
      | cons a2 r1 =>
        cases r1 with
        | nil => cases r2 <;> exact .nil
        | cons a3 r1 =>
          cases r1 with
          | cons a4 r1 => cases r2 <;> exact .nil
          | nil =>
            cases r2 with
            | nil => exact .nil
            | cons b1 r2 =>
              cases r2 with
              | cons b2 r2 => exact .nil
              | nil => exact .cons a1 (.cons a2 (.cons a3 (.cons b1 .nil)))

theorem rel13 {g : List V → List V → List V} {g' : List Value → List Value → List Value}
    (h : ∀ x a b c u p q r, RelV x u → RelV a p → RelV b q → RelV c r → Vals (g [x] [a, b, c]) (g' [u] [p, q, r]))
    (hn : ∀ (vs zs : List V) (us ws : List Value), Vals vs us → Vals zs ws → ¬ (vs.length = 1 ∧ zs.length = 3) → Vals (g vs zs) (g' us ws)) {vs : List V} {us : List Value} {zs : List V} {ws : List Value} (r1 : Vals vs us) (r2 : Vals zs ws) : Vals (g vs zs) (g' us ws) := by
  by_cases hl : vs.length = 1 ∧ zs.length = 3
  · have l1 : us.length = 1 := r1.length ▸ hl.1
    have l2 : ws.length = 3 := r2.length ▸ hl.2
    match vs, us, zs, ws, r1, r2, hl, l1, l2 with
    | [x], [u], [a, b, c], [p, q, r], .cons x1 .nil, .cons a1 (.cons b1 (.cons c1 .nil)), _, _, _ => exact h _ _ _ _ _ _ _ _ x1 a1 b1 c1
  · exact hn vs zs us ws r1 r2 hl
def gP' (us ws : List Value) : List Value := match us, ws with
  | [x], [e, s, n] => [x, n, s, e]
  | _, _ => []
def gM0' (us ws : List Value) : List Value := match us, ws with
  | [x], [a, z, n] => [x, n, a, z]
  | _, _ => []
theorem no13 {α : Type} {f : List α → List α → List α} (hf : ∀ us ws, (∀ x e s n, ¬ (us = [x] ∧ ws = [e, s, n])) → f us ws = []) {us ws : List α} (h : ¬ (us.length = 1 ∧ ws.length = 3)) : f us ws = [] := hf us ws fun x e s n q => h ⟨by rw [q.1]; rfl, by rw [q.2]; rfl⟩
theorem gP_rel {vs : List V} {us : List Value} {zs : List V} {ws : List Value} (r1 : Vals vs us) (r2 : Vals zs ws) : Vals (gP vs zs) (gP' us ws) := by
  refine rel13 (g := gP) (g' := gP') (fun _ _ _ _ _ _ _ _ x1 a1 b1 c1 => .cons x1 (.cons c1 (.cons b1 (.cons a1 .nil)))) (fun vs zs us ws r1 r2 h => ?_) r1 r2
  have e1 : gP vs zs = [] := no13 (f := gP) (fun us ws h => by
    unfold gP
    split
    · rename_i x e s n
      exact absurd ⟨rfl, rfl⟩ (h x e s n)
    · rfl) h
  have e2 : gP' us ws = [] := no13 (f := gP') (fun us ws h => by
    unfold gP'
    split
    · rename_i x e s n
      exact absurd ⟨rfl, rfl⟩ (h x e s n)
    · rfl) (by rw [← r1.length, ← r2.length]; exact h)
  rw [e1, e2]
  exact .nil
theorem gM0_rel {vs : List V} {us : List Value} {zs : List V} {ws : List Value} (r1 : Vals vs us) (r2 : Vals zs ws) : Vals (gM0 vs zs) (gM0' us ws) := by
  refine rel13 (g := gM0) (g' := gM0') (fun _ _ _ _ _ _ _ _ x1 a1 b1 c1 => .cons x1 (.cons c1 (.cons a1 (.cons b1 .nil)))) (fun vs zs us ws r1 r2 h => ?_) r1 r2
  have e1 : gM0 vs zs = [] := no13 (f := gM0) (fun us ws h => by
    unfold gM0
    split
    · rename_i x e s n
      exact absurd ⟨rfl, rfl⟩ (h x e s n)
    · rfl) h
  have e2 : gM0' us ws = [] := no13 (f := gM0') (fun us ws h => by
    unfold gM0'
    split
    · rename_i x e s n
      exact absurd ⟨rfl, rfl⟩ (h x e s n)
    · rfl) (by rw [← r1.length, ← r2.length]; exact h)
  rw [e1, e2]
  exact .nil
theorem kbM0 {fMi : Addr} {K : PySem.W.Frag} {fd : FuncData} (FMi : FunD K "__init__" "Meter.__init__" (defArgs s_Meter_i) (defBody s_Meter_i) (defScope s_Meter_i) [] [("sealed", V.bl false)] fMi fd) :
    KBn K fd ["self", "name", "at", "sealed"] 1 ["at", "sealed", "name"] gM0' gM0 := by
  refine ⟨fun s us ws X h1 h2 => ?_, gM0_rel⟩
  obtain ⟨oc, od, dV, kV, doc, pm, an, cdv, ct, osl, rfl, lk, hcd, hD, hK⟩ := FMi.ex
  rcases hD with ⟨_, rfl⟩ | ⟨e, _⟩
  · match us, h1, ws, h2 with
    | [x], _, [a, z, n], _ => exact BindsTo.of_eq rfl
  · exact absurd rfl e
theorem kbP {f : Addr} {K : PySem.W.Frag} {fd : FuncData} (F : Fun K "__init__" "Pipe.__init__" s_Pipe_i f fd) : KBn K fd ["self", "name", "start", "end"] 1 ["end", "start", "name"] gP' gP := by
  refine ⟨fun s us ws X h1 h2 => ?_, gP_rel⟩
  obtain ⟨oc, od, kV, doc, pm, an, cdv, ct, osl, rfl, lk, hcd⟩ := F.ex
  match us, h1, ws, h2 with
  | [x], _, [e, st, n], _ => exact BindsTo.of_eq rfl

theorem all_mk {l : PySem.W.OpenLaw} {w : World} {K : PySem.W.Frag} {h : Heap} {mg : Str → Option Value} {fa : Addr} (X : K.In h) (G : h.Ns mainGlobals mg) (hfa : mg "law" = some (.ref fa))
    {fIn : Addr}
    {odIn anIn : Option Addr} {slIn : Array (Option Value)} {ocIn kVIn dcIn pmIn cdIn ctIn : Value}
    {fCk : Addr}
    {odCk anCk : Option Addr} {slCk : Array (Option Value)} {ocCk kVCk dcCk pmCk cdCk ctCk : Value}
    {fWe : Addr}
    {odWe anWe : Option Addr} {slWe : Array (Option Value)} {ocWe kVWe dcWe pmWe cdWe ctWe : Value}
    {fDi : Addr}
    {odDi anDi : Option Addr} {slDi : Array (Option Value)} {ocDi kVDi dcDi pmDi cdDi ctDi : Value}
    {fNa : Addr}
    {odNa anNa : Option Addr} {slNa : Array (Option Value)} {ocNa kVNa dcNa pmNa cdNa ctNa : Value}
    {fFr : Addr}
    {odFr anFr : Option Addr} {slFr : Array (Option Value)} {ocFr kVFr dcFr pmFr cdFr ctFr : Value}
    {fPr : Addr}
    {odPr anPr : Option Addr} {slPr : Array (Option Value)} {ocPr kVPr dcPr pmPr cdPr ctPr : Value}
    {fMr : Addr}
    {odMr anMr : Option Addr} {slMr : Array (Option Value)} {ocMr kVMr dcMr pmMr cdMr ctMr : Value}
    {fLa : Addr}
    {odLa anLa : Option Addr} {slLa : Array (Option Value)} {ocLa kVLa dcLa pmLa cdLa ctLa : Value}
    {CP : Addr}
    {CM : Addr}
    {fPi : Addr}
    {odPi anPi : Option Addr} {slPi : Array (Option Value)} {ocPi kVPi dcPi pmPi cdPi ctPi : Value}
    {fPq : Addr}
    {odPq anPq : Option Addr} {slPq : Array (Option Value)} {ocPq kVPq dcPq pmPq cdPq ctPq : Value}
    {fMi : Addr}
    {odMi anMi : Option Addr} {slMi : Array (Option Value)} {ocMi dcMi pmMi cdMi ctMi : Value} {kDMi : Addr}
    {fMq : Addr}
    {odMq anMq : Option Addr} {slMq : Array (Option Value)} {ocMq kVMq dcMq pmMq cdMq ctMq : Value}
    {pq0 : Addr}
    {fq0 : Addr}
    {rq0 : List Value}
    {odq0 anq0 : Option Addr} {slq0 : Array (Option Value)} {ocq0 kVq0 dcq0 pmq0 cdq0 ctq0 : Value}
    {pq1 : Addr}
    {fq1 : Addr}
    {rq1 : List Value}
    {odq1 anq1 : Option Addr} {slq1 : Array (Option Value)} {ocq1 kVq1 dcq1 pmq1 cdq1 ctq1 : Value}
    {pq2 : Addr}
    {fq2 : Addr}
    {rq2 : List Value}
    {odq2 anq2 : Option Addr} {slq2 : Array (Option Value)} {ocq2 kVq2 dcq2 pmq2 cdq2 ctq2 : Value}
    {pq3 : Addr}
    {fq3 : Addr}
    {rq3 : List Value}
    {odq3 anq3 : Option Addr} {slq3 : Array (Option Value)} {ocq3 kVq3 dcq3 pmq3 cdq3 ctq3 : Value}
    {pq4 : Addr}
    {fq4 : Addr}
    {rq4 : List Value}
    {odq4 anq4 : Option Addr} {slq4 : Array (Option Value)} {ocq4 kVq4 dcq4 pmq4 cdq4 ctq4 : Value}
    {pq5 : Addr}
    {fq5 : Addr}
    {rq5 : List Value}
    {odq5 anq5 : Option Addr} {slq5 : Array (Option Value)} {ocq5 kVq5 dcq5 pmq5 cdq5 ctq5 : Value}
    {tkA : Tok}
    {tkB : Tok}
    {tkC : Tok}
    (aIn : PySem.W.nsIn K mainGlobals "is_name" = some (some (.ref fIn)))
    (lIn : K.lookup fIn = some ⟨ocIn, odIn, .func (PySem.W.fnOf "is_name" "is_name" (defArgs s_is_name) (defBody s_is_name) (defScope s_is_name) .none kVIn dcIn pmIn anIn cdIn ctIn), slIn⟩)
    (cIn : PySem.W.codeIn K cdIn "is_name" = true)
    (kIn : PySem.W.keepIn K (.ref fIn) = true)
    (aCk : PySem.W.nsIn K mainGlobals "_check_names" = some (some (.ref fCk)))
    (lCk : K.lookup fCk = some ⟨ocCk, odCk, .func (PySem.W.fnOf "_check_names" "_check_names" (defArgs s_check_names) (defBody s_check_names) (defScope s_check_names) .none kVCk dcCk pmCk anCk cdCk ctCk), slCk⟩)
    (cCk : PySem.W.codeIn K cdCk "_check_names" = true)
    (kCk : PySem.W.keepIn K (.ref fCk) = true)
    (aWe : PySem.W.nsIn K mainGlobals "_law_well" = some (some (.ref fWe)))
    (lWe : K.lookup fWe = some ⟨ocWe, odWe, .func (PySem.W.fnOf "_law_well" "_law_well" (defArgs s_well) (defBody s_well) (defScope s_well) .none kVWe dcWe pmWe anWe cdWe ctWe), slWe⟩)
    (cWe : PySem.W.codeIn K cdWe "_law_well" = true)
    (kWe : PySem.W.keepIn K (.ref fWe) = true)
    (aDi : PySem.W.nsIn K mainGlobals "_law_dip" = some (some (.ref fDi)))
    (lDi : K.lookup fDi = some ⟨ocDi, odDi, .func (PySem.W.fnOf "_law_dip" "_law_dip" (defArgs s_dip) (defBody s_dip) (defScope s_dip) .none kVDi dcDi pmDi anDi cdDi ctDi), slDi⟩)
    (cDi : PySem.W.codeIn K cdDi "_law_dip" = true)
    (kDi : PySem.W.keepIn K (.ref fDi) = true)
    (aNa : PySem.W.nsIn K mainGlobals "_law_name" = some (some (.ref fNa)))
    (lNa : K.lookup fNa = some ⟨ocNa, odNa, .func (PySem.W.fnOf "_law_name" "_law_name" (defArgs s_name) (defBody s_name) (defScope s_name) .none kVNa dcNa pmNa anNa cdNa ctNa), slNa⟩)
    (cNa : PySem.W.codeIn K cdNa "_law_name" = true)
    (kNa : PySem.W.keepIn K (.ref fNa) = true)
    (aFr : PySem.W.nsIn K mainGlobals "_law_fresh" = some (some (.ref fFr)))
    (lFr : K.lookup fFr = some ⟨ocFr, odFr, .func (PySem.W.fnOf "_law_fresh" "_law_fresh" (defArgs s_fresh) (defBody s_fresh) (defScope s_fresh) .none kVFr dcFr pmFr anFr cdFr ctFr), slFr⟩)
    (cFr : PySem.W.codeIn K cdFr "_law_fresh" = true)
    (kFr : PySem.W.keepIn K (.ref fFr) = true)
    (aPr : PySem.W.nsIn K mainGlobals "_law_pipe_right" = some (some (.ref fPr)))
    (lPr : K.lookup fPr = some ⟨ocPr, odPr, .func (PySem.W.fnOf "_law_pipe_right" "_law_pipe_right" (defArgs s_pipe_right) (defBody s_pipe_right) (defScope s_pipe_right) .none kVPr dcPr pmPr anPr cdPr ctPr), slPr⟩)
    (cPr : PySem.W.codeIn K cdPr "_law_pipe_right" = true)
    (kPr : PySem.W.keepIn K (.ref fPr) = true)
    (aMr : PySem.W.nsIn K mainGlobals "_law_meter_right" = some (some (.ref fMr)))
    (lMr : K.lookup fMr = some ⟨ocMr, odMr, .func (PySem.W.fnOf "_law_meter_right" "_law_meter_right" (defArgs s_meter_right) (defBody s_meter_right) (defScope s_meter_right) .none kVMr dcMr pmMr anMr cdMr ctMr), slMr⟩)
    (cMr : PySem.W.codeIn K cdMr "_law_meter_right" = true)
    (kMr : PySem.W.keepIn K (.ref fMr) = true)
    (aLa : PySem.W.nsIn K mainGlobals "law" = some (some (.ref fLa)))
    (lLa : K.lookup fLa = some ⟨ocLa, odLa, .func (PySem.W.fnOf "law" "law" (defArgs s_law) (defBody s_law) (defScope s_law) .none kVLa dcLa pmLa anLa cdLa ctLa), slLa⟩)
    (cLa : PySem.W.codeIn K cdLa "law" = true)
    (kLa : PySem.W.keepIn K (.ref fLa) = true)
    (nP : PySem.W.nsIn K mainGlobals "Pipe" = some (some (.ref CP)))
    (pgP : PySem.W.plainGet K CP Str.empty = true)
    (hdP : PySem.W.hasDictIn K CP = true)
    (poP : PySem.W.plainOver K CP = true)
    (saP : PySem.W.findIn K (.ref CP) "__setattr__" = some (some (.builtin "object.__setattr__")))
    (mkP : PySem.W.makesIn K CP = true)
    (kcP : PySem.W.keepIn K (.ref CP) = true)
    (haP : PySem.W.findIn K (.ref CP) "__class__" = some (some (.builtin "object.__class__")))
    (hmP : PySem.W.mroIn K CP (.type "object") = some true)
    (tyP : PySem.W.typeIn K (.ref CP) = some (.type "type"))
    (suP : PySem.W.subIn K (.ref CP) (.ref CP) = some true)
    (obP : PySem.W.subIn K (.ref CP) (.type "object") = some true)
    (noP0 : PySem.W.findIn K (.ref CP) "_name" = some none)
    (noP1 : PySem.W.findIn K (.ref CP) "_start" = some none)
    (noP2 : PySem.W.findIn K (.ref CP) "_end" = some none)
    (noP3 : PySem.W.findIn K (.ref CP) "__bool__" = some none)
    (noP4 : PySem.W.findIn K (.ref CP) "__len__" = some none)
    (nM : PySem.W.nsIn K mainGlobals "Meter" = some (some (.ref CM)))
    (pgM : PySem.W.plainGet K CM Str.empty = true)
    (hdM : PySem.W.hasDictIn K CM = true)
    (poM : PySem.W.plainOver K CM = true)
    (saM : PySem.W.findIn K (.ref CM) "__setattr__" = some (some (.builtin "object.__setattr__")))
    (mkM : PySem.W.makesIn K CM = true)
    (kcM : PySem.W.keepIn K (.ref CM) = true)
    (haM : PySem.W.findIn K (.ref CM) "__class__" = some (some (.builtin "object.__class__")))
    (hmM : PySem.W.mroIn K CM (.type "object") = some true)
    (tyM : PySem.W.typeIn K (.ref CM) = some (.type "type"))
    (suM : PySem.W.subIn K (.ref CM) (.ref CM) = some true)
    (obM : PySem.W.subIn K (.ref CM) (.type "object") = some true)
    (noM0 : PySem.W.findIn K (.ref CM) "_name" = some none)
    (noM1 : PySem.W.findIn K (.ref CM) "_at" = some none)
    (noM2 : PySem.W.findIn K (.ref CM) "_sealed" = some none)
    (noM3 : PySem.W.findIn K (.ref CM) "__bool__" = some none)
    (noM4 : PySem.W.findIn K (.ref CM) "__len__" = some none)
    (hn : PySem.W.specialIn K (.builtin "object.__class__") "__get__" = some (some (.builtin "getset_descriptor.__get__")))
    (htk : PySem.W.takesIn K (.builtin "object.__class__") = some true)
    (neP : PySem.W.findIn K (.ref CP) "__ne__" = some (some (.builtin "object.__ne__")))
    (neM : PySem.W.findIn K (.ref CM) "__ne__" = some (some (.builtin "object.__ne__")))
    (aPi : PySem.W.findIn K (.ref CP) "__init__" = some (some (.ref fPi)))
    (iPi : PySem.W.isFn K (.ref fPi) = true)
    (lPi : K.lookup fPi = some ⟨ocPi, odPi, .func (PySem.W.fnOf "__init__" "Pipe.__init__" (defArgs s_Pipe_i) (defBody s_Pipe_i) (defScope s_Pipe_i) .none kVPi dcPi pmPi anPi cdPi ctPi), slPi⟩)
    (cPi : PySem.W.codeIn K cdPi "Pipe.__init__" = true)
    (kPi : PySem.W.keepIn K (.ref fPi) = true)
    (aPq : PySem.W.findIn K (.ref CP) "__eq__" = some (some (.ref fPq)))
    (iPq : PySem.W.isFn K (.ref fPq) = true)
    (lPq : K.lookup fPq = some ⟨ocPq, odPq, .func (PySem.W.fnOf "__eq__" "Pipe.__eq__" (defArgs s_Pipe_q) (defBody s_Pipe_q) (defScope s_Pipe_q) .none kVPq dcPq pmPq anPq cdPq ctPq), slPq⟩)
    (cPq : PySem.W.codeIn K cdPq "Pipe.__eq__" = true)
    (kPq : PySem.W.keepIn K (.ref fPq) = true)
    (aMi : PySem.W.findIn K (.ref CM) "__init__" = some (some (.ref fMi)))
    (iMi : PySem.W.isFn K (.ref fMi) = true)
    (lMi : K.lookup fMi = some ⟨ocMi, odMi, .func (PySem.W.fnOf "__init__" "Meter.__init__" (defArgs s_Meter_i) (defBody s_Meter_i) (defScope s_Meter_i) .none (.ref kDMi) dcMi pmMi anMi cdMi ctMi), slMi⟩)
    (cMi : PySem.W.codeIn K cdMi "Meter.__init__" = true)
    (kMi : PySem.W.keepIn K (.ref fMi) = true)
    (aMq : PySem.W.findIn K (.ref CM) "__eq__" = some (some (.ref fMq)))
    (iMq : PySem.W.isFn K (.ref fMq) = true)
    (lMq : K.lookup fMq = some ⟨ocMq, odMq, .func (PySem.W.fnOf "__eq__" "Meter.__eq__" (defArgs s_Meter_q) (defBody s_Meter_q) (defScope s_Meter_q) .none kVMq dcMq pmMq anMq cdMq ctMq), slMq⟩)
    (cMq : PySem.W.codeIn K cdMq "Meter.__eq__" = true)
    (kMq : PySem.W.keepIn K (.ref fMq) = true)
    (kd : PySem.W.nsIn K kDMi "sealed" = some (some (.bool false)))
    (aq0 : PySem.W.findIn K (.ref CP) "name" = some (some (.ref pq0)))
    (gq0 : PySem.W.specialIn K (.ref pq0) "__get__" = some (some (.builtin "property.__get__")))
    (tq0 : PySem.W.takesIn K (.ref pq0) = some true)
    (rq0_ : PySem.W.recIn K pq0 "property" = some (.ref fq0 :: rq0))
    (lq0 : K.lookup fq0 = some ⟨ocq0, odq0, .func (PySem.W.fnOf "name" "Pipe.name" (defArgs (inClass (top 11) 1)) (defBody (inClass (top 11) 1)) (defScope (inClass (top 11) 1)) .none kVq0 dcq0 pmq0 anq0 cdq0 ctq0), slq0⟩)
    (cq0 : PySem.W.codeIn K cdq0 "Pipe.name" = true)
    (kq0 : PySem.W.keepIn K (.ref fq0) = true)
    (aq1 : PySem.W.findIn K (.ref CP) "start" = some (some (.ref pq1)))
    (gq1 : PySem.W.specialIn K (.ref pq1) "__get__" = some (some (.builtin "property.__get__")))
    (tq1 : PySem.W.takesIn K (.ref pq1) = some true)
    (rq1_ : PySem.W.recIn K pq1 "property" = some (.ref fq1 :: rq1))
    (lq1 : K.lookup fq1 = some ⟨ocq1, odq1, .func (PySem.W.fnOf "start" "Pipe.start" (defArgs (inClass (top 11) 2)) (defBody (inClass (top 11) 2)) (defScope (inClass (top 11) 2)) .none kVq1 dcq1 pmq1 anq1 cdq1 ctq1), slq1⟩)
    (cq1 : PySem.W.codeIn K cdq1 "Pipe.start" = true)
    (kq1 : PySem.W.keepIn K (.ref fq1) = true)
    (aq2 : PySem.W.findIn K (.ref CP) "end" = some (some (.ref pq2)))
    (gq2 : PySem.W.specialIn K (.ref pq2) "__get__" = some (some (.builtin "property.__get__")))
    (tq2 : PySem.W.takesIn K (.ref pq2) = some true)
    (rq2_ : PySem.W.recIn K pq2 "property" = some (.ref fq2 :: rq2))
    (lq2 : K.lookup fq2 = some ⟨ocq2, odq2, .func (PySem.W.fnOf "end" "Pipe.end" (defArgs (inClass (top 11) 3)) (defBody (inClass (top 11) 3)) (defScope (inClass (top 11) 3)) .none kVq2 dcq2 pmq2 anq2 cdq2 ctq2), slq2⟩)
    (cq2 : PySem.W.codeIn K cdq2 "Pipe.end" = true)
    (kq2 : PySem.W.keepIn K (.ref fq2) = true)
    (aq3 : PySem.W.findIn K (.ref CM) "name" = some (some (.ref pq3)))
    (gq3 : PySem.W.specialIn K (.ref pq3) "__get__" = some (some (.builtin "property.__get__")))
    (tq3 : PySem.W.takesIn K (.ref pq3) = some true)
    (rq3_ : PySem.W.recIn K pq3 "property" = some (.ref fq3 :: rq3))
    (lq3 : K.lookup fq3 = some ⟨ocq3, odq3, .func (PySem.W.fnOf "name" "Meter.name" (defArgs (inClass (top 12) 1)) (defBody (inClass (top 12) 1)) (defScope (inClass (top 12) 1)) .none kVq3 dcq3 pmq3 anq3 cdq3 ctq3), slq3⟩)
    (cq3 : PySem.W.codeIn K cdq3 "Meter.name" = true)
    (kq3 : PySem.W.keepIn K (.ref fq3) = true)
    (aq4 : PySem.W.findIn K (.ref CM) "at" = some (some (.ref pq4)))
    (gq4 : PySem.W.specialIn K (.ref pq4) "__get__" = some (some (.builtin "property.__get__")))
    (tq4 : PySem.W.takesIn K (.ref pq4) = some true)
    (rq4_ : PySem.W.recIn K pq4 "property" = some (.ref fq4 :: rq4))
    (lq4 : K.lookup fq4 = some ⟨ocq4, odq4, .func (PySem.W.fnOf "at" "Meter.at" (defArgs (inClass (top 12) 2)) (defBody (inClass (top 12) 2)) (defScope (inClass (top 12) 2)) .none kVq4 dcq4 pmq4 anq4 cdq4 ctq4), slq4⟩)
    (cq4 : PySem.W.codeIn K cdq4 "Meter.at" = true)
    (kq4 : PySem.W.keepIn K (.ref fq4) = true)
    (aq5 : PySem.W.findIn K (.ref CM) "sealed" = some (some (.ref pq5)))
    (gq5 : PySem.W.specialIn K (.ref pq5) "__get__" = some (some (.builtin "property.__get__")))
    (tq5 : PySem.W.takesIn K (.ref pq5) = some true)
    (rq5_ : PySem.W.recIn K pq5 "property" = some (.ref fq5 :: rq5))
    (lq5 : K.lookup fq5 = some ⟨ocq5, odq5, .func (PySem.W.fnOf "sealed" "Meter.sealed" (defArgs (inClass (top 12) 3)) (defBody (inClass (top 12) 3)) (defScope (inClass (top 12) 3)) .none kVq5 dcq5 pmq5 anq5 cdq5 ctq5), slq5⟩)
    (cq5 : PySem.W.codeIn K cdq5 "Meter.sealed" = true)
    (kq5 : PySem.W.keepIn K (.ref fq5) = true)
    (g__LETTERS : PySem.W.nsIn K mainGlobals "_LETTERS" = some (some (.str "abcdefghijklmnopqrstuvwxyz" tkA)))
    (g__DIGITS : PySem.W.nsIn K mainGlobals "_DIGITS" = some (some (.str "0123456789" tkB)))
    (g__LONGEST_NAME : PySem.W.nsIn K mainGlobals "_LONGEST_NAME" = some (some (.int 8 tkC)))
    (b_len : PySem.W.nsIn K mainGlobals "len" = some none)
    (b_int : PySem.W.nsIn K mainGlobals "int" = some none)
    (b_abs : PySem.W.nsIn K mainGlobals "abs" = some none)
    (b_max : PySem.W.nsIn K mainGlobals "max" = some none)
    (b_min : PySem.W.nsIn K mainGlobals "min" = some none)
    (b_all : PySem.W.nsIn K mainGlobals "all" = some none)
    (b_any : PySem.W.nsIn K mainGlobals "any" = some none)
    (b_repr : PySem.W.nsIn K mainGlobals "repr" = some none)
    (b_range : PySem.W.nsIn K mainGlobals "range" = some none)
    (b_divmod : PySem.W.nsIn K mainGlobals "divmod" = some none)
    (b_isinstance : PySem.W.nsIn K mainGlobals "isinstance" = some none)
    (b_str : PySem.W.nsIn K mainGlobals "str" = some none)
    (z_pt : PySem.W.notFirst K CP (.type "tuple") = true)
    (z_ps : PySem.W.notFirst K CP (.type "str") = true)
    (z_pn : PySem.W.notFirst K CP (.type "NoneType") = true)
    (z_pm : PySem.W.notFirst K CP (.ref CM) = true)
    (z_mt : PySem.W.notFirst K CM (.type "tuple") = true)
    (z_ms : PySem.W.notFirst K CM (.type "str") = true)
    (z_mp : PySem.W.notFirst K CM (.ref CP) = true)
    (z_ipt : PySem.W.subIn K (.type "tuple") (.ref CP) = some false)
    (z_ips : PySem.W.subIn K (.type "str") (.ref CP) = some false)
    (z_ipn : PySem.W.subIn K (.type "NoneType") (.ref CP) = some false)
    (z_ipm : PySem.W.subIn K (.ref CM) (.ref CP) = some false)
    (z_imt : PySem.W.subIn K (.type "tuple") (.ref CM) = some false)
    (z_ims : PySem.W.subIn K (.type "str") (.ref CM) = some false)
    (z_imp : PySem.W.subIn K (.ref CP) (.ref CM) = some false)
    : ∃ fd : FuncData, (∀ (s : Shared) (v : Value), BindsTo s fd ⟨[v], []⟩ [("_law_cells", v)]) ∧ ∀ base : Heap, K.In base → base.Ns mainGlobals mg → FnG l.prog w K mg base 6 fa fd ["_law_cells"] (spLaw K) := by
  have e := hfa.symm.trans (PySem.W.mg_of X G aLa)
  cases e
  have T : Blt mg := ⟨PySem.W.mg_none_of X G b_len, PySem.W.mg_none_of X G b_int, PySem.W.mg_none_of X G b_abs, PySem.W.mg_none_of X G b_max, PySem.W.mg_none_of X G b_min, PySem.W.mg_none_of X G b_all, PySem.W.mg_none_of X G b_any, PySem.W.mg_none_of X G b_repr, PySem.W.mg_none_of X G b_range, PySem.W.mg_none_of X G b_divmod, PySem.W.mg_none_of X G b_isinstance, PySem.W.mg_none_of X G b_str⟩
  have Cs : Cst mg := ⟨⟨_, PySem.W.mg_of X G g__LETTERS, _, rfl⟩, ⟨_, PySem.W.mg_of X G g__DIGITS, _, rfl⟩, ⟨_, PySem.W.mg_of X G g__LONGEST_NAME, _, rfl⟩⟩
  have clP : Cls K CP := ⟨pgP, hdP, poP, saP⟩
  have clM : Cls K CM := ⟨pgM, hdM, poM, saM⟩
  have PC : PClass K mg CP := ⟨⟨clP, haP, hn, htk, hmP⟩, PySem.W.mg_of X G nP, noP0, noP1, noP2, kit_self K CP⟩
  have MC : MClass K mg CM := ⟨⟨clM, haM, hn, htk, hmM⟩, PySem.W.mg_of X G nM, noM0, noM1, noM2, kit_self K CM⟩
  have KI : Kinds K CP CM := ⟨z_pt, z_ps, z_pn, z_pm, z_mt, z_ms, z_mp, kit_sub hdP tyP suP z_ipt, kit_sub hdP tyP suP z_ips, kit_sub hdP tyP suP z_ipn, kit_sub hdP tyP suP z_ipm, kit_sub hdM tyM suM z_imt, kit_sub hdM tyM suM z_ims, kit_sub hdM tyM suM z_imp, noP3, noP4, noM3, noM4⟩
  have FIn := fun_mk (st := s_is_name) lIn cIn kIn
  have FCk := fun_mk (st := s_check_names) lCk cCk kCk
  have FWe := fun_mk (st := s_well) lWe cWe kWe
  have FDi := fun_mk (st := s_dip) lDi cDi kDi
  have FNa := fun_mk (st := s_name) lNa cNa kNa
  have FFr := fun_mk (st := s_fresh) lFr cFr kFr
  have FPr := fun_mk (st := s_pipe_right) lPr cPr kPr
  have FMr := fun_mk (st := s_meter_right) lMr cMr kMr
  have FPi := fun_mk (st := s_Pipe_i) lPi cPi kPi
  have FPq := fun_mk (st := s_Pipe_q) lPq cPq kPq
  have FMq := fun_mk (st := s_Meter_q) lMq cMq kMq
  have FMi : FunD K "__init__" "Meter.__init__" (defArgs s_Meter_i) (defBody s_Meter_i) (defScope s_Meter_i) [] [("sealed", V.bl false)] fMi _ := ⟨⟨_, _, _, _, _, _, _, _, _, _, rfl, lMi, cMi, .inl ⟨rfl, rfl⟩, .inr ⟨kDMi, rfl, fun q hq => by
    rw [List.mem_singleton.mp hq]
    exact ⟨_, kd, rfl⟩⟩⟩, kMi⟩
  have b1 : ∀ {x qual : Str} {st : Stmt} {f : Addr} {fd : FuncData} {p : Str} (F : Fun K x qual st f fd), (∀ (kV doc pm : Value) (an : Option Addr) (cdv ct u : Value), bindArgs (PySem.W.fnOf x qual (defArgs st) (defBody st) (defScope st) .none kV doc pm an cdv ct) ⟨[u], []⟩ = pure [(p, u)]) → Binds K fd [p] [] :=
    fun F h => F.binds (ps := [_]) fun _ _ _ _ _ _ us hl => match us, hl with | [_], _ => h _ _ _ _ _ _ _
  have bIn := b1 (p := "value") FIn fun _ _ _ _ _ _ _ => rfl
  have bCk := b1 (p := "values") FCk fun _ _ _ _ _ _ _ => rfl
  have bNa := b1 (p := "_law_well_here") FNa fun _ _ _ _ _ _ _ => rfl
  have bPr := b1 (p := "_law_well_here") FPr fun _ _ _ _ _ _ _ => rfl
  have bMr := b1 (p := "_law_well_here") FMr fun _ _ _ _ _ _ _ => rfl
  have bWe := FWe.binds (ps := ["_law_cells", "_law_k"]) fun _ _ _ _ _ _ us hl => match us, hl with | [_, _], _ => rfl
  have bDi := FDi.binds (ps := ["_law_well_here", "_law_many"]) fun _ _ _ _ _ _ us hl => match us, hl with | [_, _], _ => rfl
  have bFr := FFr.binds (ps := ["_law_well_here", "_law_taken"]) fun _ _ _ _ _ _ us hl => match us, hl with | [_, _], _ => rfl
  have bPi := FPi.binds (ps := ["self", "name", "start", "end"]) fun _ _ _ _ _ _ us hl => match us, hl with | [_, _, _, _], _ => rfl
  have bPq := FPq.binds (ps := ["self", "other"]) fun _ _ _ _ _ _ us hl => match us, hl with | [_, _], _ => rfl
  have bMq := FMq.binds (ps := ["self", "other"]) fun _ _ _ _ _ _ us hl => match us, hl with | [_, _], _ => rfl
  refine ⟨PySem.W.fnOf "law" "law" (defArgs s_law) (defBody s_law) (defScope s_law) .none kVLa dcLa pmLa anLa cdLa ctLa, fun s v => .of_eq rfl, fun base _ _ => ?_⟩
  have GIn : Fn l.prog w K mg base "is_name" 1 ["value"] (sp_is_name K) := ⟨_, _, PySem.W.mg_of X G aIn, kIn, bIn, ok_is_name FIn T Cs⟩
  have GCk : Fn l.prog w K mg base "_check_names" 2 ["values"] (sp_check K) := ⟨_, _, PySem.W.mg_of X G aCk, kCk, bCk, ok_check_names FCk GIn⟩
  have GWe : Fn l.prog w K mg base "_law_well" 1 ["_law_cells", "_law_k"] (sp_well K) := ⟨_, _, PySem.W.mg_of X G aWe, kWe, bWe, ok_well FWe T⟩
  have GDi : Fn l.prog w K mg base "_law_dip" 1 ["_law_well_here", "_law_many"] sp_dip := ⟨_, _, PySem.W.mg_of X G aDi, kDi, bDi, ok_dip FDi T⟩
  have GNa : Fn l.prog w K mg base "_law_name" 2 ["_law_well_here"] sp_name := ⟨_, _, PySem.W.mg_of X G aNa, kNa, bNa, ok_name FNa T GDi⟩
  have GFr : Fn l.prog w K mg base "_law_fresh" 3 ["_law_well_here", "_law_taken"] sp_fresh := ⟨_, _, PySem.W.mg_of X G aFr, kFr, bFr, ok_fresh FFr T GDi GNa⟩
  have OPi : FnOk l.prog w K mg base CX0 3 fPi _ ["self", "name", "start", "end"] (sp_Pipe CP) := ok_Pipe_i FPi PC GCk
  have OMi : FnOk l.prog w K mg base CX0 3 fMi _ ["self", "name", "at", "sealed"] (sp_Meter CM) := ok_Meter_i FMi MC GCk
  have MkP : Mk K CP fPi := ⟨mkP, aPi, iPi, kcP⟩
  have MkM : Mk K CM fMi := ⟨mkM, aMi, iMi, kcM⟩
  have P0 : Mkr l.prog w K mg base "Pipe" CP 3 (sp_Pipe CP) [] := ⟨PC.k, _, _, _, [], MkP, bPi, .nil, OPi⟩
  have PK : MkrK l.prog w K mg base "Pipe" CP 3 0 ["end", "start", "name"] (sp_Pipe CP) gP := ⟨PC.k, _, _, _, _, MkP, kbP FPi, OPi⟩
  obtain ⟨dsM, vdM, bdM⟩ := chain1 FMi
  obtain ⟨gm2, kb2⟩ := kbM2 FMi
  have M0 : Mkr l.prog w K mg base "Meter" CM 3 (sp_Meter CM) [.bl false] := ⟨MC.k, _, _, _, dsM, MkM, bdM, vdM, OMi⟩
  have MK2 : MkrK l.prog w K mg base "Meter" CM 3 2 ["sealed"] (sp_Meter CM) gM2 := ⟨MC.k, _, _, _, _, MkM, kb2, OMi⟩
  have MK0 : MkrK l.prog w K mg base "Meter" CM 3 0 ["at", "sealed", "name"] (sp_Meter CM) gM0 := ⟨MC.k, _, _, _, _, MkM, kbM0 FMi, OMi⟩
  have qP : OwnEq l.prog w K mg base CP 1 (sp_Peq K CP) := ⟨⟨_, _, _, aPq, iPq, bPq, ok_Pipe_q FPq PC T⟩, neP, obP⟩
  have qM : OwnEq l.prog w K mg base CM 1 (sp_Meq K CM) := ⟨⟨_, _, _, aMq, iMq, bMq, ok_Meter_q FMq MC T⟩, neM, obM⟩
  have scG : ∀ st : Stmt, defScope st = defScope (inClass (top 11) 1) → FnScope ["self"] ["self"] (defScope st) := fun st e => by
    rw [e]
    exact ⟨rfl, rfl, rfl, by decide +kernel, rfl, by decide +kernel, by decide +kernel⟩
  have y0 : Prp l.prog w K mg base CP "name" 1 (getSp CP "_name") := ⟨clP, _, _, _, _, ⟨aq0, gq0, tq0, _, rq0_⟩, b1 (p := "self") (fun_mk (st := inClass (top 11) 1) lq0 cq0 kq0) fun _ _ _ _ _ _ _ => rfl, fn_getter (N := ["self"]) lq0 cq0 (scG _ rfl) rfl rfl clP PC.n1⟩
  have y1 : Prp l.prog w K mg base CP "start" 1 (getSp CP "_start") := ⟨clP, _, _, _, _, ⟨aq1, gq1, tq1, _, rq1_⟩, b1 (p := "self") (fun_mk (st := inClass (top 11) 2) lq1 cq1 kq1) fun _ _ _ _ _ _ _ => rfl, fn_getter (N := ["self"]) lq1 cq1 (scG _ rfl) rfl rfl clP PC.n2⟩
  have y2 : Prp l.prog w K mg base CP "end" 1 (getSp CP "_end") := ⟨clP, _, _, _, _, ⟨aq2, gq2, tq2, _, rq2_⟩, b1 (p := "self") (fun_mk (st := inClass (top 11) 3) lq2 cq2 kq2) fun _ _ _ _ _ _ _ => rfl, fn_getter (N := ["self"]) lq2 cq2 (scG _ rfl) rfl rfl clP PC.n3⟩
  have y3 : Prp l.prog w K mg base CM "name" 1 (getSp CM "_name") := ⟨clM, _, _, _, _, ⟨aq3, gq3, tq3, _, rq3_⟩, b1 (p := "self") (fun_mk (st := inClass (top 12) 1) lq3 cq3 kq3) fun _ _ _ _ _ _ _ => rfl, fn_getter (N := ["self"]) lq3 cq3 (scG _ rfl) rfl rfl clM MC.n1⟩
  have y4 : Prp l.prog w K mg base CM "at" 1 (getSp CM "_at") := ⟨clM, _, _, _, _, ⟨aq4, gq4, tq4, _, rq4_⟩, b1 (p := "self") (fun_mk (st := inClass (top 12) 2) lq4 cq4 kq4) fun _ _ _ _ _ _ _ => rfl, fn_getter (N := ["self"]) lq4 cq4 (scG _ rfl) rfl rfl clM MC.n2⟩
  have y5 : Prp l.prog w K mg base CM "sealed" 1 (getSp CM "_sealed") := ⟨clM, _, _, _, _, ⟨aq5, gq5, tq5, _, rq5_⟩, b1 (p := "self") (fun_mk (st := inClass (top 12) 3) lq5 cq5 kq5) fun _ _ _ _ _ _ _ => rfl, fn_getter (N := ["self"]) lq5 cq5 (scG _ rfl) rfl rfl clM MC.n3⟩
  exact ok_law (fun_mk (st := s_law) lLa cLa kLa) T GWe ⟨_, _, PySem.W.mg_of X G aPr, kPr, bPr, ok_pipe_right FPr T PC MC KI GNa.irr GFr.irr P0.irr PK.irr M0.irr y0 y1 y2 qP⟩
    ⟨_, _, PySem.W.mg_of X G aMr, kMr, bMr, ok_meter_right FMr T PC KI GDi.irr GNa.irr GFr.irr P0.irr M0.irr MK2.irr MK0.irr y3 y4 y5 qM⟩

end RV
open PySem PySem.W PyProof.Rows in
set_option maxRecDepth 100000 in
set_option maxHeartbeats 0 in
theorem PySem.Challenge.cw_ringvotes_k09_pipes_and_meters_holds : PySem.Challenge.rw_ringvotes_k09_pipes_and_meters.Holds := by
  w_on; o_law; k_head; (case hw => w_witness2)
  k_fill
  refine RV.walkG 6 (l := PySem.Challenge.rw_ringvotes_k09_pipes_and_meters) ⟨rfl, by decide, by decide⟩ rfl rfl (fun w h Y => PySem.W.kIn_of Y) ?F
  case F =>
    intro w mg fa h KX G hmg
    refine' RV.all_mk KX G hmg ?aIn ?lIn ?cIn ?kIn ?aCk ?lCk ?cCk ?kCk ?aWe ?lWe ?cWe ?kWe ?aDi ?lDi ?cDi ?kDi ?aNa ?lNa ?cNa ?kNa ?aFr ?lFr ?cFr ?kFr ?aPr ?lPr ?cPr ?kPr ?aMr ?lMr ?cMr ?kMr ?aLa ?lLa ?cLa ?kLa ?nP ?pgP ?hdP ?poP ?saP ?mkP ?kcP ?haP ?hmP ?tyP ?suP ?obP ?noP0 ?noP1 ?noP2 ?noP3 ?noP4 ?nM ?pgM ?hdM ?poM ?saM ?mkM ?kcM ?haM ?hmM ?tyM ?suM ?obM ?noM0 ?noM1 ?noM2 ?noM3 ?noM4 ?hn ?htk ?neP ?neM ?aPi ?iPi ?lPi ?cPi ?kPi ?aPq ?iPq ?lPq ?cPq ?kPq ?aMi ?iMi ?lMi ?cMi ?kMi ?aMq ?iMq ?lMq ?cMq ?kMq ?kd ?aq0 ?gq0 ?tq0 ?rq0_ ?lq0 ?cq0 ?kq0 ?aq1 ?gq1 ?tq1 ?rq1_ ?lq1 ?cq1 ?kq1 ?aq2 ?gq2 ?tq2 ?rq2_ ?lq2 ?cq2 ?kq2 ?aq3 ?gq3 ?tq3 ?rq3_ ?lq3 ?cq3 ?kq3 ?aq4 ?gq4 ?tq4 ?rq4_ ?lq4 ?cq4 ?kq4 ?aq5 ?gq5 ?tq5 ?rq5_ ?lq5 ?cq5 ?kq5 ?g__LETTERS ?g__DIGITS ?g__LONGEST_NAME ?b_len ?b_int ?b_abs ?b_max ?b_min ?b_all ?b_any ?b_repr ?b_range ?b_divmod ?b_isinstance ?b_str ?z_pt ?z_ps ?z_pn ?z_pm ?z_mt ?z_ms ?z_mp ?z_ipt ?z_ips ?z_ipn ?z_ipm ?z_imt ?z_ims ?z_imp
    (case aIn => k_is)
    (case lIn => k_is)
    (case cIn => k_is)
    (case kIn => k_is)
    (case aCk => k_is)
    (case lCk => k_is)
    (case cCk => k_is)
    (case kCk => k_is)
    (case aWe => k_is)
    (case lWe => k_is)
    (case cWe => k_is)
    (case kWe => k_is)
    (case aDi => k_is)
    (case lDi => k_is)
    (case cDi => k_is)
    (case kDi => k_is)
    (case aNa => k_is)
    (case lNa => k_is)
    (case cNa => k_is)
    (case kNa => k_is)
    (case aFr => k_is)
    (case lFr => k_is)
    (case cFr => k_is)
    (case kFr => k_is)
    (case aPr => k_is)
    (case lPr => k_is)
    (case cPr => k_is)
    (case kPr => k_is)
    (case aMr => k_is)
    (case lMr => k_is)
    (case cMr => k_is)
    (case kMr => k_is)
    (case aLa => k_is)
    (case lLa => k_is)
    (case cLa => k_is)
    (case kLa => k_is)
    (case nP => k_is)
    (case pgP => k_is)
    (case hdP => k_is)
    (case poP => k_is)
    (case saP => k_is)
    (case mkP => k_is)
    (case kcP => k_is)
    (case haP => k_is)
    (case hmP => k_is)
    (case tyP => k_is)
    (case suP => k_is)
    (case obP => k_is)
    (case noP0 => k_is)
    (case noP1 => k_is)
    (case noP2 => k_is)
    (case noP3 => k_is)
    (case noP4 => k_is)
    (case nM => k_is)
    (case pgM => k_is)
    (case hdM => k_is)
    (case poM => k_is)
    (case saM => k_is)
    (case mkM => k_is)
    (case kcM => k_is)
    (case haM => k_is)
    (case hmM => k_is)
    (case tyM => k_is)
    (case suM => k_is)
    (case obM => k_is)
    (case noM0 => k_is)
    (case noM1 => k_is)
    (case noM2 => k_is)
    (case noM3 => k_is)
    (case noM4 => k_is)
    (case hn => k_is)
    (case htk => k_is)
    (case neP => k_is)
    (case neM => k_is)
    (case aPi => k_is)
    (case iPi => k_is)
    (case lPi => k_is)
    (case cPi => k_is)
    (case kPi => k_is)
    (case aPq => k_is)
    (case iPq => k_is)
    (case lPq => k_is)
    (case cPq => k_is)
    (case kPq => k_is)
    (case aMi => k_is)
    (case iMi => k_is)
    (case lMi => k_is)
    (case cMi => k_is)
    (case kMi => k_is)
    (case aMq => k_is)
    (case iMq => k_is)
    (case lMq => k_is)
    (case cMq => k_is)
    (case kMq => k_is)
    (case kd => k_is)
    (case aq0 => k_is)
    (case gq0 => k_is)
    (case tq0 => k_is)
    (case rq0_ => k_is)
    (case lq0 => k_is)
    (case cq0 => k_is)
    (case kq0 => k_is)
    (case aq1 => k_is)
    (case gq1 => k_is)
    (case tq1 => k_is)
    (case rq1_ => k_is)
    (case lq1 => k_is)
    (case cq1 => k_is)
    (case kq1 => k_is)
    (case aq2 => k_is)
    (case gq2 => k_is)
    (case tq2 => k_is)
    (case rq2_ => k_is)
    (case lq2 => k_is)
    (case cq2 => k_is)
    (case kq2 => k_is)
    (case aq3 => k_is)
    (case gq3 => k_is)
    (case tq3 => k_is)
    (case rq3_ => k_is)
    (case lq3 => k_is)
    (case cq3 => k_is)
    (case kq3 => k_is)
    (case aq4 => k_is)
    (case gq4 => k_is)
    (case tq4 => k_is)
    (case rq4_ => k_is)
    (case lq4 => k_is)
    (case cq4 => k_is)
    (case kq4 => k_is)
    (case aq5 => k_is)
    (case gq5 => k_is)
    (case tq5 => k_is)
    (case rq5_ => k_is)
    (case lq5 => k_is)
    (case cq5 => k_is)
    (case kq5 => k_is)
    (case g__LETTERS => k_is)
    (case g__DIGITS => k_is)
    (case g__LONGEST_NAME => k_is)
    (case b_len => k_is)
    (case b_int => k_is)
    (case b_abs => k_is)
    (case b_max => k_is)
    (case b_min => k_is)
    (case b_all => k_is)
    (case b_any => k_is)
    (case b_repr => k_is)
    (case b_range => k_is)
    (case b_divmod => k_is)
    (case b_isinstance => k_is)
    (case b_str => k_is)
    (case z_pt => k_is)
    (case z_ps => k_is)
    (case z_pn => k_is)
    (case z_pm => k_is)
    (case z_mt => k_is)
    (case z_ms => k_is)
    (case z_mp => k_is)
    (case z_ipt => k_is)
    (case z_ips => k_is)
    (case z_ipn => k_is)
    (case z_ipm => k_is)
    (case z_imt => k_is)
    (case z_ims => k_is)
    (case z_imp => k_is)
