import PyProof.Rows.All
import Wide.All
import OpenK.AllK
import Wide.FinOn
import HandS.ForMost
import HandS.WideBits
import HandS.Wide
import HandS.IsInst
import HandS.Property
import HandS.MakeKwOnly
import HandS.Defaults
import HandS.OwnEq
import HandS.Steps
import HandS.TupLe
import KE.GoesMore
import HandS.TupSets
import HandS.SetFor
import HandS.Strs
import PyProof.Rows.SortShellAny
import HandS.Words
import HandS.Style
import HandS.WordsDict
import HandS.More
import PyProof.Rows.RegStrFacts
import HandS.RaiseMore
import HandS.Text
import HandS.StrMore
import HandS.FStr
import KE.KCallOwn
import PyProof.EqKinds
import PyProof.Raises
import HandS.ClsMeth
import HandS.CallLocal
import HandS.Walk
import HandS.Iter
import KE.KOpsOwn
import PyProof.TwoTypes
import HandS.TupAny
import HandS.Star
import HandS.Zip
import KE.KTupSum
import HandS.SetBool
import KE.GoesNew
import HandS.DictComp
import HandS.TryOnly
import PySem.Challenge.RW_ringvotes_k24_known_strengths
set_option Elab.async false
set_option maxRecDepth 100000
set_option maxHeartbeats 8000000
/-! What every law of this program shares: the well from which it draws, what is known of the heap, the end. -/
namespace RV
open PySem L2

/-! ### what is known of the heap -/
/-- a list of three ints from which numbers are drawn, at a; at most n draws so far -/
def WellAt (H : Hp) (a : Addr) (n : Nat) : Prop :=
  ∃ x y z : Int, H a = some (.lst [.int x, .int y, .int z]) ∧ (0 ≤ x ∧ x < 2147483629) ∧ 0 ≤ y ∧ (0 ≤ z ∧ z ≤ n)
/-- all but the well stands as it stood -/
def Grow (a : Addr) (H H' : Hp) : Prop := ∀ b o, b ≠ a → H b = some o → H' b = some o
theorem Grow.refl (a : Addr) (H : Hp) : Grow a H H := fun _ _ _ h => h
theorem Grow.trans {a : Addr} {H H1 H2 : Hp} (g : Grow a H H1) (k : Grow a H1 H2) : Grow a H H2 := fun b o n h => k b o n (g b o n h)
theorem Grow.new {a p : Addr} {H : Hp} {o : HO} (np : H p = none) : Grow a H (upd H p o) := fun b u _ h => by
  rw [upd_ne (ne_of_none h np)]
  exact h
/-- from the heap H0 on all but the well at a is kept; the well; things that stand elsewhere -/
structure Has (H0 : Hp) (a : Addr) (n : Nat) (L : List (Addr × HO)) (H : Hp) : Prop where
  gr : Grow a H0 H
  well : WellAt H a n
  here : ∀ p ∈ L, p.1 ≠ a ∧ H p.1 = some p.2
section
variable {a p : Addr} {n m : Nat} {L : List (Addr × HO)} {H0 H H' : Hp} {o : HO}
theorem Has.start (w : WellAt H a n) : Has H a n [] H := ⟨Grow.refl a H, w, fun _ hp => nomatch hp⟩
theorem Has.grow (h : Has H0 a n L H) (g : Grow a H H') (w : WellAt H' a m) : Has H0 a m L H' := ⟨h.gr.trans g, w, fun p hp => ⟨(h.here p hp).1, g _ _ (h.here p hp).1 (h.here p hp).2⟩⟩
theorem Has.new (h : Has H0 a n L H) (np : H p = none) : Has H0 a n ((p, o) :: L) (upd H p o) := by
  obtain ⟨g, ⟨x, y, z, e, r⟩, k⟩ := h
  refine ⟨g.trans (Grow.new np), ⟨x, y, z, by rw [upd_ne (ne_of_none e np)]; exact e, r⟩, fun q hq => ?_⟩
  rcases List.mem_cons.mp hq with rfl | hq
  · refine ⟨?_, upd_same⟩
    intro w
    have w' : p = a := w
    rw [w', e] at np
    cases np
  · exact ⟨(k q hq).1, by rw [upd_ne (ne_of_none (k q hq).2 np)]; exact (k q hq).2⟩
theorem Has.at (h : Has H0 a n L H) (hp : (p, o) ∈ L) : H p = some o := (h.here _ hp).2
theorem Has.sub {L' : List (Addr × HO)} (h : Has H0 a n L H) (s : ∀ p ∈ L', p ∈ L) : Has H0 a n L' H := ⟨h.gr, h.well, fun p hp => h.here p (s p hp)⟩
end

/-! ### the end -/
def spLaw (K : PySem.W.Frag) : Sp := fun vs H Q _ => ∃ (a : Addr) (ns : List Int), vs = [.ref a] ∧ SqL K H a (ns.map V.int) ∧ ns.length ≤ 63 ∧ ∀ H', Q (.bl true) H'
end RV
namespace RV
open PySem L2
section
variable {σ : L2.St} {H : Hp} {t : TT} {ta tb : TE} {Q : VK} {b : Bool}
/-- an int on either way: what follows is shown once -/
theorem tif_int (ht : Ans t σ H b) (ha : b = true → ∃ z : Int, Val ta σ H (.int z)) (hb : b = false → ∃ z : Int, Val tb σ H (.int z)) (k : ∀ z : Int, Q (.int z) H) : tIf t ta tb σ H Q := by
  refine ht _ ?_
  cases b with
  | true => exact iteT (let ⟨z, h⟩ := ha rfl; h _ (k z))
  | false => exact iteF (let ⟨z, h⟩ := hb rfl; h _ (k z))
end
/-- a function of the module, as its callers see it -/
def Fn (P : Program) (w : World) (K : PySem.W.Frag) (mg : Str → Option Value) (base : Heap) (x : Str) (k : Nat) (ps : List Str) (sp : Sp) : Prop :=
  ∃ f fd, mg x = some (.ref f) ∧ PySem.W.keepIn K (.ref f) = true ∧ Binds K fd ps [] ∧ FnOk P w K mg base CX0 k f fd ps sp
section
variable {X : Cx} {x : Str} {k : Nat} {ps : List Str} {sp : Sp} {e : Expr} {es : List Expr} {t : TA} {p pos : Pos}
theorem pe_fn (h : Fn X.prog X.w X.K X.mg X.base x k ps sp) (hr : Room k X.A) (ha : PA X (e :: es) t) (hg : Gl X x := by rfl) (hdb : (x == ("__debug__" : Str)) = false := by decide)
    (he : starEach (e :: es) X.env = (false, eval e X.env) :: starEach es X.env := by rfl) (hpl : (backTo pos (starEach es X.env)).any (·.1) = false := by rfl) :
    PE X (.Call (.Name x p) (e :: es) [] pos) (tCall sp [] E0 t) := by
  obtain ⟨f, fd, hm, hk, hb, F⟩ := h
  exact pe_call F hr hg hm hk hb .nil pass0 ha hdb he hpl
/-- a text, an int of the module's top -/
theorem pe_gS {z : Str} (h : ∃ u, X.mg x = some u ∧ RelV (.str z) u) (hg : Gl X x := by rfl) (hd : (x == ("__debug__" : Str)) = false := by decide) : PE X (.Name x pos) (tC (.str z)) := by
  obtain ⟨u, hm, r⟩ := h
  exact pe_glob hg hm r hd
theorem pe_gI {z : Int} (h : ∃ u, X.mg x = some u ∧ RelV (.int z) u) (hg : Gl X x := by rfl) (hd : (x == ("__debug__" : Str)) = false := by decide) : PE X (.Name x pos) (tC (.int z)) := by
  obtain ⟨u, hm, r⟩ := h
  exact pe_glob hg hm r hd
theorem pe_gC {C : Addr} (hm : X.mg x = some (.ref C)) (hg : Gl X x := by rfl) (hd : (x == ("__debug__" : Str)) = false := by decide) : PE X (.Name x pos) (tC (.ref C)) := pe_glob hg hm rfl hd
end
end RV
namespace RV
open PySem L2
/-! the same rules where the written part is a letter (within a comprehension's block) -/
section
variable {X : Cx} {K : PySem.W.Frag}
theorem op_inK (h : X.K = K := by rfl) : OpR X (compareOp .In) (rIn K false) := h ▸ op_in_seq
theorem op_notInK (h : X.K = K := by rfl) : OpR X (compareOp .NotIn) (rIn K true) := h ▸ op_notIn_seq
theorem ix_listK (h : X.K = K := by rfl) : IxR X (rIxL K) := h ▸ ix_list
def rLenQ (K : PySem.W.Frag) : List V → Hp → VK → Prop := fun xs H Q => ∃ p ys, xs = [.ref p] ∧ (SqL K H p ys ∨ SqT K H p ys) ∧ Q (.int ys.length) H
theorem call_lenK (h : X.K = K := by rfl) : CallR X (.builtin "len") (rLenQ K) := h ▸ call_len_seq
end
end RV
/-! Names: what they are, by their signs. -/
namespace RV
open PySem L2
def lowC (c : Nat) : Bool := decide (97 ≤ c) && decide (c ≤ 122)
def digC (c : Nat) : Bool := decide (48 ≤ c) && decide (c ≤ 57)
def tailC (c : Nat) : Bool := lowC c || digC c
/-- one to eight signs, letters and digits, a letter first -/
def isNm : List Nat → Bool
  | [] => false
  | c :: r => lowC c && r.all tailC && decide (r.length ≤ 7)
def IsNm (x : Str) : Prop := isNm x.cps.toList = true
abbrev cd (x : Str) : List Nat := x.cps.toList
theorem cd_inj {x y : Str} (h : cd x = cd y) : x = y := PyProof.Rows.ext_toList h
theorem cd_app (x y : Str) : cd (x ++ y) = cd x ++ cd y := by
  show (x ++ y).cps.toList = _
  exact Array.toList_append
theorem cd_len (x : Str) : x.length = (cd x).length := by
  show x.cps.size = x.cps.toList.length
  rw [Array.length_toList]
theorem cd_one (c : Nat) : cd ⟨#[c]⟩ = [c] := rfl
theorem isNm_iff {l : List Nat} : isNm l = true ↔ ∃ c r, l = c :: r ∧ lowC c = true ∧ r.all tailC = true ∧ r.length ≤ 7 := by
  cases l with
  | nil => simp [isNm]
  | cons c r =>
    constructor
    · intro h
      simp only [isNm, Bool.and_eq_true, decide_eq_true_eq] at h
      exact ⟨c, r, rfl, h.1.1, h.1.2, h.2⟩
    · rintro ⟨c', r', e, h1, h2, h3⟩
      cases e
      simp [isNm, h1, h2, h3]
theorem isNm_len {l : List Nat} (h : isNm l = true) : 1 ≤ l.length ∧ l.length ≤ 8 := by
  obtain ⟨c, r, rfl, _, _, h3⟩ := isNm_iff.mp h
  simp
  omega
theorem tail_of_low {c : Nat} (h : lowC c = true) : tailC c = true := by simp [tailC, h]
theorem isNm_all {l : List Nat} (h : isNm l = true) : l.all tailC = true := by
  obtain ⟨d, r, rfl, h1, h2, _⟩ := isNm_iff.mp h
  simp only [List.all_cons, tail_of_low h1, h2, Bool.and_self]
def signs : Str := "abcdefghijklmnopqrstuvwxyz0123456789"
theorem cd_signs : cd signs = [97, 98, 99, 100, 101, 102, 103, 104, 105, 106, 107, 108, 109, 110, 111, 112, 113, 114, 115, 116, 117, 118, 119, 120, 121, 122, 48, 49, 50, 51, 52, 53, 54, 55, 56, 57] := by decide +kernel
theorem sign_low : ∀ i : Fin 26, ∃ c, (cd signs)[i.val]? = some c ∧ lowC c = true := by
  rw [cd_signs]
  intro i
  have h : ∀ i : Fin 26, (match ([97, 98, 99, 100, 101, 102, 103, 104, 105, 106, 107, 108, 109, 110, 111, 112, 113, 114, 115, 116, 117, 118, 119, 120, 121, 122, 48, 49, 50, 51, 52, 53, 54, 55, 56, 57] : List Nat)[i.val]? with | some c => lowC c | none => false) = true := by decide
  have hi := h i
  split at hi
  · rename_i c e
    exact ⟨c, e, hi⟩
  · cases hi
theorem sign_tail : ∀ i : Fin 36, ∃ c, (cd signs)[i.val]? = some c ∧ tailC c = true := by
  rw [cd_signs]
  intro i
  have h : ∀ i : Fin 36, (match ([97, 98, 99, 100, 101, 102, 103, 104, 105, 106, 107, 108, 109, 110, 111, 112, 113, 114, 115, 116, 117, 118, 119, 120, 121, 122, 48, 49, 50, 51, 52, 53, 54, 55, 56, 57] : List Nat)[i.val]? with | some c => tailC c | none => false) = true := by decide
  have hi := h i
  split at hi
  · rename_i c e
    exact ⟨c, e, hi⟩
  · cases hi
theorem at_low {r : Int} (h0 : 0 ≤ r) (h : r < 26) : ∃ c, atI (cd signs) r = some c ∧ lowC c = true := by
  obtain ⟨n, rfl⟩ := Int.eq_ofNat_of_zero_le h0
  obtain ⟨c, e, hc⟩ := sign_low ⟨n, by omega⟩
  exact ⟨c, atI_nat e, hc⟩
theorem at_tail {r : Int} (h0 : 0 ≤ r) (h : r < 36) : ∃ c, atI (cd signs) r = some c ∧ tailC c = true := by
  obtain ⟨n, rfl⟩ := Int.eq_ofNat_of_zero_le h0
  obtain ⟨c, e, hc⟩ := sign_tail ⟨n, by omega⟩
  exact ⟨c, atI_nat e, hc⟩
theorem at_of_list {α : Type} {l : List α} {P : α → Prop} (h : ∀ x ∈ l, P x) {r : Int} (h0 : 0 ≤ r) (h1 : r < l.length) : ∃ c, atI l r = some c ∧ P c ∧ c ∈ l := by
  obtain ⟨n, rfl⟩ := Int.eq_ofNat_of_zero_le h0
  have hn : n < l.length := by omega
  exact ⟨l[n], atI_nat (List.getElem?_eq_getElem hn), h _ (List.getElem_mem hn), List.getElem_mem hn⟩
/-! slices of texts -/
theorem inV_str (x : Str) (xs : List Str) : inV (.str x) (xs.map V.str) = decide (x ∈ xs) := by
  induction xs with
  | nil => rfl
  | cons y ys ih =>
    show (eqV (.str y) (.str x) || inV (.str x) (ys.map V.str)) = _
    rw [ih]
    show ((y == x) || decide (x ∈ ys)) = _
    by_cases e : y = x
    · subst e
      simp
    · have e' : ¬ x = y := fun h => e h.symm
      simp [e, e']
/-! walks over any thing that is walked in order -/
theorem lc_it {J : It} {n : Nat} {g : TG} {tt : TT} {te : TE} {vs : List Nat} {σ : L2.St} {H1 : Hp} {D : Addr} {Qd : Hp → Prop} (Pv : Nat → Hp → Prop)
    (hgo : ∀ i H, i < n → Pv i H → J.go i H) (hst : ∀ H, Pv n H → J.stop n H) (h0 : Pv 0 (upd H1 D (.lst [])))
    (hs : ∀ i x H H', i < n → Pv i H → J.yld i H x H' → g x (wipe σ vs) H' fun σ2 H2 => wipe σ2 vs = wipe σ vs ∧ tt σ2 H2 fun b H3 =>
      if b = true then te σ2 H3 fun y H4 => ∃ acc, H4 D = some (.lst acc) ∧ acc.length < sizeLine ∧ Pv (i + 1) (upd H4 D (.lst (acc ++ [y]))) else Pv (i + 1) H3) (hd : ∀ H, Pv n H → Qd H) :
    ∃ W : Nat → Nat → Hp → Prop, (∃ m, W 0 m (upd H1 D (.lst []))) ∧ ∀ i m H, W i m H →
      (J.stop i H ∧ Qd H) ∨ (J.go i H ∧ ∃ Nx : Hp → Prop, (∀ H', Nx H' → ∃ m', m' < m ∧ W (i + 1) m' H') ∧ ∀ x H', J.yld i H x H' → g x (wipe σ vs) H' fun σ2 H2 => wipe σ2 vs = wipe σ vs ∧ tt σ2 H2 fun b H3 =>
        if b = true then te σ2 H3 fun y H4 => ∃ acc, H4 D = some (.lst acc) ∧ acc.length < sizeLine ∧ Nx (upd H4 D (.lst (acc ++ [y]))) else Nx H3) := by
  refine ⟨fun i m H => m = n - i ∧ i ≤ n ∧ Pv i H, ⟨n, by simp, Nat.zero_le _, h0⟩, ?_⟩
  rintro i m H ⟨rfl, hi, p⟩
  by_cases hlt : i < n
  · refine .inr ⟨hgo i H hlt p, Pv (i + 1), fun H' p' => ⟨n - (i + 1), by omega, rfl, hlt, p'⟩, fun x H' y => ?_⟩
    exact hs i x H H' hlt p y
  · have e : i = n := by omega
    subst e
    exact .inl ⟨hst H p, hd H p⟩
theorem lc_str {z : Str} {g : TG} {tt : TT} {te : TE} {vs : List Nat} {σ : L2.St} {H1 : Hp} {D : Addr} {Qd : Hp → Prop} (Pv : Nat → Hp → Prop) (h0 : Pv 0 (upd H1 D (.lst [])))
    (hs : ∀ i c H, (cd z)[i]? = some c → Pv i H → g (.str ⟨#[c]⟩) (wipe σ vs) H fun σ2 H2 => wipe σ2 vs = wipe σ vs ∧ tt σ2 H2 fun b H3 =>
      if b = true then te σ2 H3 fun y H4 => ∃ acc, H4 D = some (.lst acc) ∧ acc.length < sizeLine ∧ Pv (i + 1) (upd H4 D (.lst (acc ++ [y]))) else Pv (i + 1) H3) (hd : ∀ H, Pv (cd z).length H → Qd H) :
    ∃ W : Nat → Nat → Hp → Prop, (∃ m, W 0 m (upd H1 D (.lst []))) ∧ ∀ i m H, W i m H →
      ((Its z).stop i H ∧ Qd H) ∨ ((Its z).go i H ∧ ∃ Nx : Hp → Prop, (∀ H', Nx H' → ∃ m', m' < m ∧ W (i + 1) m' H') ∧ ∀ x H', (Its z).yld i H x H' → g x (wipe σ vs) H' fun σ2 H2 => wipe σ2 vs = wipe σ vs ∧ tt σ2 H2 fun b H3 =>
        if b = true then te σ2 H3 fun y H4 => ∃ acc, H4 D = some (.lst acc) ∧ acc.length < sizeLine ∧ Nx (upd H4 D (.lst (acc ++ [y]))) else Nx H3) :=
  lc_it (J := Its z) (n := (cd z).length) Pv (fun i _ h _ => by
    show i < z.cps.size
    rwa [← Array.length_toList]) (fun _ _ => by
    show z.cps.size ≤ (cd z).length
    rw [← Array.length_toList]
    exact Nat.le_refl _) h0 (fun i x H H' hi p y => by
    obtain ⟨e, c, hc, ex⟩ := y
    subst e ex
    exact hs i c H' (by rw [← hc]; exact Array.getElem?_toList ..) p) hd
end RV
namespace RV
open PySem L2
/-- what follows a statement is shown once, from what the statement leaves -/
theorem seq_of {t R : TS} {D : Ends} {σ : L2.St} {H : Hp} (mid : L2.St → Hp → Prop) (h2 : ∀ σ' H', mid σ' H' → R D σ' H') (h1 : ∀ N : L2.St → Hp → Prop, (∀ σ' H', mid σ' H' → N σ' H') → t { D with nx := N } σ H) : tSeq t R D σ H := h1 (R D) h2
theorem tst_of {tt : TT} {σ : L2.St} {H : Hp} {Q : Bool → Hp → Prop} (mid : Bool → Hp → Prop) (k : ∀ v H', mid v H' → Q v H') (h : ∀ Q' : Bool → Hp → Prop, (∀ v H', mid v H' → Q' v H') → tt σ H Q') : tt σ H Q := h Q k
theorem szn {n : Nat} (h : n ≤ 1000) : n ≤ sizeLine := Nat.le_trans h (by decide)
theorem shaped_nil : SeqAt.shaped (.list []) = true := by simp [SeqAt.shaped, PyData.canLay0, PyData.canLayAll0, PyData.depth, PyData.depthAll]
end RV
/-! Rules for own classes: ==, !=, truth; repr of data. -/
namespace PySem.W
open PySem PySem.Calls PyProof.Rows Builtin
section
variable {prog : Program} {w : World} {A : Around} {E : Value → Shared → Prop} {s : Shared} {K : Frag} {x C L f : Addr} {h₀ : Heap} {m : Str → Option Value} {ox : Obj} {od : Option Obj} {b tb : Value}
/-- the default !=, by the class's own == that gives a bool -/
theorem rv_ne_K {Q : Value → Shared → Prop} (hu : A.units + 1 < cLine) (F : Fr h₀ L s.heap m) (X₀ : K.In h₀) (I : InstAt s.heap x ox C od) (hb : Looks (model prog w) s.heap (typeOf b) tb) (hn : notFirst K C tb = true)
    (hs : findIn K (.ref C) "__eq__" = some (some (.ref f))) (hf : isFn K (.ref f) = true) (hne : findIn K (.ref C) "__ne__" = some (some (.builtin "object.__ne__"))) (hob : subIn K (.ref C) (.type "object") = some true)
    (h : wpAny (model prog w) A.in1 (call (.ref f) [.ref x, b]) (fun v s' => ∃ c, v = .bool c ∧ Q (.bool (!c)) s') E s) : wpAny (model prog w) A (richCompare .NotEq (.ref x) b) Q E s := by
  have X := X₀.keeps F.keep
  have entry : wpAny (model prog w) A.in1 (Builtin.«object.__ne__» ⟨[.ref x, b], []⟩) (fun fin s' => ∃ v, fin = .done (.ret v) ∧ ∃ c, v = .bool (!c) ∧ Q (.bool (!c)) s') E s := by
    unfold Builtin.«object.__ne__»
    refine wpAny_bind (m := slotArgs "__ne__" 1 _) (wpAny_pure ?_)
    refine wpAny_bind (wpAny_cRoomFor (show A.units + 1 < cLine from hu) ?_)
    refine wpAny_bind (m := callSpecialIfBound? (.ref x) (Str.ofString "__eq__") [b]) (ifBound_K X I hs hf (wpAny_mono h (fun v s' hv => ?_) fun _ _ e => e))
    obtain ⟨c, rfl, hq⟩ := hv
    refine wpAny_bind (m := truthy (.bool c)) (wpAny_truthy_bool ?_)
    exact wpAny_pure ⟨_, rfl, c, rfl, hq⟩
  have chk : wpAny (model prog w) A.in1 (checkBuiltinCall "object.__ne__" ⟨[.ref x, b], []⟩) (fun _ s1 => s1 = s) E s := by
    simp only [checkBuiltinCall, PySem.F.cmpKind_ne, PySem.F.cmpSplit_ne]
    refine wpAny_bind ?_
    unfold isInstance
    refine wpAny_bind (I.type.here ?_)
    refine (looks_subIn X hob).here ?_
    have ha : argsOk "object.__ne__" ⟨[.ref x, b], []⟩ := PySem.F.cmpArgs_ne _ _
    cases hsig : Manifest.signature? "object.__ne__" with
    | none => exact wpAny_pure rfl
    | some sig =>
      simp only [argsOk, hsig] at ha
      have h2 : Bind.checkArgs "object.__ne__" sig ⟨[.ref x, b], []⟩ = pure () := ha
      show wpAny _ A.in1 (Bind.checkArgs "object.__ne__" sig ⟨[.ref x, b], []⟩) _ E _
      rw [h2]
      exact wpAny_pure rfl
  have callne : wpAny (model prog w) A (call (.builtin "object.__ne__") [.ref x, b]) (fun v s' => ∃ c, v = .bool (!c) ∧ Q (.bool (!c)) s') E s := by
    refine wpAny_call (codeAny_call_builtin PySem.F.slot_object_ne.plain PySem.F.cmpEntry_ne (wpAny_mono chk (fun _ s1 e => ?_) fun _ _ e => e))
    subst e
    refine wpAny_mono entry (fun fin s' hq => ?_) fun _ _ e => e
    obtain ⟨v, rfl, c, rfl, q⟩ := hq
    exact ⟨c, rfl, q⟩
  have one : wpAny (model prog w) A (tryCompare (.ref x) "__ne__" b) (fun r s' => ∃ v, r = some v ∧ Q v s') E s := by
    unfold tryCompare
    refine wpAny_bind (m := callSpecialIfBound? (.ref x) (Str.ofString "__ne__") [b]) ?_
    simp only [callSpecialIfBound?, bindSpecialIfBound?]
    refine wpAny_holding (wpAny_bind (wpAny_bind (wpAny_bind (I.type.here ((looks_findIn X hne).here ?_)))))
    simp only [PySem.F.slot_object_ne.bind]
    refine wpAny_bind (wpAny_askSetting (wpAny_ite ?_))
    have fin : ∀ R : Option Value → Shared → Prop, (∀ (c : Bool) s', Q (.bool (!c)) s' → R (some (.bool (!c))) s') → wpAny (model prog w) A (call (.builtin "object.__ne__") ([.ref x] ++ [b]) >>= fun v => pure (some v)) R E s := by
      intro R hR
      refine wpAny_bind (wpAny_mono callne (fun v s' hq => ?_) fun _ _ e => e)
      obtain ⟨c, rfl, q⟩ := hq
      exact wpAny_pure (hR c s' q)
    split
    · exact wpAny_bind (wpAny_pure (wpAny_pure (fin _ fun c s' q => wpAny_pure ⟨_, rfl, q⟩)))
    · exact wpAny_tryCatch (wpAny_bind (wpAny_pure (wpAny_pure (fin _ fun c s' q => wpAny_pure ⟨_, rfl, q⟩))))
  unfold richCompare
  simp only [oneThing_ref]
  refine wpAny_holding (wpAny_bind (wpAny_cRoomFor (Nat.lt_of_succ_lt hu) ?_))
  rw [cmpInfo_NotEq]
  dsimp only
  refine wpAny_bind (I.type.here (wpAny_bind (hb.here ?_)))
  split
  · rename_i q
    have e : subIn K tb (.ref C) = some false := by
      rcases Bool.or_eq_true_iff.mp hn with e | e
      · rw [beq_iff_eq.mp e] at q; simp at q
      · exact beq_iff_eq.mp e
    refine wpAny_bind ((looks_subIn X e).here ?_)
    simp only [Bool.false_eq_true, if_false]
    refine wpAny_bind (wpAny_mono one (fun r s' z => ?_) fun _ _ e => e)
    obtain ⟨v, rfl, hq⟩ := z
    exact wpAny_pure hq
  · refine wpAny_bind (wpAny_pure ?_)
    simp only [Bool.false_eq_true, if_false]
    refine wpAny_bind (wpAny_mono one (fun r s' z => ?_) fun _ _ e => e)
    obtain ⟨v, rfl, hq⟩ := z
    exact wpAny_pure hq
end
end PySem.W

namespace RV
open PySem L2
/-- the kind of a value, for a comparison -/
inductive TyL (H : Hp) : V → Value → Prop where
  | non : TyL H .non (.type "NoneType")
  | bl (b : Bool) : TyL H (.bl b) (.type "bool")
  | int (i : Int) : TyL H (.int i) (.type "int")
  | str (x : Str) : TyL H (.str x) (.type "str")
  | lst {a : Addr} {xs : List V} (e : H a = some (.lst xs)) : TyL H (.ref a) (.type "list")
  | tup {a : Addr} {xs : List V} (e : H a = some (.tup xs)) : TyL H (.ref a) (.type "tuple")
  | dK {a : Addr} {kvs : List (Key × V)} (e : H a = some (.dK kvs)) : TyL H (.ref a) (.type "dict")
  | ins {a C dx : Addr} {fs : List (Str × V)} (e : H a = some (.ins C dx fs)) : TyL H (.ref a) (.ref C)
section
variable {X : Cx} {pins : List (Addr × Obj)} {σ : L2.St} {H : Hp} {s : Shared}
/-- the class C has an own == that promises sp, and no own != -/
structure OwnEq (P : Program) (w : World) (K : PySem.W.Frag) (mg : Str → Option Value) (base : Heap) (C : Addr) (k : Nat) (sp : Sp) : Prop where
  fn : ∃ f fd ps, PySem.W.findIn K (.ref C) "__eq__" = some (some (.ref f)) ∧ PySem.W.isFn K (.ref f) = true ∧ Binds K fd ps [] ∧ FnOk P w K mg base CX0 k f fd ps sp
  ne : PySem.W.findIn K (.ref C) "__ne__" = some (some (.builtin "object.__ne__"))
  ob : PySem.W.subIn K (.ref C) (.type "object") = some true
@[irreducible] def rEqO (neg : Bool) (K : PySem.W.Frag) (C : Addr) (sp : Sp) : R2 := fun x y H Q => ∃ a dx fs t, x = .ref a ∧ H a = some (.ins C dx fs) ∧ TyL H y t ∧ PySem.W.notFirst K C t = true ∧
  sp [x, y] H (fun v H' => ∃ b, v = .bl b ∧ Q (.bl (if neg then !b else b)) H') E0
variable {P : Program} {w : World} {K : PySem.W.Frag} {mg : Str → Option Value} {base : Heap} {C : Addr} {k : Nat} {sp : Sp}
/-- an instance of a class without a truth or a length of its own is true -/
def rTrO (C : Addr) : V → Hp → (Bool → Hp → Prop) → Prop := fun x H Q => ∃ a dx fs, x = .ref a ∧ H a = some (.ins C dx fs) ∧ Q true H
/-! ### repr -/
mutual
theorem Dp.noDict {K : PySem.W.Frag} {H : Hp} : ∀ {v : V} {d : PyData}, Dp K H v d → d.hasDict = false
  | _, _, .non => by simp [PyData.hasDict]
  | _, _, .bl _ => by simp [PyData.hasDict]
  | _, _, .int _ => by simp [PyData.hasDict]
  | _, _, .str _ => by simp [PyData.hasDict]
  | _, _, .lst _ h => by simp [PyData.hasDict, DpAll.noDict h]
  | _, _, .tup _ h => by simp [PyData.hasDict, DpAll.noDict h]
theorem DpAll.noDict {K : PySem.W.Frag} {H : Hp} : ∀ {vs : List V} {ds : List PyData}, DpAll K H vs ds → PyData.hasDictAll ds = false
  | _, _, .nil => by simp [PyData.hasDictAll]
  | _, _, .cons h t => by simp [PyData.hasDictAll, Dp.noDict h, DpAll.noDict t]
end
@[irreducible] def rRepr (K : PySem.W.Frag) : List V → Hp → VK → Prop := fun xs H Q => ∃ a d, xs = [.ref a] ∧ Dp K H (.ref a) d ∧ d.showable = true ∧ d.depth ≤ 60 ∧ d.shown.length ≤ sizeLine ∧ Q (.str d.shown) H
theorem call_reprD (hu : X.A.units + 64 < cLine) (hg : X.A.guards = some []) : CallR X (.builtin "repr") (rRepr X.K) := by
  intro pins s σ H xs us Q I r h
  unfold rRepr at h
  obtain ⟨a, d, rfl, hd, hs, hdp, hsz, q⟩ := h
  obtain ⟨as, rd⟩ := Dp.reads I d _ _ hd (rfl : RelV (.ref a) (.ref a))
  have eu : us = [.ref a] := by
    cases r with
    | cons r1 r2 => cases r2; cases r1; rfl
  subst eu
  have nod : d.hasDict = true → sysModules ∉ as := fun hh => by
    rw [Dp.noDict hd] at hh
    cases hh
  refine repr_of_reads' rd hs nod hg (by omega) (fun _ _ e => e) (fun h' u tk hk => ⟨.str d.shown, H, I.kept hk, ⟨u, rfl⟩, q⟩) hsz
end
end RV
/-! Defs that must not run within a repr: as FnOk, but only where no repr is under way. -/
namespace RV
open PySem L2 PyProof.Rows
section
variable {P : Program} {w : World} {K : PySem.W.Frag} {mg : Str → Option Value} {base : Heap}
structure FnG (P : Program) (w : World) (K : PySem.W.Frag) (mg : Str → Option Value) (base : Heap) (k : Nat) (f : Addr) (fd : FuncData) (ps : List Str) (sp : Sp) : Prop where
  len : ∀ vs H Q E, sp vs H Q E → vs.length = ps.length
  run : ∀ (A : Around) (outer : List Env) (s : Shared) (H : Hp) (args : Args) (us : List Value) (vs : List V) (Q : VK) (E : XK), A.guards = some [] → Room k A → Env0 P w K mg base A outer s H → BindsTo s fd args (ps.zip us) → Vals vs us → sp vs H Q E →
    codeAny (model P w) A (.call (.ref f) args) (CR CX0 outer P w H s Q E) s
theorem gFun {x qual : Str} {st : Stmt} {f : Addr} {fd : FuncData} {N ps : List Str} {k : Nat} {sp : Sp} (F : Fun K x qual st f fd) (S : FnScope N ps (defScope st)) (len : ∀ vs H Q E, sp vs H Q E → vs.length = ps.length)
    (hbody : ∀ (cdv : Value) (A : Around) (outer : List Env) (s : Shared) (H : Hp) (vs : List V) (Q : VK) (E : XK), (A.deeper (envOfC qual (defScope st) s.heap.objs.size f cdv)).guards = some [] → Room k (A.deeper (envOfC qual (defScope st) s.heap.objs.size f cdv)) → sp vs H Q E →
      ∃ t, PSs (cxOf CX0 P w K mg base N qual (defScope st) f cdv A outer s H E).nox (defBody st) t ∧ t { nx := fun _ H' => Q .non H', rt := Q } (start N vs) H) : FnG P w K mg base (k + 1) f fd ps sp := by
  refine ⟨len, fun A outer s H args us vs Q E gs hr e0 hb r hsp => ?_⟩


  obtain ⟨oc, od, kV, doc, pm, an, cdv, ct, osl, rfl, lk, hcd⟩ := F.ex
  have hl := len _ _ _ _ hsp
  have KX : K.In s.heap := e0.mod.kin.keeps fun b o e => (e0.bs b o e).1
  have lim := e0.mod.nolimit.keeps fun b o e => (e0.bs b o e).1
  refine codeAny_call_function hr.depth (KX _ _ lk) rfl S.co S.gen rfl (PySem.W.codeRec_of KX hcd) (hb _ _ _ _ ?_)
  refine wpAny_newFunctionEnv_cells S.kind (fun y hy => ?_) fun env he s1 x => ?_
  · have hin : y.1 ∈ ps := by
      obtain ⟨n, v⟩ := y
      exact (List.of_mem_zip hy).1
    exact (S.par _ hin).imp id fun q => ⟨q, PySem.W.cellsFrom_some _ _ _ (.inl q)⟩
  subst he
  refine ⟨lim.keeps x.toInCall.keep, codeAny_func ?_⟩
  obtain ⟨t, ht, hq⟩ := hbody cdv A outer s H vs Q E gs (hr.deeper _) hsp
  have I := inv_start (CX := CX0) (cd := cdv) (E := E) S hr.hd e0 hl r x
  refine wpAny_mono (ht.nox.run [] s1 (start N vs) H _ I hq) (fun fl s' hs => ?_) fun _ _ hs => hs
  match fl, hs with
  | .ret u, ⟨v, _, H', J, rv, q⟩ => exact ⟨v, H', J.os, J.bare, J.base, J.hok, rv, q⟩
  | .next, ⟨_, H', J, q⟩ => exact ⟨V.non, H', J.os, J.bare, J.base, J.hok, rfl, q⟩
  | .brk, ⟨_, _, _, q⟩ => exact q.elim
  | .cont, ⟨_, _, _, q⟩ => exact q.elim
/-- such a function of the module, as its callers see it -/
def FnGd (P : Program) (w : World) (K : PySem.W.Frag) (mg : Str → Option Value) (base : Heap) (x : Str) (k : Nat) (ps : List Str) (sp : Sp) : Prop :=
  ∃ f fd, mg x = some (.ref f) ∧ PySem.W.keepIn K (.ref f) = true ∧ Binds K fd ps [] ∧ FnG P w K mg base k f fd ps sp
end
section
variable {X : Cx} {x : Str} {k : Nat} {ps : List Str} {sp : Sp} {e : Expr} {es : List Expr} {t : TA} {p pos : Pos}
theorem pe_fnG (h : FnGd X.prog X.w X.K X.mg X.base x k ps sp) (gs : X.A.guards = some []) (hr : Room k X.A) (ha : PA X (e :: es) t) (hg : Gl X x := by rfl) (hdb : (x == ("__debug__" : Str)) = false := by decide)
    (he : starEach (e :: es) X.env = (false, eval e X.env) :: starEach es X.env := by rfl) (hpl : (backTo pos (starEach es X.env)).any (·.1) = false := by rfl) :
    PE X (.Call (.Name x p) (e :: es) [] pos) (tCall sp [] E0 t) := by
  obtain ⟨f, fd, hm, hk, hb, F⟩ := h
  refine ⟨fun pins s σ H Q I h => wpAny_Call_Name_kw (ld_glob I hg hm ?_ hdb)⟩
  refine PySem.W.callWith_K (h₀ := X.base) I.ok.mod.kin hk (thn (ha.run pos pins s σ H _ I h) fun us s1 ⟨vs, H1, I1, r, q⟩ => ⟨I1.kIn, ?_⟩) he hpl
  have q' : sp vs H1 Q E0 := by rw [← List.append_nil vs]; exact q
  have hl : us.length = ps.length := r.length ▸ F.len _ _ _ _ q'
  have hbb : BindsTo s1 fd ⟨us, []⟩ (ps.zip us) := by
    have z := hb s1 us I1.kIn (by rw [List.append_nil]; exact hl)
    rwa [List.append_nil] at z
  refine wpAny_call (codeAny_mono (F.run X.A X.stack s1 H1 ⟨us, []⟩ us vs Q E0 gs hr I1.env0 hbb r q') fun res s' hq => ?_)
  match res, hq with
  | .ok (.ret u), hq => exact I1.after hq
  | .ok .next, hq => exact False.elim hq
  | .ok .brk, hq => exact False.elim hq
  | .ok .cont, hq => exact False.elim hq
  | .error e, hq => exact False.elim hq
end
/-- the law's own call: nothing is tracked but the script -/
theorem callG {P : Program} {w : World} {K : PySem.W.Frag} {mg mb : Str → Option Value} {k : Nat} {fa a : Addr} {fd : FuncData} {x : Str} {sp : Sp} {s₁ : Shared} {vs : List Value} {ns : List Int}
    (KX : K.In s₁.heap) (hns : s₁.heap.Ns mainGlobals mg) (hb : s₁.heap.Ns builtinsNs mb) (hbb : ∀ x : Str, x ≠ "__name__" → mb x = bootBuiltins x) (hlim : s₁.heap.NoLimit) (hg : s₁.gens = #[])
    (ha : s₁.heap.get? a = some { cls := .type "list", data := .seq vs.toArray }) (hi : IntsAre vs ns) (hl : ns.length ≤ sizeLine) (hr : Room k callerA)
    (F : ∀ base : Heap, K.In base → base.Ns mainGlobals mg → FnG P w K mg base k fa fd [x] sp) (hbind : ∀ (s : Shared) (u : Value), BindsTo s fd ⟨[u], []⟩ [(x, u)])
    (hsp : ∀ H : Hp, SqL K H a (ns.map V.int) → sp [.ref a] H (fun v _ => v = .bl true) E0) :
    codeAny (model P w) callerA (.call (.ref fa) ⟨[.ref a], []⟩) (fun r s' => r = .ok (.ret (.bool true)) ∧ OldK s₁.heap s'.heap ∧ s'.os = s₁.os ∧ AllBare s'.gens) s₁ := by
  have rv := vals_ints hi
  let scr : Obj := { cls := .type "list", data := .seq vs.toArray }
  -- H tracks at most the script, locked
  have core : ∀ H : Hp, (∀ b u, H b = some u → b = a ∧ u = .frz scr (.lst (ns.map V.int)) ∧ K.lookup a = none) → SqL K H a (ns.map V.int) →
      codeAny (model P w) callerA (.call (.ref fa) ⟨[.ref a], []⟩) (fun r s' => r = .ok (.ret (.bool true)) ∧ OldK s₁.heap s'.heap ∧ s'.os = s₁.os ∧ AllBare s'.gens) s₁ := by
    intro H hO hS
    have hok : HOk P w H s₁.heap := fun b u e => by
      obtain ⟨rfl, rfl, _⟩ := hO b u e
      exact ⟨ha, by rw [List.length_map]; exact hl, vs, _, rv, ha⟩
    have other : ∀ {b : Addr} {o : Obj}, s₁.heap.get? b = some o → o ≠ scr → H b = none := fun {b o} e d => by
      cases q : H b with
      | none => rfl
      | some u =>
        obtain ⟨rfl, _, _⟩ := hO b u q
        rw [ha] at e
        exact absurd (Option.some.inj e).symm d
    have spaces : ∀ {b : Addr} {m : Str → Option Value}, s₁.heap.Ns b m → (hidT s₁.heap H).Ns b m := fun {b m} z => by
      obtain ⟨o, es, ep, e, d, r⟩ := z
      refine ⟨o, es, ep, hidT_get e (other e fun q => ?_), d, r⟩
      subst q
      obtain ⟨_, d'⟩ := d
    have kin : K.In (hidT s₁.heap H) := fun b o e => hidT_get (KX b o e) (by
      cases q : H b with
      | none => rfl
      | some u =>
        obtain ⟨rfl, _, z⟩ := hO b u q
        rw [z] at e
        cases e)
    obtain ⟨mc, l1, l2⟩ := hlim
    have e0 : Env0 P w K mg (hidT s₁.heap H) callerA [] s₁ H :=
      { frames := rfl, mod := ⟨kin, spaces hns, ⟨mb, spaces hb, hbb⟩, ⟨mc, spaces l1, l2⟩⟩, bs := fun _ _ e => of_hidT e, bsz := Nat.le_of_eq (hidT_size _ _), funs := trivial, frf := fun _ hb => (nomatch hb), hok := hok, bare := .of_eq hg }
    refine codeAny_mono ((F _ kin (spaces hns)).run callerA [] s₁ H ⟨[.ref a], []⟩ [.ref a] [.ref a] _ _ rfl hr e0 (hbind s₁ (.ref a)) (.cons rfl .nil) (hsp H hS)) fun res s' z => ?_
    match res, z with
    | .ok (.ret u), ⟨v, H', os, bare, un, hok', rel, ev⟩ =>
      have ev' : v = .bl true := ev
      subst ev'
      have eu : u = Value.bool true := rel
      subst eu
      refine ⟨rfl, OldK.of_keep fun b o e => ?_, os, bare⟩
      cases q : H b with
      | none => exact un.keep b o e q (fun z => nomatch z) (fun z => nomatch z)
      | some u =>
        obtain ⟨rfl, rfl, _⟩ := hO b u q
        have z1 := (hok' b _ (un.frzs b _ _ q)).1
        rw [ha] at e
        rw [← e]
        exact z1
    | .ok .next, z => exact False.elim z
    | .ok .brk, z => exact False.elim z
    | .ok .cont, z => exact False.elim z
    | .error e, z => exact False.elim z
  cases hk : K.lookup a with
  | some o =>
    have e := KX a o hk
    rw [ha] at e
    cases e
    exact core (fun _ => none) (fun _ _ z => nomatch z) (.inr ⟨_, vs.toArray, _, hk, rfl, rfl, rfl, by rw [List.size_toArray, hi.length]; exact hl, by simpa using rv⟩)
  | none =>
    refine core (fun b => if b = a then some (.frz scr (.lst (ns.map V.int))) else none) (fun b u z => ?_) (.inl (.inr ⟨scr, if_pos rfl⟩))
    by_cases hb : b = a
    · rw [if_pos hb] at z
      exact ⟨hb, (Option.some.inj z).symm, hk⟩
    · rw [if_neg hb] at z
      cases z
theorem walkG (k : Nat) {l : PySem.W.OpenLaw} {q : Program} {loose : List Str} {XP : (Str → Option Value) → Heap → Prop} {YP : World → Heap → Prop} {d : DefRec} {K : Params → PySem.W.Frag} (hr : Room k callerA) (hn : l.most = some 63) (hdf : d.params.defaults = [])
    (hY : ∀ (w : World) (h : Heap), YP w h → (K w.params).In h)
    (F : ∀ (w : World) (mg : Str → Option Value) (fa : Addr) (h : Heap), (K w.params).In h → h.Ns mainGlobals mg → mg d.name = some (.ref fa) →
      ∃ fd : FuncData, (∀ (s : Shared) (u : Value), BindsTo s fd ⟨[u], []⟩ [("_law_cells", u)]) ∧ ∀ base : Heap, (K w.params).In base → base.Ns mainGlobals mg → FnG l.prog w (K w.params) mg base k fa fd ["_law_cells"] (spLaw (K w.params))) :
    PySem.W.WalkO q loose XP YP l.row.toRowW d [] (fun f vs => PySem.call f vs) := by
  refine Att.attach_call hn hdf fun w s₀ s₁ mg mb fa o pm cd doc a vs ns G Y ho hd hcd hmg hobj hints hlen hg => ?_
  obtain ⟨fd, hb, hF⟩ := F w mg fa _ (hY w _ Y) G.T.g hmg
  exact callG (hY w _ Y) G.T.g G.T.b G.T.builtins G.T.nolimit hg hobj hints (Nat.le_trans hlen (by decide)) hr hF hb fun H hS => ⟨a, ns, rfl, hS, hlen, fun _ => rfl⟩
end RV
/-! Classes of the text, as their callers see them. -/
namespace RV
open PySem L2 PyProof.Rows
/-- the class x of the module stands at C; C(..) of positional values, the defaults dvs behind them -/
def Mkr (P : Program) (w : World) (K : PySem.W.Frag) (mg : Str → Option Value) (base : Heap) (x : Str) (C : Addr) (k : Nat) (sp : Sp) (dvs : List V) : Prop :=
  mg x = some (.ref C) ∧ ∃ f fd ps ds, Mk K C f ∧ Binds K fd ps ds ∧ Vals dvs ds ∧ FnOk P w K mg base CX0 k f fd ps sp
def MkrK (P : Program) (w : World) (K : PySem.W.Frag) (mg : Str → Option Value) (base : Heap) (x : Str) (C : Addr) (k n : Nat) (ks : List Str) (sp : Sp) (gV : List V → List V → List V) : Prop :=
  mg x = some (.ref C) ∧ ∃ f fd ps g, Mk K C f ∧ KBn K fd ps (n + 1) ks g gV ∧ FnOk P w K mg base CX0 k f fd ps sp
/-- what isinstance asks of a class of the text -/
structure ClsX (K : PySem.W.Frag) (C : Addr) : Prop where
  cl : Cls K C
  ha : PySem.W.findIn K (.ref C) "__class__" = some (some (.builtin "object.__class__"))
  hn : PySem.W.specialIn K (.builtin "object.__class__") "__get__" = some (some (.builtin "getset_descriptor.__get__"))
  htk : PySem.W.takesIn K (.builtin "object.__class__") = some true
  hm : PySem.W.mroIn K C (.type "object") = some true
theorem ClsX.ty {K : PySem.W.Frag} {C a dx : Addr} {H : Hp} {fs : List (Str × V)} (c : ClsX K C) (e : H a = some (.ins C dx fs)) : TyX K H (.ref a) (.ref C) := .base (.ins e c.cl c.ha c.hn c.htk c.hm)
/-- a property -/
def Prp (P : Program) (w : World) (K : PySem.W.Frag) (mg : Str → Option Value) (base : Heap) (C : Addr) (f : Str) (k : Nat) (sp : Sp) : Prop :=
  Cls K C ∧ ∃ p g fd ps, PropOf K C f p g ∧ Binds K fd ps [] ∧ FnOk P w K mg base CX0 k g fd ps sp
section
variable {X : Cx} {x f : Str} {C : Addr} {k n : Nat} {ks : List Str} {sp : Sp} {dvs : List V} {gV : List V → List V → List V} {e : Expr} {es : List Expr} {kws : List Keyword} {t tk : TA} {ta : TE} {p pos : Pos}
theorem pe_mk (h : Mkr X.prog X.w X.K X.mg X.base x C k sp dvs) (hr : Room (k + 1) X.A) (ha : PA X (e :: es) t) (hg : Gl X x := by rfl) (hdb : (x == ("__debug__" : Str)) = false := by decide)
    (he : starEach (e :: es) X.env = (false, eval e X.env) :: starEach es X.env := by rfl) (hpl : (backTo pos (starEach es X.env)).any (·.1) = false := by rfl) : PE X (.Call (.Name x p) (e :: es) [] pos) (tMake C sp dvs E0 t) := by
  obtain ⟨hm, f, fd, ps, ds, M, hb, hd, F⟩ := h
  exact pe_make M F hr hg hm hb hd pass0 ha hdb he hpl
theorem pe_mkK (h : MkrK X.prog X.w X.K X.mg X.base x C k n ks sp gV) (hr : Room (k + 1) X.A) (ha : PA X (e :: es) t) (hkw : PK X kws tk) (hg : Gl X x := by rfl)
    (hall : (backToKw pos (keywordEach kws X.env)).all (·.1.isSome) = true := by rfl) (hks : (backToKw pos (keywordEach kws X.env)).filterMap (·.1) = ks := by rfl) (hdb : (x == ("__debug__" : Str)) = false := by decide)
    (he : starEach (e :: es) X.env = (false, eval e X.env) :: starEach es X.env := by rfl) (hpl : ((backTo pos (starEach (e :: es) X.env)).any (·.1) || (backToKw pos (keywordEach kws X.env)).any (·.1.isNone)) = false := by rfl) :
    PE X (.Call (.Name x p) (e :: es) kws pos) (tMakeK C n ks.length sp gV E0 t tk) := by
  obtain ⟨hm, f, fd, ps, g, M, hb, F⟩ := h
  exact pe_makeK M F hr hg hm hb pass0 ha hkw hall hks hdb he hpl
theorem pe_propN (h : Prp X.prog X.w X.K X.mg X.base C f k sp) (hr : Room (k + 1) X.A) (he : PE X e ta) (hab : attributeBase e f X.env (eval e X.env) = eval e X.env := by rfl) : PE X (.Attribute e f pos) (tProp C sp [] E0 ta) := by
  obtain ⟨c, q, g, fd, ps, hp, hb, F⟩ := h
  exact pe_prop he c hp F hr hb .nil pass0 hab
end
end RV
/-! What is known of the heap, step by step; repr of lists of short things. -/
namespace RV
open PySem L2 PyProof.Rows
/-- the built-in names that the text uses are still the built-ins -/
structure Blt (mg : Str → Option Value) : Prop where
  b_len : mg "len" = none
  b_int : mg "int" = none
  b_abs : mg "abs" = none
  b_max : mg "max" = none
  b_min : mg "min" = none
  b_all : mg "all" = none
  b_any : mg "any" = none
  b_repr : mg "repr" = none
  b_range : mg "range" = none
  b_divmod : mg "divmod" = none
  b_isinstance : mg "isinstance" = none
  b_str : mg "str" = none

/-! ### the well -/
def sp_well (K : PySem.W.Frag) : Sp := fun vs H Q _ => ∃ (c : Addr) (ns : List Int) (k : Nat), vs = [.ref c, .int k] ∧ SqL K H c (ns.map V.int) ∧ ns.length ≤ 63 ∧ k ≤ 100 ∧
  ∀ a H', H a = none → Same H H' → WellAt H' a 0 → Q (.ref a) H'
def sp_dip : Sp := fun vs H Q _ => ∃ (a : Addr) (m : Int) (n : Nat), vs = [.ref a, .int m] ∧ WellAt H a n ∧ n < 1000000 ∧ 0 < m ∧ m ≤ 10 ^ 60 ∧
  ∀ (r : Int) H', 0 ≤ r → r < m → Grow a H H' → WellAt H' a (n + 1) → Q (.int r) H'
theorem WellAt.mono {H : Hp} {a : Addr} {n m : Nat} (w : WellAt H a n) (h : n ≤ m) : WellAt H a m := by
  obtain ⟨x, y, z, e, hx, hy, hz⟩ := w
  exact ⟨x, y, z, e, hx, hy, by omega, by omega⟩
theorem WellAt.new {H : Hp} {a p : Addr} {n : Nat} {o : HO} (w : WellAt H a n) (np : H p = none) : WellAt (upd H p o) a n := by
  obtain ⟨x, y, z, e, hx, hy, hz⟩ := w
  exact ⟨x, y, z, by rw [upd_ne (ne_of_none e np)]; exact e, hx, hy, hz⟩
theorem WellAt.ne {H : Hp} {a p : Addr} {n : Nat} (w : WellAt H a n) (np : H p = none) : a ≠ p := by
  obtain ⟨x, y, z, e, _⟩ := w
  exact ne_of_none e np
def sp_name : Sp := fun vs H Q _ => ∃ (a : Addr) (n : Nat), vs = [.ref a] ∧ WellAt H a n ∧ n < 900000 ∧
  ∀ (x : Str) H', IsNm x → Grow a H H' → WellAt H' a (n + 10) → Q (.str x) H'
def sp_fresh : Sp := fun vs H Q _ => ∃ (a t : Addr) (n : Nat) (xs : List Str), vs = [.ref a, .ref t] ∧ WellAt H a n ∧ n < 800000 ∧ H t = some (.lst (xs.map V.str)) ∧ t ≠ a ∧ (∀ x ∈ xs, IsNm x) ∧ xs.length ≤ 35 ∧
  ∀ (x : Str) H', IsNm x → x ∉ xs → Grow a H H' → WellAt H' a (n + 13) → Q (.str x) H'
/-- the names that differ from x in their last sign alone -/
def cands (x : Str) : List Str := (cd signs).map fun c => cutS x none (some 7) ++ ⟨#[c]⟩
/-- what is_name says of any value whose kind is known -/
def sp_is_name (K : PySem.W.Frag) : Sp := fun vs H Q _ => ∃ v, vs = [v] ∧ ((∃ x : Str, v = .str x ∧ x.length ≤ sizeLine ∧ ∀ H', Same H H' → Q (.bl (isNm (cd x))) H') ∨
  (∃ t, TyX K H v t ∧ PySem.W.kitOne K t (.type "str") = some false ∧ Q (.bl false) H))
structure Cst (mg : Str → Option Value) : Prop where
  c__LETTERS : ∃ u, mg "_LETTERS" = some u ∧ RelV (.str "abcdefghijklmnopqrstuvwxyz") u
  c__DIGITS : ∃ u, mg "_DIGITS" = some u ∧ RelV (.str "0123456789") u
  c__LONGEST_NAME : ∃ u, mg "_LONGEST_NAME" = some u ∧ RelV (.int 8) u
theorem cd_letters : cd "abcdefghijklmnopqrstuvwxyz" = [97, 98, 99, 100, 101, 102, 103, 104, 105, 106, 107, 108, 109, 110, 111, 112, 113, 114, 115, 116, 117, 118, 119, 120, 121, 122] := by decide +kernel
theorem cd_digits : cd "0123456789" = [48, 49, 50, 51, 52, 53, 54, 55, 56, 57] := by decide +kernel
theorem low_in (c : Nat) : decide (c ∈ cd "abcdefghijklmnopqrstuvwxyz") = lowC c := by
  rw [cd_letters]
  simp only [lowC]
  by_cases h : 97 ≤ c ∧ c ≤ 122
  · have : c = 97 ∨ c = 98 ∨ c = 99 ∨ c = 100 ∨ c = 101 ∨ c = 102 ∨ c = 103 ∨ c = 104 ∨ c = 105 ∨ c = 106 ∨ c = 107 ∨ c = 108 ∨ c = 109 ∨ c = 110 ∨ c = 111 ∨ c = 112 ∨ c = 113 ∨ c = 114 ∨ c = 115 ∨ c = 116 ∨ c = 117 ∨ c = 118 ∨ c = 119 ∨ c = 120 ∨ c = 121 ∨ c = 122 := by omega
    rcases this with e | e | e | e | e | e | e | e | e | e | e | e | e | e | e | e | e | e | e | e | e | e | e | e | e | e <;> subst e <;> decide
  · have h1 : (decide (97 ≤ c) && decide (c ≤ 122)) = false := by
      simp only [Bool.and_eq_false_iff, decide_eq_false_iff_not]
      omega
    rw [h1]
    simp only [decide_eq_false_iff_not, List.mem_cons, List.not_mem_nil, or_false]
    omega
theorem tail_in (c : Nat) : decide (c ∈ cd (("abcdefghijklmnopqrstuvwxyz" : Str) ++ ("0123456789" : Str))) = tailC c := by
  rw [cd_app]
  have h2 : decide (c ∈ cd "0123456789") = digC c := by
    rw [cd_digits]
    simp only [digC]
    by_cases h : 48 ≤ c ∧ c ≤ 57
    · have : c = 48 ∨ c = 49 ∨ c = 50 ∨ c = 51 ∨ c = 52 ∨ c = 53 ∨ c = 54 ∨ c = 55 ∨ c = 56 ∨ c = 57 := by omega
      rcases this with e | e | e | e | e | e | e | e | e | e <;> subst e <;> decide
    · have h1 : (decide (48 ≤ c) && decide (c ≤ 57)) = false := by
        simp only [Bool.and_eq_false_iff, decide_eq_false_iff_not]
        omega
      rw [h1]
      simp only [decide_eq_false_iff_not, List.mem_cons, List.not_mem_nil, or_false]
      omega
  rw [tailC, ← low_in, ← h2]
  by_cases a : c ∈ cd "abcdefghijklmnopqrstuvwxyz" <;> by_cases b : c ∈ cd "0123456789" <;> simp [a, b]
/-- a promise that the unifier does not open -/
@[irreducible] def Irr (sp : Sp) : Sp := sp
theorem irr {sp : Sp} {vs : List V} {H : Hp} {Q : VK} {E : XK} (h : sp vs H Q E) : Irr sp vs H Q E := by unfold Irr; exact h
theorem irr_of {sp : Sp} {vs : List V} {H : Hp} {Q : VK} {E : XK} (h : Irr sp vs H Q E) : sp vs H Q E := by unfold Irr at h; exact h
theorem Fn.irr {P : Program} {w : World} {K : PySem.W.Frag} {mg : Str → Option Value} {base : Heap} {x : Str} {k : Nat} {ps : List Str} {sp : Sp} (h : Fn P w K mg base x k ps sp) : Fn P w K mg base x k ps (Irr sp) := by
  obtain ⟨f, fd, a, b, c, F⟩ := h
  exact ⟨f, fd, a, b, c, F.imp fun _ _ _ _ z => irr_of z⟩
theorem Mkr.irr {P : Program} {w : World} {K : PySem.W.Frag} {mg : Str → Option Value} {base : Heap} {x : Str} {C : Addr} {k : Nat} {sp : Sp} {dvs : List V} (h : Mkr P w K mg base x C k sp dvs) : Mkr P w K mg base x C k (Irr sp) dvs := by
  obtain ⟨m, f, fd, ps, ds, a, b, c, F⟩ := h
  exact ⟨m, f, fd, ps, ds, a, b, c, F.imp fun _ _ _ _ z => irr_of z⟩
theorem MkrK.irr {P : Program} {w : World} {K : PySem.W.Frag} {mg : Str → Option Value} {base : Heap} {x : Str} {C : Addr} {k n : Nat} {ks : List Str} {sp : Sp} {gV : List V → List V → List V} (h : MkrK P w K mg base x C k n ks sp gV) : MkrK P w K mg base x C k n ks (Irr sp) gV := by
  obtain ⟨m, f, fd, ps, g, a, b, F⟩ := h
  exact ⟨m, f, fd, ps, g, a, b, F.imp fun _ _ _ _ z => irr_of z⟩
section
variable {a p x : Addr} {n m : Nat} {L : List (Addr × HO)} {H0 H : Hp} {o : HO} {Q : VK} {E : XK}
theorem Has.ne (h : Has H0 a n L H) (np : H p = none) : p ≠ a := (h.well.ne np).symm
theorem Has.free (h : Has H0 a n L H) (np : H p = none) : ∀ q ∈ L, q.1 ≠ p := fun q hq => ne_of_none (h.here q hq).2 np
theorem Has.none0 (h : Has H0 a n L H) (np : H p = none) : H0 p = none := by
  cases e : H0 p with
  | none => rfl
  | some o =>
    rw [h.gr p o (h.ne np) e] at np
    cases np
/-- a thing that is not among them changes -/
theorem Has.put (h : Has H0 a n L H) (h0 : H0 p = none) (hp : ∀ q ∈ L, q.1 ≠ p) (pa : p ≠ a) : Has H0 a n L (upd H p o) := by
  obtain ⟨g, ⟨x, y, z, e, r⟩, k⟩ := h
  refine ⟨fun b u hb eb => ?_, ⟨x, y, z, by rw [upd_ne pa.symm]; exact e, r⟩, fun q hq => ⟨(k q hq).1, by rw [upd_ne (hp q hq)]; exact (k q hq).2⟩⟩
  rw [upd_ne (ne_of_none eb h0)]
  exact g b u hb eb
theorem Has.same (h : Has H0 a n L H) {H' : Hp} (g : Same H H') : Has H0 a n L H' := by
  obtain ⟨g0, ⟨x, y, z, e, r⟩, k⟩ := h
  exact ⟨fun b u hb eb => g _ _ (g0 b u hb eb), ⟨x, y, z, g _ _ e, r⟩, fun q hq => ⟨(k q hq).1, g _ _ (k q hq).2⟩⟩
theorem dip_step {q : Int} (h : Has H0 a n L H) (hn : n < 1000000) (h0 : 0 < q) (h1 : q ≤ 10 ^ 60) (k : ∀ (r : Int) H', 0 ≤ r → r < q → Has H0 a (n + 1) L H' → Q (.int r) H') : Irr sp_dip [.ref a, .int q] H Q E :=
  irr ⟨a, q, n, rfl, h.well, hn, h0, h1, fun r H' r0 r1 g w => k r H' r0 r1 (h.grow g w)⟩
end
/-! ### short data -/
structure Short (d : PyData) : Prop where
  sh : d.showable = true
  dp : d.depth = 0
  ln : d.shown.length ≤ 100
end RV
/-! for i, x in enumerate(t), t a tuple. -/
namespace PySem
open AutoSeq1 (wpAny_loadPart')
set_option maxHeartbeats 4000000 in
theorem rv_meets_enum_tuple (l : Addr) (items : Array Value) (n : Nat) (dct : Option Addr) (sl : Array (Option Value)) :
    Meets (Builtin.«enumerate.__new__» ⟨[.type "enumerate", .ref l], []⟩) (fun _ R s => s.heap.get? l = some { cls := .type "tuple", dict := dct, data := .seq items n, slots := sl } ∧
      R (.ok (.ret (.ref (s.heap.push { cls := .type "tuple_iterator", data := .fields #[.ref l, .int 0 0] }).objs.size)))
        { s with heap := (s.heap.push { cls := .type "tuple_iterator", data := .fields #[.ref l, .int 0 0] }).push { cls := .type "enumerate", data := .fields #[.none, .bool false, .ref s.heap.objs.size, rawInt 0, .none, .none] } }) :=
  .of_wp fun prog w A R s h => by
    obtain ⟨hp, g, d, tk, os⟩ := s
    obtain ⟨hl, h⟩ := h
    have q := sub_enumerate
    have hT : Heap.IsTuple (Shared.heap ⟨hp, g, d, tk, os⟩) l items := ⟨_, hl, rfl, n, rfl⟩
    wp_walk using wpAny_loadPart' hl
    refine wpAny_stack_any fun st => wpAny_pure ?_
    split
    · rename_i c _ _ _ _ _
      cases (c == Value.type "enumerate") <;> (wp_walk using wpAny_loadPart' hl, wpAny_pyIter_tuple hT; exact ⟨_, rfl, h⟩)
    · wp_walk using wpAny_loadPart' hl, wpAny_pyIter_tuple hT
      exact ⟨_, rfl, h⟩
section
variable {prog : Program} {w : World} {A : Around} {E : Value → Shared → Prop} {s : Shared}
theorem rv_call_enum_tuple {l : Addr} {items : Array Value} {Q : Value → Shared → Prop} (hT : s.heap.IsTuple l items)
    (h : ∀ h', IsEnum h' (s.heap.objs.size + 1) s.heap.objs.size 0 .none → h'.IsTupleIter s.heap.objs.size l 0 → h'.objs.size = s.heap.objs.size + 2 → (∀ b o, s.heap.get? b = some o → h'.get? b = some o) → Q (.ref (s.heap.objs.size + 1)) { s with heap := h' }) :
    wpAny (model prog w) A (call (.type "enumerate") [.ref l]) Q E s := by
  obtain ⟨⟨c, dct, dt, sl⟩, hl, hc, n, hd⟩ := hT
  obtain rfl : c = .type "tuple" := hc
  obtain rfl : dt = .seq items n := hd
  refine callType_new F.called_enumerate (by decide) (F.typeCall_enumerate_1 _) (F.newCall_enumerate_1 _) (fun obj => F.args_object_init_2 obj _) F.entry_enumerate_new (rv_meets_enum_tuple l items n dct sl) ⟨hl, ?_⟩
  let h1 := s.heap.push { cls := .type "tuple_iterator", data := .fields #[.ref l, .int 0 0] }
  have z1 : h1.objs.size = s.heap.objs.size + 1 := Heap.size_push ..
  show _ ∧ _
  rw [show (s.heap.push { cls := .type "tuple_iterator", data := .fields #[.ref l, .int 0 0] }).objs.size = s.heap.objs.size + 1 from z1]
  have he : IsEnum (h1.push { cls := .type "enumerate", data := .fields #[.none, .bool false, .ref s.heap.objs.size, rawInt 0, .none, .none] }) (s.heap.objs.size + 1) s.heap.objs.size 0 .none := by
    have t := Heap.get?_push_size h1 (o := { cls := .type "enumerate", data := .fields #[.none, .bool false, .ref s.heap.objs.size, rawInt 0, .none, .none] }) rfl
    rw [z1] at t
    exact t
  exact ⟨⟨_, he, rfl⟩, h _ he ⟨_, Heap.get?_push_of_some _ (Heap.get?_push_size _ rfl), rfl, rfl⟩ (by rw [Heap.size_push, z1]) fun b o x => Heap.get?_push_of_some _ (Heap.get?_push_of_some _ x)⟩
end
end PySem
namespace RV
open PySem L2 PyProof.Rows
/-- the tuple at a, each item in a new pair with its number -/
def Iet (K : PySem.W.Frag) (a : Addr) : It :=
  ⟨fun i H => ∃ (xs : List V) (x : V), SqT K H a xs ∧ xs[i]? = some x, fun i H v H' => ∃ T x, v = .ref T ∧ H T = none ∧ H' = upd H T (.tup [.int (i : Nat), x]) ∧ ∀ xs, SqT K H a xs → xs[i]? = some x, fun i H => ∃ xs : List V, SqT K H a xs ∧ xs.length = i⟩
theorem turn_enumT {P : Program} {w : World} {K : PySem.W.Frag} {elts : List Expr} {kk : Nat} {tpos : Pos} (a e it : Addr) :
    Turn P w K (.Tuple elts kk tpos) (Iet K a) [e, it] e (fun i h => (∃ old, IsEnum h e it ((i : Nat) : Int) old) ∧ h.IsTupleIter it a i ∧ e ≠ it) where
  mem := List.Mem.head _
  obj := fun i h st b hb => by
    obtain ⟨⟨old, he⟩, ⟨o, ho, hc, hd⟩, _⟩ := st
    rcases (by simpa using hb : b = e ∨ b = it) with rfl | rfl
    · exact ⟨_, he, fun v q => nomatch q⟩
    · exact ⟨o, ho, fun v q => by rw [hd] at q; cases q⟩
  keep := fun i h h' st k => by
    obtain ⟨⟨old, he⟩, hi, hne⟩ := st
    exact ⟨⟨old, k e (List.Mem.head _) _ he⟩, hi.at fun o q => k it (.tail _ (.head _)) o q, hne⟩
  item := by
    intro X hP hw hK hc i pins s σ H E I hf st hg
    subst hP hw hK
    obtain ⟨⟨old, he⟩, hit, hne⟩ := st
    obtain ⟨xs, x, hq, hx⟩ := hg
    obtain ⟨its, rv, p, hz⟩ := I.tuple hq
    obtain ⟨u, hu, ru⟩ := rv.get hx
    have hel : e < s.heap.objs.size := Heap.lt_size he
    have hil : it < s.heap.objs.size := by obtain ⟨_, q, _⟩ := hit; exact Heap.lt_size q
    have pt : s.heap.IsTuple a its.toArray := p
    have ait : a ≠ it := fun z => by
      obtain ⟨o, ho, hc, _⟩ := hit
      obtain ⟨o', ho', hc', _⟩ := pt
      rw [z, ho] at ho'
      cases ho'
      rw [hc] at hc'
      injection hc' with q
      exact absurd q (by decide)
    have ae : a ≠ e := fun z => by
      obtain ⟨o', ho', hc', _⟩ := pt
      rw [z, he] at ho'
      cases ho'
      injection hc' with q
      exact absurd q (by decide)
    have lt : i < its.toArray.size := by
      have := (List.getElem?_eq_some_iff.mp hu).1
      simpa using this
    refine wpAny_pyNext_enum_itemD (Draws.tuple (A := X.A.in1) (I.ok.hd hc) it a ait its.toArray) he ⟨hit, pt⟩ lt hne (by simp [hne, ae.symm]) fun y h' tk hy ho hst hT hsz hk => ?_
    have ey : y = u := by
      have e1 : its.toArray[i]? = some u := by simpa using hu
      rw [e1] at hy
      exact (Option.some.inj hy).symm
    subst ey
    refine ⟨_, rfl, wpAny_letOwnedTupleGo_enum (s := { s with heap := h', toks := tk + 1 }) ho fun h'' he' sb => ?_⟩
    have hT2 : h''.get? s.heap.objs.size = some { cls := .type "tuple", data := .seq #[.int i tk, y] } := (sb.2 _ (Nat.ne_of_gt hel)).trans hT
    have new : ObjOk X.prog X.w (upd H s.heap.objs.size (.tup [.int (i : Nat), x])) h'' s.heap.objs.size (.tup [.int (i : Nat), x]) :=
      ⟨by show 2 ≤ sizeLine; decide, [.int i tk, y], .cons ⟨_, rfl⟩ (.cons ru .nil), ⟨_, hT2, rfl, _, rfl⟩⟩
    have I1 : Inv X pins σ (upd H s.heap.objs.size (.tup [.int (i : Nat), x])) { s with heap := h'', toks := tk + 1 } :=
      I.turnedNew (ch := [e, it]) (fun b ob hb q => (sb.2 b (fun z => hb (by simp [z]))).trans (hk b ob (fun z => hb (by simp [z])) (fun z => hb (by simp [z])) q)) hf (Nat.le_refl _) new
    refine ⟨.ref s.heap.objs.size, _, I1, rfl, ⟨_, x, rfl, I.hok.fresh (Nat.le_refl _), rfl, fun ys hy => by rw [I.tuple_inj hy hq]; exact hx⟩, ⟨⟨y, ?_⟩, hst.1.at fun o q => (sb.2 it (Ne.symm hne)).trans q, hne⟩, fun b hb => ?_⟩
    · rw [show ((i + 1 : Nat) : Int) = (i : Int) + 1 by omega]
      exact he'
    · have hb' : b < s.heap.objs.size := by
        rcases (by simpa using hb : b = e ∨ b = it) with rfl | rfl
        · exact hel
        · exact hil
      rw [upd_ne (Nat.ne_of_lt hb')]
      exact (hf b hb).1
  done := by
    intro X hP hw hK hc i pins s σ H E I hf st hg
    subst hP hw hK
    obtain ⟨⟨old, he⟩, hit, hne⟩ := st
    obtain ⟨xs, hq, hx⟩ := hg
    obtain ⟨its, rv, p, hz⟩ := I.tuple hq
    obtain ⟨f0, f1, f2, f3, f4, f5⟩ := hf it (by simp)
    have pt : s.heap.IsTuple a its.toArray := p
    have ait : a ≠ it := fun z => by
      obtain ⟨o, ho, hc, _⟩ := hit
      obtain ⟨o', ho', hc', _⟩ := pt
      rw [z, ho] at ho'
      cases ho'
      rw [hc] at hc'
      injection hc' with q
      exact absurd q (by decide)
    have en : i = its.toArray.size := by
      rw [List.size_toArray, ← rv.length]
      exact hx.symm
    subst en
    exact wpAny_pyNext_enum_endD (Draws.tuple (A := X.A.in1) (I.ok.hd hc) it a ait its.toArray) he ⟨hit, pt⟩ fun h' eb => ⟨rfl, I.turned (t' := s.toks) (fun b o hb q => eb b o hb q) f0 f1 f3 f4 f5⟩
  self := fun A i s Q E st h => let ⟨⟨_, he⟩, _⟩ := st; wpAny_pyIter_enum he h
def iEnumT (K : PySem.W.Frag) (ta : TA) : TI := fun σ H R => ta σ H fun vs H1 => ∃ a xs, vs = [.ref a] ∧ SqT K H1 a xs ∧ R (Iet K a) H1
theorem pi_enumT {X : Cx} {e : Expr} {ta : TA} {p pos tpos : Pos} {elts : List Expr} {kk : Nat} (hg : Gl X "enumerate") (hm : X.mg "enumerate" = none) (ha : PA X [e] ta) (hs : starEach [e] X.env = [(false, eval e X.env)] := by rfl) :
    PI X (.Tuple elts kk tpos) (.Call (.Name "enumerate" p) [e] [] pos) (iEnumT X.K ta) := by
  refine ⟨fun pins s σ H R I h => ?_⟩
  refine Call_ (ld_blt I hg hm boot_enumerate (PyProof.Rows.callWith_type1 (thn (ha.run pos pins s σ H _ I h) fun us s1 ⟨vs, H1, I1, r1, q1⟩ => ?_) hs rfl))
  obtain ⟨a, xs, ex, hq, q⟩ := q1
  subst ex
  have eu : us = [.ref a] := by
    cases r1 with
    | cons r2 r3 => cases r3; cases r2; rfl
  subst eu
  obtain ⟨its, rv, p', hz⟩ := I1.tuple hq
  refine rv_call_enum_tuple (show s1.heap.IsTuple a its.toArray from p') fun h' he hit hsz hk => wpAny_pyIter_enum he ?_
  have I2 : Inv X pins σ H1 { s1 with heap := h' } := I1.kept (t' := s1.toks) hk
  refine ⟨s1.heap.objs.size + 1, [s1.heap.objs.size + 1, s1.heap.objs.size], _, _, H1, rfl, I2, turn_enumT a (s1.heap.objs.size + 1) s1.heap.objs.size, ⟨⟨.none, he⟩, hit, Nat.succ_ne_self _⟩, fun b hb => ?_, q⟩
  have hle : s1.heap.objs.size ≤ b := by
    rcases (by simpa using hb : b = s1.heap.objs.size + 1 ∨ b = s1.heap.objs.size) with rfl | rfl
    · exact Nat.le_succ _
    · exact Nat.le_refl _
  exact I1.fpOk hle (I1.hok.fresh hle)
/-- a loop over the numbered items of a tuple that stands still -/
theorem for_enumT {K : PySem.W.Frag} {a : Addr} {xs : List V} {g : TG} {tb : TS} {D : Ends} {σ : L2.St} {H : Hp} (Pv : Nat → L2.St → Hp → Prop) (h0 : Pv 0 σ H) (hl : ∀ i σ H, i ≤ xs.length → Pv i σ H → SqT K H a xs)
    (hs : ∀ i x σ H T, xs[i]? = some x → Pv i σ H → H T = none → g (.ref T) σ (upd H T (.tup [.int (i : Nat), x])) fun σ2 H2 => tb { D with nx := Pv (i + 1), ct := Pv (i + 1), bk := D.nx } σ2 H2) (hd : ∀ σ H, Pv xs.length σ H → D.nx σ H) :
    ∃ W : Nat → Nat → L2.St → Hp → Prop, (∃ m, W 0 m σ H) ∧ ∀ i m σ H, W i m σ H →
      ((Iet K a).stop i H ∧ D.nx σ H) ∨ ((Iet K a).go i H ∧ ∃ N : L2.St → Hp → Prop, (∀ σ' H', N σ' H' → ∃ m', m' < m ∧ W (i + 1) m' σ' H') ∧ ∀ x H', (Iet K a).yld i H x H' → g x σ H' fun σ2 H2 => tb { D with nx := N, ct := N, bk := D.nx } σ2 H2) := by
  refine ⟨fun i m σ H => m = xs.length - i ∧ i ≤ xs.length ∧ Pv i σ H, ⟨xs.length, by simp, Nat.zero_le _, h0⟩, ?_⟩
  rintro i m σ H ⟨rfl, hi, p⟩
  have q := hl i σ H hi p
  by_cases hlt : i < xs.length
  · refine .inr ⟨⟨xs, xs[i], q, List.getElem?_eq_getElem hlt⟩, Pv (i + 1), fun σ' H' p' => ⟨xs.length - (i + 1), by omega, rfl, hlt, p'⟩, fun x H' y => ?_⟩
    obtain ⟨T, y, rfl, hT, rfl, hy⟩ := y
    exact hs i y σ H T (hy xs q) p hT
  · have e : i = xs.length := by omega
    subst e
    exact .inl ⟨⟨xs, q, rfl⟩, hd σ H p⟩
end RV
set_option linter.all false
/-! Sets of keys of one kind that can be walked and sorted: set(list of texts), sorted(set of texts). -/
namespace RV
open PySem L2 PySem.Spec PyProof.Rows
section
variable {P : Program} {w : World} {κ : Type} [DecidableEq κ] {knd : KeyKind P w κ}
/-- no two of them are the same key -/
def Apart (knd : KeyKind P w κ) (l : List (Int × Value)) : Prop := l.Pairwise fun e f => ∀ k, ¬ (knd.is k e.2 = true ∧ knd.is k f.2 = true)
/-- a set at a with the members S, n of them, whose table rises -/
def SetX (knd : KeyKind P w κ) (h : Heap) (a : Addr) (S : κ → Bool) (n : Nat) : Prop :=
  ∃ o es ep t, (h.get? a = some o ∧ o.ExactSet ∧ o.data = .set es ep t) ∧ (ElemsOf knd es.toList ∧ Apart knd es.toList ∧ ∀ k, S k = true ↔ ∃ e ∈ es.toList, knd.is k e.2 = true) ∧
    es.size < scanBound ∧ t.fits es.size = true ∧ es.size = n ∧ Ris t.place.toList ∧ (w.params.followText "set-order" = true ∨ t.led = true)
variable {A : Around} {E : Value → Shared → Prop} {s : Shared} {a : Addr}
end
end RV
set_option linter.all false
/-! set(list of texts), sorted(set of texts). -/
namespace RV
open PySem L2 PySem.Spec PyProof.Rows
section
variable {P : Program} {w : World} {A : Around} {E : Value → Shared → Prop} {s : Shared}
abbrev SetS (P : Program) (w : World) (h : Heap) (a : Addr) (S : Str → Bool) (n : Nat) : Prop := SetX (PySem.strKind P w) h a S n
abbrev emptySet (w : World) : Obj := { cls := .type "set", dict := none, data := .set #[] 0 (.fresh 0 0 (!w.params.followText "set-order")) }
set_option maxHeartbeats 8000000 in
end
end RV
set_option linter.all false
/-! the rules: set(list of texts), sorted(set of texts) -/
namespace RV
open PySem L2 PySem.Spec PyProof.Rows
section
variable {P : Program} {w : World} {A : Around} {E : Value → Shared → Prop} {s : Shared}
end
/-- a set of texts in the ledger -/
def SetT (P : Program) (w : World) (a : Addr) (S : Str → Bool) (n : Nat) : HO := .ext fun h => SetS P w h a S n
section
variable {X : Cx}
def rSetS (K : PySem.W.Frag) (P : Program) (w : World) : List V → Hp → VK → Prop := fun vs H Q => ∃ (l : Addr) (xs : List Str), vs = [V.ref l] ∧ SqL K H l (xs.map V.str) ∧ xs.length < 4000 ∧
  ∀ a n, H a = none → n ≤ xs.length → Q (.ref a) (upd H a (SetT P w a (fun x => decide (x ∈ xs)) n))
def rSortS (P : Program) (w : World) : List V → Hp → VK → Prop := fun vs H Q => ∃ (a : Addr) (S : Str → Bool) (n : Nat), vs = [V.ref a] ∧ H a = some (SetT P w a S n) ∧
  ∀ (xs : List Str) (p : Addr), sortedS xs = true → xs.Nodup → (∀ k, k ∈ xs ↔ S k = true) → xs.length = n → H p = none → Q (.ref p) (upd H p (.lst (xs.map V.str)))
end
end RV
/-! promises of the laws about sums; pairs of a name and an integer -/
namespace RV
open PySem L2
structure Blt2 (mg : Str → Option Value) : Prop where
  b_sum : mg "sum" = none
  b_sorted : mg "sorted" = none
  b_set : mg "set" = none
  b_tuple : mg "tuple" = none
  b_enumerate : mg "enumerate" = none
  b_bool : mg "bool" = none
def big : Int := 10 ^ 30
def sp_number : Sp := fun vs H Q _ => ∃ (a : Addr) (n : Nat), vs = [.ref a] ∧ WellAt H a n ∧ n < 900000 ∧
  ∀ (z : Int) H', -big < z → z < big → Grow a H H' → WellAt H' a (n + 5) → Q (.int z) H'
theorem pg_tupK {X : Cx} {K : PySem.W.Frag} {es : List Expr} {k : Nat} {t : TGs} {n : Nat} {pos : Pos} (hc : X.calm = true) (h : PGs X es t)
    (hn : (assignEach es X.env).length = n := by rfl) (hst : (assignEach es X.env).findIdx? (·.1) = none := by rfl) (hK : X.K = K := by rfl) : PG X (.Tuple es k pos) (gTup K n t) := hK ▸ pg_tup hc h hn hst
/-! ### lists of pairs of a text and an integer, each at its address -/
abbrev TP := Addr × Str × Int
def vP (us : List TP) : List V := us.map fun u => .ref u.1
def prs (us : List TP) : List (Str × Int) := us.map (·.2)
def oP (q : Str × Int) : HO := .tup [.str q.1, .int q.2]
def lP (us : List TP) : List (Addr × HO) := us.map fun u => (u.1, oP u.2)
def TPs (K : PySem.W.Frag) (H : Hp) (us : List TP) : Prop := ∀ u ∈ us, SqT K H u.1 [.str u.2.1, .int u.2.2]
abbrev gPr (K : PySem.W.Frag) (i j : Nat) : TG := gTup K 2 (gCons (gName i) (gCons (gName j) gNil))
/-! ### how great they are -/
def tot (qs : List (Str × Int)) : Nat := (qs.map fun q => q.2.natAbs).sum
end RV
/-! drawn pairs -/
namespace RV
open PySem L2
structure Pairs (us : List TP) (m : Nat) : Prop where
  nm : ∀ q ∈ prs us, IsNm q.1
  gr : (tot (prs us) : Int) ≤ big * 2 ^ m
  ln : us.length ≤ m
/-- drawn pairs; at most ten -/
def sp_pairs : Sp := fun vs H Q _ => ∃ (a : Addr) (n m : Nat), vs = [.ref a, .int m] ∧ WellAt H a n ∧ n < 700000 ∧ m ≤ 20 ∧
  ∀ (us : List TP) (l : Addr) H', Pairs us m → (∀ p ∈ (l, HO.lst (vP us)) :: lP us, p.1 ≠ a ∧ H' p.1 = some p.2) → H l = none → Grow a H H' → WellAt H' a (n + 1000) → Q (.ref l) H'
end RV
namespace RV
open PySem L2
/-- a thing of the ledger changes -/
theorem Has.reset {H0 H : Hp} {a p : Addr} {n : Nat} {o o' : HO} {L : List (Addr × HO)} (h : Has H0 a n ((p, o) :: L) H) (h0 : H0 p = none) (hp : ∀ q ∈ L, q.1 ≠ p) : Has H0 a n ((p, o') :: L) (upd H p o') := by
  have pa : p ≠ a := (h.here (p, o) List.mem_cons_self).1
  have h1 := (h.sub (L' := L) fun q hq => List.mem_cons_of_mem _ hq).put (o := o') h0 hp pa
  refine ⟨h1.gr, h1.well, fun q hq => ?_⟩
  rcases List.mem_cons.mp hq with rfl | hq
  · exact ⟨pa, upd_same⟩
  · exact h1.here q hq
end RV
/-! the order of texts; sums as ascending pairs; things made by a function that keeps all that stood -/
namespace RV
open PySem L2
open PySem.Spec (ltCps)
open PyProof.Rows (sortedS risingS)
def Lt (a b : Str) : Prop := ltCps (cd a) (cd b) = true
/-! ### the coefficient of a name -/
def co (qs : List (Str × Int)) (x : Str) : Int := ((qs.filter fun q => decide (q.1 = x)).map fun q => q.2).sum
/-- ascending pairs, none with 0 -/
structure Nrm (rs : List (Str × Int)) : Prop where
  asc : (rs.map (·.1)).Pairwise Lt
  no0 : ∀ q ∈ rs, q.2 ≠ 0
/-! ### what a function that keeps all that stood leaves -/
structure Kp (H0 : Hp) (L : List (Addr × HO)) (H : Hp) : Prop where
  sm : Same H0 H
  nw : ∀ p ∈ L, H0 p.1 = none ∧ H p.1 = some p.2
section
variable {H0 H H' : Hp} {L L' : List (Addr × HO)} {p q a : Addr} {o o' : HO} {n : Nat}
theorem Kp.at (h : Kp H0 L H) (hp : (p, o) ∈ L) : H p = some o := (h.nw _ hp).2
end
/-! ### merged -/
def sp_merged (K : PySem.W.Frag) : Sp := fun vs H Q _ => ∃ (l : Addr) (us : List TP), vs = [.ref l] ∧ SqL K H l (vP us) ∧ TPs K H us ∧ us.length ≤ 120 ∧
  ∀ (ds : List TP) (m : Addr) H', Nrm (prs ds) → (∀ x, co (prs ds) x = co (prs us) x) → (∀ q ∈ prs ds, q.1 ∈ (prs us).map (·.1)) → ds.length ≤ us.length → Kp H ((m, .lst (vP ds)) :: lP ds) H' → Q (.ref m) H'
end RV
/-! numbers, terms, what a sum makes of its terms -/
namespace RV
open PySem L2
theorem tyx_tup {K : PySem.W.Frag} {H : Hp} {a : Addr} {xs : List V} (h : SqT K H a xs) : TyX K H (.ref a) (.type "tuple") := by
  rcases h with (h | ⟨o, h⟩) | ⟨o, its, n, h, hc, _⟩
  · exact .base (.tup h)
  · exact .fTuple h
  · exact .kTuple h hc
def sp_is_number (K : PySem.W.Frag) : Sp := fun vs H Q _ => ∃ v, vs = [v] ∧ ((∃ z : Int, v = .int z ∧ Q (.bl true) H) ∨ (∃ b : Bool, v = .bl b ∧ Q (.bl false) H) ∨
  (∃ t, TyX K H v t ∧ PySem.W.kitOne K t (.type "int") = some false ∧ Q (.bl false) H))
/-- a pair of a name and an integer -/
def sp_is_term (K : PySem.W.Frag) : Sp := fun vs H Q _ => ∃ (t : Addr) (x : Str) (z : Int), vs = [.ref t] ∧ SqT K H t [.str x, .int z] ∧ IsNm x ∧ ∀ H', Same H H' → Q (.bl true) H'
/-- a tuple of such pairs -/
def sp_check_terms (K : PySem.W.Frag) : Sp := fun vs H Q _ => ∃ (t : Addr) (us : List TP), vs = [.ref t] ∧ SqT K H t (vP us) ∧ TPs K H us ∧ (∀ q ∈ prs us, IsNm q.1) ∧ us.length ≤ 120 ∧ ∀ H', Same H H' → Q .non H'
/-- at most 120, with at most 60 different names -/
def Few (qs : List (Str × Int)) : Prop := qs.length ≤ 120 ∧ ∃ pool : List Str, pool.length ≤ 60 ∧ ∀ q ∈ qs, q.1 ∈ pool
theorem nodup_len : ∀ {xs ys : List Str}, xs.Nodup → (∀ x ∈ xs, x ∈ ys) → xs.length ≤ ys.length
  | [], _, _, _ => Nat.zero_le _
  | x :: xs, ys, h, s => by
    rw [List.nodup_cons] at h
    have hx := s x List.mem_cons_self
    have := nodup_len (ys := ys.erase x) h.2 fun y hy => (List.mem_erase_of_ne (fun e => h.1 (by rw [← e]; exact hy))).mpr (s y (List.mem_cons_of_mem _ hy))
    rw [List.length_erase_of_mem hx] at this
    have := List.length_pos_of_mem hx
    rw [List.length_cons]
    omega
def sp_collected (K : PySem.W.Frag) : Sp := fun vs H Q _ => ∃ (t : Addr) (us : List TP), vs = [.ref t] ∧ SqT K H t (vP us) ∧ TPs K H us ∧ Few (prs us) ∧
  ∀ (ds : List TP) (m : Addr) H', Nrm (prs ds) → (∀ x, co (prs ds) x = co (prs us) x) → (∀ q ∈ prs ds, q.1 ∈ (prs us).map (·.1)) → ds.length ≤ us.length → Kp H ((m, .tup (vP ds)) :: lP ds) H' → Q (.ref m) H'
end RV
/-! a dict that counts -/
namespace RV
open PySem L2
structure Dct (kvs : List (Key × V)) (qs : List (Str × Int)) (ks : List Str) : Prop where
  keys : kvs.map (·.1) = ks.map Sum.inr
  nd : ks.Nodup
  mem : ∀ x, x ∈ ks ↔ x ∈ qs.map (·.1)
  val : ∀ x, valV kvs (.inr x) = if x ∈ ks then some (.int (co qs x)) else none
  ln : ks.length ≤ qs.length
end RV
/-! what an own class says of len, x in o, o[x], truth -/
namespace RV
open PySem L2 PyProof.Rows
/-- the class C has an own method m that promises sp -/
def OwnM (P : Program) (w : World) (K : PySem.W.Frag) (mg : Str → Option Value) (base : Heap) (C : Addr) (m : String) (k : Nat) (sp : Sp) : Prop :=
  ∃ f fd ps, PySem.W.findIn K (.ref C) m = some (some (.ref f)) ∧ PySem.W.isFn K (.ref f) = true ∧ PySem.W.fnIn K f = true ∧ Binds K fd ps [] ∧ FnOk P w K mg base CX0 k f fd ps sp
section
variable {X : Cx} {pins : List (Addr × Obj)} {σ : L2.St} {H : Hp} {s : Shared} {C : Addr} {k : Nat} {sp : Sp}
theorem call_owns {A : Around} {f : Addr} {fd : FuncData} {ps : List Str} {Q : VK} {xs : List V} {us : List Value} (F : FnOk X.prog X.w X.K X.mg X.base CX0 k f fd ps sp) (hb : Binds X.K fd ps []) (hr : Room k A) (hf : A.frames = X.A.frames)
    (I : Inv X pins σ H s) (rx : Vals xs us) (hsp : sp xs H Q E0) : wpAny (model X.prog X.w) A (call (.ref f) us) (EP X pins σ Q) X.xe s := by
  have e0 : Env0 X.prog X.w X.K X.mg X.base A X.stack s H := by
    have e := I.env0
    exact ⟨by rw [hf]; exact e.frames, e.mod, e.bs, e.bsz, e.funs, e.frf, e.hok, e.bare⟩
  have hl := F.len _ _ _ _ hsp
  refine wpAny_call (codeAny_mono (F.run A X.stack s H ⟨us, []⟩ us xs _ E0 hr e0 (by
    have := hb s us I.kIn (by rw [List.append_nil, ← rx.length]; exact hl)
    simpa using this) rx hsp) fun r s' hq => ?_)
  cases r with
  | error e => exact (hq : False).elim
  | ok fl =>
    cases fl with
    | ret w => exact I.after hq
    | next => exact False.elim hq
    | brk => exact False.elim hq
    | cont => exact False.elim hq
def rLenO (C : Addr) (sp : Sp) : List V → Hp → VK → Prop := fun xs H Q => ∃ a dx fs, xs = [.ref a] ∧ H a = some (.ins C dx fs) ∧ sp [.ref a] H (fun v H' => ∃ n : Nat, v = .int n ∧ n < 100000 ∧ Q (.int n) H') E0
def rInO (neg : Bool) (C : Addr) (sp : Sp) : R2 := fun x y H Q => ∃ a dx fs, y = .ref a ∧ H a = some (.ins C dx fs) ∧ sp [.ref a, x] H (fun v H' => ∃ b, v = .bl b ∧ Q (.bl (if neg then !b else b)) H') E0
/-- truth by the class's own __bool__ -/
def rTrM (C : Addr) (sp : Sp) : V → Hp → (Bool → Hp → Prop) → Prop := fun x H Q => ∃ a dx fs, x = .ref a ∧ H a = some (.ins C dx fs) ∧ sp [.ref a] H (fun v H' => ∃ b, v = .bl b ∧ Q b H') E0
def rIxO (C : Addr) (sp : Sp) : R2 := fun x y H Q => ∃ a dx fs, x = .ref a ∧ H a = some (.ins C dx fs) ∧ sp [.ref a, y] H Q E0
end
end RV
/-! sums as they stand in the heap, and what their methods promise -/
namespace RV
open PySem L2
/-- the things of a sum at a whose terms are the tuple at t -/
def lS (C a dx t : Addr) (us : List TP) : List (Addr × HO) := (a, .ins C dx [("_terms", .ref t)]) :: (t, .tup (vP us)) :: lP us
def SumR (C : Addr) (H : Hp) (a : Addr) (qs : List (Str × Int)) : Prop := ∃ dx t us, prs us = qs ∧ ∀ p ∈ lS C a dx t us, H p.1 = some p.2
structure SClass (K : PySem.W.Frag) (mg : Str → Option Value) (C : Addr) : Prop where
  x : ClsX K C
  k : mg "Sum" = some (.ref C)
  n1 : NoAttr K C "_terms"
  me : PySem.W.kitOne K (.ref C) (.ref C) = some true
/-- terms that may be given -/
structure Trm (K : PySem.W.Frag) (H : Hp) (t : Addr) (us : List TP) : Prop where
  tp : SqT K H t (vP us)
  ps : TPs K H us
  nm : ∀ q ∈ prs us, IsNm q.1
  ln : us.length ≤ 60
structure TrmF (K : PySem.W.Frag) (H : Hp) (t : Addr) (us : List TP) : Prop where
  tp : SqT K H t (vP us)
  ps : TPs K H us
  nm : ∀ q ∈ prs us, IsNm q.1
  ln : Few (prs us)
/-- what a sum of these terms is -/
structure Mad (qs rs : List (Str × Int)) : Prop where
  nr : Nrm rs
  co : ∀ x, co rs x = co qs x
  nm : ∀ q ∈ rs, q.1 ∈ qs.map (·.1)
  ln : rs.length ≤ qs.length
def sp_Sum (K : PySem.W.Frag) (C : Addr) : Sp := fun vs H Q _ => ∃ (x dx t : Addr) (us : List TP), vs = [.ref x, .ref t] ∧ H x = some (.ins C dx []) ∧ TrmF K H t us ∧
  ∀ (ds : List TP) (m dx' : Addr) H', Mad (prs us) (prs ds) → (∀ b o, b ≠ x → H b = some o → H' b = some o) → (∀ p ∈ (m, HO.tup (vP ds)) :: lP ds, H p.1 = none) → (∀ p ∈ lS C x dx' m ds, H' p.1 = some p.2) → Q .non H'
def sp_len (C : Addr) : Sp := fun vs H Q _ => ∃ (a : Addr) (qs : List (Str × Int)), vs = [.ref a] ∧ SumR C H a qs ∧ Q (.int (qs.length : Nat)) H
def sp_yes : Sp := fun vs H Q _ => ∃ (a : Addr), vs = [.ref a] ∧ Q (.bl true) H
def sp_terms (C : Addr) : Sp := fun vs H Q _ => ∃ (a dx t : Addr) (us : List TP), vs = [.ref a] ∧ (∀ p ∈ lS C a dx t us, H p.1 = some p.2) ∧ Q (.ref t) H
def sp_get (C : Addr) : Sp := fun vs H Q _ => ∃ (a : Addr) (x : Str) (qs : List (Str × Int)), vs = [.ref a, .str x] ∧ IsNm x ∧ SumR C H a qs ∧ Nrm qs ∧ ∀ H', Same H H' → Q (.int (co qs x)) H'
def sp_has (C : Addr) : Sp := fun vs H Q _ => ∃ (a : Addr) (x : Str) (qs : List (Str × Int)), vs = [.ref a, .str x] ∧ IsNm x ∧ SumR C H a qs ∧ Nrm qs ∧ ∀ H', Same H H' → Q (.bl (!decide (co qs x = 0))) H'
end RV
/-! pairs as data -/
namespace RV
open PySem L2
def dq (q : Str × Int) : PyData := .tuple [.str q.1, .int q.2]
def dQ (qs : List (Str × Int)) : PyData := .tuple (qs.map dq)
def sp_eqS (K : PySem.W.Frag) (C : Addr) : Sp := fun vs H Q _ => ∃ (a : Addr) (y : V) (qs : List (Str × Int)), vs = [.ref a, y] ∧ SumR C H a qs ∧ (∀ q ∈ qs, IsNm q.1) ∧
  ((∃ b rs, y = .ref b ∧ SumR C H b rs ∧ (∀ q ∈ rs, IsNm q.1) ∧ Q (.bl (decide (qs = rs))) H) ∨ (∃ t, TyX K H y t ∧ PySem.W.kitOne K t (.ref C) = some false ∧ Q (.bl false) H))
end RV
/-! the same pairs in another order, some in two parts -/
namespace RV
open PySem L2
structure Oth (us vs : List TP) : Prop where
  co : ∀ x, co (prs vs) x = co (prs us) x
  nm : ∀ q ∈ prs vs, q.1 ∈ (prs us).map (·.1)
  ln : vs.length ≤ 2 * us.length
def sp_parted : Sp := fun vs H Q _ => ∃ (a l : Addr) (n : Nat) (us : List TP), vs = [.ref a, .ref l] ∧ WellAt H a n ∧ n < 600000 ∧ us.length ≤ 20 ∧ (∀ p ∈ (l, HO.lst (vP us)) :: lP us, p.1 ≠ a ∧ H p.1 = some p.2) ∧
  ∀ (vs : List TP) (m : Addr) H', Oth us vs → H m = none → Has H a (n + 1000) ((m, .lst (vP vs)) :: lP vs) H' → Q (.ref m) H'
end RV
/-! texts of pairs -/
namespace RV
open PySem L2 PyProof.Rows
/-- a sum shows these pairs, a list of them -/
def sp_shows (K : PySem.W.Frag) (C : Addr) : Sp := fun vs H Q _ => ∃ (a l : Addr) (ds : List TP), vs = [.ref a, .ref l] ∧ SumR C H a (prs ds) ∧ SqL K H l (vP ds) ∧ TPs K H ds ∧ Nrm (prs ds) ∧ (∀ q ∈ prs ds, IsNm q.1) ∧ tot (prs ds) ≤ 10 ^ 45 ∧ ds.length ≤ 60 ∧
  ∀ H', Same H H' → Q (.bl true) H'
/-- names that are much like a name -/
def nearL (x : Str) : List Str := [cutS x none (some (-1)), cutS (x ++ "a") none (some 8), cutS (x ++ "0") none (some 8), ("z" : Str) ++ cutS x (some 1) none]
end RV
/-! written numbers and terms -/
namespace RV
open PySem L2
structure Cst2 (mg : Str → Option Value) : Prop where
  worth : ∃ u, mg "_PIECE_WORTH" = some u ∧ RelV (.int (10 ^ 64)) u
  piece : ∃ u, mg "_PIECE" = some u ∧ RelV (.int 64) u
def num (z : Int) : Str := Str.ofString (toString z)
/-- a written number of at most 64 digits -/
def sp_written : Sp := fun vs H Q _ => ∃ z : Int, vs = [.int z] ∧ 0 ≤ z ∧ z < 10 ^ 64 ∧ ∀ H', Same H H' → Q (.str (num z)) H'
def ab (z : Int) : Int := if z < 0 then -z else z
/-- a term without its sign -/
def wo (x : Str) (z : Int) : Str := if ab z = 1 then x else ((Str.empty ++ num (ab z)) ++ ("*" : Str)) ++ x
/-- a term that is not the first -/
def fu (q : Str × Int) : Str := (((Str.empty ++ (" " : Str)) ++ (if q.2 < 0 then ("-" : Str) else "+")) ++ (" " : Str)) ++ wo q.1 q.2
def fi (q : Str × Int) : Str := (if q.2 < 0 then ("-" : Str) else "") ++ wo q.1 q.2
def pieces : List (Str × Int) → List Str
  | [] => ["0"]
  | q :: qs => fi q :: qs.map fu
/-- the text of a sum -/
def txt (qs : List (Str × Int)) : Str := Txt.join "" (pieces qs)
theorem sl_app (a b : Str) : (a ++ b).length = a.length + b.length := by rw [cd_len, cd_app, List.length_append, ← cd_len, ← cd_len]
def sp_without : Sp := fun vs H Q _ => ∃ (x : Str) (z : Int), vs = [.str x, .int z] ∧ IsNm x ∧ z.natAbs < 10 ^ 64 ∧ ∀ H', Same H H' → Q (.str (wo x z)) H'
def sp_further : Sp := fun vs H Q _ => ∃ (q : Str × Int), vs = [.str q.1, .int q.2] ∧ IsNm q.1 ∧ q.2.natAbs < 10 ^ 64 ∧ ∀ H', Same H H' → Q (.str (fu q)) H'
def sp_wterms (K : PySem.W.Frag) : Sp := fun vs H Q _ => ∃ (t : Addr) (us : List TP), vs = [.ref t] ∧ SqT K H t (vP us) ∧ TPs K H us ∧ (∀ q ∈ prs us, IsNm q.1 ∧ q.2.natAbs < 10 ^ 64) ∧ us.length ≤ 100 ∧
  ∀ m H', Kp H [(m, .lst ((pieces (prs us)).map V.str))] H' → Q (.ref m) H'
def sp_text (C : Addr) : Sp := fun vs H Q _ => ∃ (a : Addr) (qs : List (Str × Int)), vs = [.ref a] ∧ SumR C H a qs ∧ (∀ q ∈ qs, IsNm q.1 ∧ q.2.natAbs < 10 ^ 64) ∧ qs.length ≤ 100 ∧ ∀ H', Same H H' → Q (.str (txt qs)) H'
end RV
/-! str(o) of an own class -/
namespace RV
open PySem L2 PyProof.Rows
section
variable {X : Cx} {C : Addr} {k : Nat} {sp : Sp}
def rStrO (C : Addr) (sp : Sp) : List V → Hp → VK → Prop := fun xs H Q => ∃ a dx fs, xs = [.ref a] ∧ H a = some (.ins C dx fs) ∧ sp [.ref a] H (fun v H' => ∃ y : Str, v = .str y ∧ Q (.str y) H') E0
theorem call_strO (h : OwnM X.prog X.w X.K X.mg X.base C "__str__" k sp) (hr : Room (k + 2) X.A) : CallR X (.type "str") (rStrO C sp) := by
  intro pins s σ H xs us Q I rx hq
  obtain ⟨a, dx, fs, rfl, ha, hsp⟩ := hq
  obtain ⟨f, fd, ps, hs, hf, _, hb, F⟩ := h
  obtain rfl : us = [.ref a] := Vals.ref1 rx
  obtain ⟨mA, J, _⟩ := ins_get I.hok ha
  obtain ⟨od, J, _⟩ := J.look
  refine PySem.W.kso_call (hr.in1.in1.units0) I.kIn J hs hf (wpAny_mono (call_owns (A := X.A.in1.in1) F hb hr.in1.in1 rfl I rx hsp) (fun r s' z => ?_) fun _ _ x => x)
  obtain ⟨v, H', I', rv, y, rfl, q⟩ := z
  obtain ⟨t, rfl⟩ := rv
  exact ⟨.str y, H', I', ⟨_, rfl⟩, q⟩
end
end RV
/-! sums made -/
namespace RV
open PySem L2
end RV
/-! an int == an own object: the class's own == answers -/
namespace PySem
open AutoSeq1 (wpAny_loadPart')
set_option maxHeartbeats 4000000 in
theorem rv_int_eq_inst (b : Int) (u : Tok) (l C dx : Addr) :
    Meets (Builtin.«int.__eq__» ⟨[.int b u, .ref l], []⟩) (fun _ R s => s.heap.get? l = some (PySem.W.instObj C dx) ∧ R (.ok (.ret .notImplemented)) s) :=
  .of_wp fun prog w A R s h => by
    obtain ⟨hp, g, d, tk, os⟩ := s
    obtain ⟨hl, h⟩ := h
    unfold PySem.W.instObj at hl
    wp_walk using wpAny_loadPart' hl, wpAny_load hl
    exact ⟨_, rfl, h⟩
end PySem
namespace RV
open PySem L2 PyProof.Rows
section
variable {prog : Program} {w : World} {A : Around} {E : Value → Shared → Prop} {s : Shared} {K : PySem.W.Frag} {x C dx L f : Addr} {h₀ : Heap} {m : Str → Option Value} {od : Option Obj} {i : Int} {t : Tok}
open PySem.W in
end
section
variable {X : Cx} {C : Addr} {k : Nat} {sp : Sp}
/-- i == o -/
def rEqI (C : Addr) (sp : Sp) : R2 := fun x y H Q => ∃ (i : Int) (a dx : Addr) (fs : List (Str × V)), x = .int i ∧ y = .ref a ∧ H a = some (.ins C dx fs) ∧ sp [.ref a, .int i] H (fun v H' => ∃ b, v = .bl b ∧ Q (.bl b) H') E0
end
end RV
namespace RV
open PySem L2
def sp_rightS : Sp := fun vs H Q _ => ∃ (a : Addr) (n : Nat), vs = [.ref a] ∧ WellAt H a n ∧ n < 500000 ∧ ∀ H', Grow a H H' → WellAt H' a (n + 3000) → Q (.bl true) H'
def gS (vs zs : List V) : List V := match vs, zs with
  | [x], [t] => [x, t]
  | _, _ => []
/-- what sums and other values are to each other -/
structure SKinds (K : PySem.W.Frag) (C : Addr) : Prop where
  sI : PySem.W.subIn K (.ref C) (.type "int") = some false
  nS : PySem.W.notFirst K C (.ref C) = true
  nT : PySem.W.notFirst K C (.type "tuple") = true
  nX : PySem.W.notFirst K C (.type "str") = true
  nN : PySem.W.notFirst K C (.type "NoneType") = true
  kT : PySem.W.kitOne K (.type "tuple") (.ref C) = some false
  kX : PySem.W.kitOne K (.type "str") (.ref C) = some false
  kN : PySem.W.kitOne K (.type "NoneType") (.ref C) = some false
  kI : PySem.W.kitOne K (.type "int") (.ref C) = some false
section
variable {K : PySem.W.Frag} {C a : Addr} {H : Hp} {Q : VK} {neg : Bool} {qs rs : List (Str × Int)} {y : V} {t : Value}
end
end RV
/-! a ledger in parts; steps of the sums' own methods over it -/
namespace RV
open PySem L2
abbrev lT (l : Addr) (us : List TP) : List (Addr × HO) := (l, .lst (vP us)) :: lP us
/-- pairs that a sum shows -/
structure Due (qs : List (Str × Int)) : Prop where
  nr : Nrm qs
  nm : ∀ q ∈ qs, IsNm q.1
  tt : tot qs ≤ 10 ^ 45
  ln : qs.length ≤ 60
section
variable {K : PySem.W.Frag} {C a l x dx m t : Addr} {n n' : Nat} {L L' L2 : List (Addr × HO)} {H0 H H' : Hp} {us ds : List TP} {Q : VK} {E : XK}
end
theorem OwnM.irr {P : Program} {w : World} {K : PySem.W.Frag} {mg : Str → Option Value} {base : Heap} {C : Addr} {m : String} {k : Nat} {sp : Sp} (h : OwnM P w K mg base C m k sp) : OwnM P w K mg base C m k (Irr sp) := by
  obtain ⟨f, fd, ps, a, b, c, d, F⟩ := h
  exact ⟨f, fd, ps, a, b, c, d, F.imp fun _ _ _ _ z => irr_of z⟩
theorem Prp.irr {P : Program} {w : World} {K : PySem.W.Frag} {mg : Str → Option Value} {base : Heap} {C : Addr} {m : Str} {k : Nat} {sp : Sp} (h : Prp P w K mg base C m k sp) : Prp P w K mg base C m k (Irr sp) := by
  obtain ⟨c, p, g, fd, ps, a, b, F⟩ := h
  exact ⟨c, p, g, fd, ps, a, b, F.imp fun _ _ _ _ z => irr_of z⟩
theorem kit_self (K : PySem.W.Frag) (C : Addr) : PySem.W.kitOne K (.ref C) (.ref C) = some true := by
  unfold PySem.W.kitOne
  rw [if_pos (by simp)]
end RV
/-! rpartition; xs[i::2]; a class in a slot, called; class methods -/
namespace RV
open PySem L2 PyProof.Rows Builtin TL
section
variable {X : Cx} {pins : List (Addr × Obj)} {σ : L2.St} {H : Hp} {s : Shared}
end
/-! ### every other item of a list -/
def step2 {α : Type} (i : Nat) (xs : List α) : List α := (sliceRange (min i xs.length : Nat) xs.length 2).filterMap (xs[·]?)
def tSl2 (K : PySem.W.Frag) (i : Nat) (te : TE) : TE := fun σ H Q => te σ H fun x H1 => ∃ a xs, x = .ref a ∧ SqL K H1 a xs ∧ ∀ p, H1 p = none → Q (.ref p) (upd H1 p (.lst (step2 i xs)))
/-! ### a class in a slot -/
theorem pe_mkL {X : Cx} {C : Addr} {k i : Nat} {sp : Sp} {dvs : List V} {x y : Str} {p pos : Pos} {e : Expr} {es : List Expr} {t : TA} (h : Mkr X.prog X.w X.K X.mg X.base y C k sp dvs) (hr : Room (k + 1) X.A) (hN : X.N[i]? = some x) (hv : Vis X.env.scope x) (ha : PA X (e :: es) t)
    (hdb : (x == ("__debug__" : Str)) = false := by decide) (hcd : (x == ("__classdict__" : Str)) = false := by decide)
    (he : starEach (e :: es) X.env = (false, eval e X.env) :: starEach es X.env := by rfl) (hpl : (backTo pos (starEach es X.env)).any (·.1) = false := by rfl) : PE X (.Call (.Name x p) (e :: es) [] pos) (fun σ H Q => σ[i]? = some (some (.ref C)) ∧ tMake C sp dvs E0 t σ H Q) := by
  obtain ⟨_, f, fd, ps, ds, M, hb, hd, F⟩ := h
  refine ⟨fun pins s σ H Q I h => ?_⟩
  obtain ⟨hs, ht⟩ := h
  refine wpAny_Call_Name_kw (thn ((pe_var (pos := p) hN hv hdb hcd).run pins s σ H (fun v H1 => v = .ref C ∧ H1 = H) I ⟨.ref C, hs, rfl, rfl⟩) fun u s1 ⟨v, H1, I1, r1, q1⟩ => ?_)
  obtain ⟨rfl, rfl⟩ := q1
  cases r1
  refine PySem.W.callWith_K (h₀ := X.base) I.ok.mod.kin M.kp (thn (ha.run pos pins s1 σ _ _ I1 ht) fun us s2 ⟨vs, H2, I2, r, q⟩ => ⟨I2.kIn, ?_⟩) he hpl
  exact run_make M F hr hb hd pass0 I2 r q
end RV
/-! class methods; repr of a text; texts of sums, cut again -/
namespace RV
open PySem L2 PyProof.Rows ClX
/-- the class C has a class method m that promises sp -/
def ClsM (P : Program) (w : World) (K : PySem.W.Frag) (mg : Str → Option Value) (base : Heap) (C : Addr) (m : Str) (k : Nat) (ps : List Str) (sp : Sp) : Prop :=
  ∃ mc p g fd, CRead K C mc ∧ CMet K C mc m p g ∧ Binds K fd ps [] ∧ FnOk P w K mg base CX0 k g fd ps sp
/-- .. called by keywords -/
def ClsMK (P : Program) (w : World) (K : PySem.W.Frag) (mg : Str → Option Value) (base : Heap) (C : Addr) (m : Str) (k : Nat) (ks : List Str) (sp : Sp) (gV : List V → List V → List V) : Prop :=
  ∃ mc p g fd ps gg, CRead K C mc ∧ CMet K C mc m p g ∧ KBn K fd ps 1 ks gg gV ∧ FnOk P w K mg base CX0 k g fd ps sp
theorem ClsM.irr {P : Program} {w : World} {K : PySem.W.Frag} {mg : Str → Option Value} {base : Heap} {C : Addr} {m : Str} {k : Nat} {ps : List Str} {sp : Sp} (h : ClsM P w K mg base C m k ps sp) : ClsM P w K mg base C m k ps (Irr sp) := by
  obtain ⟨mc, p, g, fd, a, b, c, F⟩ := h
  exact ⟨mc, p, g, fd, a, b, c, F.imp fun _ _ _ _ z => irr_of z⟩
section
variable {X : Cx} {C : Addr} {k : Nat} {m : Str} {ps ks : List Str} {sp : Sp} {gV : List V → List V → List V} {o e : Expr} {es : List Expr} {kws : List Keyword} {t tk : TA} {ta : TE} {pos apos : Pos} {pl : Sem Bool}
theorem pe_cm (h : ClsM X.prog X.w X.K X.mg X.base C m k ps sp) (hr : Room k X.A) (he : PE X o ta) (ha : PA X (e :: es) t)
    (hst : starEach (e :: es) X.env = (false, eval e X.env) :: starEach es X.env := by rfl) (hpl : (backTo pos (starEach es X.env)).any (·.1) = false := by rfl)
    (ht : eval (.Call (.Attribute o m apos) (e :: es) [] pos) X.env = (do
      let ov ← eval o X.env
      standAt apos.atName
      let (f, first) ← holding [ov] (getMethod ov m pl)
      callWith pos f first (backTo pos (starEach (e :: es) X.env)) (backToKw pos (keywordEach [] X.env))) := by rfl) :
    PE X (.Call (.Attribute o m apos) (e :: es) [] pos) (tCMeth C sp E0 ta t) := by
  obtain ⟨mc, p, g, fd, r, c, hb, F⟩ := h
  exact pe_cmeth he r c ((FnOk.raw F hb .nil).imp fun vs H Q E z => by rw [List.append_nil]; exact z) hr pass0 ha hst hpl ht
def tCMethK (C : Addr) (n : Nat) (sp : Sp) (gV : List V → List V → List V) (ta : TE) (tk : TA) : TE := fun σ H Q => ta σ H fun x H1 => x = .ref C ∧ tk σ H1 fun zs H2 => zs.length = n ∧ sp (gV [.ref C] zs) H2 Q E0
@[irreducible] def rReprS : List V → Hp → VK → Prop := fun xs H Q => ∃ x : Str, xs = [.str x] ∧ (reprText x).length ≤ sizeLine ∧ Q (.str (reprText x)) H
end
end RV
/-! the text of a sum, cut into its words -/
namespace RV
open PySem L2 PyProof.Rows TL
def sgn (q : Str × Int) : Str := if q.2 < 0 then "-" else "+"
def parts (qs : List (Str × Int)) : List Str := qs.flatMap fun q => [sgn q, wo q.1 q.2]
def partsZ (qs : List (Str × Int)) : List Str := if qs = [] then ["+", "0"] else parts qs
def apart (z : Str) : Str := if Txt.startswith z "-" then ("- " : Str) ++ cutS z (some 1) none else ("+ " : Str) ++ z
theorem cd_em : cd Str.empty = [] := by decide +kernel
theorem cd_sp : cd " " = [32] := by decide +kernel
theorem cd_no : cd "" = [] := by decide +kernel
theorem joinL_nil : ∀ l : List (List Nat), joinL [] l = l.flatten
  | [] => rfl
  | [p] => by simp [joinL]
  | p :: q :: r => by
    show p ++ ([] ++ joinL [] (q :: r)) = _
    rw [joinL_nil (q :: r), List.nil_append]
    rfl
/-! the signs of words -/
def okC (c : Nat) : Bool := tailC c || c == 42
/-! a word, cut at its star -/
/-! every other of the words -/
end RV
/-! what reading a text promises -/
namespace RV
open PySem L2 PyProof.Rows TL
def sp_digits : Sp := fun vs H Q _ => ∃ z : Int, vs = [.str (num z)] ∧ 0 ≤ z ∧ Q (.bl true) H
def sp_readnum : Sp := fun vs H Q _ => ∃ z : Int, vs = [.str (num z)] ∧ 0 ≤ z ∧ z < 10 ^ 60 ∧ Q (.int z) H
def sp_apart : Sp := fun vs H Q _ => ∃ z : Str, vs = [.str z] ∧ z.length ≤ 1000000 ∧ Q (.str (apart z)) H
/-- a word of a sum's text -/
def sp_rterm (_K : PySem.W.Frag) : Sp := fun vs H Q _ => (∃ q : Str × Int, vs = [.str (sgn q), .str (wo q.1 q.2)] ∧ IsNm q.1 ∧ q.2.natAbs < 10 ^ 60 ∧ ∀ t H', Kp H [(t, oP q)] H' → Q (.ref t) H') ∨
  (vs = [.str "+", .str "0"] ∧ ∀ H', Same H H' → Q .non H')
def sp_termsin (_K : PySem.W.Frag) : Sp := fun vs H Q _ => ∃ qs : List (Str × Int), vs = [.str (txt qs)] ∧ Due qs ∧ ∀ (us : List TP) (m : Addr) H', prs us = qs → Kp H ((m, .tup (vP us)) :: lP us) H' → Q (.ref m) H'
def sp_read (C : Addr) : Sp := fun vs H Q _ => ∃ qs : List (Str × Int), vs = [.ref C, .str (txt qs)] ∧ Due qs ∧ ∀ (x dx m : Addr) (us : List TP) H', prs us = qs → Kp H (lS C x dx m us) H' → Q (.ref x) H'
end RV
/-! the text of a sum, term by term -/
namespace RV
open PySem L2 PyProof.Rows TL
/-- the line behind some terms -/
def line (qs : List (Str × Int)) : Str := if qs = [] then "" else txt qs
def sp_sumtext (K : PySem.W.Frag) : Sp := fun vs H Q _ => ∃ (l : Addr) (ds : List TP), vs = [.ref l] ∧ SqL K H l (vP ds) ∧ TPs K H ds ∧ Due (prs ds) ∧ Q (.str (txt (prs ds))) H
end RV
/-! steps over a ledger: sums read, texts shown -/
namespace RV
open PySem L2 PyProof.Rows TL
def gR (vs zs : List V) : List V := match vs, zs with
  | [x], [t] => [x, t]
  | _, _ => []
section
variable {K : PySem.W.Frag} {C a l x : Addr} {n : Nat} {L : List (Addr × HO)} {H0 H : Hp} {us ds : List TP} {Q : VK} {E : XK} {qs : List (Str × Int)}
end
end RV
/-! -o, o + p, o - p, o * n, n * o of own classes -/
namespace PySem
open AutoSeq1 (wpAny_loadPart')
set_option maxHeartbeats 4000000 in
theorem rv_int_mul_inst (b : Int) (u : Tok) (l C dx : Addr) :
    Meets (Builtin.«int.__mul__» ⟨[.int b u, .ref l], []⟩) (fun _ R s => s.heap.get? l = some (PySem.W.instObj C dx) ∧ R (.ok (.ret .notImplemented)) s) :=
  .of_wp fun prog w A R s h => by
    obtain ⟨hp, g, d, tk, os⟩ := s
    obtain ⟨hl, h⟩ := h
    unfold PySem.W.instObj at hl
    wp_walk using wpAny_loadPart' hl, wpAny_load hl
    exact ⟨_, rfl, h⟩
end PySem
namespace PySem.W
open PySem PySem.Calls PyProof.Rows
section
variable {prog : Program} {w : World} {A : Around} {E : Value → Shared → Prop} {s : Shared} {K : Frag} {x C dx L f g : Addr} {h₀ : Heap} {m : Str → Option Value} {od : Option Obj} {i : Int} {t : Tok} {fo ro : Option Value}
theorem rv_mulI {Q : Value → Shared → Prop} (F : Fr h₀ L s.heap m) (X₀ : K.In h₀) (I : InstAt s.heap x (instObj C dx) C od) (hc : selfFirst K C = true)
    (hs : findIn K (.ref C) (PySem.dunder "mul") = some (some (.ref f))) (hr : findIn K (.ref C) (dunderR "mul") = some (some (.ref g))) (hg : isFn K (.ref g) = true)
    (h1 : findIn K (.type "int") (PySem.dunder "mul") = some fo) (h2 : findIn K (.type "int") (dunderR "mul") = some ro) (hsub : subIn K (.ref C) (.type "int") = some false)
    (h : wpAny (model prog w) A (call (.ref g) [.ref x, .int i t]) (CmpBack Q) E s) : wpAny (model prog w) A (binaryOp .Mult (.int i t) (.ref x)) Q E s := by
  have X := X₀.keeps F.keep
  obtain ⟨cd, rest, hcd, hm⟩ := ksp_first hc
  have one := ksp_try X I hr hg h
  have decl : wpAny (model prog w) A (tryMethod (.int i t) (PySem.dunder "mul") (.ref x)) (fun r s' => r = none ∧ s' = s) E s :=
    wpAny_tryMethod_declines (Q := fun r s' => r = none ∧ s' = s) (typeIs_int _ _ _) PySem.F.slot_int_mul (call_meets PySem.F.slot_int_mul (typeIs_int _ _ _) PySem.F.entry_int_mul (PySem.F.args_int_mul_2 _ _) (PySem.rv_int_mul_inst i t x C dx) ⟨I.at_, rfl, rfl, rfl⟩)
  obtain ⟨hh, g', d, tt, os⟩ := s
  have L1 : Looks (model prog w) hh (typeOf (.int i t)) (.type "int") := Looks.of_pure rfl
  have L2 : Looks (model prog w) hh (typeOf (.ref x)) (.ref C) := I.type
  have L3 : Looks (model prog w) hh (fillsNumberSlot (.ref C) "mul") true := fills_K X hcd hm hs
  have L4 : Looks (model prog w) hh (fillsNumberSlot (.type "int") "mul") ((fo.isSome && !isSeqSlot fo) || (ro.isSome && !isSeqSlot ro)) := ksp_fillsT X h1 h2
  have L5 : Looks (model prog w) hh (isSubtype (.ref C) (.type "int")) false := looks_subIn X hsub
  have L7 : Looks (model prog w) hh (numberSlotInPython (.type "int") "mul") false := Looks.of_pure rfl
  generalize ((fo.isSome && !isSeqSlot fo) || (ro.isSome && !isSeqSlot ro)) = left at L4
  have hne : (Value.type "int" == Value.ref C) = false := Bool.eq_false_iff.mpr fun q => by cases beq_iff_eq.mp q
  simp only [binaryOp, show Operator.info .Mult = ("*", "mul") from rfl]
  refine wpAny_holding (wpAny_bind ?_)
  unfold binaryOp1
  refine wpAny_bind (L1.at (wpAny_bind (L2.at (wpAny_bind (L4.at ?_)))))
  simp only [hne, Bool.false_eq_true, if_false]
  cases left with
  | false =>
    ksp_lk
    refine wpAny_mono one (fun r s' hr' => ?_) fun _ _ e => e
    obtain ⟨v, rfl, hq⟩ := hr'
    ksp_lk
    exact hq
  | true =>
    ksp_lk
    refine wpAny_mono decl (fun r s' hd => ?_) fun _ _ e => e
    obtain ⟨rfl, rfl⟩ := hd
    ksp_lk
    refine wpAny_mono one (fun r s' hr' => ?_) fun _ _ e => e
    obtain ⟨v, rfl, hq⟩ := hr'
    ksp_lk
    exact hq
end
end PySem.W
namespace RV
open PySem L2 PyProof.Rows
section
variable {X : Cx} {C : Addr} {k : Nat} {sp : Sp}
@[irreducible] def rBinO (C : Addr) (sp : Sp) : R2 := fun x y H Q => ∃ a b dx fs dy gs, x = .ref a ∧ y = .ref b ∧ H a = some (.ins C dx fs) ∧ H b = some (.ins C dy gs) ∧ sp [.ref a, .ref b] H (fun v H' => ∃ p, v = .ref p ∧ Q (.ref p) H') E0
@[irreducible] def rMulO (C : Addr) (sp : Sp) : R2 := fun x y H Q => ∃ (a : Addr) (i : Int) (dx : Addr) (fs : List (Str × V)), x = .ref a ∧ y = .int i ∧ H a = some (.ins C dx fs) ∧ sp [.ref a, .int i] H (fun v H' => ∃ p, v = .ref p ∧ Q (.ref p) H') E0
@[irreducible] def rMulI (C : Addr) (sp : Sp) : R2 := fun x y H Q => ∃ (a : Addr) (i : Int) (dx : Addr) (fs : List (Str × V)), x = .int i ∧ y = .ref a ∧ H a = some (.ins C dx fs) ∧ sp [.ref a, .int i] H (fun v H' => ∃ p, v = .ref p ∧ Q (.ref p) H') E0
@[irreducible] def rNegO (C : Addr) (sp : Sp) : V → Hp → VK → Prop := fun x H Q => ∃ a dx fs, x = .ref a ∧ H a = some (.ins C dx fs) ∧ sp [.ref a] H Q E0
end
end RV
/-! sums by operators -/
namespace RV
open PySem L2 PyProof.Rows TL
def scl (i : Int) (qs : List (Str × Int)) : List (Str × Int) := qs.map fun q => (q.1, i * q.2)
/-- numbers small enough -/
structure Lit (qs : List (Str × Int)) : Prop where
  nm : ∀ q ∈ qs, IsNm q.1
  sm : ∀ q ∈ qs, q.2.natAbs < 10 ^ 60
  ln : qs.length ≤ 60
section
variable {K : PySem.W.Frag} {a D : Addr} {us : List TP} {i j : Nat} {te : TE} {vs : List Nat} {σ : L2.St} {H1 : Hp} {Qd : Hp → Prop}
end
/-- [(x, n * z) for x, z in xs] -/
def sp_times (K : PySem.W.Frag) : Sp := fun vs H Q _ => ∃ (l : Addr) (us : List TP) (i : Int), vs = [.ref l, .int i] ∧ SqL K H l (vP us) ∧ TPs K H us ∧ (∀ q ∈ prs us, q.2.natAbs < 10 ^ 60) ∧ us.length ≤ 60 ∧ i.natAbs < 10 ^ 60 ∧
  ∀ (ws : List TP) (m : Addr) H', prs ws = scl i (prs us) → Kp H (lT m ws) H' → Q (.ref m) H'
def sp_mulS (C : Addr) : Sp := fun vs H Q _ => ∃ (a : Addr) (qs : List (Str × Int)) (i : Int), vs = [.ref a, .int i] ∧ SumR C H a qs ∧ Lit qs ∧ i.natAbs < 10 ^ 60 ∧
  ∀ (x dx m : Addr) (ds : List TP) H', Mad (scl i qs) (prs ds) → Kp H (lS C x dx m ds) H' → Q (.ref x) H'
def sp_negS (C : Addr) : Sp := fun vs H Q _ => ∃ (a : Addr) (qs : List (Str × Int)), vs = [.ref a] ∧ SumR C H a qs ∧ Lit qs ∧
  ∀ (x dx m : Addr) (ds : List TP) H', Mad (scl (-1) qs) (prs ds) → Kp H (lS C x dx m ds) H' → Q (.ref x) H'
def sp_addS (C : Addr) : Sp := fun vs H Q _ => ∃ (a b : Addr) (qs rs : List (Str × Int)), vs = [.ref a, .ref b] ∧ SumR C H a qs ∧ SumR C H b rs ∧ (∀ q ∈ qs ++ rs, IsNm q.1) ∧ Few (qs ++ rs) ∧
  ∀ (x dx m : Addr) (ds : List TP) H', Mad (qs ++ rs) (prs ds) → Kp H (lS C x dx m ds) H' → Q (.ref x) H'
def sp_subS (C : Addr) : Sp := fun vs H Q _ => ∃ (a b : Addr) (qs rs : List (Str × Int)), vs = [.ref a, .ref b] ∧ SumR C H a qs ∧ SumR C H b rs ∧ (∀ q ∈ qs, IsNm q.1) ∧ Lit rs ∧ Few (qs ++ rs) ∧
  ∀ (x dx m : Addr) (ds : List TP) H', Mad (qs ++ scl (-1) rs) (prs ds) → Kp H (lS C x dx m ds) H' → Q (.ref x) H'
/-- a sum is the one of these pairs -/
def sp_is (K : PySem.W.Frag) (C : Addr) : Sp := fun vs H Q _ => ∃ (x l : Addr) (qs : List (Str × Int)) (us : List TP), vs = [.ref x, .ref l] ∧ SumR C H x qs ∧ Nrm qs ∧ SqL K H l (vP us) ∧ TPs K H us ∧ (∀ q ∈ prs us, IsNm q.1) ∧ us.length ≤ 60 ∧ tot (prs us) ≤ 10 ^ 42 ∧ (∀ y, co qs y = co (prs us) y) ∧
  ∀ H', Same H H' → Q (.bl true) H'
end RV
/-! sums of names -/
namespace RV
open PySem L2 PyProof.Rows ClX
def ones (ns : List Str) : List (Str × Int) := ns.map fun x => (x, 1)
def sp_ofB (K : PySem.W.Frag) (C : Addr) : Sp := fun vs H Q _ => ∃ (p : Addr) (ns : List Str), vs = [.ref C, .ref p] ∧ SqT K H p (ns.map V.str) ∧ (∀ x ∈ ns, IsNm x) ∧ ns.length ≤ 60 ∧
  ∀ (x dx m : Addr) (ds : List TP) H', Mad (ones ns) (prs ds) → Kp H (lS C x dx m ds) H' → Q (.ref x) H'
def sp_of (C : Addr) : Sp := fun vs H Q _ => ∃ ns : List Str, vs = .ref C :: ns.map V.str ∧ (∀ x ∈ ns, IsNm x) ∧ ns.length ≤ 60 ∧
  ∀ (x dx m : Addr) (ds : List TP) H', Mad (ones ns) (prs ds) → Kp H (lS C x dx m ds) H' → Q (.ref x) H'
/-- a class method that takes any number of values -/
def ClsR (P : Program) (w : World) (K : PySem.W.Frag) (mg : Str → Option Value) (base : Heap) (C : Addr) (m : Str) (k : Nat) (sp : Sp) : Prop :=
  ∃ mc p g, CRead K C mc ∧ CMet K C mc m p g ∧ FnR P w K mg base CX0 k g sp
end RV
/-! steps with sums over a heap that only grows -/
namespace RV
open PySem L2 PyProof.Rows TL
/-- pairs of names, so many, so great in all -/
structure Raw (qs : List (Str × Int)) (n b : Nat) : Prop where
  nm : ∀ q ∈ qs, IsNm q.1
  ln : qs.length ≤ n
  tt : tot qs ≤ b
/-- a sum of these pairs, as they were given -/
def Own (C : Addr) (H : Hp) (x : Addr) (qs : List (Str × Int)) : Prop := ∃ rs, SumR C H x rs ∧ Mad qs rs
section
variable {K : PySem.W.Frag} {C a b l x : Addr} {H H' : Hp} {qs rs : List (Str × Int)} {n m c d : Nat} {Q : VK} {E : XK} {us : List TP}
/-- a list of pairs -/
structure Lsp (K : PySem.W.Frag) (H : Hp) (l : Addr) (us : List TP) : Prop where
  hd : H l = some (.lst (vP us))
  ps : TPs K H us
end
def sp_mults : Sp := fun vs H Q _ => ∃ (a : Addr) (n : Nat), vs = [.ref a] ∧ WellAt H a n ∧ n < 800000 ∧ ∀ H', Grow a H H' → WellAt H' a (n + 100) → Q (.bl true) H'
theorem Has.wm {H0 H : Hp} {a : Addr} {n m : Nat} {L : List (Addr × HO)} (h : Has H0 a n L H) (e : n ≤ m) : Has H0 a m L H := ⟨h.gr, h.well.mono e, h.here⟩
end RV
/-! rows of sums beside their models -/
namespace RV
open PySem L2 PyProof.Rows TL
/-! ### data that are equal -/
/-! ### what stands, where a list is changed -/
section
variable {K : PySem.W.Frag} {C t p l x : Addr} {H H' : Hp} {xs ys : List V} {us : List TP} {qs : List (Str × Int)}
theorem Grow.put {o : HO} : Grow p H (upd H p o) := fun _ _ n e => by rw [upd_ne n]; exact e
end
/-! ### a sum and its model -/
abbrev Rw := Addr × Addr × List TP
structure One (K : PySem.W.Frag) (C : Addr) (H : Hp) (r : Rw) : Prop where
  sr : SumR C H r.1 (prs r.2.2)
  ls : Lsp K H r.2.1 r.2.2
/-- no coefficient of a model is greater -/
def lim : Nat := 3 * 10 ^ 33
structure Fit (pool : List Str) (us : List TP) : Prop where
  nr : Nrm (prs us)
  nm : ∀ q ∈ prs us, IsNm q.1
  pl : ∀ q ∈ prs us, q.1 ∈ pool
  sm : ∀ q ∈ prs us, q.2.natAbs ≤ lim
section
variable {pool pool' : List Str} {us ds : List TP} {K : PySem.W.Frag} {C x : Addr} {H : Hp} {qs rs : List (Str × Int)}
end
/-! ### steps with greater sums -/
section
variable {K : PySem.W.Frag} {C a b : Addr} {H : Hp} {qs rs : List (Str × Int)} {n m c d : Nat} {Q : VK}
end
section
variable {K : PySem.W.Frag} {l D : Addr} {us : List TP} {i j : Nat} {te : TE} {vs : List Nat} {σ : L2.St} {H1 : Hp} {Qd : Hp → Prop}
end
def rTupOf (K : PySem.W.Frag) : List V → Hp → VK → Prop := fun xs H Q => ∃ p ys, xs = [V.ref p] ∧ ((SqL K H p ys ∧ ∀ l, H l = none → Q (.ref l) (upd H l (.tup ys))) ∨ (SqT K H p ys ∧ Q (.ref p) H))
/-! ### promises -/
def vS (rs : List Rw) : List V := rs.map fun r => .ref r.1
def vM (rs : List Rw) : List V := rs.map fun r => .ref r.2.1
section
variable {K : PySem.W.Frag} {a D : Addr} {rs : List Rw} {i : Nat} {te : TE} {vs : List Nat} {σ : L2.St} {H1 : Hp} {Qd : Hp → Prop}
end
/-- the greatest size -/
def sp_much (K : PySem.W.Frag) : Sp := fun vs H Q _ => ∃ (l : Addr) (us : List TP), vs = [.ref l] ∧ Lsp K H l us ∧ us.length ≤ 60 ∧ ∀ (m : Int) H', (∀ q ∈ prs us, (q.2.natAbs : Int) ≤ m) → Same H H' → Q (.int m) H'
def sp_allr (K : PySem.W.Frag) (C : Addr) : Sp := fun vs H Q _ => ∃ (S M : Addr) (rs : List Rw), vs = [.ref S, .ref M] ∧ SqL K H S (vS rs) ∧ SqL K H M (vM rs) ∧ (∀ r ∈ rs, One K C H r ∧ Due (prs r.2.2)) ∧ rs.length ≤ 20 ∧ ∀ H', Same H H' → Q (.bl true) H'
def sp_turn (K : PySem.W.Frag) (C : Addr) : Sp := fun vs H Q _ => ∃ (a S M : Addr) (n : Nat) (rs : List Rw) (pool : List Str), vs = [.ref a, .ref S, .ref M] ∧ WellAt H a n ∧ n < 600000 ∧ S ≠ a ∧ M ≠ a ∧ H S = some (.lst (vS rs)) ∧ H M = some (.lst (vM rs)) ∧ rs.length = 4 ∧
  (∀ r ∈ rs, One K C H r ∧ Fit pool r.2.2 ∧ r.2.1 ≠ a) ∧ pool.length ≤ 57 ∧
  ∀ (p x l : Addr) (us : List TP) (new : List Str) H', H' p = some (.lst [.ref x, .ref l]) → Own C H' x (prs us) → Lsp K H' l us → us.length ≤ 120 → (∀ q ∈ prs us, IsNm q.1 ∧ q.1 ∈ pool ++ new) → new.length ≤ 3 → (∀ y, (co (prs us) y).natAbs ≤ lim) →
    Grow a H H' → WellAt H' a (n + 1010) → Q (.ref p) H'
def sp_row : Sp := fun vs H Q _ => ∃ (a : Addr) (n : Nat), vs = [.ref a] ∧ WellAt H a n ∧ n < 1000 ∧ ∀ H', Grow a H H' → Q (.bl true) H'
end RV
/-! a row: a list of sums and a list of their models, both changed in place; older ones -/
namespace RV
open PySem L2 PyProof.Rows TL
structure RowAt (K : PySem.W.Frag) (C : Addr) (H0 H : Hp) (a : Addr) (n : Nat) (S M : Addr) (rs os : List Rw) (pool : List Str) (L : List (Addr × HO)) : Prop where
  hs : Has H0 a n ((S, .lst (vS rs)) :: (M, .lst (vM rs)) :: L) H
  s0 : H0 S = none
  m0 : H0 M = none
  sm : S ≠ M
  off : ∀ p ∈ L, p.1 ≠ S ∧ p.1 ≠ M
  ln : rs.length = 4
  on : ∀ r ∈ rs ++ os, One K C H r ∧ Fit pool r.2.2 ∧ r.2.1 ≠ a ∧ r.2.1 ≠ S ∧ r.2.1 ≠ M
section
variable {K : PySem.W.Frag} {C : Addr} {H0 H H' : Hp} {a S M p : Addr} {n m : Nat} {rs os os' : List Rw} {pool pool' : List Str} {L L' : List (Addr × HO)} {o : HO}
end
end RV
/-! nets: pipes, meters, nets in the heap; promises of their methods -/
namespace RV
open PySem L2 PyProof.Rows TL
def sp_check (K : PySem.W.Frag) : Sp := fun vs H Q _ => ∃ (t : Addr) (xs : List Str), vs = [.ref t] ∧ SqT K H t (xs.map V.str) ∧ (∀ x ∈ xs, IsNm x) ∧ ∀ H', Same H H' → Q .non H'
theorem k12 : ¬ (("_name" : Str) = "_start") := by decide +kernel
theorem k13 : ¬ (("_name" : Str) = "_end") := by decide +kernel
theorem k23 : ¬ (("_start" : Str) = "_end") := by decide +kernel
theorem k14 : ¬ (("_name" : Str) = "_at") := by decide +kernel
theorem k15 : ¬ (("_name" : Str) = "_sealed") := by decide +kernel
theorem k45 : ¬ (("_at" : Str) = "_sealed") := by decide +kernel
def pipeF (n s e : Str) : List (Str × V) := putF "_end" (.str e) (putF "_start" (.str s) (putF "_name" (.str n) []))
theorem pipeF_n (n s e : Str) : (pipeF n s e).lookup ("_name" : Str) = some (.str n) := by
  unfold pipeF
  rw [lookup_putF, if_neg k13, lookup_putF, if_neg k12, lookup_putF, if_pos rfl]
theorem pipeF_s (n s e : Str) : (pipeF n s e).lookup ("_start" : Str) = some (.str s) := by
  unfold pipeF
  rw [lookup_putF, if_neg k23, lookup_putF, if_pos rfl]
theorem pipeF_e (n s e : Str) : (pipeF n s e).lookup ("_end" : Str) = some (.str e) := by
  unfold pipeF
  rw [lookup_putF, if_pos rfl]
theorem putF_len (f : Str) (v : V) : ∀ fs : List (Str × V), (putF f v fs).length ≤ fs.length + 1
  | [] => Nat.le_refl _
  | (g, x) :: r => by
    show (if g = f then (g, v) :: r else (g, x) :: putF f v r).length ≤ _
    split
    · simp
    · have := putF_len f v r
      simp only [List.length_cons]
      omega
def metF (n a : Str) (z : Bool) : List (Str × V) := putF "_sealed" (.bl z) (putF "_at" (.str a) (putF "_name" (.str n) []))
theorem metF_n (n a : Str) (z : Bool) : (metF n a z).lookup ("_name" : Str) = some (.str n) := by
  unfold metF
  rw [lookup_putF, if_neg k15, lookup_putF, if_neg k14, lookup_putF, if_pos rfl]
theorem metF_a (n a : Str) (z : Bool) : (metF n a z).lookup ("_at" : Str) = some (.str a) := by
  unfold metF
  rw [lookup_putF, if_neg k45, lookup_putF, if_pos rfl]
theorem metF_z (n a : Str) (z : Bool) : (metF n a z).lookup ("_sealed" : Str) = some (.bl z) := by
  unfold metF
  rw [lookup_putF, if_pos rfl]
def sp_Pipe (C : Addr) : Sp := fun vs H Q _ => ∃ (x dx : Addr) (n s e : Str), vs = [.ref x, .str n, .str s, .str e] ∧ H x = some (.ins C dx []) ∧ IsNm n ∧ IsNm s ∧ IsNm e ∧ e ≠ s ∧
  ∀ H', (∀ b o, b ≠ x → H b = some o → H' b = some o) → (∃ dx, H' x = some (.ins C dx (pipeF n s e))) → Q .non H'
def sp_Meter (C : Addr) : Sp := fun vs H Q _ => ∃ (x dx : Addr) (n a : Str) (z : Bool), vs = [.ref x, .str n, .str a, .bl z] ∧ H x = some (.ins C dx []) ∧ IsNm n ∧ IsNm a ∧
  ∀ H', (∀ b o, b ≠ x → H b = some o → H' b = some o) → (∃ dx, H' x = some (.ins C dx (metF n a z))) → Q .non H'
abbrev P3 := Str × Str × Str
abbrev M3 := Str × Str × Bool
def PipeAt (C : Addr) (H : Hp) (p : Addr) (q : P3) : Prop := ∃ dx, H p = some (.ins C dx (pipeF q.1 q.2.1 q.2.2))
def MetAt (C : Addr) (H : Hp) (p : Addr) (q : M3) : Prop := ∃ dx, H p = some (.ins C dx (metF q.1 q.2.1 q.2.2))
theorem PipeAt.ext {C p : Addr} {H H' : Hp} {q : P3} (h : PipeAt C H p q) (s : Same H H') : PipeAt C H' p q := h.imp fun _ e => s _ _ e
theorem MetAt.ext {C p : Addr} {H H' : Hp} {q : M3} (h : MetAt C H p q) (s : Same H H') : MetAt C H' p q := h.imp fun _ e => s _ _ e
theorem PipeAt.gro {C a p : Addr} {H H' : Hp} {q : P3} {ys : List V} (h : PipeAt C H p q) (e : H a = some (.lst ys)) (g : Grow a H H') : PipeAt C H' p q := by
  obtain ⟨dx, z⟩ := h
  exact ⟨dx, g _ _ (fun w => by rw [w, e] at z; cases z) z⟩
theorem MetAt.gro {C a p : Addr} {H H' : Hp} {q : M3} {ys : List V} (h : MetAt C H p q) (e : H a = some (.lst ys)) (g : Grow a H H') : MetAt C H' p q := by
  obtain ⟨dx, z⟩ := h
  exact ⟨dx, g _ _ (fun w => by rw [w, e] at z; cases z) z⟩
/-- a pipe's, a meter's own properties -/
def sp_pn (C : Addr) : Sp := fun vs H Q _ => ∃ (a : Addr) (q : P3), vs = [.ref a] ∧ PipeAt C H a q ∧ Q (.str q.1) H
def sp_ps (C : Addr) : Sp := fun vs H Q _ => ∃ (a : Addr) (q : P3), vs = [.ref a] ∧ PipeAt C H a q ∧ Q (.str q.2.1) H
def sp_pe (C : Addr) : Sp := fun vs H Q _ => ∃ (a : Addr) (q : P3), vs = [.ref a] ∧ PipeAt C H a q ∧ Q (.str q.2.2) H
def sp_mn (C : Addr) : Sp := fun vs H Q _ => ∃ (a : Addr) (q : M3), vs = [.ref a] ∧ MetAt C H a q ∧ Q (.str q.1) H
def sp_ma (C : Addr) : Sp := fun vs H Q _ => ∃ (a : Addr) (q : M3), vs = [.ref a] ∧ MetAt C H a q ∧ Q (.str q.2.1) H
def sp_mz (C : Addr) : Sp := fun vs H Q _ => ∃ (a : Addr) (q : M3), vs = [.ref a] ∧ MetAt C H a q ∧ Q (.bl q.2.2) H
/-- two of a kind are compared -/
def sp_Peq (C : Addr) : Sp := fun vs H Q _ => ∃ (a b : Addr) (q r : P3), vs = [.ref a, .ref b] ∧ PipeAt C H a q ∧ PipeAt C H b r ∧ Q (.bl (decide (q = r))) H
def sp_Meq (C : Addr) : Sp := fun vs H Q _ => ∃ (a b : Addr) (q r : M3), vs = [.ref a, .ref b] ∧ MetAt C H a q ∧ MetAt C H b r ∧ Q (.bl (decide (q = r))) H
structure PClass (K : PySem.W.Frag) (mg : Str → Option Value) (C : Addr) : Prop where
  x : ClsX K C
  k : mg "Pipe" = some (.ref C)
  n1 : NoAttr K C "_name"
  n2 : NoAttr K C "_start"
  n3 : NoAttr K C "_end"
  me : PySem.W.kitOne K (.ref C) (.ref C) = some true
structure MClass (K : PySem.W.Frag) (mg : Str → Option Value) (C : Addr) : Prop where
  x : ClsX K C
  k : mg "Meter" = some (.ref C)
  n1 : NoAttr K C "_name"
  n2 : NoAttr K C "_at"
  n3 : NoAttr K C "_sealed"
  me : PySem.W.kitOne K (.ref C) (.ref C) = some true
structure NClass (K : PySem.W.Frag) (mg : Str → Option Value) (C : Addr) : Prop where
  x : ClsX K C
  k : mg "Net" = some (.ref C)
  n1 : NoAttr K C "_pipes"
  n2 : NoAttr K C "_meters"
  me : PySem.W.kitOne K (.ref C) (.ref C) = some true
section
variable {H : Hp} {R : Hp → Prop} {E : XK} {C x dx : Addr} {n s e : Str} {z : Bool}
theorem Pipe_kp (h1 : IsNm n) (h2 : IsNm s) (h3 : IsNm e) (hne : e ≠ s) (hx : H x = none) (hd : H dx = none) (_ : dx ≠ x) (k : ∀ H', Same H H' → PipeAt C H' x (n, s, e) → R H') :
    Irr (sp_Pipe C) [.ref x, .str n, .str s, .str e] (upd (upd H dx (.own x)) x (.ins C dx [])) (fun v H2 => v = .non ∧ R H2) E :=
  irr ⟨x, dx, n, s, e, rfl, upd_same, h1, h2, h3, hne, fun H' g p => ⟨rfl, k H' (fun b o eb => g b o (ne_of_none eb hx) (by rw [upd_ne (ne_of_none eb hx), upd_ne (ne_of_none eb hd)]; exact eb)) p⟩⟩
theorem Meter_kp (h1 : IsNm n) (h2 : IsNm s) (hx : H x = none) (hd : H dx = none) (_ : dx ≠ x) (k : ∀ H', Same H H' → MetAt C H' x (n, s, z) → R H') :
    Irr (sp_Meter C) [.ref x, .str n, .str s, .bl z] (upd (upd H dx (.own x)) x (.ins C dx [])) (fun v H2 => v = .non ∧ R H2) E :=
  irr ⟨x, dx, n, s, z, rfl, upd_same, h1, h2, fun H' g p => ⟨rfl, k H' (fun b o eb => g b o (ne_of_none eb hx) (by rw [upd_ne (ne_of_none eb hx), upd_ne (ne_of_none eb hd)]; exact eb)) p⟩⟩
end
theorem strs_flat : ∀ xs : List Str, (xs.map V.str).all flatV = true
  | [] => rfl
  | x :: xs => by simp [flatV, strs_flat xs]
/-- a name is not among those in front of it -/
theorem nodup_take {α : Type} {f : α → Str} : ∀ {xs : List α} {i : Nat} {x : α}, (xs.map f).Nodup → xs[i]? = some x → f x ∉ (xs.take i).map f
  | [], _, _, _, h => by simp at h
  | y :: ys, 0, x, _, _ => by simp
  | y :: ys, i + 1, x, nd, h => by
    rw [List.map_cons, List.nodup_cons] at nd
    rw [List.getElem?_cons_succ] at h
    rw [List.take_succ_cons, List.map_cons, List.mem_cons]
    rintro (e | e)
    · exact nd.1 (by rw [← e]; exact List.mem_map.mpr ⟨x, List.mem_of_getElem? h, rfl⟩)
    · exact nodup_take nd.2 h e
/-! ### nets -/
theorem kPM : ¬ (("_pipes" : Str) = "_meters") := by decide +kernel
def netF (tp tm : Addr) : List (Str × V) := putF "_meters" (.ref tm) (putF "_pipes" (.ref tp) [])
theorem netF_p (tp tm : Addr) : (netF tp tm).lookup ("_pipes" : Str) = some (.ref tp) := by
  unfold netF
  rw [lookup_putF, if_neg kPM, lookup_putF, if_pos rfl]
theorem netF_m (tp tm : Addr) : (netF tp tm).lookup ("_meters" : Str) = some (.ref tm) := by
  unfold netF
  rw [lookup_putF, if_pos rfl]
abbrev PU := Addr × P3
abbrev MU := Addr × M3
def rf {α : Type} (us : List (Addr × α)) : List V := us.map fun u => .ref u.1
def sn {α : Type} (us : List (Addr × α)) : List α := us.map (·.2)
theorem rf_len {α : Type} (us : List (Addr × α)) : (rf us).length = us.length := List.length_map _
theorem sn_len {α : Type} (us : List (Addr × α)) : (sn us).length = us.length := List.length_map _
/-- a tuple of pipes, of meters -/
structure Tps (K : PySem.W.Frag) (C : Addr) (H : Hp) (t : Addr) (us : List PU) : Prop where
  t : SqT K H t (rf us)
  o : ∀ u ∈ us, PipeAt C H u.1 u.2
structure Tms (K : PySem.W.Frag) (C : Addr) (H : Hp) (t : Addr) (us : List MU) : Prop where
  t : SqT K H t (rf us)
  o : ∀ u ∈ us, MetAt C H u.1 u.2
theorem Tps.ext {K : PySem.W.Frag} {C t : Addr} {H H' : Hp} {us : List PU} (h : Tps K C H t us) (s : Same H H') : Tps K C H' t us := ⟨h.t.ext s, fun u hu => (h.o u hu).ext s⟩
theorem Tms.ext {K : PySem.W.Frag} {C t : Addr} {H H' : Hp} {us : List MU} (h : Tms K C H t us) (s : Same H H') : Tms K C H' t us := ⟨h.t.ext s, fun u hu => (h.o u hu).ext s⟩
/-- what a net's pipes, a net's meters are -/
structure POk (ps : List P3) : Prop where
  n0 : ps ≠ []
  ln : ps.length ≤ 12
  nm : ∀ p ∈ ps, IsNm p.1 ∧ IsNm p.2.1 ∧ IsNm p.2.2 ∧ p.2.2 ≠ p.2.1
  nd : (ps.map (·.1)).Nodup
structure MOk (ps : List P3) (ms : List M3) : Prop where
  ln : ms.length ≤ 12
  nm : ∀ m ∈ ms, IsNm m.1 ∧ IsNm m.2.1
  nd : (ms.map (·.1)).Nodup
  on : ∀ m ∈ ms, m.2.1 ∈ ps.map (·.1)
/-- a net in the heap -/
structure NetR (K : PySem.W.Frag) (CN CP CM : Addr) (H : Hp) (x : Addr) (ps : List P3) (ms : List M3) : Prop where
  ex : ∃ (dx tp tm : Addr) (pu : List PU) (mu : List MU), H x = some (.ins CN dx (netF tp tm)) ∧ Tps K CP H tp pu ∧ Tms K CM H tm mu ∧ sn pu = ps ∧ sn mu = ms
theorem NetR.ext {K : PySem.W.Frag} {CN CP CM x : Addr} {H H' : Hp} {ps : List P3} {ms : List M3} (h : NetR K CN CP CM H x ps ms) (s : Same H H') : NetR K CN CP CM H' x ps ms := by
  obtain ⟨dx, tp, tm, pu, mu, e, h1, h2, h3⟩ := h.ex
  exact ⟨dx, tp, tm, pu, mu, s _ _ e, h1.ext s, h2.ext s, h3⟩
def sp_index (K : PySem.W.Frag) (CP : Addr) : Sp := fun vs H Q _ => ∃ (t : Addr) (us : List PU) (y : Str), vs = [.ref t, .str y] ∧ Tps K CP H t us ∧ us.length ≤ 12 ∧ y ∈ (sn us).map (·.1) ∧ ∀ (i : Nat) H', ((sn us)[i]?).map (·.1) = some y → Same H H' → Q (.int (i : Nat)) H'
def sp_chkP (K : PySem.W.Frag) (CP : Addr) : Sp := fun vs H Q _ => ∃ (t : Addr) (us : List PU), vs = [.ref t] ∧ Tps K CP H t us ∧ POk (sn us) ∧ ∀ H', Same H H' → Q .non H'
def sp_chkM (K : PySem.W.Frag) (CP CM : Addr) : Sp := fun vs H Q _ => ∃ (t tp : Addr) (us : List MU) (pu : List PU), vs = [.ref t, .ref tp] ∧ Tms K CM H t us ∧ Tps K CP H tp pu ∧ pu.length ≤ 12 ∧ MOk (sn pu) (sn us) ∧ ∀ H', Same H H' → Q .non H'
def sp_Net (K : PySem.W.Frag) (CN CP CM : Addr) : Sp := fun vs H Q _ => ∃ (x dx tp tm : Addr) (pu : List PU) (mu : List MU), vs = [.ref x, .ref tp, .ref tm] ∧ H x = some (.ins CN dx []) ∧ Tps K CP H tp pu ∧ Tms K CM H tm mu ∧ POk (sn pu) ∧ MOk (sn pu) (sn mu) ∧
  ∀ H', (∀ b o, b ≠ x → H b = some o → H' b = some o) → (∃ dx, H' x = some (.ins CN dx (netF tp tm))) → Q .non H'
section
variable {K : PySem.W.Frag} {CN CP CM x dx tp tm : Addr} {H : Hp} {pu : List PU} {mu : List MU} {R : Hp → Prop} {E : XK}
theorem Net_kp (hp : Tps K CP H tp pu) (hm : Tms K CM H tm mu) (po : POk (sn pu)) (mo : MOk (sn pu) (sn mu)) (hx : H x = none) (hd : H dx = none) (_ : dx ≠ x) (k : ∀ H', Same H H' → NetR K CN CP CM H' x (sn pu) (sn mu) → R H') :
    Irr (sp_Net K CN CP CM) [.ref x, .ref tp, .ref tm] (upd (upd H dx (.own x)) x (.ins CN dx [])) (fun v H2 => v = .non ∧ R H2) E := by
  have s : Same H (upd (upd H dx (.own x)) x (.ins CN dx [])) := fun b o eb => by rw [upd_ne (ne_of_none eb hx), upd_ne (ne_of_none eb hd)]; exact eb
  refine irr ⟨x, dx, tp, tm, pu, mu, rfl, upd_same, hp.ext s, hm.ext s, po, mo, fun H' g p => ⟨rfl, ?_⟩⟩
  have s' : Same H H' := fun b o eb => g b o (ne_of_none eb hx) (s b o eb)
  obtain ⟨dx', p⟩ := p
  exact k H' s' ⟨dx', tp, tm, pu, mu, p, hp.ext s', hm.ext s', rfl, rfl⟩
end
end RV
/-! comprehensions: one thing for each item; the items that fit -/
namespace RV
open PySem L2 PyProof.Rows TL
section
variable {α β : Type} {K : PySem.W.Frag} {D : Addr} {xs : List V} {i : Nat} {te : TE} {tt : TT} {vs : List Nat} {σ : L2.St} {H1 : Hp} {Qd : Hp → Prop} {J : It} {GG : Hp → Prop}
/-- [f(x) for x in xs]: each turn gives a value of which something is known -/
theorem lc_new (val : β → V) (Pk : Nat → β → Hp → Prop) (wk : Walk J xs.length GG (YAt xs)) (nD : H1 D = none) (len : xs.length ≤ 1000) (hG : ∀ H', Same H1 H' → GG H') (hw : ∀ x, wipe ((wipe σ vs).set i x) vs = wipe σ vs)
    (ext : ∀ k b H H', Same H H' → Pk k b H → Pk k b H') (put : ∀ k b H acc acc', H D = some (.lst acc) → Pk k b H → Pk k b (upd H D (.lst acc')))
    (h : ∀ k x, xs[k]? = some x → ∀ H2, Same H1 H2 → (∃ acc, H2 D = some (.lst acc)) → ∀ R : VK, (∀ b H3, Same H2 H3 → Pk k b H3 → R (val b) H3) → te ((wipe σ vs).set i (some x)) H2 R)
    (k : ∀ (bs : List β) H', Same H1 H' → bs.length = xs.length → (∀ k b, bs[k]? = some b → Pk k b H') → H' D = some (.lst (bs.map val)) → Qd H') :
    ∃ W : Nat → Nat → Hp → Prop, (∃ m, W 0 m (upd H1 D (.lst []))) ∧ ∀ i' m H, W i' m H →
      (J.stop i' H ∧ Qd H) ∨ (J.go i' H ∧ ∃ Nx : Hp → Prop, (∀ H', Nx H' → ∃ m', m' < m ∧ W (i' + 1) m' H') ∧ ∀ x H', J.yld i' H x H' → gName i x (wipe σ vs) H' fun σ2 H2 => wipe σ2 vs = wipe σ vs ∧ tYes σ2 H2 fun b H3 =>
        if b = true then te σ2 H3 fun y H4 => ∃ acc, H4 D = some (.lst acc) ∧ acc.length < sizeLine ∧ Nx (upd H4 D (.lst (acc ++ [y]))) else Nx H3) := by
  refine L2.lc_it wk (fun i' H' => ∃ bs : List β, bs.length = i' ∧ Same H1 H' ∧ H' D = some (.lst (bs.map val)) ∧ ∀ k b, bs[k]? = some b → Pk k b H')
    ⟨[], rfl, fun b o e => (upd_ne (ne_of_none e nD)).trans e, upd_same, fun k b e => by simp at e⟩ (fun i' H' _ z => ?_) (fun i' x Ha Hb hi hv y => ?_) (fun H' hv => ?_)
  · obtain ⟨_, _, s, _⟩ := z
    exact hG _ s
  · obtain ⟨bs, hb, s, eD, hp⟩ := hv
    obtain ⟨rfl, hx⟩ := y
    have e0 : ∀ (σ : L2.St) (H : Hp) (R : Bool → Hp → Prop), R true H → tYes σ H R := fun _ _ _ r => r
    refine ⟨hw _, e0 _ _ _ ?_⟩
    simp only [↓reduceIte]
    refine h i' x hx Hb s ⟨_, eD⟩ _ fun b H3 s3 pb => ?_
    have eD3 := s3 _ _ eD
    refine ⟨_, eD3, ?_, bs ++ [b], by rw [List.length_append, hb]; rfl, fun c o e => ?_, by rw [upd_same, List.map_append]; rfl, fun k c e => ?_⟩
    · rw [List.length_map, hb]
      exact Nat.lt_of_lt_of_le (show i' < 1001 by omega) (by decide)
    · rw [upd_ne (ne_of_none e nD)]
      exact s3 _ _ (s _ _ e)
    · refine put _ _ _ _ _ eD3 ?_
      rw [List.getElem?_append] at e
      split at e
      · exact ext _ _ _ _ s3 (hp k c e)
      · rename_i hk
        have : k - bs.length = 0 := by
          have := (List.getElem?_eq_some_iff.mp e).1
          simp at this
          omega
        rw [this] at e
        obtain rfl : b = c := Option.some.inj e
        rw [show k = i' by omega]
        exact pb
  · obtain ⟨bs, hb, s, eD, hp⟩ := hv
    exact k bs H' s hb hp eD
/-- [f(x) for x in xs]: plain values -/
theorem lc_to (ys : List V) (hl : ys.length = xs.length) (wk : Walk J xs.length GG (YAt xs)) (nD : H1 D = none) (len : xs.length ≤ 1000) (hG : ∀ H', Same H1 H' → GG H') (hw : ∀ x, wipe ((wipe σ vs).set i x) vs = wipe σ vs)
    (h : ∀ (k : Nat) (x y : V), xs[k]? = some x → ys[k]? = some y → ∀ H2, Same H1 H2 → ∀ R : VK, (∀ H3, Same H2 H3 → R y H3) → te ((wipe σ vs).set i (some x)) H2 R)
    (k : ∀ H', Same H1 H' → H' D = some (.lst ys) → Qd H') :
    ∃ W : Nat → Nat → Hp → Prop, (∃ m, W 0 m (upd H1 D (.lst []))) ∧ ∀ i' m H, W i' m H →
      (J.stop i' H ∧ Qd H) ∨ (J.go i' H ∧ ∃ Nx : Hp → Prop, (∀ H', Nx H' → ∃ m', m' < m ∧ W (i' + 1) m' H') ∧ ∀ x H', J.yld i' H x H' → gName i x (wipe σ vs) H' fun σ2 H2 => wipe σ2 vs = wipe σ vs ∧ tYes σ2 H2 fun b H3 =>
        if b = true then te σ2 H3 fun y H4 => ∃ acc, H4 D = some (.lst acc) ∧ acc.length < sizeLine ∧ Nx (upd H4 D (.lst (acc ++ [y]))) else Nx H3) := by
  refine lc_new (β := V) id (fun (k : Nat) (b : V) (_ : Hp) => (ys[k]? : Option V) = some b) wk nD len hG hw (fun _ _ _ _ _ e => e) (fun _ _ _ _ _ _ e => e) (fun k x hx H2 s2 _ R r => ?_) fun bs H' s' bl bp eD => ?_
  · have hk := (List.getElem?_eq_some_iff.mp hx).1
    have e : ys[k]? = some (ys[k]'(by omega)) := List.getElem?_eq_getElem _
    exact h k x _ hx e H2 s2 R fun H3 s3 => r _ H3 s3 e
  · refine k H' s' ?_
    rw [eD, List.map_id]
    congr 2
    refine List.ext_getElem? fun j => ?_
    cases e : bs[j]? with
    | some b => rw [bp j b e]
    | none => rw [List.getElem?_eq_none_iff] at e; rw [List.getElem?_eq_none (by omega)]
/-- [x for x in xs if p(x)] over things at addresses -/
theorem lc_keep {us : List (Addr × α)} (p : Addr × α → Bool) (wk : Walk J (rf us).length GG (YAt (rf us))) (nD : H1 D = none) (len : us.length ≤ 1000) (hG : ∀ H', Same H1 H' → GG H') (hw : ∀ x, wipe ((wipe σ vs).set i x) vs = wipe σ vs)
    (ht : ∀ u ∈ us, ∀ H2, Same H1 H2 → ∀ R : Bool → Hp → Prop, (∀ H3, Same H2 H3 → R (p u) H3) → tt ((wipe σ vs).set i (some (.ref u.1))) H2 R)
    (he : ∀ u ∈ us, ∀ H2, ∀ R : VK, R (.ref u.1) H2 → te ((wipe σ vs).set i (some (.ref u.1))) H2 R)
    (k : ∀ H', Same H1 H' → H' D = some (.lst (rf (us.filter p))) → Qd H') :
    ∃ W : Nat → Nat → Hp → Prop, (∃ m, W 0 m (upd H1 D (.lst []))) ∧ ∀ i' m H, W i' m H →
      (J.stop i' H ∧ Qd H) ∨ (J.go i' H ∧ ∃ Nx : Hp → Prop, (∀ H', Nx H' → ∃ m', m' < m ∧ W (i' + 1) m' H') ∧ ∀ x H', J.yld i' H x H' → gName i x (wipe σ vs) H' fun σ2 H2 => wipe σ2 vs = wipe σ vs ∧ tt σ2 H2 fun b H3 =>
        if b = true then te σ2 H3 fun y H4 => ∃ acc, H4 D = some (.lst acc) ∧ acc.length < sizeLine ∧ Nx (upd H4 D (.lst (acc ++ [y]))) else Nx H3) := by
  refine L2.lc_it wk (fun i' H' => Same H1 H' ∧ H' D = some (.lst (rf ((us.take i').filter p))))
    ⟨fun b o e => (upd_ne (ne_of_none e nD)).trans e, upd_same⟩ (fun i' H' _ z => hG _ z.1) (fun i' x Ha Hb hi hv y => ?_) (fun H' hv => ?_)
  · obtain ⟨s, eD⟩ := hv
    obtain ⟨rfl, hx⟩ := y
    rw [rf, List.getElem?_map] at hx
    cases hu : us[i']? with
    | none => rw [hu] at hx; cases hx
    | some u =>
      rw [hu] at hx
      obtain rfl : V.ref u.1 = x := Option.some.inj hx
      have hm := List.mem_of_getElem? hu
      have et : us.take (i' + 1) = us.take i' ++ [u] := by rw [List.take_add_one, hu]; rfl
      refine ⟨hw _, ht u hm Hb s _ fun H3 s3 => ?_⟩
      have eD3 := s3 _ _ eD
      cases hp : p u with
      | false =>
        refine iteF ⟨fun b o e => s3 b o (s b o e), ?_⟩
        rw [eD3, et, List.filter_append, List.filter_cons_of_neg (by rw [hp]; decide), List.filter_nil, List.append_nil]
      | true =>
        refine iteT (he u hm H3 _ ⟨_, eD3, ?_, fun b o e => ?_, ?_⟩)
        · rw [rf_len]
          have l1 := List.length_filter_le p (us.take i')
          have l3 := List.length_take_le' i' us
          exact Nat.lt_of_le_of_lt (Nat.le_trans l1 (Nat.le_trans l3 len)) (by decide)
        · rw [upd_ne (ne_of_none e nD)]
          exact s3 _ _ (s _ _ e)
        · rw [upd_same, et, List.filter_append, List.filter_cons_of_pos hp, List.filter_nil, rf, rf, List.map_append]
          rfl
  · obtain ⟨s, eD⟩ := hv
    rw [rf_len, List.take_length] at eD
    exact k H' s eD
end
/-! ### the lines of a net -/
def pline (q : P3) : Str := Str.empty ++ "pipe " ++ q.1 ++ " " ++ q.2.1 ++ " " ++ q.2.2
def mseal (z : Bool) : Str := if z then " sealed" else ""
def mline (q : M3) : Str := Str.empty ++ "meter " ++ q.1 ++ " " ++ q.2.1 ++ mseal q.2.2
def netL (ps : List P3) (ms : List M3) : List Str := ps.map pline ++ ms.map mline
def netT (ps : List P3) (ms : List M3) : Str := Txt.join "\n" (netL ps ms)
def sp_pline (CP : Addr) : Sp := fun vs H Q _ => ∃ (a : Addr) (q : P3), vs = [.ref a] ∧ PipeAt CP H a q ∧ IsNm q.1 ∧ IsNm q.2.1 ∧ IsNm q.2.2 ∧ Q (.str (pline q)) H
def sp_mline (CM : Addr) : Sp := fun vs H Q _ => ∃ (a : Addr) (q : M3), vs = [.ref a] ∧ MetAt CM H a q ∧ IsNm q.1 ∧ IsNm q.2.1 ∧ Q (.str (mline q)) H
/-- names that a text is made of -/
def PNm (ps : List P3) : Prop := ∀ p ∈ ps, IsNm p.1 ∧ IsNm p.2.1 ∧ IsNm p.2.2
def MNm (ms : List M3) : Prop := ∀ p ∈ ms, IsNm p.1 ∧ IsNm p.2.1
def sp_lines (K : PySem.W.Frag) (CP CM : Addr) : Sp := fun vs H Q _ => ∃ (tp tm : Addr) (pu : List PU) (mu : List MU), vs = [.ref tp, .ref tm] ∧ Tps K CP H tp pu ∧ Tms K CM H tm mu ∧ PNm (sn pu) ∧ MNm (sn mu) ∧ pu.length ≤ 20 ∧ mu.length ≤ 20 ∧
  ∀ l H', Kp H [(l, .lst ((netL (sn pu) (sn mu)).map V.str))] H' → Q (.ref l) H'
def sp_nstr (K : PySem.W.Frag) (CN CP CM : Addr) : Sp := fun vs H Q _ => ∃ (x : Addr) (ps : List P3) (ms : List M3), vs = [.ref x] ∧ NetR K CN CP CM H x ps ms ∧ PNm ps ∧ MNm ms ∧ ps.length ≤ 20 ∧ ms.length ≤ 20 ∧ ∀ H', Same H H' → Q (.str (netT ps ms)) H'
theorem nm8 {x : Str} (h : IsNm x) : 1 ≤ x.length ∧ x.length ≤ 8 := by rw [cd_len]; exact isNm_len h
end RV
set_option linter.all false
/-! == of tuples of own objects: all equal, or one of them empty -/
namespace GQ
open PySem PySem.SeqAt
open AutoSeq1 (wpAny_loadPart')
open MeetsSeq MeetsSeq2 MeetsSeq3 SeqRoads2
section
variable {prog : Program} {w : World} {A : Around} {R : Result → Shared → Prop}
theorem rv_tuple_eq0 (l b : Addr) (items items2 : Array Value) (n n2 : Nat) (dd dd2 : Option Addr) (sl sl2 : Array (Option Value)) (h0 : items.size = 0 ∨ items2.size = 0) (hne : items.size ≠ items2.size)
    {s : Shared} (fin : R (.ok (.ret (.bool false))) s) (hl1 : s.heap.get? l = some { cls := .type "tuple", dict := dd, data := .seq items n, slots := sl }) (hb1 : s.heap.get? b = some { cls := .type "tuple", dict := dd2, data := .seq items2 n2, slots := sl2 }) :
    wpAny (model prog w) A.in1 (Builtin.«tuple.__eq__» ⟨[.ref l, .ref b], []⟩) (FinOf prog w A R) (fun e s' => R (.error e) s') s := by
  have f2 := AutoSeq1.sub_tuple_tuple
  have hZ : items.toList.zip items2.toList = [] := by
    rcases h0 with h | h
    · rw [show items = #[] from Array.eq_empty_of_size_eq_zero h]
      rfl
    · rw [show items2 = #[] from Array.eq_empty_of_size_eq_zero h]
      simp
  have hs : ∃ t, t = s := ⟨s, rfl⟩
  obtain ⟨t, ht⟩ := hs
  obtain ⟨hp, g, d, tk, os⟩ := s
  wp_walk using wpAny_loadPart' hl1, wpAny_loadPart' hb1, wpAny_forIn_list _ (fun rest b s' => b.1 = none ∧ rest = [] ∧ s' = t) _
  case turn =>
    rintro ⟨y, x⟩ rest b s' ⟨_, hz, _⟩
    cases hz
  case fin =>
    rintro ⟨b1, b2⟩ s' ⟨hb', _, hs'⟩
    simp only at hb'
    subst hb'
    subst hs'
    subst ht
    wp_walk
    have e : (items.size == items2.size) = false := by simpa using hne
    simp only [Builtin.Tuple.tupleCompareSizes]
    show R (.ok (.ret (.bool (items.size == items2.size)))) _
    rw [e]
    exact fin
  case h =>
    exact ⟨rfl, hZ, ht.symm⟩
end
section
variable {prog : Program} {w : World} {A : Around} {E : Value → Shared → Prop} {s : Shared}
theorem rv_rc_tup0 {l b : Addr} {items items2 : Array Value} {Q : Value → Shared → Prop} (h0 : items.size = 0 ∨ items2.size = 0) (hne : items.size ≠ items2.size) (hu : A.units < cLine)
    (hl : s.heap.IsTuple l items) (hb : s.heap.IsTuple b items2) (fin : Q (.bool false) s) : wpAny (model prog w) A (richCompare .Eq (.ref l) (.ref b)) Q E s := by
  obtain ⟨⟨cls, dd, data, sl⟩, ho, hc, n, hd⟩ := id hl
  obtain ⟨⟨cls2, dd2, data2, sl2⟩, ho2, hc2, n2, hd2⟩ := id hb
  simp only at hc hd hc2 hd2
  subst hc hd hc2 hd2
  refine wpAny_richCompare_same_room (op := .Eq) ⟨_, ho, rfl⟩ ⟨_, ho2, rfl⟩ F.slot_tuple_eq (call_here F.slot_tuple_eq ⟨_, ho, rfl⟩ F.entry_tuple_eq (F.args_tuple_eq_2 _ _) ?_) hu
  exact rv_tuple_eq0 (R := wants (fun v s' => v ≠ .notImplemented ∧ Q v s') E) l b items items2 n n2 dd dd2 sl sl2 h0 hne ⟨(fun x => nomatch x), fin⟩ ho ho2
end
end GQ
namespace RV
open PySem L2 PyProof.Rows
def rEqTup (K : PySem.W.Frag) (D : Eqv) : R2 := fun x y H Q => (DTup K D x y H ∧ ∀ H', Ext H H' → Q (.bl true) H') ∨
  (∃ a b xs ys, x = .ref a ∧ y = .ref b ∧ SqT K H a xs ∧ SqT K H b ys ∧ (xs.length = 0 ∨ ys.length = 0) ∧ xs.length ≠ ys.length ∧ Q (.bl false) H)
theorem op_eqTup {X : Cx} {n : Nat} {D : Eqv} (h : RcG X n (DTup X.K D)) (hr : Room n X.A) : OpR X (compareOp .Eq) (rEqTup X.K D) := by
  intro pins s σ H x y v u Q I rx ry hq
  rcases hq with hq | hq
  · exact op_eqG h hr pins s σ H x y v u Q I rx ry hq
  · obtain ⟨a, b, xs, ys, rfl, rfl, ha, hb, h0, hne, q⟩ := hq
    cases rx
    cases ry
    obtain ⟨its, r, e, z⟩ := I.tuple ha
    obtain ⟨its2, r2, e2, z2⟩ := I.tuple hb
    show wpAny (model X.prog X.w) X.A (richCompare .Eq (.ref a) (.ref b)) (EP X pins σ Q) X.xe s
    refine GQ.rv_rc_tup0 (items := its.toArray) (items2 := its2.toArray) ?_ ?_ hr.units0 e e2 ⟨.bl false, H, I, rfl, q⟩
    · rw [List.size_toArray, List.size_toArray, ← r.length, ← r2.length]
      exact h0
    · rw [List.size_toArray, List.size_toArray, ← r.length, ← r2.length]
      exact hne
/-- two of a kind that are equal -/
def SmP (C : Addr) : Addr → Addr → Hp → Prop := fun a b H => ∃ q, PipeAt C H a q ∧ PipeAt C H b q
def SmM (C : Addr) : Addr → Addr → Hp → Prop := fun a b H => ∃ q, MetAt C H a q ∧ MetAt C H b q
theorem rc_pipes {X : Cx} {C : Addr} (h : OwnEq X.prog X.w X.K X.mg X.base C 1 (sp_Peq C)) : RcG X 2 (DTup X.K (DIns C (SmP C))) := by
  obtain ⟨f, fd, ps, a, b, c, F⟩ := h.fn
  refine rcG_tup (mon_ins fun a b H H' e z => ?_) (eqG_ins (CX := CX0) (E := E0) (F.imp fun vs H Q E z => ?_) a b c pass0)
  · obtain ⟨q, h1, h2⟩ := z
    exact ⟨q, h1.ext e, h2.ext e⟩
  · obtain ⟨a, b, rfl, ⟨q, h1, h2⟩, k⟩ := z
    exact ⟨a, b, q, q, rfl, h1, h2, by rw [decide_eq_true rfl]; exact k H Ext.rfl'⟩
theorem rc_meters {X : Cx} {C : Addr} (h : OwnEq X.prog X.w X.K X.mg X.base C 1 (sp_Meq C)) : RcG X 2 (DTup X.K (DIns C (SmM C))) := by
  obtain ⟨f, fd, ps, a, b, c, F⟩ := h.fn
  refine rcG_tup (mon_ins fun a b H H' e z => ?_) (eqG_ins (CX := CX0) (E := E0) (F.imp fun vs H Q E z => ?_) a b c pass0)
  · obtain ⟨q, h1, h2⟩ := z
    exact ⟨q, h1.ext e, h2.ext e⟩
  · obtain ⟨a, b, rfl, ⟨q, h1, h2⟩, k⟩ := z
    exact ⟨a, b, q, q, rfl, h1, h2, by rw [decide_eq_true rfl]; exact k H Ext.rfl'⟩
/-- two nets with the same pipes: their meters the same, or one of them has none -/
def sp_Neq (K : PySem.W.Frag) (CN CP CM : Addr) : Sp := fun vs H Q _ => ∃ (a b : Addr) (ps : List P3) (ms ms' : List M3), vs = [.ref a, .ref b] ∧ NetR K CN CP CM H a ps ms ∧ NetR K CN CP CM H b ps ms' ∧ (ms = ms' ∨ ms = [] ∨ ms' = []) ∧ ∀ H', Same H H' → Q (.bl (decide (ms = ms'))) H'
theorem dtup_of {α : Type} {K : PySem.W.Frag} {C a b : Addr} {H : Hp} {R : Addr → Addr → Hp → Prop} {us vs : List (Addr × α)} (ha : SqT K H a (rf us)) (hb : SqT K H b (rf vs)) (e : sn us = sn vs)
    (hi : ∀ (i : Nat) (u v : Addr × α), us[i]? = some u → vs[i]? = some v → u.2 = v.2 → DIns C R (.ref u.1) (.ref v.1) H) : DTup K (DIns C R) (.ref a) (.ref b) H := by
  refine ⟨a, b, _, _, rfl, rfl, ha, hb, ?_, fun i x y hx hy => ?_⟩
  · rw [rf_len, rf_len, ← sn_len, e, sn_len]
  · rw [rf, List.getElem?_map] at hx hy
    cases hu : us[i]? with
    | none => rw [hu] at hx; cases hx
    | some u =>
      cases hv : vs[i]? with
      | none => rw [hv] at hy; cases hy
      | some v =>
        rw [hu] at hx
        rw [hv] at hy
        obtain rfl : V.ref u.1 = x := Option.some.inj hx
        obtain rfl : V.ref v.1 = y := Option.some.inj hy
        refine hi i u v hu hv ?_
        have h1 : (sn us)[i]? = some u.2 := by rw [sn, List.getElem?_map, hu]; rfl
        have h2 : (sn vs)[i]? = some v.2 := by rw [sn, List.getElem?_map, hv]; rfl
        rw [e, h2] at h1
        exact (Option.some.inj h1).symm
end RV
/-! a net's text, cut into rows -/
namespace RV
open PySem L2 PyProof.Rows TL
theorem pline_len {q : P3} (h1 : IsNm q.1) (h2 : IsNm q.2.1) (h3 : IsNm q.2.2) : (pline q).length ≤ 40 := by
  have l1 := nm8 h1
  have l2 := nm8 h2
  have l3 := nm8 h3
  have e1 : Str.length " " = 1 := by decide +kernel
  have e2 : Str.length Str.empty = 0 := by decide +kernel
  have e3 : Str.length "pipe " = 5 := by decide +kernel
  unfold pline
  rw [sl_app, sl_app, sl_app, sl_app, sl_app, sl_app, e1, e2, e3]
  omega
theorem mline_len {q : M3} (h1 : IsNm q.1) (h2 : IsNm q.2.1) : (mline q).length ≤ 40 := by
  have l1 := nm8 h1
  have l2 := nm8 h2
  have e1 : Str.length " " = 1 := by decide +kernel
  have e2 : Str.length Str.empty = 0 := by decide +kernel
  have e3 : Str.length "meter " = 6 := by decide +kernel
  have e4 : (mseal q.2.2).length ≤ 7 := by
    cases q.2.2
    · show Str.length "" ≤ 7
      decide +kernel
    · show Str.length " sealed" ≤ 7
      decide +kernel
  unfold mline
  rw [sl_app, sl_app, sl_app, sl_app, sl_app, e1, e2, e3]
  omega
theorem netL_sum {ps : List P3} {ms : List M3} (hp : PNm ps) (hm : MNm ms) : ((netL ps ms).map (·.length)).sum ≤ 40 * (ps.length + ms.length) := by
  have h : ∀ xs : List Str, (∀ x ∈ xs, x.length ≤ 40) → (xs.map (·.length)).sum ≤ 40 * xs.length := by
    intro xs
    induction xs with
    | nil => intro _; exact Nat.le_refl _
    | cons x xs ih =>
      intro h
      have a := h x List.mem_cons_self
      have b := ih fun y hy => h y (List.mem_cons_of_mem _ hy)
      simp only [List.map_cons, List.sum_cons, List.length_cons]
      omega
  have := h (netL ps ms) fun x hx => by
    rcases List.mem_append.mp hx with hx | hx
    · obtain ⟨q, hq, rfl⟩ := List.mem_map.mp hx
      exact pline_len (hp q hq).1 (hp q hq).2.1 (hp q hq).2.2
    · obtain ⟨q, hq, rfl⟩ := List.mem_map.mp hx
      exact mline_len (hm q hq).1 (hm q hq).2
  rw [netL, List.length_append, List.length_map, List.length_map] at this
  exact this
def prow (q : P3) : List Str := ["pipe", q.1, q.2.1, q.2.2]
def mrow (q : M3) : List Str := if q.2.2 then ["meter", q.1, q.2.1, "sealed"] else ["meter", q.1, q.2.1]
def rowsL (ps : List P3) (ms : List M3) : List (List Str) := ps.map prow ++ ms.map mrow
theorem nm_no {x : Str} (h : IsNm x) {c : Nat} (hc : tailC c = false) : c ∉ cd x := fun z => by
  have := List.all_eq_true.mp (isNm_all h) c z
  rw [hc] at this
  cases this
theorem cd_pipe : cd "pipe" = [112, 105, 112, 101] := by decide +kernel
theorem cd_pipe1 : cd "pipe " = [112, 105, 112, 101, 32] := by decide +kernel
theorem cd_meter : cd "meter" = [109, 101, 116, 101, 114] := by decide +kernel
theorem cd_meter1 : cd "meter " = [109, 101, 116, 101, 114, 32] := by decide +kernel
theorem cd_sealed : cd "sealed" = [115, 101, 97, 108, 101, 100] := by decide +kernel
theorem cd_sealed1 : cd " sealed" = [32, 115, 101, 97, 108, 101, 100] := by decide +kernel
theorem cd_nl : cd "\n" = [10] := by decide +kernel
theorem pline_cd (q : P3) : cd (pline q) = [112, 105, 112, 101, 32] ++ (cd q.1 ++ (32 :: (cd q.2.1 ++ (32 :: cd q.2.2)))) := by
  unfold pline
  repeat rw [cd_app]
  rw [cd_em, cd_pipe1, cd_sp]
  simp
theorem mline_cd (q : M3) : cd (mline q) = [109, 101, 116, 101, 114, 32] ++ (cd q.1 ++ (32 :: (cd q.2.1 ++ (if q.2.2 then [32, 115, 101, 97, 108, 101, 100] else [])))) := by
  unfold mline
  repeat rw [cd_app]
  rw [cd_em, cd_meter1, cd_sp]
  cases q.2.2
  · rw [show mseal false = "" from rfl, cd_no]
    simp
  · rw [show mseal true = " sealed" from rfl, cd_sealed1]
    simp
theorem pline_join (q : P3) : pline q = Txt.join " " (prow q) := cd_inj (by
  rw [pline_cd, join_eq, prow]
  show _ = tl _
  rw [tl_join]
  show _ = joinL (cd " ") [cd "pipe", cd q.1, cd q.2.1, cd q.2.2]
  rw [cd_sp, cd_pipe]
  simp [joinL])
theorem mline_join (q : M3) : mline q = Txt.join " " (mrow q) := cd_inj (by
  rw [mline_cd, join_eq, mrow]
  show _ = tl _
  rw [tl_join]
  cases q.2.2
  · show _ = joinL (cd " ") [cd "meter", cd q.1, cd q.2.1]
    rw [cd_sp, cd_meter]
    simp [joinL]
  · show _ = joinL (cd " ") [cd "meter", cd q.1, cd q.2.1, cd "sealed"]
    rw [cd_sp, cd_meter, cd_sealed]
    simp [joinL])
theorem split_pline {q : P3} (h1 : IsNm q.1) (h2 : IsNm q.2.1) (h3 : IsNm q.2.2) : Txt.split (pline q) " " = prow q := by
  rw [pline_join]
  refine split_join (s := 32) (S := []) cd_sp (by decide +kernel) (by simp [prow]) fun p hp => ?_
  simp only [prow, List.mem_cons, List.not_mem_nil, or_false] at hp
  rcases hp with rfl | rfl | rfl | rfl
  · decide +kernel
  · exact nm_no h1 (by decide)
  · exact nm_no h2 (by decide)
  · exact nm_no h3 (by decide)
theorem split_mline {q : M3} (h1 : IsNm q.1) (h2 : IsNm q.2.1) : Txt.split (mline q) " " = mrow q := by
  rw [mline_join]
  refine split_join (s := 32) (S := []) cd_sp (by decide +kernel) (by unfold mrow; split <;> simp) fun p hp => ?_
  unfold mrow at hp
  split at hp
  · simp only [List.mem_cons, List.not_mem_nil, or_false] at hp
    rcases hp with rfl | rfl | rfl | rfl
    · decide +kernel
    · exact nm_no h1 (by decide)
    · exact nm_no h2 (by decide)
    · decide +kernel
  · simp only [List.mem_cons, List.not_mem_nil, or_false] at hp
    rcases hp with rfl | rfl | rfl
    · decide +kernel
    · exact nm_no h1 (by decide)
    · exact nm_no h2 (by decide)
theorem split_netT {ps : List P3} {ms : List M3} (h0 : ps ≠ []) (hp : PNm ps) (hm : MNm ms) : Txt.split (netT ps ms) "\n" = netL ps ms := by
  refine split_join (s := 10) (S := []) cd_nl (by decide +kernel) (fun e => h0 (List.map_eq_nil_iff.mp (List.append_eq_nil_iff.mp e).1)) fun p hpp => ?_
  have n10 : ∀ {x : Str}, IsNm x → 10 ∉ cd x := fun h => nm_no h (by decide)
  rcases List.mem_append.mp hpp with h | h
  · obtain ⟨q, hq, rfl⟩ := List.mem_map.mp h
    show 10 ∉ cd (pline q)
    rw [pline_cd]
    have := n10 (hp q hq).1
    have := n10 (hp q hq).2.1
    have := n10 (hp q hq).2.2
    simp [*]
  · obtain ⟨q, hq, rfl⟩ := List.mem_map.mp h
    show 10 ∉ cd (mline q)
    rw [mline_cd]
    have := n10 (hm q hq).1
    have := n10 (hm q hq).2
    cases q.2.2 <;> simp [*]
theorem netT_len {ps : List P3} {ms : List M3} (hp : PNm ps) (hm : MNm ms) (pl : ps.length ≤ 20) (ml : ms.length ≤ 20) : (netT ps ms).length ≤ 5000 := by
  have h1 := netL_sum hp hm
  have e : ∀ xs : List Str, (Txt.join "\n" xs).length ≤ (xs.map (·.length)).sum + xs.length := by
    intro xs
    rw [join_eq, len_tl, tl_join, show tl "\n" = [10] from cd_nl]
    induction xs with
    | nil => simp [joinL]
    | cons x xs ih =>
      cases xs with
      | nil => simp [joinL, len_tl]
      | cons y ys =>
        show (tl x ++ ([10] ++ joinL [10] ((y :: ys).map tl))).length ≤ _
        rw [List.length_append, List.length_append]
        simp only [List.map_cons, List.sum_cons, List.length_cons, List.length_nil] at ih ⊢
        rw [← len_tl]
        omega
  have h2 : (netL ps ms).length = ps.length + ms.length := by rw [netL, List.length_append, List.length_map, List.length_map]
  have := e (netL ps ms)
  unfold netT
  omega
/-- lists of words, each at its address -/
abbrev RU := Addr × List Str
structure Rws (H : Hp) (l : Addr) (us : List RU) : Prop where
  l : H l = some (.lst (rf us))
  o : ∀ u ∈ us, H u.1 = some (.lst (u.2.map V.str))
structure TOk (ps : List P3) (ms : List M3) : Prop where
  n0 : ps ≠ []
  pn : PNm ps
  mn : MNm ms
  pl : ps.length ≤ 20
  ml : ms.length ≤ 20
def sp_rows : Sp := fun vs H Q _ => ∃ (ps : List P3) (ms : List M3), vs = [.str (netT ps ms)] ∧ TOk ps ms ∧ ∀ (l : Addr) (us : List RU) H', Same H H' → Rws H' l us → sn us = rowsL ps ms → Q (.ref l) H'
def sp_pin (K : PySem.W.Frag) (CP : Addr) : Sp := fun vs H Q _ => ∃ (ps : List P3) (ms : List M3), vs = [.str (netT ps ms)] ∧ TOk ps ms ∧ POk ps ∧ ∀ (t : Addr) (us : List PU) H', Same H H' → Tps K CP H' t us → sn us = ps → Q (.ref t) H'
def sp_min (K : PySem.W.Frag) (CM : Addr) : Sp := fun vs H Q _ => ∃ (ps : List P3) (ms : List M3), vs = [.str (netT ps ms)] ∧ TOk ps ms ∧ ∀ (t : Addr) (us : List MU) H', Same H H' → Tms K CM H' t us → sn us = ms → Q (.ref t) H'
def sp_nread (K : PySem.W.Frag) (CN CP CM : Addr) : Sp := fun vs H Q _ => ∃ (ps : List P3) (ms : List M3), vs = [.ref CN, .str (netT ps ms)] ∧ POk ps ∧ MOk ps ms ∧ ∀ (x : Addr) H', Same H H' → NetR K CN CP CM H' x ps ms → Q (.ref x) H'
theorem POk.pn {ps : List P3} (h : POk ps) : PNm ps := fun p hp => ⟨(h.nm p hp).1, (h.nm p hp).2.1, (h.nm p hp).2.2.1⟩
theorem MOk.mn {ps : List P3} {ms : List M3} (h : MOk ps ms) : MNm ms := h.nm
theorem TOk.of {ps : List P3} {ms : List M3} (h : POk ps) (k : MOk ps ms) : TOk ps ms := ⟨h.n0, h.pn, k.mn, Nat.le_trans h.ln (by decide), Nat.le_trans k.ln (by decide)⟩
/-- the rows of the pipes, of the meters -/
def isP (r : List Str) : Bool := decide (r[0]? = some ("pipe" : Str))
def isM (r : List Str) : Bool := decide (r[0]? = some ("meter" : Str))
theorem p_ne_m : ¬ (("pipe" : Str) = "meter") := by decide +kernel
theorem isP_p (q : P3) : isP (prow q) = true := decide_eq_true rfl
theorem isM_p (q : P3) : isM (prow q) = false := decide_eq_false fun h => p_ne_m (Option.some.inj h)
theorem isP_m (q : M3) : isP (mrow q) = false := by
  unfold isP mrow
  split
  · exact decide_eq_false fun h => p_ne_m (Option.some.inj h).symm
  · exact decide_eq_false fun h => p_ne_m (Option.some.inj h).symm
theorem isM_m (q : M3) : isM (mrow q) = true := by
  unfold isM mrow
  split
  · exact decide_eq_true rfl
  · exact decide_eq_true rfl
theorem rows_p (ps : List P3) (ms : List M3) : (rowsL ps ms).filter isP = ps.map prow := by
  rw [rowsL, List.filter_append, List.filter_eq_self.mpr, List.filter_eq_nil_iff.mpr, List.append_nil]
  · intro r hr
    obtain ⟨q, _, rfl⟩ := List.mem_map.mp hr
    rw [isP_m]
    decide
  · intro r hr
    obtain ⟨q, _, rfl⟩ := List.mem_map.mp hr
    exact isP_p q
theorem rows_m (ps : List P3) (ms : List M3) : (rowsL ps ms).filter isM = ms.map mrow := by
  rw [rowsL, List.filter_append, List.filter_eq_nil_iff.mpr, List.filter_eq_self.mpr, List.nil_append]
  · intro r hr
    obtain ⟨q, _, rfl⟩ := List.mem_map.mp hr
    exact isM_m q
  · intro r hr
    obtain ⟨q, _, rfl⟩ := List.mem_map.mp hr
    rw [isM_p]
    decide
theorem sn_filter {α : Type} (f : α → Bool) (us : List (Addr × α)) : sn (us.filter fun u => f u.2) = (sn us).filter f := by
  rw [sn, sn, List.filter_map]
  rfl
theorem sn_get {α : Type} {us : List (Addr × α)} {i : Nat} {u : Addr × α} (h : us[i]? = some u) : (sn us)[i]? = some u.2 := by rw [sn, List.getElem?_map, h]; rfl
theorem rf_get {α : Type} {us : List (Addr × α)} {i : Nat} {x : V} (h : (rf us)[i]? = some x) : ∃ u, us[i]? = some u ∧ x = .ref u.1 := by
  rw [rf, List.getElem?_map] at h
  cases e : us[i]? with
  | none => rw [e] at h; cases h
  | some u => rw [e] at h; exact ⟨u, rfl, (Option.some.inj h).symm⟩
def gM2 (vs zs : List V) : List V := match vs, zs with
  | [x, n, a], [z] => [x, n, a, z]
  | _, _ => []
end RV
/-! nets as a law lays them: rows of pipes, rows of meters -/
namespace RV
open PySem L2 PyProof.Rows TL
section
variable {X : Cx} {K : PySem.W.Frag} {o e : Expr} {to te : TE}
theorem pt_truthK (ha : PE X e te) (he : ∀ whole, isTrue e X.env whole = (do let v ← whole; standAt e.pos; holding [v] (truthy v))) (h : X.K = K := by rfl) :
    PT X e (fun σ H Q => te σ H fun x H' => ∃ k, TruV K x H' k ∧ Q k H') := h ▸ pt_truth ha he
end
def oY (q : P3) : HO := .tup [.str q.1, .str q.2.1, .str q.2.2]
def oZ (q : M3) : HO := .tup [.str q.1, .str q.2.1, .bl q.2.2]
structure Lay (H : Hp) (l : Addr) (us : List PU) : Prop where
  l : H l = some (.lst (rf us))
  o : ∀ u ∈ us, H u.1 = some (oY u.2)
structure Fts (H : Hp) (l : Addr) (us : List MU) : Prop where
  l : H l = some (.lst (rf us))
  o : ∀ u ∈ us, H u.1 = some (oZ u.2)
def lY (us : List PU) : List (Addr × HO) := us.map fun u => (u.1, oY u.2)
def lZ (us : List MU) : List (Addr × HO) := us.map fun u => (u.1, oZ u.2)
/-- rows of pipes -/
structure LOk (ps : List P3) : Prop where
  nm : ∀ p ∈ ps, IsNm p.1 ∧ IsNm p.2.1 ∧ IsNm p.2.2 ∧ p.2.2 ≠ p.2.1
  nd : (ps.map (·.1)).Nodup
/-- laid(well, lo, hi) -/
def sp_laid : Sp := fun vs H Q _ => ∃ (a : Addr) (n lo hi : Nat), vs = [.ref a, .int lo, .int hi] ∧ WellAt H a n ∧ n < 600000 ∧ lo ≤ hi ∧ hi ≤ 12 ∧
  ∀ (l : Addr) (us : List PU) H', H l = none → l ≠ a → Grow a H H' → WellAt H' a (n + 1000) → Lay H' l us → LOk (sn us) → lo ≤ us.length → us.length ≤ hi → Q (.ref l) H'
/-- fits(well, laid, most) -/
def sp_fits : Sp := fun vs H Q _ => ∃ (a t : Addr) (n hi : Nat) (us : List PU), vs = [.ref a, .ref t, .int hi] ∧ WellAt H a n ∧ n < 600000 ∧ t ≠ a ∧ Lay H t us ∧ LOk (sn us) ∧ 1 ≤ us.length ∧ us.length ≤ 12 ∧ hi ≤ 12 ∧
  ∀ (l : Addr) (ms : List MU) H', H l = none → l ≠ a → Grow a H H' → WellAt H' a (n + 1000) → Fts H' l ms → MOk (sn us) (sn ms) → ms.length ≤ hi → Q (.ref l) H'
/-- net(laid, fits) -/
def sp_lnet (K : PySem.W.Frag) (CN CP CM : Addr) : Sp := fun vs H Q _ => ∃ (l m : Addr) (us : List PU) (ms : List MU), vs = [.ref l, .ref m] ∧ Lay H l us ∧ Fts H m ms ∧ POk (sn us) ∧ MOk (sn us) (sn ms) ∧
  ∀ (x : Addr) H', Same H H' → NetR K CN CP CM H' x (sn us) (sn ms) → Q (.ref x) H'
/-- net_text(laid, fits) -/
def sp_ltext : Sp := fun vs H Q _ => ∃ (l m : Addr) (us : List PU) (ms : List MU), vs = [.ref l, .ref m] ∧ Lay H l us ∧ Fts H m ms ∧ TOk (sn us) (sn ms) ∧ ∀ H', Same H H' → Q (.str (netT (sn us) (sn ms))) H'
/-- is(net, laid, fits): it is the one -/
def sp_isN (K : PySem.W.Frag) (CN CP CM : Addr) : Sp := fun vs H Q _ => ∃ (x l m : Addr) (us : List PU) (ms : List MU), vs = [.ref x, .ref l, .ref m] ∧ NetR K CN CP CM H x (sn us) (sn ms) ∧ Lay H l us ∧ Fts H m ms ∧ POk (sn us) ∧ MOk (sn us) (sn ms) ∧
  ∀ H', Same H H' → Q (.bl true) H'
theorem mline_app (q : M3) : ("meter " : Str) ++ q.1 ++ " " ++ q.2.1 ++ mseal q.2.2 = mline q := cd_inj (by
  unfold mline
  repeat rw [cd_app]
  rw [cd_em, List.nil_append])
theorem nodup_snoc {α : Type} {xs : List α} {x : α} (h : xs.Nodup) (hx : x ∉ xs) : (xs ++ [x]).Nodup := by
  rw [List.nodup_append]
  exact ⟨h, by simp, fun a ha b hb e => hx (by rw [List.mem_singleton.mp hb] at e; rw [← e]; exact ha)⟩
theorem nodup_get {α : Type} {xs : List α} (h : xs.Nodup) {i j : Nat} {hi : i < xs.length} {hj : j < xs.length} (e : xs[i] = xs[j]) : i = j := by
  have p := List.pairwise_iff_getElem.mp h
  rcases Nat.lt_trichotomy i j with z | z | z
  · exact absurd e (p i j hi hj z)
  · exact z
  · exact absurd e.symm (p j i hj hi z)
end RV
/-! nested data that can be shown -/
namespace RV
open PySem L2 PyProof.Rows TL
structure Shw (d : PyData) (n k : Nat) : Prop where
  ok : d.showable = true
  dp : d.depth ≤ n
  ln : d.shown.length ≤ k
theorem Short.shw {d : PyData} (h : Short d) : Shw d 0 100 := ⟨h.sh, Nat.le_of_eq h.dp, h.ln⟩
theorem shw_all {n k : Nat} : ∀ {ds : List PyData}, (∀ d ∈ ds, Shw d n k) → PyData.showableAll ds = true ∧ PyData.depthAll ds ≤ n ∧ ((PyData.shownAll ds).map (·.length)).sum ≤ k * ds.length ∧ (PyData.shownAll ds).length = ds.length
  | [], _ => by simp [PyData.showableAll, PyData.depthAll, PyData.shownAll]
  | d :: ds, h => by
    obtain ⟨a1, a2, a3⟩ := h d List.mem_cons_self
    obtain ⟨b1, b2, b3, b4⟩ := shw_all fun e he => h e (List.mem_cons_of_mem _ he)
    refine ⟨by simp [PyData.showableAll, a1, b1], ?_, ?_, by simp [PyData.shownAll, b4]⟩
    · simp only [PyData.depthAll]
      omega
    · simp only [PyData.shownAll, List.map_cons, List.sum_cons, List.length_cons]
      rw [Nat.mul_succ]
      omega
theorem shw_list {n k : Nat} {ds : List PyData} (h : ∀ d ∈ ds, Shw d n k) : Shw (.list ds) (n + 1) ((k + 2) * ds.length + 3) := by
  obtain ⟨a1, a2, a3, a4⟩ := shw_all h
  refine ⟨by simp only [PyData.showable, a1], by simp only [PyData.depth]; omega, ?_⟩
  have e : (PyData.list ds).shown = listText (PyData.shownAll ds) := by simp only [PyData.shown]
  rw [e]
  have := listText_len_le (PyData.shownAll ds)
  rw [Nat.add_mul]
  omega
theorem Shw.mono {d : PyData} {n k m j : Nat} (h : Shw d n k) (a : n ≤ m) (b : k ≤ j) : Shw d m j := ⟨h.ok, Nat.le_trans h.dp a, Nat.le_trans h.ln b⟩
theorem rRepr_of {K : PySem.W.Frag} {a : Addr} {d : PyData} {H : Hp} {Q : VK} {k : Nat} (hd : Dp K H (.ref a) d) (h : Shw d 60 k) (hk : k ≤ 1000000) (q : Q (.str d.shown) H) : rRepr K [.ref a] H Q := by
  unfold rRepr
  exact ⟨a, d, rfl, hd, h.ok, h.dp, Nat.le_trans h.ln (Nat.le_trans hk (by decide)), q⟩
/-! ### rows of pipes and meters as data -/
def dY (q : P3) : PyData := .tuple [.str q.1, .str q.2.1, .str q.2.2]
def dZ (q : M3) : PyData := .tuple [.str q.1, .str q.2.1, .bool q.2.2]
def dN (ps : List P3) (ms : List M3) : PyData := .list [.list (ps.map dY), .list (ms.map dZ)]
end RV
/-! a net's text is plain; nets compared -/
namespace RV
open PySem L2 PyProof.Rows TL
/-- the law's row -/
def sp_rightN : Sp := fun vs H Q _ => ∃ (a : Addr) (n : Nat), vs = [.ref a] ∧ WellAt H a n ∧ n < 500000 ∧ ∀ H', Grow a H H' → WellAt H' a (n + 3000) → Q (.bl true) H'
end RV
/-! names of the laws over scripts -/
namespace RV
open PySem L2 PyProof.Rows TL
section
variable {D : Addr} {xs : List V} {i : Nat} {te : TE} {tt : TT} {vs : List Nat} {σ : L2.St} {H1 : Hp} {Qd : Hp → Prop} {J : It} {GG : Hp → Prop}
/-- [x for x in xs if p(x)]: the test makes no thing -/
theorem lc_keepV (p : V → Bool) (wk : Walk J xs.length GG (YAt xs)) (nD : H1 D = none) (len : xs.length ≤ 1000) (hG : ∀ H', Same H1 H' → GG H') (hw : ∀ x, wipe ((wipe σ vs).set i x) vs = wipe σ vs)
    (ht : ∀ x ∈ xs, ∀ H2, Same H1 H2 → ∀ R : Bool → Hp → Prop, R (p x) H2 → tt ((wipe σ vs).set i (some x)) H2 R)
    (he : ∀ x ∈ xs, ∀ H2, ∀ R : VK, R x H2 → te ((wipe σ vs).set i (some x)) H2 R)
    (k : ∀ H', Same H1 H' → H' D = some (.lst (xs.filter p)) → Qd H') :
    ∃ W : Nat → Nat → Hp → Prop, (∃ m, W 0 m (upd H1 D (.lst []))) ∧ ∀ i' m H, W i' m H →
      (J.stop i' H ∧ Qd H) ∨ (J.go i' H ∧ ∃ Nx : Hp → Prop, (∀ H', Nx H' → ∃ m', m' < m ∧ W (i' + 1) m' H') ∧ ∀ x H', J.yld i' H x H' → gName i x (wipe σ vs) H' fun σ2 H2 => wipe σ2 vs = wipe σ vs ∧ tt σ2 H2 fun b H3 =>
        if b = true then te σ2 H3 fun y H4 => ∃ acc, H4 D = some (.lst acc) ∧ acc.length < sizeLine ∧ Nx (upd H4 D (.lst (acc ++ [y]))) else Nx H3) := by
  refine L2.lc_it wk (fun i' H' => Same H1 H' ∧ H' D = some (.lst ((xs.take i').filter p)))
    ⟨fun b o e => (upd_ne (ne_of_none e nD)).trans e, upd_same⟩ (fun i' H' _ z => hG _ z.1) (fun i' x Ha Hb hi hv y => ?_) (fun H' hv => ?_)
  · obtain ⟨s, eD⟩ := hv
    obtain ⟨rfl, hx⟩ := y
    have hm := List.mem_of_getElem? hx
    have et : xs.take (i' + 1) = xs.take i' ++ [x] := by rw [List.take_add_one, hx]; rfl
    refine ⟨hw _, ht x hm Hb s _ ?_⟩
    cases hp : p x with
    | false =>
      refine iteF ⟨s, ?_⟩
      rw [eD, et, List.filter_append, List.filter_cons_of_neg (by rw [hp]; decide), List.filter_nil, List.append_nil]
    | true =>
      refine iteT (he x hm Hb _ ⟨_, eD, ?_, fun b o e => ?_, ?_⟩)
      · have l1 := List.length_filter_le p (xs.take i')
        have l3 := List.length_take_le' i' xs
        exact Nat.lt_of_le_of_lt (Nat.le_trans l1 (Nat.le_trans l3 len)) (by decide)
      · rw [upd_ne (ne_of_none e nD)]
        exact s _ _ e
      · rw [upd_same, et, List.filter_append, List.filter_cons_of_pos hp, List.filter_nil]
  · obtain ⟨s, eD⟩ := hv
    rw [List.take_length] at eD
    exact k H' s eD
end
/-- the spare names -/
def zn (j : Nat) : Str := ("z" : Str) ++ num (j : Int)
theorem zn_nm {j : Nat} (h : j < 16) : IsNm (zn j) := by
  have : ∀ i : Fin 16, isNm (cd (zn i.val)) = true := by decide +kernel
  exact this ⟨j, h⟩
theorem zn_inj {i j : Nat} (hi : i < 16) (hj : j < 16) (e : zn i = zn j) : i = j := by
  have : ∀ i j : Fin 16, zn i.val = zn j.val → i.val = j.val := by decide +kernel
  exact this ⟨i, hi⟩ ⟨j, hj⟩ e
theorem zn_free {xs : List Str} {m : Nat} (hm : m ≤ 16) (h : xs.length < m) : ∃ j, j < m ∧ zn j ∉ xs := by
  by_cases e : ∃ j, j < m ∧ zn j ∉ xs
  · exact e
  · have all : ∀ j, j < m → zn j ∈ xs := fun j hj => by
      by_cases z : zn j ∈ xs
      · exact z
      · exact absurd ⟨j, hj, z⟩ e
    have nd : ((List.range m).map zn).Nodup := by
      rw [List.Nodup, List.pairwise_map]
      refine List.Pairwise.imp_of_mem ?_ List.nodup_range
      intro a b ha hb hne h
      exact hne (zn_inj (by have := List.mem_range.mp ha; omega) (by have := List.mem_range.mp hb; omega) h)
    have := nodup_len nd fun x hx => by
      obtain ⟨j, hj, rfl⟩ := List.mem_map.mp hx
      exact all j (List.mem_range.mp hj)
    rw [List.length_map, List.length_range] at this
    omega
/-- a letter and further signs -/
theorem isNm_join {c : Nat} {cs : List Nat} (h : lowC c = true) (hc : ∀ x ∈ cs, tailC x = true) (hl : cs.length ≤ 7) : IsNm ((⟨#[c]⟩ : Str) ++ Txt.join "" (cs.map fun x => (⟨#[x]⟩ : Str))) := by
  refine isNm_iff.mpr ⟨c, cs, ?_, h, List.all_eq_true.mpr hc, hl⟩
  show cd _ = c :: cs
  rw [cd_app, cd_one, join_eq]
  show [c] ++ tl _ = _
  rw [tl_join, show tl "" = [] from cd_no, joinL_nil, List.map_map]
  have : ∀ cs : List Nat, (cs.map (tl ∘ fun x => (⟨#[x]⟩ : Str))).flatten = cs := by
    intro cs
    induction cs with
    | nil => rfl
    | cons x cs ih => rw [List.map_cons, List.flatten_cons, ih]; rfl
  rw [this]
  rfl
def words2 : List Str := ["pipe", "meter", "sealed", "go", "if", "vote", "tell", "doubt", "a", "b"]
theorem words2_nm : ∀ x ∈ words2, IsNm x := by
  have : ∀ x ∈ words2, isNm (cd x) = true := by decide +kernel
  exact this
/-- names(well, m) -/
def sp_names : Sp := fun vs H Q _ => ∃ (a : Addr) (n m : Nat), vs = [.ref a, .int m] ∧ WellAt H a n ∧ n < 600000 ∧ m ≤ 12 ∧
  ∀ (l : Addr) (xs : List Str) H', H l = none → l ≠ a → Grow a H H' → WellAt H' a (n + 200) → H' l = some (.lst (xs.map V.str)) → xs.length = m → xs.Nodup → (∀ x ∈ xs, IsNm x) → Q (.ref l) H'
end RV
/-! models of nets, as the laws over scripts draw them -/
namespace RV
open PySem L2 PyProof.Rows TL
abbrev Q3 := Str × Nat × Nat
abbrev G3 := Str × Nat × Bool
def oQ (q : Q3) : HO := .tup [.str q.1, .int (q.2.1 : Int), .int (q.2.2 : Int)]
def oG (q : G3) : HO := .tup [.str q.1, .int (q.2.1 : Int), .bl q.2.2]
/-- places, pipes between them by index, gauges at pipes by index -/
structure Mod where
  pl : List Str
  qs : List Q3
  gs : List G3
structure MdOk (M : Mod) (most more : Nat) : Prop where
  p2 : 2 ≤ M.pl.length
  p4 : M.pl.length ≤ 4
  pn : ∀ x ∈ M.pl, IsNm x
  pd : M.pl.Nodup
  q2 : 2 ≤ M.qs.length
  qm : M.qs.length ≤ most
  qn : ∀ q ∈ M.qs, IsNm q.1 ∧ q.2.1 < M.pl.length ∧ q.2.2 < M.pl.length ∧ q.2.1 ≠ q.2.2
  qd : (M.qs.map (·.1)).Nodup
  gm : M.gs.length ≤ more
  gn : ∀ g ∈ M.gs, IsNm g.1 ∧ g.2.1 < M.qs.length
  gd : (M.gs.map (·.1)).Nodup
abbrev QU := Addr × Q3
abbrev GU := Addr × G3
/-- what a model is in the heap -/
def lM (l lp lq lg : Addr) (pl : List Str) (pu : List QU) (gu : List GU) : List (Addr × HO) :=
  (l, .lst [.ref lp, .ref lq, .ref lg]) :: (lp, .lst (pl.map V.str)) :: (lq, .lst (rf pu)) :: (lg, .lst (rf gu)) :: (pu.map (fun u => (u.1, oQ u.2)) ++ gu.map fun u => (u.1, oG u.2))
def sp_model : Sp := fun vs H Q _ => ∃ (a : Addr) (n most more : Nat), vs = [.ref a, .int most, .int more] ∧ WellAt H a n ∧ n < 500000 ∧ 2 ≤ most ∧ most ≤ 12 ∧ more ≤ 12 ∧
  ∀ (l lp lq lg : Addr) (pl : List Str) (pu : List QU) (gu : List GU) H', Has H a (n + 2000) (lM l lp lq lg pl pu gu) H' → MdOk ⟨pl, sn pu, sn gu⟩ most more → Q (.ref l) H'
/-- the model at l -/
structure MdAt (H : Hp) (l : Addr) (M : Mod) : Prop where
  ex : ∃ (lp lq lg : Addr) (pu : List QU) (gu : List GU), sn pu = M.qs ∧ sn gu = M.gs ∧ ∀ p ∈ lM l lp lq lg M.pl pu gu, H p.1 = some p.2
def Mod.ps (M : Mod) : List P3 := M.qs.map fun q => (q.1, M.pl.getD q.2.1 "", M.pl.getD q.2.2 "")
def Mod.ms (M : Mod) : List M3 := M.gs.map fun g => (g.1, (M.qs.getD g.2.1 ("", 0, 0)).1, g.2.2)
theorem getD_lt {α : Type} {xs : List α} {i : Nat} {d : α} (h : i < xs.length) : xs.getD i d = xs[i] := by simp [List.getD, h]
section
variable {M : Mod} {most more : Nat}
end
def sp_mtext : Sp := fun vs H Q _ => ∃ (l : Addr) (M : Mod) (most more : Nat), vs = [.ref l] ∧ MdAt H l M ∧ MdOk M most more ∧ most ≤ 12 ∧ more ≤ 12 ∧ ∀ H', Same H H' → Q (.str (netT M.ps M.ms)) H'
theorem pline_app2 (n s e : Str) : ("pipe " : Str) ++ n ++ " " ++ s ++ " " ++ e = pline (n, s, e) := cd_inj (by
  rw [pline_cd]
  repeat rw [cd_app]
  rw [cd_pipe1, cd_sp]
  simp)
end RV
/-! ways through a net: walks, flows of -1, 0 and 1, and the least count of meters on a ring -/
namespace RV
/-! ### sums over the first n indexes -/
def sm : Nat → (Nat → Int) → Int
  | 0, _ => 0
  | n + 1, g => sm n g + g n
theorem sm_add (n : Nat) (f g : Nat → Int) : sm n (fun k => f k + g k) = sm n f + sm n g := by
  induction n with
  | zero => rfl
  | succ n ih => simp only [sm, ih]; omega
theorem sm_congr {n : Nat} {f g : Nat → Int} (h : ∀ k, k < n → f k = g k) : sm n f = sm n g := by
  induction n with
  | zero => rfl
  | succ n ih => simp only [sm, ih (fun k hk => h k (by omega)), h n (by omega)]
theorem sm_zero (n : Nat) : sm n (fun _ => 0) = 0 := by
  induction n with
  | zero => rfl
  | succ n ih => simp only [sm, ih]; rfl
theorem sm_one {n i : Nat} (h : i < n) (c : Int) : sm n (fun k => if k = i then c else 0) = c := by
  induction n with
  | zero => omega
  | succ n ih =>
    rw [sm]
    by_cases e : i = n
    · subst e
      rw [sm_congr (g := fun _ => 0) (fun k hk => if_neg (by omega)), sm_zero, if_pos rfl]
      omega
    · rw [ih (by omega), if_neg (fun z => e z.symm)]
      omega
theorem sm_only {n i : Nat} {f : Nat → Int} (h : i < n) (hz : ∀ k, k < n → k ≠ i → f k = 0) : sm n f = f i := by
  rw [sm_congr (g := fun k => if k = i then f i else 0) (fun k hk => ?_), sm_one h]
  split
  · rename_i e
    rw [e]
  · exact hz k hk ‹_›
theorem sm_sum {β : Type} (n : Nat) (xs : List β) (f : β → Nat → Int) : (xs.map fun x => sm n (f x)).sum = sm n fun k => (xs.map fun x => f x k).sum := by
  induction xs with
  | nil => simp only [List.map_nil, List.sum_nil, sm_zero]
  | cons x xs ih => simp only [List.map_cons, List.sum_cons, ih, sm_add]
def dl {α : Type} [DecidableEq α] (u x : α) : Int := if u = x then 1 else 0
section
set_option linter.unusedSectionVars false
variable {α : Type} [DecidableEq α]
variable (n : Nat) (st en : Nat → α) (w : Nat → Nat) (ok : Nat → Prop)
/-- what stays at a place -/
def dv (f : Nat → Int) (x : α) : Int := sm n fun k => f k * (dl (en k) x - dl (st k) x)
/-- a walk from u, its last step first -/
inductive Wk (u : α) : α → List (Nat × Bool) → Prop
  | nil : Wk u u []
  | fwd {i l} : Wk u (st i) l → ok i → Wk u (en i) ((i, true) :: l)
  | bwd {i l} : Wk u (en i) l → ok i → Wk u (st i) ((i, false) :: l)
inductive Sw (u : α) : α → List (Nat × Bool) → List α → Prop
  | nil : Sw u u [] [u]
  | fwd {i l vs} : Sw u (st i) l vs → ok i → en i ∉ vs → Sw u (en i) ((i, true) :: l) (en i :: vs)
  | bwd {i l vs} : Sw u (en i) l vs → ok i → st i ∉ vs → Sw u (st i) ((i, false) :: l) (st i :: vs)
def wl (l : List (Nat × Bool)) : Nat := (l.map fun q => w q.1).sum
def sg (b : Bool) : Int := if b then 1 else -1
def fl (l : List (Nat × Bool)) (k : Nat) : Int := (l.map fun q => if q.1 = k then sg q.2 else 0).sum
variable {n st en w ok} {u v : α} {l : List (Nat × Bool)} {vs : List α}
theorem Sw.mem (h : Sw st en ok u v l vs) : v ∈ vs := by cases h <;> exact List.mem_cons_self
theorem Sw.pre (h : Sw st en ok u v l vs) : ∀ y ∈ vs, ∃ l' vs', Sw st en ok u y l' vs' ∧ wl w l' ≤ wl w l := by
  induction h with
  | nil =>
    intro y hy
    obtain rfl := List.mem_singleton.mp hy
    exact ⟨_, _, .nil, Nat.le_refl _⟩
  | @fwd i l vs h o z ih =>
    intro y hy
    rcases List.mem_cons.mp hy with rfl | hy
    · exact ⟨_, _, .fwd h o z, Nat.le_refl _⟩
    · obtain ⟨l', vs', h1, h2⟩ := ih y hy
      exact ⟨l', vs', h1, Nat.le_trans h2 (by simp [wl])⟩
  | @bwd i l vs h o z ih =>
    intro y hy
    rcases List.mem_cons.mp hy with rfl | hy
    · exact ⟨_, _, .bwd h o z, Nat.le_refl _⟩
    · obtain ⟨l', vs', h1, h2⟩ := ih y hy
      exact ⟨l', vs', h1, Nat.le_trans h2 (by simp [wl])⟩
theorem wl_cons (q : Nat × Bool) (l : List (Nat × Bool)) : wl w (q :: l) = w q.1 + wl w l := by simp [wl]
theorem fl_cons (q : Nat × Bool) (l : List (Nat × Bool)) (k : Nat) : fl (q :: l) k = (if q.1 = k then sg q.2 else 0) + fl l k := by simp [fl]
/-- without loops -/
theorem Wk.simple (h : Wk st en ok u v l) : ∃ l' vs', Sw st en ok u v l' vs' ∧ wl w l' ≤ wl w l := by
  induction h with
  | nil => exact ⟨_, _, .nil, Nat.le_refl _⟩
  | @fwd i l h o ih =>
    obtain ⟨l', vs', h1, h2⟩ := ih
    by_cases z : en i ∈ vs'
    · obtain ⟨l2, vs2, h3, h4⟩ := h1.pre (w := w) _ z
      exact ⟨l2, vs2, h3, by rw [wl_cons]; omega⟩
    · exact ⟨_, _, .fwd h1 o z, by rw [wl_cons, wl_cons]; omega⟩
  | @bwd i l h o ih =>
    obtain ⟨l', vs', h1, h2⟩ := ih
    by_cases z : st i ∈ vs'
    · obtain ⟨l2, vs2, h3, h4⟩ := h1.pre (w := w) _ z
      exact ⟨l2, vs2, h3, by rw [wl_cons]; omega⟩
    · exact ⟨_, _, .bwd h1 o z, by rw [wl_cons, wl_cons]; omega⟩
theorem Sw.ends (h : Sw st en ok u v l vs) : ∀ q ∈ l, ok q.1 ∧ st q.1 ∈ vs ∧ en q.1 ∈ vs := by
  induction h with
  | nil => exact fun q hq => absurd hq List.not_mem_nil
  | @fwd i l vs h o z ih =>
    intro q hq
    rcases List.mem_cons.mp hq with rfl | hq
    · exact ⟨o, List.mem_cons_of_mem _ h.mem, List.mem_cons_self⟩
    · obtain ⟨a, b, c⟩ := ih q hq
      exact ⟨a, List.mem_cons_of_mem _ b, List.mem_cons_of_mem _ c⟩
  | @bwd i l vs h o z ih =>
    intro q hq
    rcases List.mem_cons.mp hq with rfl | hq
    · exact ⟨o, List.mem_cons_self, List.mem_cons_of_mem _ h.mem⟩
    · obtain ⟨a, b, c⟩ := ih q hq
      exact ⟨a, List.mem_cons_of_mem _ b, List.mem_cons_of_mem _ c⟩
theorem fl_out {k : Nat} (h : ∀ q ∈ l, q.1 ≠ k) : fl l k = 0 := by
  induction l with
  | nil => rfl
  | cons q l ih => rw [fl_cons, if_neg (h q List.mem_cons_self), ih fun q hq => h q (List.mem_cons_of_mem _ hq)]; rfl
theorem sg_cases (b : Bool) : sg b = 1 ∨ sg b = -1 := by cases b <;> simp [sg]
/-- each pipe of a way without loops once -/
theorem Sw.fl1 (h : Sw st en ok u v l vs) (hn : ∀ i, ok i → i < n) : (∀ k, fl l k = 0 ∨ fl l k = 1 ∨ fl l k = -1) ∧ sm n (fun k => if fl l k ≠ 0 then (w k : Int) else 0) = wl w l := by
  have step : ∀ {i : Nat} {b : Bool} {l : List (Nat × Bool)}, i < n → (∀ q ∈ l, q.1 ≠ i) → ((∀ k, fl l k = 0 ∨ fl l k = 1 ∨ fl l k = -1) ∧ sm n (fun k => if fl l k ≠ 0 then (w k : Int) else 0) = wl w l) → (∀ k, fl ((i, b) :: l) k = 0 ∨ fl ((i, b) :: l) k = 1 ∨ fl ((i, b) :: l) k = -1) ∧ sm n (fun k => if fl ((i, b) :: l) k ≠ 0 then (w k : Int) else 0) = wl w ((i, b) :: l) := by
    intro i b l hi hz h
    have z0 := fl_out hz
    refine ⟨fun k => ?_, ?_⟩
    · rw [fl_cons]
      by_cases e : i = k
      · subst e
        rw [if_pos rfl, z0, Int.add_zero]
        exact Or.inr (sg_cases b)
      · rw [if_neg e, Int.zero_add]
        exact h.1 k
    · rw [sm_congr (g := fun k => (if fl l k ≠ 0 then (w k : Int) else 0) + if k = i then (w i : Int) else 0) (fun k hk => ?_), sm_add, h.2, sm_one hi, wl_cons]
      · simp only [Int.natCast_add]; omega
      · rw [fl_cons]
        by_cases e : i = k
        · subst e
          have : sg b + 0 ≠ 0 := by rcases sg_cases b with e | e <;> rw [e] <;> decide
          simp only [↓reduceIte, z0]
          rw [if_pos this, if_neg (by omega), Int.zero_add]
        · rw [if_neg e, Int.zero_add, if_neg (fun z : k = i => e z.symm), Int.add_zero]
  induction h with
  | nil => exact ⟨fun k => Or.inl rfl, sm_zero n⟩
  | @fwd i l vs h o z ih => exact step (hn i o) (fun q hq e => z (e ▸ (h.ends q hq).2.2)) ih
  | @bwd i l vs h o z ih => exact step (hn i o) (fun q hq e => z (e ▸ (h.ends q hq).2.1)) ih
theorem dv_add (f g : Nat → Int) (x : α) : dv n st en (fun k => f k + g k) x = dv n st en f x + dv n st en g x := by
  rw [dv, dv, dv, ← sm_add]
  exact sm_congr fun k _ => Int.add_mul _ _ _
theorem dv_one {i : Nat} (h : i < n) (c : Int) (x : α) : dv n st en (fun k => if i = k then c else 0) x = c * (dl (en i) x - dl (st i) x) := by
  rw [dv, sm_only h (fun k _ hk => by rw [if_neg (fun z => hk z.symm), Int.zero_mul]), if_pos rfl]
theorem Wk.dv (h : Wk st en ok u v l) (hn : ∀ i, ok i → i < n) (x : α) : dv n st en (fl l) x = dl v x - dl u x := by
  induction h with
  | nil =>
    rw [RV.dv, sm_congr (g := fun _ => 0) (fun k _ => by show (0 : Int) * _ = 0; rw [Int.zero_mul]), sm_zero]
    omega
  | @fwd i l h o ih =>
    rw [show fl ((i, true) :: l) = fun k => (if i = k then 1 else 0) + fl l k from funext fun k => fl_cons _ _ _, dv_add, ih, dv_one (hn i o)]
    omega
  | @bwd i l h o ih =>
    rw [show fl ((i, false) :: l) = fun k => (if i = k then -1 else 0) + fl l k from funext fun k => fl_cons _ _ _, dv_add, ih, dv_one (hn i o)]
    omega
theorem Sw.wk (h : Sw st en ok u v l vs) : Wk st en ok u v l := by
  induction h with
  | nil => exact .nil
  | fwd _ o _ ih => exact .fwd ih o
  | bwd _ o _ ih => exact .bwd ih o
/-- a ring: flows of -1, 0 and 1 that are 1 at the pipe -/
structure Ring (n : Nat) (st en : Nat → α) (shut : Nat → Prop) (p : Nat) (f : Nat → Int) : Prop where
  r : ∀ k, k < n → f k = 0 ∨ f k = 1 ∨ f k = -1
  kept : ∀ x, RV.dv n st en f x = 0
  one : f p = 1
  sl : ∀ k, k < n → shut k → f k = 0
def cnt (n : Nat) (w : Nat → Nat) (f : Nat → Int) : Int := sm n fun k => if f k ≠ 0 then (w k : Int) else 0
abbrev okp (n : Nat) (shut : Nat → Prop) (p k : Nat) : Prop := k < n ∧ k ≠ p ∧ ¬ shut k
variable {shut : Nat → Prop} {p : Nat}
/-- a way back makes a ring -/
theorem ring_of (hp : p < n) (hs : ¬ shut p) (h : Wk st en (okp n shut p) (en p) (st p) l) : ∃ f, Ring n st en shut p f ∧ cnt n w f ≤ wl w l + w p := by
  obtain ⟨l', vs, h1, h2⟩ := h.simple (w := w)
  have hn : ∀ i, okp n shut p i → i < n := fun i o => o.1
  obtain ⟨f1, f2⟩ := h1.fl1 (w := w) hn
  have fz : ∀ k, ¬ okp n shut p k → fl l' k = 0 := fun k hk => fl_out fun q hq e => hk (e ▸ (h1.ends q hq).1)
  have fp : fl l' p = 0 := fz p fun o => o.2.1 rfl
  refine ⟨fun k => fl l' k + if p = k then 1 else 0, ⟨fun k hk => ?_, fun x => ?_, ?_, fun k hk sk => ?_⟩, ?_⟩
  · by_cases e : p = k
    · subst e
      rw [if_pos rfl, fp]
      exact Or.inr (Or.inl rfl)
    · rw [if_neg e, Int.add_zero]
      exact f1 k
  · rw [dv_add, h1.wk.dv hn, dv_one hp]
    omega
  · rw [fp, if_pos rfl]
    rfl
  · rw [if_neg (fun e : p = k => hs (by rw [e]; exact sk)), fz k fun o => o.2.2 sk]
    rfl
  · rw [cnt, sm_congr (g := fun k => (if fl l' k ≠ 0 then (w k : Int) else 0) + if k = p then (w p : Int) else 0) (fun k hk => ?_), sm_add, f2, sm_one hp]
    · omega
    · by_cases e : p = k
      · subst e
        simp [fp]
      · simp only [if_neg e, Int.add_zero, if_neg (fun z : k = p => e z.symm)]
/-! ### the places that pipes of a ring reach -/
theorem grow (S : List Nat) : ∀ (m c : Nat) (R : List α), R.Nodup → (∀ i ∈ S, ok i) → (∀ x ∈ R, ∃ l, Wk st en ok u x l ∧ l.length ≤ m ∧ wl w l ≤ c) →
    ∃ R' : List α, R'.Nodup ∧ (∀ x ∈ R, x ∈ R') ∧ (∀ i ∈ S, st i ∈ R' ↔ en i ∈ R') ∧ ∀ x ∈ R', ∃ l, Wk st en ok u x l ∧ l.length ≤ m + S.length ∧ wl w l ≤ c + (S.map w).sum := by
  generalize hs : S.length = z
  induction z generalizing S with
  | zero =>
    intro m c R nd ho h
    obtain rfl := List.eq_nil_of_length_eq_zero hs
    exact ⟨R, nd, fun _ h => h, fun i hi => absurd hi List.not_mem_nil, fun x hx => by simpa using h x hx⟩
  | succ z ih =>
    intro m c R nd ho h
    by_cases q : ∃ i ∈ S, ¬ (st i ∈ R ↔ en i ∈ R)
    · obtain ⟨i, hi, hq⟩ := q
      have e1 := List.length_erase_of_mem hi
      have pm := List.perm_cons_erase hi
      have e2 : (S.map w).sum = w i + ((S.erase i).map w).sum := by
        rw [(pm.map w).sum_nat]
        simp
      have hadd : ∃ y, y ∉ R ∧ (st i ∈ y :: R) ∧ (en i ∈ y :: R) ∧ ∃ l, Wk st en ok u y l ∧ l.length ≤ m + 1 ∧ wl w l ≤ c + w i := by
        by_cases a : st i ∈ R
        · have b : en i ∉ R := fun b => hq ⟨fun _ => b, fun _ => a⟩
          obtain ⟨l, h1, h2, h3⟩ := h _ a
          exact ⟨_, b, List.mem_cons_of_mem _ a, List.mem_cons_self, _, .fwd h1 (ho i hi), by simp; omega, by rw [wl_cons]; show w i + _ ≤ _; omega⟩
        · have b : en i ∈ R := Decidable.byContradiction fun b => hq ⟨fun z => absurd z a, fun z => absurd z b⟩
          obtain ⟨l, h1, h2, h3⟩ := h _ b
          exact ⟨_, a, List.mem_cons_self, List.mem_cons_of_mem _ b, _, .bwd h1 (ho i hi), by simp; omega, by rw [wl_cons]; show w i + _ ≤ _; omega⟩
      obtain ⟨y, ny, s1, s2, ly⟩ := hadd
      obtain ⟨R', n1, n2, n3, n4⟩ := ih (S.erase i) (by omega) (m + 1) (c + w i) (y :: R) (List.nodup_cons.mpr ⟨ny, nd⟩) (fun j hj => ho j (List.mem_of_mem_erase hj)) (fun x hx => by
        rcases List.mem_cons.mp hx with rfl | hx
        · exact ly
        · obtain ⟨l, h1, h2, h3⟩ := h x hx
          exact ⟨l, h1, by omega, by omega⟩)
      refine ⟨R', n1, fun x hx => n2 x (List.mem_cons_of_mem _ hx), fun j hj => ?_, fun x hx => ?_⟩
      · by_cases e : j = i
        · subst e
          exact ⟨fun _ => n2 _ s2, fun _ => n2 _ s1⟩
        · exact n3 j ((List.mem_erase_of_ne e).mpr hj)
      · obtain ⟨l, h1, h2, h3⟩ := n4 x hx
        exact ⟨l, h1, by omega, by omega⟩
    · refine ⟨R, nd, fun _ h => h, fun i hi => Decidable.byContradiction fun z => q ⟨i, hi, z⟩, fun x hx => ?_⟩
      obtain ⟨l, h1, h2, h3⟩ := h x hx
      exact ⟨l, h1, by omega, by omega⟩
theorem dl_sum {R : List α} (nd : R.Nodup) (x : α) : (R.map fun y => dl x y).sum = if x ∈ R then 1 else 0 := by
  induction R with
  | nil => rfl
  | cons y R ih =>
    obtain ⟨a, b⟩ := List.nodup_cons.mp nd
    rw [List.map_cons, List.sum_cons, ih b, dl]
    by_cases e : x = y
    · subst e
      simp [a]
    · simp [e]
theorem sum_mul {β : Type} (c : Int) (xs : List β) (f g : β → Int) : (xs.map fun x => c * (f x - g x)).sum = c * ((xs.map f).sum - (xs.map g).sum) := by
  induction xs with
  | nil => simp
  | cons x xs ih =>
    simp only [List.map_cons, List.sum_cons, ih]
    rw [← Int.mul_add]
    congr 1
    omega
/-- nothing comes out of a set of places but by pipes that cross it -/
theorem cut {f : Nat → Int} {R : List α} (nd : R.Nodup) (hk : ∀ x, dv n st en f x = 0) (hp : p < n) (hc : ∀ k, k < n → k ≠ p → f k ≠ 0 → (st k ∈ R ↔ en k ∈ R)) (h1 : f p ≠ 0) : en p ∈ R → st p ∈ R := by
  intro he
  refine Decidable.byContradiction fun hs => ?_
  have e1 : (R.map fun x => dv n st en f x).sum = 0 := by
    rw [List.map_congr_left (fun x _ => hk x)]
    exact (by clear nd hc he hs; induction R with | nil => rfl | cons _ _ ih => simpa using ih)
  have e2 : (R.map fun x => dv n st en f x).sum = f p := by
    show (R.map fun x => sm n fun k => f k * (dl (en k) x - dl (st k) x)).sum = _
    rw [sm_sum, sm_only hp (fun k hk hkp => ?_)]
    · rw [sum_mul, dl_sum nd, dl_sum nd, if_pos he, if_neg hs]
      omega
    · rw [sum_mul, dl_sum nd, dl_sum nd]
      by_cases z : f k = 0
      · rw [z, Int.zero_mul]
      · have := hc k hk hkp z
        by_cases a : st k ∈ R
        · rw [if_pos a, if_pos (this.mp a)]
          simp
        · rw [if_neg a, if_neg (fun b => a (this.mpr b))]
          simp
  exact h1 (by rw [← e2, e1])
theorem sum_filter (n : Nat) (w : Nat → Nat) (P : Nat → Bool) : ((((List.range n).filter P).map w).sum : Int) = sm n fun k => if P k then (w k : Int) else 0 := by
  induction n with
  | zero => rfl
  | succ n ih =>
    rw [List.range_succ, List.filter_append, List.map_append, List.sum_append, sm, ← ih]
    cases h : P n <;> simp [h]
/-- a ring has a way back -/
theorem Ring.way {f : Nat → Int} (h : Ring n st en shut p f) (hp : p < n) : ∃ l, Wk st en (okp n shut p) (en p) (st p) l ∧ l.length ≤ n ∧ ((wl w l + w p : Nat) : Int) ≤ cnt n w f := by
  obtain ⟨R, nd, r1, r2, r3⟩ := grow (st := st) (en := en) (w := w) (ok := okp n shut p) (u := en p) ((List.range n).filter fun k => decide (f k ≠ 0 ∧ k ≠ p)) 0 0 [en p] (List.nodup_cons.mpr ⟨List.not_mem_nil, List.nodup_nil⟩)
    (fun i hi => by
      obtain ⟨a, b⟩ := List.mem_filter.mp hi
      have a := List.mem_range.mp a
      obtain ⟨b, c⟩ := of_decide_eq_true b
      exact ⟨a, c, fun z => b (h.sl i a z)⟩)
    (fun x hx => by
      obtain rfl := List.mem_singleton.mp hx
      exact ⟨[], .nil, Nat.le_refl _, Nat.le_refl _⟩)
  have hin := cut nd h.kept hp (fun k hk hkp z => r2 k (List.mem_filter.mpr ⟨List.mem_range.mpr hk, decide_eq_true ⟨z, hkp⟩⟩)) (by rw [h.one]; decide) (r1 _ List.mem_cons_self)
  obtain ⟨l, h1, h2, h3⟩ := r3 _ hin
  refine ⟨l, h1, ?_, ?_⟩
  · have := List.length_filter_le (fun k => decide (f k ≠ 0 ∧ k ≠ p)) (List.range n)
    rw [List.length_range] at this
    omega
  · have e1 := sum_filter n w fun k => decide (f k ≠ 0 ∧ k ≠ p)
    have e2 : cnt n w f = sm n (fun k => if decide (f k ≠ 0 ∧ k ≠ p) = true then (w k : Int) else 0) + w p := by
      rw [cnt, sm_congr (g := fun k => (if decide (f k ≠ 0 ∧ k ≠ p) = true then (w k : Int) else 0) + if k = p then (w p : Int) else 0) (fun k hk => ?_), sm_add, sm_one hp]
      by_cases e : k = p
      · subst e
        simp [h.one]
      · simp [e]
    rw [e2, ← e1]
    omega
/-! ### the shortest ways, round by round -/
abbrev Dist (α : Type) := α → Option Nat
/-- on by a link: from, to, meters -/
def ld (g : Dist α) (e : α × α × Nat) : Dist α := match g e.1 with
  | none => g
  | some d => match g e.2.1 with
    | none => fun x => if x = e.2.1 then some (d + e.2.2) else g x
    | some d' => if d + e.2.2 < d' then fun x => if x = e.2.1 then some (d + e.2.2) else g x else g
def Le (g g' : Dist α) : Prop := ∀ x d, g x = some d → ∃ d', g' x = some d' ∧ d' ≤ d
theorem Le.refl (g : Dist α) : Le g g := fun _ d h => ⟨d, h, Nat.le_refl _⟩
theorem Le.trans {a b c : Dist α} (h : Le a b) (h' : Le b c) : Le a c := fun x d e => by
  obtain ⟨d1, e1, l1⟩ := h x d e
  obtain ⟨d2, e2, l2⟩ := h' x d1 e1
  exact ⟨d2, e2, Nat.le_trans l2 l1⟩
theorem ld_cases (g : Dist α) (e : α × α × Nat) : ld g e = g ∧ (∀ d, g e.1 = some d → ∃ d', g e.2.1 = some d' ∧ d' ≤ d + e.2.2) ∨
    ∃ d, g e.1 = some d ∧ (∀ d', g e.2.1 = some d' → d + e.2.2 < d') ∧ ld g e = fun x => if x = e.2.1 then some (d + e.2.2) else g x := by
  unfold ld
  cases h : g e.1 with
  | none => exact Or.inl ⟨rfl, fun d z => absurd z (by simp)⟩
  | some d =>
    dsimp only
    cases h' : g e.2.1 with
    | none => exact Or.inr ⟨d, rfl, fun d' z => absurd z (by simp), rfl⟩
    | some d' =>
      dsimp only
      by_cases c : d + e.2.2 < d'
      · rw [if_pos c]
        exact Or.inr ⟨d, rfl, fun d2 z => Option.some.inj z ▸ c, rfl⟩
      · rw [if_neg c]
        exact Or.inl ⟨rfl, fun d2 z => ⟨d', rfl, Option.some.inj z ▸ Nat.le_of_not_lt c⟩⟩
theorem ld_le (g : Dist α) (e : α × α × Nat) : Le g (ld g e) := by
  rcases ld_cases g e with ⟨h, _⟩ | ⟨d1, h1, h2, h⟩
  · rw [h]
    exact Le.refl g
  · rw [h]
    intro x d hx
    by_cases z : x = e.2.1
    · subst z
      exact ⟨_, if_pos rfl, Nat.le_of_lt (h2 d hx)⟩
    · exact ⟨d, (if_neg z).trans hx, Nat.le_refl _⟩
theorem ld_hit {g : Dist α} {e : α × α × Nat} {d : Nat} (h : g e.1 = some d) : ∃ d', ld g e e.2.1 = some d' ∧ d' ≤ d + e.2.2 := by
  rcases ld_cases g e with ⟨h', q⟩ | ⟨d1, h1, h2, h'⟩
  · rw [h']
    exact q d h
  · rw [h']
    rw [h] at h1
    obtain rfl := Option.some.inj h1
    exact ⟨_, if_pos rfl, Nat.le_refl _⟩
theorem ld_inv {g : Dist α} {e : α × α × Nat} {P : α → Nat → Prop} (h : ∀ x d, g x = some d → P x d) (hs : ∀ d, g e.1 = some d → P e.1 d → P e.2.1 (d + e.2.2)) : ∀ x d, ld g e x = some d → P x d := by
  rcases ld_cases g e with ⟨h', q⟩ | ⟨d1, h1, h2, h'⟩
  · rw [h']
    exact h
  · rw [h']
    intro x d z
    by_cases q : x = e.2.1
    · dsimp only at z
      rw [if_pos q] at z
      obtain rfl := Option.some.inj z
      rw [q]
      exact hs d1 h1 (h _ _ h1)
    · dsimp only at z
      rw [if_neg q] at z
      exact h x d z
def turn (L : List (α × α × Nat)) (g : Dist α) : Dist α := L.foldl ld g
def turns (L : List (α × α × Nat)) : Nat → Dist α → Dist α
  | 0, g => g
  | k + 1, g => turn L (turns L k g)
theorem turn_le (L : List (α × α × Nat)) : ∀ g : Dist α, Le g (turn L g) := by
  induction L with
  | nil => exact fun g => Le.refl g
  | cons e L ih => exact fun g => (ld_le g e).trans (ih _)
theorem turn_hit (L : List (α × α × Nat)) : ∀ (g : Dist α) (e : α × α × Nat), e ∈ L → ∀ d, g e.1 = some d → ∃ d', turn L g e.2.1 = some d' ∧ d' ≤ d + e.2.2 := by
  induction L with
  | nil => exact fun g e he => absurd he List.not_mem_nil
  | cons e0 L ih =>
    intro g e he d h
    rcases List.mem_cons.mp he with rfl | he
    · obtain ⟨d1, h1, l1⟩ := ld_hit h
      obtain ⟨d2, h2, l2⟩ := turn_le L _ _ _ h1
      exact ⟨d2, h2, Nat.le_trans l2 l1⟩
    · obtain ⟨d1, h1, l1⟩ := ld_le g e0 _ _ h
      obtain ⟨d2, h2, l2⟩ := ih (ld g e0) e he d1 h1
      exact ⟨d2, h2, by omega⟩
theorem turn_inv {L : List (α × α × Nat)} {P : α → Nat → Prop} (hs : ∀ e ∈ L, ∀ d, P e.1 d → P e.2.1 (d + e.2.2)) : ∀ g : Dist α, (∀ x d, g x = some d → P x d) → ∀ x d, turn L g x = some d → P x d := by
  induction L with
  | nil => exact fun g h => h
  | cons e L ih => exact fun g h => ih (fun e' he' => hs e' (List.mem_cons_of_mem _ he')) _ (ld_inv h fun d _ => hs e List.mem_cons_self d)
def g0 (u : α) : Dist α := fun x => if x = u then some 0 else none
/-- the links of a net's pipes -/
structure Links (L : List (α × α × Nat)) (st en : Nat → α) (w : Nat → Nat) (ok : Nat → Prop) : Prop where
  of : ∀ e ∈ L, ∃ i, ok i ∧ e.2.2 = w i ∧ (e.1 = st i ∧ e.2.1 = en i ∨ e.1 = en i ∧ e.2.1 = st i)
  f : ∀ i, ok i → (st i, en i, w i) ∈ L
  b : ∀ i, ok i → (en i, st i, w i) ∈ L
variable {L : List (α × α × Nat)}
theorem turns_wk (hL : Links L st en w ok) (k : Nat) : ∀ x d, turns L k (g0 u) x = some d → ∃ l, Wk st en ok u x l ∧ wl w l = d := by
  have hs : ∀ e ∈ L, ∀ d, (∃ l, Wk st en ok u e.1 l ∧ wl w l = d) → ∃ l, Wk st en ok u e.2.1 l ∧ wl w l = d + e.2.2 := by
    rintro e he d ⟨l, h1, h2⟩
    obtain ⟨i, o, ew, z⟩ := hL.of e he
    rcases z with ⟨a, b⟩ | ⟨a, b⟩
    · rw [a] at h1
      exact ⟨(i, true) :: l, b ▸ .fwd h1 o, by rw [wl_cons, h2, ew]; exact Nat.add_comm _ _⟩
    · rw [a] at h1
      exact ⟨(i, false) :: l, b ▸ .bwd h1 o, by rw [wl_cons, h2, ew]; exact Nat.add_comm _ _⟩
  induction k with
  | zero =>
    intro x d h
    rw [turns, g0] at h
    by_cases z : x = u
    · subst z
      rw [if_pos rfl] at h
      exact ⟨[], .nil, (Option.some.inj h)⟩
    · rw [if_neg z] at h
      exact absurd h (by simp)
  | succ k ih => exact turn_inv hs _ ih
theorem turns_reach (hL : Links L st en w ok) (h : Wk st en ok u v l) : ∀ k, l.length ≤ k → ∃ d, turns L k (g0 u) v = some d ∧ d ≤ wl w l := by
  induction h with
  | nil =>
    intro k _
    induction k with
    | zero => exact ⟨0, if_pos rfl, Nat.le_refl _⟩
    | succ k ih =>
      obtain ⟨d, h1, h2⟩ := ih (Nat.zero_le _)
      obtain ⟨d', h3, h4⟩ := turn_le L _ _ _ h1
      exact ⟨d', h3, Nat.le_trans h4 h2⟩
  | @fwd i l h o ih =>
    intro k hk
    obtain ⟨k, rfl⟩ : ∃ j, k = j + 1 := ⟨k - 1, by simp at hk; omega⟩
    obtain ⟨d, h1, h2⟩ := ih k (by simp at hk; omega)
    obtain ⟨d', h3, h4⟩ := turn_hit L _ _ (hL.f i o) d h1
    exact ⟨d', h3, by rw [wl_cons]; dsimp only at h4 ⊢; omega⟩
  | @bwd i l h o ih =>
    intro k hk
    obtain ⟨k, rfl⟩ : ∃ j, k = j + 1 := ⟨k - 1, by simp at hk; omega⟩
    obtain ⟨d, h1, h2⟩ := ih k (by simp at hk; omega)
    obtain ⟨d', h3, h4⟩ := turn_hit L _ _ (hL.b i o) d h1
    exact ⟨d', h3, by rw [wl_cons]; dsimp only at h4 ⊢; omega⟩
theorem str_least (hL : Links L st en w (okp n shut p)) (hp : p < n) {f : Nat → Int} (h : Ring n st en shut p f) : ∃ d, turns L n (g0 (en p)) (st p) = some d ∧ ((d + w p : Nat) : Int) ≤ cnt n w f := by
  obtain ⟨l, h1, h2, h3⟩ := h.way (w := w) hp
  obtain ⟨d, h4, h5⟩ := turns_reach hL h1 n h2
  exact ⟨d, h4, by omega⟩
end
end RV
/-! own methods; promises of ways and strengths -/
namespace RV
open PySem L2 PyProof.Rows TL
def Mtd (P : Program) (w : World) (K : PySem.W.Frag) (mg : Str → Option Value) (base : Heap) (C : Addr) (m : Str) (k : Nat) (ps : List Str) (sp : Sp) : Prop :=
  Cls K C ∧ ∃ f fd, Meth K C m f ∧ Binds K fd ps [] ∧ FnOk P w K mg base CX0 k f fd ps sp
theorem Mtd.irr {P : Program} {w : World} {K : PySem.W.Frag} {mg : Str → Option Value} {base : Heap} {C : Addr} {m : Str} {k : Nat} {ps : List Str} {sp : Sp} (h : Mtd P w K mg base C m k ps sp) : Mtd P w K mg base C m k ps (Irr sp) := by
  obtain ⟨c, f, fd, a, b, F⟩ := h
  exact ⟨c, f, fd, a, b, F.imp fun _ _ _ _ z => irr_of z⟩
section
variable {X : Cx} {C : Addr} {m : Str} {k : Nat} {ps : List Str} {sp : Sp} {o e : Expr} {es : List Expr} {t : TA} {ta : TE} {pos apos : Pos} {pl : Sem Bool}
theorem pe_mtd (h : Mtd X.prog X.w X.K X.mg X.base C m k ps sp) (hr : Room k X.A) (he : PE X o ta) (ha : PA X (e :: es) t)
    (hst : starEach (e :: es) X.env = (false, eval e X.env) :: starEach es X.env := by rfl) (hpl : (backTo pos (starEach es X.env)).any (·.1) = false := by rfl)
    (ht : eval (.Call (.Attribute o m apos) (e :: es) [] pos) X.env = (do
      let ov ← eval o X.env
      standAt apos.atName
      let (f, first) ← holding [ov] (getMethod ov m pl)
      callWith pos f first (backTo pos (starEach (e :: es) X.env)) (backToKw pos (keywordEach [] X.env))) := by rfl) :
    PE X (.Call (.Attribute o m apos) (e :: es) [] pos) (tMeth C m sp [] E0 ta t) := by
  obtain ⟨c, f, fd, hm, hb, F⟩ := h
  exact pe_meth he c hm F hr hb .nil pass0 ha hst hpl ht
end
theorem decV (a b : Str) : decide (V.str a = V.str b) = decide (a = b) := by simp
section
variable {α : Type} {K : PySem.W.Frag} {D : Addr} {i : Nat} {te : TE} {tt : TT} {vs : List Nat} {σ : L2.St} {H1 : Hp} {Qd : Hp → Prop} {J : It} {GG : Hp → Prop}
/-- [f(x) for x in xs if p(x)] over things at addresses -/
theorem lc_keepF {us : List (Addr × α)} (p : Addr × α → Bool) (val : Addr × α → V) (wk : Walk J (rf us).length GG (YAt (rf us))) (nD : H1 D = none) (len : us.length ≤ 1000) (hG : ∀ H', Same H1 H' → GG H') (hw : ∀ x, wipe ((wipe σ vs).set i x) vs = wipe σ vs)
    (ht : ∀ u ∈ us, ∀ H2, Same H1 H2 → ∀ R : Bool → Hp → Prop, (∀ H3, Same H2 H3 → R (p u) H3) → tt ((wipe σ vs).set i (some (.ref u.1))) H2 R)
    (he : ∀ u ∈ us, ∀ H2, Same H1 H2 → ∀ R : VK, R (val u) H2 → te ((wipe σ vs).set i (some (.ref u.1))) H2 R)
    (k : ∀ H', Same H1 H' → H' D = some (.lst ((us.filter p).map val)) → Qd H') :
    ∃ W : Nat → Nat → Hp → Prop, (∃ m, W 0 m (upd H1 D (.lst []))) ∧ ∀ i' m H, W i' m H →
      (J.stop i' H ∧ Qd H) ∨ (J.go i' H ∧ ∃ Nx : Hp → Prop, (∀ H', Nx H' → ∃ m', m' < m ∧ W (i' + 1) m' H') ∧ ∀ x H', J.yld i' H x H' → gName i x (wipe σ vs) H' fun σ2 H2 => wipe σ2 vs = wipe σ vs ∧ tt σ2 H2 fun b H3 =>
        if b = true then te σ2 H3 fun y H4 => ∃ acc, H4 D = some (.lst acc) ∧ acc.length < sizeLine ∧ Nx (upd H4 D (.lst (acc ++ [y]))) else Nx H3) := by
  refine L2.lc_it wk (fun i' H' => Same H1 H' ∧ H' D = some (.lst (((us.take i').filter p).map val)))
    ⟨fun b o e => (upd_ne (ne_of_none e nD)).trans e, upd_same⟩ (fun i' H' _ z => hG _ z.1) (fun i' x Ha Hb hi hv y => ?_) (fun H' hv => ?_)
  · obtain ⟨s, eD⟩ := hv
    obtain ⟨rfl, hx⟩ := y
    rw [rf, List.getElem?_map] at hx
    cases hu : us[i']? with
    | none => rw [hu] at hx; cases hx
    | some u =>
      rw [hu] at hx
      obtain rfl : V.ref u.1 = x := Option.some.inj hx
      have hm := List.mem_of_getElem? hu
      have et : us.take (i' + 1) = us.take i' ++ [u] := by rw [List.take_add_one, hu]; rfl
      refine ⟨hw _, ht u hm Hb s _ fun H3 s3 => ?_⟩
      have eD3 := s3 _ _ eD
      have sH : Same H1 H3 := fun b o e => s3 b o (s b o e)
      cases hp : p u with
      | false =>
        refine iteF ⟨sH, ?_⟩
        rw [eD3, et, List.filter_append, List.filter_cons_of_neg (by rw [hp]; decide), List.filter_nil, List.append_nil]
      | true =>
        refine iteT (he u hm H3 sH _ ⟨_, eD3, ?_, fun b o e => ?_, ?_⟩)
        · rw [List.length_map]
          have l1 := List.length_filter_le p (us.take i')
          have l3 := List.length_take_le' i' us
          exact Nat.lt_of_le_of_lt (Nat.le_trans l1 (Nat.le_trans l3 len)) (by decide)
        · rw [upd_ne (ne_of_none e nD)]
          exact sH _ _ e
        · rw [upd_same, et, List.filter_append, List.filter_cons_of_pos hp, List.filter_nil, List.map_append]
          rfl
  · obtain ⟨s, eD⟩ := hv
    rw [rf_len, List.take_length] at eD
    exact k H' s eD
end
def rgL (n : Nat) : List V := (List.range n).map fun i => V.int (i : Nat)
theorem rgL_len (n : Nat) : (rgL n).length = n := by rw [rgL, List.length_map, List.length_range]
theorem rgL_get {n k : Nat} {x : V} (h : (rgL n)[k]? = some x) : x = .int (k : Nat) ∧ k < n := by
  have hk := (List.getElem?_eq_some_iff.mp h).1
  rw [rgL_len] at hk
  rw [rgL, List.getElem?_map, List.getElem?_range hk] at h
  exact ⟨(Option.some.inj h).symm, hk⟩
theorem walk_rgL {n : Nat} : Walk (Itr 0 n) (rgL n).length (fun _ => True) (YAt (rgL n)) := by
  rw [rgL_len]
  refine walk_range.mono (fun _ _ => True.intro) fun i H x H' hi _ y => ⟨y.1, ?_⟩
  rw [y.2, rgL, List.getElem?_map, List.getElem?_range hi]
  simp
/-! ### the meters of a pipe -/
def onP (ms : List M3) (y : Str) : List M3 := ms.filter fun m => decide (m.2.1 = y)
def wtP (ms : List M3) (y : Str) : Nat := (onP ms y).length
def seP (ms : List M3) (y : Str) : List M3 := (onP ms y).filter fun m => m.2.2
/-- amount at this index, 0 elsewhere -/
def un (n : Nat) (o : Option Nat) (c : Int) : List Int := (List.range n).map fun j => if o = some j then c else 0
def vN : Option Nat → V
  | none => .non
  | some k => .int (k : Nat)
/-- a link: from, to, meters, flow -/
abbrev L4 := Str × Str × Nat × List Int
def lks (n : Nat) (ms : List M3) (y : Str) (i : Nat) (p : P3) : List L4 :=
  if p.1 ≠ y ∧ seP ms p.1 = [] then [(p.2.1, p.2.2, wtP ms p.1, un n (some i) 1), (p.2.2, p.2.1, wtP ms p.1, un n (some i) (-1))] else []
def lkF (n : Nat) (ms : List M3) (y : Str) : Nat → List P3 → List L4
  | _, [] => []
  | i, p :: ps => lks n ms y i p ++ lkF n ms y (i + 1) ps
theorem lkF_app (n : Nat) (ms : List M3) (y : Str) (p : P3) : ∀ (s : Nat) (as : List P3), lkF n ms y s (as ++ [p]) = lkF n ms y s as ++ lks n ms y (s + as.length) p
  | s, [] => by simp [lkF]
  | s, a :: as => by
    rw [List.cons_append, lkF, lkF, lkF_app n ms y p (s + 1) as, List.append_assoc, List.length_cons, show s + 1 + as.length = s + (as.length + 1) by omega]
theorem lkF_take {n : Nat} {ms : List M3} {y : Str} {ps : List P3} {i : Nat} {p : P3} (h : ps[i]? = some p) : lkF n ms y 0 (ps.take (i + 1)) = lkF n ms y 0 (ps.take i) ++ lks n ms y i p := by
  have hi := (List.getElem?_eq_some_iff.mp h).1
  rw [List.take_add_one, h]
  show lkF n ms y 0 (ps.take i ++ [p]) = _
  rw [lkF_app, List.length_take, Nat.min_eq_left (by omega), Nat.zero_add]
theorem lks_len (n : Nat) (ms : List M3) (y : Str) (i : Nat) (p : P3) : (lks n ms y i p).length ≤ 2 := by
  unfold lks
  split
  · exact Nat.le_refl _
  · exact Nat.zero_le _
theorem lkF_len (n : Nat) (ms : List M3) (y : Str) : ∀ (s : Nat) (as : List P3), (lkF n ms y s as).length ≤ 2 * as.length
  | s, [] => Nat.le_refl _
  | s, a :: as => by
    rw [lkF, List.length_append, List.length_cons]
    have h1 := lks_len n ms y s a
    have h2 := lkF_len n ms y (s + 1) as
    omega
def lkA (ps : List P3) (ms : List M3) (y : Str) : List L4 := lkF ps.length ms y 0 ps
def lk3 (l : L4) : Str × Str × Nat := (l.1, l.2.1, l.2.2.1)
def LkAt (H : Hp) (a : Addr) (l : L4) : Prop := ∃ t, H a = some (.tup [.str l.1, .str l.2.1, .int (l.2.2.1 : Nat), .ref t]) ∧ H t = some (.tup (l.2.2.2.map V.int))
theorem LkAt.ext {H H' : Hp} {a : Addr} {l : L4} (h : LkAt H a l) (s : Same H H') : LkAt H' a l := by
  obtain ⟨t, h1, h2⟩ := h
  exact ⟨t, s _ _ h1, s _ _ h2⟩
theorem LkAt.put {H : Hp} {a l : Addr} {q : L4} {xs ys : List V} (h : LkAt H a q) (e : H l = some (.lst xs)) : LkAt (upd H l (.lst ys)) a q := by
  obtain ⟨t, h1, h2⟩ := h
  refine ⟨t, (upd_ne fun z => ?_).trans h1, (upd_ne fun z => ?_).trans h2⟩
  · rw [z, e] at h1; cases h1
  · rw [z, e] at h2; cases h2
/-- a dict of ways -/
structure DW (n : Nat) (Z : Str → Nat → List Int → Prop) (H : Hp) (kvs : List (Key × V)) (g : Dist Str) : Prop where
  z : ∀ x, g x = none → valV kvs (.inr x) = none
  s : ∀ x d, g x = some d → ∃ (e t : Addr) (fs : List Int), valV kvs (.inr x) = some (.ref e) ∧ H e = some (.tup [.int (d : Nat), .ref t]) ∧ H t = some (.tup (fs.map V.int)) ∧ fs.length = n ∧ Z x d fs
/-- what holds of every way that is found -/
structure ZOk (ps : List P3) (ms : List M3) (y : Str) (Z : Dist Str → Str → Nat → List Int → Prop) : Prop where
  st : ∀ (i : Nat) (q : P3), ps[i]? = some q → q.1 = y → Z (g0 q.2.2) q.2.2 0 (un ps.length none 0)
  ke : ∀ l ∈ lkA ps ms y, ∀ g x d fs, Z g x d fs → Z (ld g (lk3 l)) x d fs
  ne : ∀ l ∈ lkA ps ms y, ∀ g d fs, fs.length = ps.length → g l.1 = some d → Z g l.1 d fs → (g l.2.1 = none ∨ ∃ d', g l.2.1 = some d' ∧ d + l.2.2.1 < d') → Z (ld g (lk3 l)) l.2.1 (d + l.2.2.1) (List.zipWith (· + ·) fs l.2.2.2)
theorem ZOk.triv (ps : List P3) (ms : List M3) (y : Str) : ZOk ps ms y fun _ _ _ _ => True := ⟨fun _ _ _ _ => trivial, fun _ _ _ _ _ _ _ => trivial, fun _ _ _ _ _ _ _ _ _ => trivial⟩
def strP (ps : List P3) (ms : List M3) (y : Str) : Option Nat :=
  match ps.find? fun p => decide (p.1 = y) with
  | none => none
  | some q => if seP ms y = [] then (turns ((lkA ps ms y).map lk3) ps.length (g0 q.2.2) q.2.1).map (· + wtP ms y) else none
section
variable (K : PySem.W.Frag) (CN CP CM : Addr)
def sp_gpipe : Sp := fun vs H Q _ => ∃ (x : Addr) (ps : List P3) (ms : List M3) (y : Str), vs = [.ref x, .str y] ∧ NetR K CN CP CM H x ps ms ∧ ps.length ≤ 12 ∧ y ∈ ps.map (·.1) ∧
  ∀ (a : Addr) (i : Nat) (q : P3) H', ps[i]? = some q → q.1 = y → Same H H' → PipeAt CP H' a q → Q (.ref a) H'
def sp_chkn : Sp := fun vs H Q _ => ∃ (x : Addr) (ps : List P3) (ms : List M3), vs = [.ref x] ∧ NetR K CN CP CM H x ps ms ∧ Q .non H
def sp_chkp : Sp := fun vs H Q _ => ∃ (x : Addr) (ps : List P3) (ms : List M3) (y : Str), vs = [.ref x, .str y] ∧ NetR K CN CP CM H x ps ms ∧ ps.length ≤ 12 ∧ y ∈ ps.map (·.1) ∧ ∀ H', Same H H' → Q .non H'
def sp_mat : Sp := fun vs H Q _ => ∃ (x : Addr) (ps : List P3) (ms : List M3) (y : Str), vs = [.ref x, .str y] ∧ NetR K CN CP CM H x ps ms ∧ ms.length ≤ 12 ∧
  ∀ (l : Addr) (us : List MU) H', Same H H' → H' l = some (.lst (rf us)) → (∀ u ∈ us, MetAt CM H' u.1 u.2) → sn us = onP ms y → Q (.ref l) H'
def sp_sat : Sp := fun vs H Q _ => ∃ (x : Addr) (ps : List P3) (ms : List M3) (y : Str), vs = [.ref x, .str y] ∧ NetR K CN CP CM H x ps ms ∧ ms.length ≤ 12 ∧
  ∀ (l : Addr) (xs : List V) H', Same H H' → H' l = some (.lst xs) → (xs = [] ↔ seP ms y = []) → Q (.ref l) H'
def sp_amt : Sp := fun vs H Q _ => ∃ (x : Addr) (ps : List P3) (ms : List M3) (o : Option Nat) (c : Int), vs = [.ref x, vN o, .int c] ∧ NetR K CN CP CM H x ps ms ∧ ps.length ≤ 12 ∧
  ∀ (t : Addr) H', Same H H' → H' t = some (.tup ((un ps.length o c).map V.int)) → Q (.ref t) H'
def sp_lnks : Sp := fun vs H Q _ => ∃ (x : Addr) (ps : List P3) (ms : List M3) (y : Str), vs = [.ref x, .str y] ∧ NetR K CN CP CM H x ps ms ∧ ps.length ≤ 12 ∧ ms.length ≤ 12 ∧
  ∀ (l : Addr) (us : List (Addr × L4)) H', Same H H' → H' l = some (.lst (rf us)) → (∀ u ∈ us, LkAt H' u.1 u.2) → sn us = lkA ps ms y → Q (.ref l) H'
def sp_lead : Sp := fun vs H Q _ => ∃ (d t : Addr) (a b : Str) (m n : Nat) (fs : List Int) (kvs : List (Key × V)) (g : Dist Str) (Z Z' : Str → Nat → List Int → Prop), vs = [.ref d, .str a, .str b, .int (m : Nat), .ref t] ∧ H d = some (.dK kvs) ∧ H t = some (.tup (fs.map V.int)) ∧ fs.length = n ∧ n ≤ 12 ∧ kvs.length ≤ 1000 ∧ DW n Z H kvs g ∧ (∀ x d f, Z x d f → Z' x d f) ∧ (∀ d f, f.length = n → g a = some d → Z a d f → (g b = none ∨ ∃ d', g b = some d' ∧ d + m < d') → Z' b (d + m) (List.zipWith (· + ·) f fs)) ∧
  ∀ kvs' H', (∀ b o, b ≠ d → H b = some o → H' b = some o) → H' d = some (.dK kvs') → kvs'.length ≤ kvs.length + 1 → DW n Z' H' kvs' (ld g (a, b, m)) → Q .non H'
def sp_ways : Sp := fun vs H Q _ => ∃ (x : Addr) (ps : List P3) (ms : List M3) (y : Str) (Z : Dist Str → Str → Nat → List Int → Prop), vs = [.ref x, .str y] ∧ NetR K CN CP CM H x ps ms ∧ ps.length ≤ 12 ∧ ms.length ≤ 12 ∧ y ∈ ps.map (·.1) ∧ ZOk ps ms y Z ∧
  ∀ (i : Nat) (q : P3) (d : Addr) (kvs : List (Key × V)) H', ps[i]? = some q → q.1 = y → Same H H' → H' d = some (.dK kvs) → DW ps.length (Z (turns ((lkA ps ms y).map lk3) ps.length (g0 q.2.2))) H' kvs (turns ((lkA ps ms y).map lk3) ps.length (g0 q.2.2)) → Q (.ref d) H'
def WayV (n : Nat) (Z : Nat → List Int → Prop) (H : Hp) (v : V) : Option Nat → Prop
  | none => v = .non
  | some d => ∃ (e t : Addr) (fs : List Int), v = .ref e ∧ H e = some (.tup [.int (d : Nat), .ref t]) ∧ H t = some (.tup (fs.map V.int)) ∧ fs.length = n ∧ Z d fs
def sp_back : Sp := fun vs H Q _ => ∃ (x : Addr) (ps : List P3) (ms : List M3) (y : Str) (Z : Dist Str → Str → Nat → List Int → Prop), vs = [.ref x, .str y] ∧ NetR K CN CP CM H x ps ms ∧ ps.length ≤ 12 ∧ ms.length ≤ 12 ∧ y ∈ ps.map (·.1) ∧ ZOk ps ms y Z ∧
  ∀ (i j : Nat) (q r : P3) (v : V) H', ps[i]? = some q → q.1 = y → ps[j]? = some r → r.1 = y → Same H H' → WayV ps.length (Z (turns ((lkA ps ms y).map lk3) ps.length (g0 q.2.2)) r.2.1) H' v (if seP ms y = [] then turns ((lkA ps ms y).map lk3) ps.length (g0 q.2.2) r.2.1 else none) → Q v H'
def sp_stren : Sp := fun vs H Q _ => ∃ (x : Addr) (ps : List P3) (ms : List M3) (y : Str), vs = [.ref x, .str y] ∧ NetR K CN CP CM H x ps ms ∧ POk ps ∧ ms.length ≤ 12 ∧ y ∈ ps.map (·.1) ∧ ∀ H', Same H H' → Q (vN (strP ps ms y)) H'
end
end RV
/-! ways in a dict -/
namespace RV
open PySem L2 PyProof.Rows TL
theorem ld_n {g : Dist Str} {e : Str × Str × Nat} (h : g e.1 = none) : ld g e = g := by
  unfold ld
  rw [h]
theorem ld_p {g : Dist Str} {e : Str × Str × Nat} {d : Nat} (h : g e.1 = some d) (h' : g e.2.1 = none ∨ ∃ d', g e.2.1 = some d' ∧ d + e.2.2 < d') : ld g e = fun x => if x = e.2.1 then some (d + e.2.2) else g x := by
  unfold ld
  rw [h]
  rcases h' with z | ⟨d', z, c⟩
  · simp only [z]
  · simp only [z, if_pos c]
theorem ld_k {g : Dist Str} {e : Str × Str × Nat} {d d' : Nat} (h : g e.1 = some d) (h' : g e.2.1 = some d') (c : ¬ d + e.2.2 < d') : ld g e = g := by
  unfold ld
  rw [h]
  simp only [h', if_neg c]
theorem DW.keep {n : Nat} {Z : Str → Nat → List Int → Prop} {H H' : Hp} {kvs : List (Key × V)} {g : Dist Str} {dl : Addr} (h : DW n Z H kvs g) (hd : ∃ q, H dl = some (.dK q)) (s : ∀ b o, b ≠ dl → H b = some o → H' b = some o) : DW n Z H' kvs g := by
  obtain ⟨q, hd⟩ := hd
  refine ⟨h.z, fun x d hx => ?_⟩
  obtain ⟨e, t, fs, h1, h2, h3, h4⟩ := h.s x d hx
  exact ⟨e, t, fs, h1, s _ _ (fun z => by rw [z, hd] at h2; cases h2) h2, s _ _ (fun z => by rw [z, hd] at h3; cases h3) h3, h4⟩
theorem DW.ext {n : Nat} {Z : Str → Nat → List Int → Prop} {H H' : Hp} {kvs : List (Key × V)} {g : Dist Str} (h : DW n Z H kvs g) (s : Same H H') : DW n Z H' kvs g := by
  refine ⟨h.z, fun x d hx => ?_⟩
  obtain ⟨e, t, fs, h1, h2, h3, h4⟩ := h.s x d hx
  exact ⟨e, t, fs, h1, s _ _ h2, s _ _ h3, h4⟩
theorem DW.imp {n : Nat} {Z Z' : Str → Nat → List Int → Prop} {H : Hp} {kvs : List (Key × V)} {g : Dist Str} (h : DW n Z H kvs g) (i : ∀ x d f, Z x d f → Z' x d f) : DW n Z' H kvs g :=
  ⟨h.z, fun x d hx => by obtain ⟨e, t, fs, h1, h2, h3, h4, h5⟩ := h.s x d hx; exact ⟨e, t, fs, h1, h2, h3, h4, i _ _ _ h5⟩⟩
theorem DW.put {n c : Nat} {Z : Str → Nat → List Int → Prop} {H : Hp} {kvs : List (Key × V)} {g : Dist Str} {b : Str} {e t : Addr} {fs : List Int} (h : DW n Z H kvs g) (h2 : H e = some (.tup [.int (c : Nat), .ref t])) (h3 : H t = some (.tup (fs.map V.int))) (h4 : fs.length = n) (h5 : Z b c fs) :
    DW n Z H (putK kvs (.inr b) (.ref e)) (fun x => if x = b then some c else g x) := by
  refine ⟨fun x hx => ?_, fun x d hx => ?_⟩
  · by_cases z : x = b
    · rw [if_pos z] at hx; cases hx
    · rw [if_neg z] at hx
      rw [valV_put, if_neg fun q => z (Sum.inr.inj q), h.z x hx]
  · by_cases z : x = b
    · rw [if_pos z] at hx
      obtain rfl := Option.some.inj hx
      exact ⟨e, t, fs, by rw [valV_put, if_pos (by rw [z])], h2, h3, h4, z ▸ h5⟩
    · rw [if_neg z] at hx
      obtain ⟨e', t', fs', h1, hh⟩ := h.s x d hx
      exact ⟨e', t', fs', by rw [valV_put, if_neg fun q => z (Sum.inr.inj q), h1], hh⟩
theorem DW.new {n : Nat} {Z : Str → Nat → List Int → Prop} {H : Hp} {b : Str} {e t : Addr} {fs : List Int} (h2 : H e = some (.tup [.int ((0 : Nat) : Int), .ref t])) (h3 : H t = some (.tup (fs.map V.int))) (h4 : fs.length = n) (h5 : Z b 0 fs) : DW n Z H (putK [] (.inr b) (.ref e)) (g0 b) := by
  have h : DW n Z H [] (fun _ => none) := ⟨fun _ _ => rfl, fun _ _ z => nomatch z⟩
  exact h.put h2 h3 h4 h5
theorem walk_zipT {K : PySem.W.Frag} {a b : Addr} {xs ys : List V} {n : Nat} (hn : n = min xs.length ys.length) : Walk (RZ.ItzT K a b) n (fun H => SqT K H a xs ∧ SqT K H b ys) (YPair (fun i => xs[i]?) (fun i => ys[i]?)) := by
  subst hn
  refine ⟨fun i _ hi q => ?_, fun _ q => ⟨xs, ys, q.1, q.2, by omega⟩, fun i H v H' _ q y => ?_⟩
  · have h1 : i < xs.length := by omega
    have h2 : i < ys.length := by omega
    exact ⟨xs, ys, xs[i], ys[i], q.1, q.2, by simp [h1], by simp [h2]⟩
  · obtain ⟨T, x, z, h1, h2, h3, h4, h5⟩ := y
    exact ⟨T, x, z, h1, h2, h3, h4 xs q.1, h5 ys q.2⟩
end RV
/-! flows of -1, 0 and 1, as the laws over scripts count them -/
namespace RV
open PySem L2 PyProof.Rows TL
def qst (M : Mod) (k : Nat) : Nat := (M.qs.getD k ("", 0, 0)).2.1
def qen (M : Mod) (k : Nat) : Nat := (M.qs.getD k ("", 0, 0)).2.2
def rwf (r : List Int) (k : Nat) : Int := r.getD k 0
/-- what stays at a place after j pipes -/
def stay (M : Mod) (r : List Int) (j x : Nat) : Int := dv j (qst M) (qen M) (rwf r) x
def keptB (M : Mod) (r : List Int) : Bool := (List.range M.pl.length).all fun x => decide (stay M r M.qs.length x = 0)
def stayL (M : Mod) (r : List Int) (j : Nat) : List V := (List.range M.pl.length).map fun x => .int (stay M r j x)
def sp_kept : Sp := fun vs H Q _ => ∃ (l a : Addr) (M : Mod) (most more : Nat) (r : List Int), vs = [.ref l, .ref a] ∧ MdAt H l M ∧ MdOk M most more ∧ most ≤ 12 ∧ H a = some (.lst (r.map V.int)) ∧ r.length = M.qs.length ∧ ∀ H', Same H H' → Q (.bl (keptB M r)) H'
def trit (c : Int) : Prop := c = 0 ∨ c = 1 ∨ c = -1
def sp_flows : Sp := fun vs H Q _ => ∃ (l : Addr) (M : Mod) (more : Nat), vs = [.ref l] ∧ MdAt H l M ∧ MdOk M 5 more ∧
  ∀ (a : Addr) (us : List (Addr × List Int)) H', Same H H' → H' a = some (.lst (rf us)) → (∀ u ∈ us, H' u.1 = some (.lst (u.2.map V.int))) → us.length ≤ 243 → H a = none → (∀ u ∈ us, H u.1 = none) → (∀ r, r ∈ sn us ↔ r.length = M.qs.length ∧ (∀ c ∈ r, trit c) ∧ keptB M r = true) → Q (.ref a) H'
abbrev FU := Addr × List Int
def FAt (H : Hp) (us : List FU) : Prop := ∀ u ∈ us, H u.1 = some (.lst (u.2.map V.int))
section
variable {K : PySem.W.Frag} {D : Addr} {i : Nat} {te : TE} {vs : List Nat} {σ : L2.St} {H1 : Hp} {Qd : Hp → Prop} {J : It} {GG : Hp → Prop}
end
end RV
/-! least counts over flows; lists of integers and None as data -/
namespace RV
open PySem L2 PyProof.Rows TL
def cntG (M : Mod) (r : List Int) : Nat := (M.gs.filter fun g => decide (rwf r g.2.1 ≠ 0)).length
def shutG (M : Mod) (r : List Int) : Bool := M.gs.any fun g => g.2.2 && decide (rwf r g.2.1 ≠ 0)
def condG (M : Mod) (p : Nat) (r : List Int) : Bool := decide (rwf r p = 1) && !shutG M r
def IsMin (L : List Nat) : Option Nat → Prop
  | none => L = []
  | some m => m ∈ L ∧ ∀ y ∈ L, m ≤ y
def dO : Option Nat → PyData
  | none => .none
  | some k => .int (k : Nat)
theorem dp_N {K : PySem.W.Frag} {H : Hp} : ∀ o : Option Nat, Dp K H (vN o) (dO o)
  | none => .non
  | some k => .int _
theorem dps_N {K : PySem.W.Frag} {H : Hp} : ∀ xs : List (Option Nat), DpAll K H (xs.map vN) (xs.map dO)
  | [] => .nil
  | x :: xs => .cons (dp_N x) (dps_N xs)
theorem shaped_N (xs : List (Option Nat)) : SeqAt.shaped (.list (xs.map dO)) = true := by
  have h1 : ∀ xs : List (Option Nat), PyData.canLayAll0 (xs.map dO) = true := by
    intro xs
    induction xs with
    | nil => simp [PyData.canLayAll0]
    | cons x xs ih => cases x <;> simp [PyData.canLayAll0, PyData.canLay0, dO, ih]
  have h2 : ∀ xs : List (Option Nat), PyData.depthAll (xs.map dO) = 0 := by
    intro xs
    induction xs with
    | nil => simp [PyData.depthAll]
    | cons x xs ih => cases x <;> simp [PyData.depthAll, PyData.depth, dO, ih]
  simp [SeqAt.shaped, PyData.canLay0, PyData.depth, h1 xs, h2]
theorem eqv_nilN (xs : List (Option Nat)) : PyData.eqv (.list (xs.map dO)) (.list []) = decide (xs = []) := by
  cases xs <;> simp [PyData.eqv, PyData.eqvAll]
def sp_lstr : Sp := fun vs H Q _ => ∃ (l a : Addr) (M : Mod) (more p : Nat) (us : List FU), vs = [.ref l, .ref a, .int (p : Nat)] ∧ MdAt H l M ∧ MdOk M 5 more ∧ more ≤ 12 ∧ H a = some (.lst (rf us)) ∧ FAt H us ∧ us.length ≤ 243 ∧ p < M.qs.length ∧ (∀ r ∈ sn us, r.length = M.qs.length) ∧
  ∀ (o : Option Nat) H', Same H H' → IsMin (((sn us).filter (condG M p)).map (cntG M)) o → Q (vN o) H'
end RV
/-! the strength by shortest ways is the least count over flows -/
namespace RV
open PySem L2 PyProof.Rows TL
def pN (ps : List P3) (k : Nat) : Str := (ps.getD k ("", "", "")).1
def pS (ps : List P3) (k : Nat) : Str := (ps.getD k ("", "", "")).2.1
def pE (ps : List P3) (k : Nat) : Str := (ps.getD k ("", "", "")).2.2
def shutP (ps : List P3) (ms : List M3) (k : Nat) : Prop := seP ms (pN ps k) ≠ []
theorem mem_lkF {n : Nat} {ms : List M3} {y : Str} {l : L4} : ∀ {s : Nat} {ps : List P3}, l ∈ lkF n ms y s ps ↔ ∃ i p, ps[i]? = some p ∧ l ∈ lks n ms y (s + i) p
  | s, [] => by simp [lkF]
  | s, q :: ps => by
    rw [lkF, List.mem_append, mem_lkF]
    constructor
    · rintro (h | ⟨i, p, h1, h2⟩)
      · exact ⟨0, q, rfl, h⟩
      · exact ⟨i + 1, p, by rw [List.getElem?_cons_succ]; exact h1, by rw [show s + (i + 1) = s + 1 + i by omega]; exact h2⟩
    · rintro ⟨i, p, h1, h2⟩
      cases i with
      | zero =>
        obtain rfl : q = p := by simpa using h1
        exact .inl h2
      | succ i => exact .inr ⟨i, p, by rw [List.getElem?_cons_succ] at h1; exact h1, by rw [show s + 1 + i = s + (i + 1) by omega]; exact h2⟩
theorem pN_at {ps : List P3} {k : Nat} {q : P3} (h : ps[k]? = some q) : pN ps k = q.1 ∧ pS ps k = q.2.1 ∧ pE ps k = q.2.2 := by
  simp [pN, pS, pE, List.getD, h]
theorem pN_inj {ps : List P3} (nd : (ps.map (·.1)).Nodup) {i j : Nat} (hi : i < ps.length) (hj : j < ps.length) (e : pN ps i = pN ps j) : i = j := by
  have h1 := pN_at (List.getElem?_eq_getElem hi)
  have h2 := pN_at (List.getElem?_eq_getElem hj)
  have e3 : (ps.map (·.1))[i]'(by simpa using hi) = (ps.map (·.1))[j]'(by simpa using hj) := by
    rw [List.getElem_map, List.getElem_map, ← h1.1, ← h2.1, e]
  exact nodup_get nd e3
theorem links_of {ps : List P3} {ms : List M3} {p : Nat} (nd : (ps.map (·.1)).Nodup) (hp : p < ps.length) : Links ((lkA ps ms (pN ps p)).map lk3) (pS ps) (pE ps) (fun k => wtP ms (pN ps k)) (okp ps.length (shutP ps ms) p) := by
  have inl : ∀ {i : Nat}, okp ps.length (shutP ps ms) p i → ∀ l ∈ [(pS ps i, pE ps i, wtP ms (pN ps i), un ps.length (some i) 1), (pE ps i, pS ps i, wtP ms (pN ps i), un ps.length (some i) (-1))], l ∈ lkA ps ms (pN ps p) := by
    rintro i ⟨hi, hne, hs⟩ l hl
    have hg := List.getElem?_eq_getElem hi
    obtain ⟨a, b, c⟩ := pN_at hg
    refine mem_lkF.mpr ⟨i, _, hg, ?_⟩
    rw [Nat.zero_add, lks, if_pos ⟨fun e => hne (pN_inj nd hi hp (by rw [a, e])), Decidable.not_not.mp (by rw [← a]; exact hs)⟩, ← a, ← b, ← c]
    exact hl
  refine ⟨fun e he => ?_, fun i o => ?_, fun i o => ?_⟩
  · obtain ⟨l, hl, rfl⟩ := List.mem_map.mp he
    obtain ⟨i, q, hq, hl⟩ := mem_lkF.mp hl
    obtain ⟨a, b, c⟩ := pN_at hq
    rw [Nat.zero_add, lks] at hl
    split at hl
    · rename_i hc
      have hi := (List.getElem?_eq_some_iff.mp hq).1
      refine ⟨i, ⟨hi, fun z => hc.1 (by rw [← a, z]), fun z => z (by rw [a]; exact hc.2)⟩, ?_⟩
      rw [a, b, c]
      rcases List.mem_cons.mp hl with rfl | hl
      · exact ⟨rfl, .inl ⟨rfl, rfl⟩⟩
      · obtain rfl := List.mem_singleton.mp hl
        exact ⟨rfl, .inr ⟨rfl, rfl⟩⟩
    · exact nomatch hl
  · exact List.mem_map.mpr ⟨_, inl o _ List.mem_cons_self, rfl⟩
  · exact List.mem_map.mpr ⟨_, inl o _ (List.mem_cons_of_mem _ List.mem_cons_self), rfl⟩
/-! ### models -/
section
variable {M : Mod} {most more : Nat}
abbrev RingM (M : Mod) (p : Nat) (f : Nat → Int) : Prop := Ring M.qs.length (pS M.ps) (pE M.ps) (shutP M.ps M.ms) p f
end
end RV
/-! a def called by keywords alone; lists of counts that are shown -/
namespace RV
open PySem L2 PyProof.Rows TL
def FnKd (P : Program) (w : World) (K : PySem.W.Frag) (mg : Str → Option Value) (base : Heap) (x : Str) (k : Nat) (ks : List Str) (sp : Sp) (gV : List V → List V → List V) : Prop :=
  ∃ f fd ps g, mg x = some (.ref f) ∧ PySem.W.keepIn K (.ref f) = true ∧ KBn K fd ps 0 ks g gV ∧ FnOk P w K mg base CX0 k f fd ps sp
def tCallK0 (n : Nat) (sp : Sp) (gV : List V → List V → List V) (tk : TA) : TE := fun σ H Q => tk σ H fun zs H2 => zs.length = n ∧ sp (gV [] zs) H2 Q E0
section
variable {X : Cx} {k : Nat} {x : Str} {ks : List Str} {sp : Sp} {gV : List V → List V → List V} {kws : List Keyword} {tk : TA} {p pos : Pos}
end
/-- f(pipe=y, net=x) -/
def gPN (vs zs : List V) : List V := match vs, zs with
  | [], [y, x] => [x, y]
  | _, _ => []
theorem short_none : Short .none := ⟨by simp [PyData.showable], by simp [PyData.depth], by simp only [PyData.shown]; decide +kernel⟩
def sp_right23 : Sp := fun vs H Q _ => ∃ (a : Addr) (n : Nat), vs = [.ref a] ∧ WellAt H a n ∧ n < 500000 ∧ ∀ H', Grow a H H' → Q (.bl true) H'
/-- what is due for each pipe -/
def dueL (M : Mod) : List (Option Nat) := (List.range M.qs.length).map fun k => strP M.ps M.ms (pN M.ps k)
theorem isMin_ex : ∀ L : List Nat, ∃ o, IsMin L o
  | [] => ⟨none, rfl⟩
  | x :: L => by
    obtain ⟨o, h⟩ := isMin_ex L
    cases o with
    | none =>
      rw [show L = [] from h]
      exact ⟨some x, List.mem_singleton.mpr rfl, fun y hy => by rw [List.mem_singleton.mp hy]; exact Nat.le_refl _⟩
    | some m =>
      obtain ⟨h1, h2⟩ := h
      by_cases c : x ≤ m
      · refine ⟨some x, List.mem_cons_self, fun y hy => ?_⟩
        rcases List.mem_cons.mp hy with rfl | hy
        · exact Nat.le_refl _
        · exact Nat.le_trans c (h2 y hy)
      · refine ⟨some m, List.mem_cons_of_mem _ h1, fun y hy => ?_⟩
        rcases List.mem_cons.mp hy with rfl | hy
        · omega
        · exact h2 y hy
end RV
/-! the law's own call, whatever its parameter is called -/
namespace RV
open PySem L2 PyProof.Rows
theorem walkGx (x : Str) (k : Nat) {l : PySem.W.OpenLaw} {q : Program} {loose : List Str} {XP : (Str → Option Value) → Heap → Prop} {YP : World → Heap → Prop} {d : DefRec} {K : Params → PySem.W.Frag} (hr : Room k callerA) (hn : l.most = some 63) (hdf : d.params.defaults = [])
    (hY : ∀ (w : World) (h : Heap), YP w h → (K w.params).In h)
    (F : ∀ (w : World) (mg : Str → Option Value) (fa : Addr) (h : Heap), (K w.params).In h → h.Ns mainGlobals mg → mg d.name = some (.ref fa) →
      ∃ fd : FuncData, (∀ (s : Shared) (u : Value), BindsTo s fd ⟨[u], []⟩ [(x, u)]) ∧ ∀ base : Heap, (K w.params).In base → base.Ns mainGlobals mg → FnG l.prog w (K w.params) mg base k fa fd [x] (spLaw (K w.params))) :
    PySem.W.WalkO q loose XP YP l.row.toRowW d [] (fun f vs => PySem.call f vs) := by
  refine Att.attach_call hn hdf fun w s₀ s₁ mg mb fa o pm cd doc a vs ns G Y ho hd hcd hmg hobj hints hlen hg => ?_
  obtain ⟨fd, hb, hF⟩ := F w mg fa _ (hY w _ Y) G.T.g hmg
  exact callG (hY w _ Y) G.T.g G.T.b G.T.builtins G.T.nolimit hg hobj hints (Nat.le_trans hlen (by decide)) hr hF hb fun H hS => ⟨a, ns, rfl, hS, hlen, fun _ => rfl⟩
end RV
/-! sum of a tuple, repr of a truth value; faults, can_tell -/
namespace RV
open PySem L2 PyProof.Rows TL
section
variable {X : Cx}
def rSumT (K : PySem.W.Frag) : List V → Hp → VK → Prop := fun vs H Q => ∃ (a : Addr) (ns : List Int), vs = [V.ref a] ∧ SqT K H a (ns.map V.int) ∧ Q (.int ns.sum) H
def rReprB : List V → Hp → VK → Prop := fun xs H Q => ∃ b, xs = [.bl b] ∧ Q (.str (if b then "True" else "False")) H
end
/-- faults -/
structure Flt (a b c : Int) : Prop where
  h0 : 0 ≤ a
  h1 : a ≤ b
  h2 : b ≤ 3
  h3 : 0 ≤ c
  h4 : c ≤ 3
def sp_isb : Sp := fun vs H Q _ => ∃ c : Int, vs = [.int c] ∧ 0 ≤ c ∧ c ≤ 3 ∧ Q (.bl true) H
def sp_arf (K : PySem.W.Frag) : Sp := fun vs H Q _ => ∃ (t : Addr) (a b c : Int), vs = [.ref t] ∧ SqT K H t [.int a, .int b, .int c] ∧ Flt a b c ∧ ∀ H', Same H H' → Q (.bl true) H'
def sp_chf (K : PySem.W.Frag) : Sp := fun vs H Q _ => ∃ (t : Addr) (a b c : Int), vs = [.ref t] ∧ SqT K H t [.int a, .int b, .int c] ∧ Flt a b c ∧ ∀ H', Same H H' → Q .non H'
def tellB : Option Nat → Int → Bool
  | none, _ => true
  | some m, s => decide (s < (m : Int))
def sp_tell (K : PySem.W.Frag) (CN CP CM : Addr) : Sp := fun vs H Q _ => ∃ (x t : Addr) (ps : List P3) (ms : List M3) (y : Str) (a b c : Int), vs = [.ref x, .str y, .ref t] ∧ NetR K CN CP CM H x ps ms ∧ POk ps ∧ ms.length ≤ 12 ∧ y ∈ ps.map (·.1) ∧ SqT K H t [.int a, .int b, .int c] ∧ Flt a b c ∧
  ∀ H', Same H H' → Q (.bl (tellB (strP ps ms y) (a + b + c))) H'
/-- drawn faults -/
def sp_faults : Sp := fun vs H Q _ => ∃ (w : Addr) (n : Nat), vs = [.ref w, .int 3] ∧ WellAt H w n ∧ n < 900000 ∧
  ∀ (t : Addr) (a b c : Int) H', Grow w H H' → WellAt H' w (n + 5) → H' t = some (.tup [.int a, .int b, .int c]) → t ≠ w → Flt a b c → Q (.ref t) H'
end RV
/-! the flow of a shortest way is one of -1, 0 and 1: a way that is no shorter is not taken, so no way comes to a place twice -/
namespace RV
section
set_option linter.unusedSectionVars false
variable {α : Type} [DecidableEq α] {n : Nat} {st en : Nat → α} {w : Nat → Nat} {ok : Nat → Prop} {u x : α} {g g' : Dist α} {d : Nat} {f : Nat → Int}
/-- a way without loops of this length and flow; each place on it is known by a way that is no longer -/
def GW (st en : Nat → α) (w : Nat → Nat) (ok : Nat → Prop) (u : α) (g : Dist α) (x : α) (d : Nat) (f : Nat → Int) : Prop :=
  ∃ l vs, Sw st en ok u x l vs ∧ wl w l = d ∧ (∀ k, f k = fl l k) ∧ ∀ y ∈ vs, ∃ d', g y = some d' ∧ d' ≤ d
end
end RV
set_option linter.all false
/-! sets of texts written as comprehensions, with any number of clauses: {x for a in .. for b in ..} -/
namespace RV
open PySem L2 PySem.Spec PyProof.Rows
/-- what is run in a turn behind a clause's tests: the next clause, or the member's being put -/
abbrev TB := L2.St → Hp → (Hp → Prop) → Prop
def HasB (X : Cx) (vs : List Nat) (m : Sem PySem.Fin → Sem PySem.Fin) (tb : TB) : Prop := ∀ (pins : List (Addr × Obj)) (s : Shared) (σ : L2.St) (H : Hp) (Q : Hp → Prop) (z : Sem PySem.Fin) (R : PySem.Fin → Shared → Prop), Inv X pins σ H s → tb σ H Q →
  (∀ σ' H' s', Inv X pins σ' H' s' → wipe σ' vs = wipe σ vs → Q H' → wpAny (model X.prog X.w) X.A z R (fun _ _ => False) s') → wpAny (model X.prog X.w) X.A (m z) R (fun _ _ => False) s
/-- how a clause's turn reads -/
def TurnIs (e tg : Expr) (k : Nat) (at0 : Pos) (ifs : List Expr) (acc : Value) (env : Env) (body : Sem PySem.Fin → Sem PySem.Fin) : Prop := ∀ it, compTurn e k it acc env = (do
  standAt at0
  match ← pyNext it with
  | none => pure (.done .next)
  | some v => do
    letOwnedTupleGo tg it v
    assign tg env v
    let ok ← forIn ifs true fun c ok => if ok = true then do let ok ← isTrue c env (eval c env); pure (ForInStep.yield ok) else pure (ForInStep.yield ok)
    if ok = true then body (again (.compLoop e k it acc env)) else again (.compLoop e k it acc env))
/-- all turns of a clause whose iterator J has come -/
def tCl (J : It) (g : TG) (tt : TT) (tb : TB) (vs : List Nat) : TB := fun σ H Q => ∃ W : Nat → Nat → Hp → Prop, (∃ m, W 0 m H) ∧ ∀ i m H, W i m H →
  (J.stop i H ∧ Q H) ∨ (J.go i H ∧ ∃ Nx : Hp → Prop, (∀ H', Nx H' → ∃ m', m' < m ∧ W (i + 1) m' H') ∧ ∀ x H', J.yld i H x H' → g x (wipe σ vs) H' fun σ2 H2 => wipe σ2 vs = wipe σ vs ∧ tt σ2 H2 fun b H3 => if b = true then tb σ2 H3 Nx else Nx H3)
section
variable {X : Cx}
/-- the next clause -/
def tNx (wi : TI) (g : TG) (tt : TT) (tb : TB) (ws : List Nat) : TB := fun σ H Q => wi σ H fun J H1 => tCl J g tt tb ws σ H1 Q
/-- a member is put -/
def tPutS (P : Program) (w : World) (D : Addr) (te : TE) : TB := fun σ H Q => te σ H fun y H1 => ∃ (z : Str) (S : Str → Bool) (n : Nat), y = .str z ∧ H1 D = some (SetT P w D S n) ∧ n + 1 < 4000 ∧ ∀ n', n' ≤ n + 1 → Q (upd H1 D (SetT P w D (fun j => S j || decide (j = z)) n'))
end
end RV
set_option linter.all false
/-! {x for a in .. if .. for b in .. ..}: the whole comprehension -/
namespace RV
open PySem L2 PySem.Spec PyProof.Rows
def BlkOf (X X' : Cx) (scope : Scope) : Prop := ∃ (s : Shared) (H : Hp) (C : Addr) (cl : List (Str × Addr)) (fp : List Addr), X' = X.blk s H scope (compEnvC scope cl C X.env) fp
section
variable {X : Cx}
def tSet (P : Program) (w : World) (wi : TI) (g : TG) (tt : TT) (tb : Addr → TB) (vs : List Nat) : TE := fun σ H Q => wi σ H fun J H1 => ∀ D, H1 D = none → tCl J g tt (tb D) vs σ (upd H1 D (SetT P w D (fun _ => false) 0)) fun H' => Q (.ref D) H'
end
end RV
set_option linter.all false
/-! {x for a in .. for b in ..} with two clauses and with three, the members texts -/
namespace RV
open PySem L2 PySem.Spec PyProof.Rows
section
variable {X : Cx}
end
section
variable {X : Cx} {K : PySem.W.Frag}
end
/-- everything but the object at d stays -/
def Sb (d : Addr) (H H' : Hp) : Prop := ∀ b o, b ≠ d → H b = some o → H' b = some o
/-- places -/
def pls (ps : List P3) : List Str := ps.flatMap fun p => [p.2.1, p.2.2]
def SortP (xs : List Str) (zs : List Str) : Prop := sortedS zs = true ∧ zs.Nodup ∧ ∀ z, z ∈ zs ↔ z ∈ xs
def sp_plc (K : PySem.W.Frag) (CN CP CM : Addr) : Sp := fun vs H Q _ => ∃ (x : Addr) (ps : List P3) (ms : List M3), vs = [.ref x] ∧ NetR K CN CP CM H x ps ms ∧ ps.length ≤ 12 ∧
  ∀ (t : Addr) (zs : List Str) H', Same H H' → H' t = some (.tup (zs.map V.str)) → SortP (pls ps) zs → zs.length ≤ 24 → Q (.ref t) H'
end RV
set_option linter.all false
/-! comprehensions over pairs of two tuples; flows at places -/
namespace RV
open PySem L2 PySem.Spec PyProof.Rows TL
section
variable {K : PySem.W.Frag} {a b : Addr} {xs ys : List V} {D : Addr} {te : TE} {tt : TT} {vs : List Nat} {σ : L2.St} {H1 : Hp} {Qd : Hp → Prop} {i j : Nat}
end
/-- what comes in less what goes out -/
def dvP (ps : List P3) (fs : List Int) (z : Str) : Int := dv ps.length (pS ps) (pE ps) (rwf fs) z
def sumAt (g : Nat → Str) (n : Nat) (fs : List Int) (z : Str) : List Int := ((List.range n).filter fun k => decide (g k = z)).map (rwf fs)
def flwB (ps : List P3) (fs : List Int) : Bool := decide (fs.length = ps.length) && (pls ps).all fun z => decide (dvP ps fs z = 0)
section
variable (K : PySem.W.Frag) (CN CP CM : Addr)
def sp_kat : Sp := fun vs H Q _ => ∃ (x t : Addr) (ps : List P3) (ms : List M3) (fs : List Int) (z : Str), vs = [.ref x, .ref t, .str z] ∧ NetR K CN CP CM H x ps ms ∧ ps.length ≤ 12 ∧ SqT K H t (fs.map V.int) ∧ fs.length = ps.length ∧ ∀ H', Same H H' → Q (.int (dvP ps fs z)) H'
def sp_isf : Sp := fun vs H Q _ => ∃ (x t : Addr) (ps : List P3) (ms : List M3) (fs : List Int), vs = [.ref x, .ref t] ∧ NetR K CN CP CM H x ps ms ∧ ps.length ≤ 12 ∧ SqT K H t (fs.map V.int) ∧ fs.length ≤ 1000 ∧ ∀ H', Same H H' → Q (.bl (flwB ps fs)) H'
/-- a ring through a pipe with so many meters -/
structure RingF (ps : List P3) (ms : List M3) (y : Str) (c : Nat) (fs : List Int) : Prop where
  len : fs.length = ps.length
  ring : ∃ p, p < ps.length ∧ pN ps p = y ∧ Ring ps.length (pS ps) (pE ps) (shutP ps ms) p (rwf fs) ∧ cnt ps.length (fun k => wtP ms (pN ps k)) (rwf fs) = c
def sp_ring : Sp := fun vs H Q _ => ∃ (x : Addr) (ps : List P3) (ms : List M3) (y : Str), vs = [.ref x, .str y] ∧ NetR K CN CP CM H x ps ms ∧ POk ps ∧ ms.length ≤ 12 ∧ y ∈ ps.map (·.1) ∧
  (strP ps ms y = none → ∀ H', Same H H' → Q .non H') ∧ ∀ c (t : Addr) fs H', strP ps ms y = some c → Same H H' → SqT K H' t (fs.map V.int) → RingF ps ms y c fs → Q (.ref t) H'
end
end RV
set_option linter.all false
/-! what the found ways are: rings without loops -/
namespace RV
open PySem L2 PyProof.Rows TL
def ZG (ps : List P3) (ms : List M3) (p : Nat) : Dist Str → Str → Nat → List Int → Prop := fun g x d fs => GW (pS ps) (pE ps) (fun k => wtP ms (pN ps k)) (okp ps.length (shutP ps ms) p) (pE ps p) g x d (rwf fs)
/-- the flow with 1 at a pipe -/
def ringL (ps : List P3) (y : Str) (fs : List Int) : List Int := (List.range ps.length).map fun k => if pN ps k = y then 1 else rwf fs k
end RV
set_option linter.all false
/-! rings of models -/
namespace RV
open PySem L2 PyProof.Rows TL
def sp_rr (K : PySem.W.Frag) (CN CP CM : Addr) : Sp := fun vs H Q _ => ∃ (l x : Addr) (M : Mod) (most more p : Nat), vs = [.ref l, .ref x, .int (p : Nat)] ∧ MdAt H l M ∧ MdOk M most more ∧ most ≤ 12 ∧ more ≤ 12 ∧ NetR K CN CP CM H x M.ps M.ms ∧ p < M.qs.length ∧ ∀ H', Same H H' → Q (.bl true) H'
end RV
set_option linter.all false
/-! for x, y, z in zip(a, b, c): three tuples -/
namespace RV
open PySem L2 PySem.Spec PyProof.Rows TL
/-- the tuples at a, b, c as they stand; the items in new tuples -/
def Itz3 (K : PySem.W.Frag) (a b c : Addr) : It :=
  ⟨fun i H => ∃ (xs ys zs : List V) (x y z : V), SqT K H a xs ∧ SqT K H b ys ∧ SqT K H c zs ∧ xs[i]? = some x ∧ ys[i]? = some y ∧ zs[i]? = some z,
    fun i H v H' => ∃ T x y z, v = .ref T ∧ H T = none ∧ H' = upd H T (.tup [x, y, z]) ∧ (∀ xs, SqT K H a xs → xs[i]? = some x) ∧ (∀ ys, SqT K H b ys → ys[i]? = some y) ∧ ∀ zs, SqT K H c zs → zs[i]? = some z,
    fun i H => ∃ xs ys zs : List V, SqT K H a xs ∧ SqT K H b ys ∧ SqT K H c zs ∧ xs.length = i ∧ ys.length = i ∧ zs.length = i⟩
def iZip3 (K : PySem.W.Frag) (ta : TA) : TI := fun σ H R => ta σ H fun vs H1 => ∃ a b c xs ys zs, vs = [.ref a, .ref b, .ref c] ∧ SqT K H1 a xs ∧ SqT K H1 b ys ∧ SqT K H1 c zs ∧ R (Itz3 K a b c) H1
def YTri (xs ys zs : Nat → Option V) : Nat → Hp → V → Hp → Prop := fun i H v H' => ∃ T x y z, v = .ref T ∧ H T = none ∧ H' = upd H T (.tup [x, y, z]) ∧ xs i = some x ∧ ys i = some y ∧ zs i = some z
end RV
set_option linter.all false
/-! worlds: readings, wrong and silent meters -/
namespace RV
open PySem L2 PySem.Spec PyProof.Rows TL
section
variable {J : It} {n : Nat} {GG : Hp → Prop} {Y : Nat → Hp → V → Hp → Prop} {g : TG} {tt : TT} {tk tv : TE} {vs : List Nat} {σ : L2.St} {H1 : Hp} {D : Addr} {Qd : Hp → Prop}
end
abbrev gTri (K : PySem.W.Frag) (i j l : Nat) : TG := gTup K 3 (gCons (gName i) (gCons (gName j) (gCons (gName l) gNil)))
section
variable {K : PySem.W.Frag} {a b c : Addr} {xs ys zs : List V} {D : Addr} {te : TE} {tt : TT} {vs : List Nat} {σ : L2.St} {H1 : Hp} {Qd : Hp → Prop} {i j l : Nat}
abbrev s3 (σ : L2.St) (i j l : Nat) (x y z : V) : L2.St := ((σ.set i (some x)).set j (some y)).set l (some z)
end
/-! ### readings -/
def vO : Option Int → V
  | none => .non
  | some c => .int c
def vR (rs : List (Option Int)) : List V := rs.map vO
def mN (ms : List M3) (k : Nat) : Str := (ms.getD k ("", "", false)).1
def mA (ms : List M3) (k : Nat) : Str := (ms.getD k ("", "", false)).2.1
def mZ (ms : List M3) (k : Nat) : Bool := (ms.getD k ("", "", false)).2.2
def rO (rs : List (Option Int)) (k : Nat) : Option Int := rs.getD k none
/-- the flow of the pipe of this name -/
def amt (ps : List P3) (fs : List Int) (y : Str) : Int := match ps.findIdx? fun p => decide (p.1 = y) with
  | some k => rwf fs k
  | none => 0
def rdF (ps : List P3) (ms : List M3) (fs : List Int) : List Int := ms.map fun m => amt ps fs m.2.1
structure RdOk (ms : List M3) (rs : List (Option Int)) : Prop where
  len : rs.length = ms.length
  sea : ∀ k, k < ms.length → mZ ms k = true → rO rs k ≠ none
structure WdOk (ps : List P3) (ms : List M3) (fs : List Int) (rs : List (Option Int)) : Prop where
  fl : fs.length = ps.length
  fw : flwB ps fs = true
  rd : RdOk ms rs
  sea : ∀ k, k < ms.length → mZ ms k = true → rO rs k = some (amt ps fs (mA ms k))
def wrB (ps : List P3) (ms : List M3) (fs : List Int) (rs : List (Option Int)) (k : Nat) : Bool := match rO rs k with
  | some v => decide (v ≠ amt ps fs (mA ms k))
  | none => false
def wrN (ps : List P3) (ms : List M3) (fs : List Int) (rs : List (Option Int)) : List Str := ((List.range ms.length).filter (wrB ps ms fs rs)).map (mN ms)
def slN (ms : List M3) (rs : List (Option Int)) : List Str := ((List.range ms.length).filter fun k => (rO rs k).isNone).map (mN ms)
def Asc (xs zs : List Str) : Prop := PyProof.Rows.sortedS zs = true ∧ zs.Perm xs
section
variable (K : PySem.W.Frag) (CN CP CM : Addr)
/-- a pair of a flow and readings -/
def WAt (H : Hp) (a : Addr) (fs : List Int) (rs : List (Option Int)) : Prop := ∃ tf tr, SqT K H a [.ref tf, .ref tr] ∧ SqT K H tf (fs.map V.int) ∧ SqT K H tr (vR rs)
def sp_rof : Sp := fun vs H Q _ => ∃ (x t : Addr) (ps : List P3) (ms : List M3) (fs : List Int), vs = [.ref x, .ref t] ∧ NetR K CN CP CM H x ps ms ∧ POk ps ∧ MOk ps ms ∧ SqT K H t (fs.map V.int) ∧ fs.length = ps.length ∧ flwB ps fs = true ∧
  ∀ (r : Addr) H', Same H H' → H' r = some (.tup ((rdF ps ms fs).map V.int)) → Q (.ref r) H'
def sp_isr : Sp := fun vs H Q _ => ∃ (a : Addr) (m : M3) (o : Option Int), vs = [.ref a, vO o] ∧ MetAt CM H a m ∧ Q (.bl (o.isSome || !m.2.2)) H
def sp_chr : Sp := fun vs H Q _ => ∃ (x t : Addr) (ps : List P3) (ms : List M3) (rs : List (Option Int)), vs = [.ref x, .ref t] ∧ NetR K CN CP CM H x ps ms ∧ ms.length ≤ 12 ∧ SqT K H t (vR rs) ∧ RdOk ms rs ∧ ∀ H', Same H H' → Q .non H'
def sp_are : Sp := fun vs H Q _ => ∃ (x t : Addr) (ps : List P3) (ms : List M3) (rs : List (Option Int)), vs = [.ref x, .ref t] ∧ NetR K CN CP CM H x ps ms ∧ ms.length ≤ 12 ∧ SqT K H t (vR rs) ∧ RdOk ms rs ∧ ∀ H', Same H H' → Q (.bl true) H'
def sp_seal : Sp := fun vs H Q _ => ∃ (x t r : Addr) (ps : List P3) (ms : List M3) (fs : List Int) (rs : List (Option Int)), vs = [.ref x, .ref t, .ref r] ∧ NetR K CN CP CM H x ps ms ∧ POk ps ∧ MOk ps ms ∧ SqT K H t (fs.map V.int) ∧ SqT K H r (vR rs) ∧ WdOk ps ms fs rs ∧ ∀ H', Same H H' → Q (.bl true) H'
def sp_isw : Sp := fun vs H Q _ => ∃ (x a : Addr) (ps : List P3) (ms : List M3) (fs : List Int) (rs : List (Option Int)), vs = [.ref x, .ref a] ∧ NetR K CN CP CM H x ps ms ∧ POk ps ∧ MOk ps ms ∧ WAt K H a fs rs ∧ WdOk ps ms fs rs ∧ ∀ H', Same H H' → Q (.bl true) H'
def sp_chw : Sp := fun vs H Q _ => ∃ (x a : Addr) (ps : List P3) (ms : List M3) (fs : List Int) (rs : List (Option Int)), vs = [.ref x, .ref a] ∧ NetR K CN CP CM H x ps ms ∧ POk ps ∧ MOk ps ms ∧ WAt K H a fs rs ∧ WdOk ps ms fs rs ∧ ∀ H', Same H H' → Q .non H'
def sp_sln : Sp := fun vs H Q _ => ∃ (x t : Addr) (ps : List P3) (ms : List M3) (rs : List (Option Int)), vs = [.ref x, .ref t] ∧ NetR K CN CP CM H x ps ms ∧ ms.length ≤ 12 ∧ SqT K H t (vR rs) ∧ rs.length = ms.length ∧
  ∀ (l : Addr) H', Same H H' → H l = none → H' l = some (.lst ((slN ms rs).map V.str)) → Q (.ref l) H'
def sp_wrm : Sp := fun vs H Q _ => ∃ (x a : Addr) (ps : List P3) (ms : List M3) (fs : List Int) (rs : List (Option Int)), vs = [.ref x, .ref a] ∧ NetR K CN CP CM H x ps ms ∧ POk ps ∧ MOk ps ms ∧ WAt K H a fs rs ∧ WdOk ps ms fs rs ∧
  ∀ (t : Addr) (zs : List Str) H', Same H H' → SqT K H' t (zs.map V.str) → Asc (wrN ps ms fs rs) zs → Q (.ref t) H'
def sp_slm : Sp := fun vs H Q _ => ∃ (x a : Addr) (ps : List P3) (ms : List M3) (fs : List Int) (rs : List (Option Int)), vs = [.ref x, .ref a] ∧ NetR K CN CP CM H x ps ms ∧ POk ps ∧ MOk ps ms ∧ WAt K H a fs rs ∧ WdOk ps ms fs rs ∧
  ∀ (t : Addr) (zs : List Str) H', Same H H' → SqT K H' t (zs.map V.str) → Asc (slN ms rs) zs → Q (.ref t) H'
end
end RV
set_option linter.all false
/-! two worlds with the same readings -/
namespace RV
open PySem L2 PySem.Spec PyProof.Rows TL
/-- what is seen in the world without flow and in the one with a ring -/
def seen (a c : Int) : Int → List Int → List (Option Int)
  | _, [] => []
  | met, v :: vs => if v = 0 then some 0 :: seen a c met vs else (if met < a then some v else if met < a + c then none else some 0) :: seen a c (met + 1) vs
def met (m : Int) : List Int → Int
  | [] => m
  | v :: vs => if v = 0 then met m vs else met (m + 1) vs
def isW1 (o : Option Int) : Bool := match o with
  | some r => decide (r ≠ 0)
  | none => false
def isW2 (q : Int × Option Int) : Bool := match q.2 with
  | some r => decide (r ≠ q.1)
  | none => false
def nz (vs : List Int) : Nat := (vs.filter fun v => decide (v ≠ 0)).length
section
variable (K : PySem.W.Frag) (CN CP CM : Addr)
def sp_seen : Sp := fun vs H Q _ => ∃ (x t f : Addr) (ps : List P3) (ms : List M3) (fs : List Int) (a b c : Int), vs = [.ref x, .ref t, .ref f] ∧ NetR K CN CP CM H x ps ms ∧ POk ps ∧ MOk ps ms ∧ SqT K H t (fs.map V.int) ∧ fs.length = ps.length ∧ flwB ps fs = true ∧ SqT K H f [.int a, .int b, .int c] ∧
  ∀ (r : Addr) H', Same H H' → SqT K H' r (vR (seen a c 0 (rdF ps ms fs))) → Q (.ref r) H'
/-- two worlds with the same readings -/
def MisAt (H : Hp) (t : Addr) (n : Nat) (fs : List Int) (rs : List (Option Int)) : Prop := ∃ u v tf tg tr, SqT K H t [.ref u, .ref v] ∧ SqT K H u [.ref tf, .ref tr] ∧ SqT K H v [.ref tg, .ref tr] ∧ SqT K H tf ((List.replicate n (0 : Int)).map V.int) ∧ SqT K H tg (fs.map V.int) ∧ SqT K H tr (vR rs)
def sp_misl : Sp := fun vs H Q _ => ∃ (x t : Addr) (ps : List P3) (ms : List M3) (y : Str) (a b c : Int), vs = [.ref x, .str y, .ref t] ∧ NetR K CN CP CM H x ps ms ∧ POk ps ∧ MOk ps ms ∧ y ∈ ps.map (·.1) ∧ SqT K H t [.int a, .int b, .int c] ∧ Flt a b c ∧
  (tellB (strP ps ms y) (a + b + c) = true → ∀ H', Same H H' → Q .non H') ∧
  ∀ (n : Nat) (r : Addr) fs H', strP ps ms y = some n → (n : Int) ≤ a + b + c → RingF ps ms y n fs → Same H H' → MisAt K H' r ps.length fs (seen a c 0 (rdF ps ms fs)) → Q (.ref r) H'
end
end RV
set_option linter.all false
/-! lists of indexes; worlds of models -/
namespace RV
open PySem L2 PySem.Spec PyProof.Rows TL
def vI (k : Nat) : V := .int (k : Int)
section
variable {K : PySem.W.Frag} {D : Addr} {te : TE} {tt : TT} {vs : List Nat} {σ : L2.St} {H1 : Hp} {Qd : Hp → Prop} {i : Nat} {J : It} {GG : Hp → Prop}
theorem lc_idx (L : List Nat) (p : Nat → Bool) (val : Nat → V) (wk : Walk J (L.map vI).length GG (YAt (L.map vI))) (nD : H1 D = none) (len : L.length ≤ 1000) (hG : ∀ H', Same H1 H' → GG H') (hw : ∀ x, wipe ((wipe σ vs).set i x) vs = wipe σ vs)
    (ht : ∀ k ∈ L, ∀ H2, Same H1 H2 → ∀ R : Bool → Hp → Prop, (∀ H3, Same H2 H3 → R (p k) H3) → tt ((wipe σ vs).set i (some (vI k))) H2 R)
    (he : ∀ k ∈ L, p k = true → ∀ H2, Same H1 H2 → ∀ R : VK, (∀ H3, Same H2 H3 → R (val k) H3) → te ((wipe σ vs).set i (some (vI k))) H2 R)
    (k : ∀ H', Same H1 H' → H' D = some (.lst ((L.filter p).map val)) → Qd H') :
    ∃ W : Nat → Nat → Hp → Prop, (∃ m, W 0 m (upd H1 D (.lst []))) ∧ ∀ i' m H, W i' m H →
      (J.stop i' H ∧ Qd H) ∨ (J.go i' H ∧ ∃ Nx : Hp → Prop, (∀ H', Nx H' → ∃ m', m' < m ∧ W (i' + 1) m' H') ∧ ∀ x H', J.yld i' H x H' → gName i x (wipe σ vs) H' fun σ2 H2 => wipe σ2 vs = wipe σ vs ∧ tt σ2 H2 fun b H3 =>
        if b = true then te σ2 H3 fun y H4 => ∃ acc, H4 D = some (.lst acc) ∧ acc.length < sizeLine ∧ Nx (upd H4 D (.lst (acc ++ [y]))) else Nx H3) := by
  refine L2.lc_it wk (fun m H' => Same H1 H' ∧ H' D = some (.lst (((L.take m).filter p).map val))) ⟨fun b o e => (upd_ne (ne_of_none e nD)).trans e, upd_same⟩ (fun m H' _ z => hG _ z.1) (fun m x Ha Hb hm hv y => ?_) (fun H' hv => ?_)
  · obtain ⟨s, eD⟩ := hv
    obtain ⟨rfl, hx⟩ := y
    rw [List.getElem?_map] at hx
    cases hu : L[m]? with
    | none => rw [hu] at hx; cases hx
    | some u =>
      rw [hu] at hx
      obtain rfl : vI u = x := Option.some.inj hx
      have hmem := List.mem_of_getElem? hu
      have et : L.take (m + 1) = L.take m ++ [u] := by rw [List.take_add_one, hu]; rfl
      refine ⟨hw _, ht u hmem Hb s _ fun H3 s3 => ?_⟩
      have eD3 := s3 _ _ eD
      have sH : Same H1 H3 := s.trans s3
      cases hp : p u with
      | false =>
        refine iteF ⟨sH, ?_⟩
        rw [eD3, et, List.filter_append, List.filter_cons_of_neg (by rw [hp]; decide), List.filter_nil, List.append_nil]
      | true =>
        refine iteT (he u hmem hp H3 sH _ fun H4 s4 => ⟨_, s4 _ _ eD3, ?_, fun b o e => ?_, ?_⟩)
        · rw [List.length_map]
          have l1 := List.length_filter_le p (L.take m)
          have l2 := List.length_take_le' m L
          exact Nat.lt_of_le_of_lt (Nat.le_trans l1 (Nat.le_trans l2 len)) (by decide)
        · rw [upd_ne (ne_of_none e nD)]
          exact s4 _ _ (sH _ _ e)
        · rw [upd_same, et, List.filter_append, List.filter_cons_of_pos hp, List.filter_nil, List.map_append]
          rfl
  · obtain ⟨s, eD⟩ := hv
    rw [List.length_map, List.take_length] at eD
    exact k H' s eD
end
theorem walk_rgi {n : Nat} : Walk (Itr 0 n) ((List.range n).map vI).length (fun _ => True) (YAt ((List.range n).map vI)) := walk_rgL
def sp_lw (K : PySem.W.Frag) : Sp := fun vs H Q _ => ∃ (l a : Addr) (M : Mod) (most more : Nat) (fs : List Int) (rs : List (Option Int)), vs = [.ref l, .ref a] ∧ MdAt H l M ∧ MdOk M most more ∧ most ≤ 12 ∧ more ≤ 12 ∧ WAt K H a fs rs ∧ WdOk M.ps M.ms fs rs ∧ (∀ c ∈ rs, True) ∧
  ∀ (r lw lm : Addr) H', Same H H' → H' r = some (.lst [.ref lw, .ref lm]) → H' lw = some (.lst (((List.range M.ms.length).filter (wrB M.ps M.ms fs rs)).map vI)) → H' lm = some (.lst (((List.range M.ms.length).filter fun k => (rO rs k).isNone).map vI)) → Q (.ref r) H'
end RV
/-! Ways side by side from one place to another: the strength of each pipe. -/
namespace RV
section
variable {α : Type} [DecidableEq α]
/-- how far a road's first t pipes lead -/
def upto (w : Nat → Nat) (kk : Nat → Nat → Nat) (j t : Nat) : Nat := ((List.range t).map fun s => w (kk j s)).sum
theorem upto_zero (w : Nat → Nat) (kk : Nat → Nat → Nat) (j : Nat) : upto w kk j 0 = 0 := rfl
theorem upto_succ (w : Nat → Nat) (kk : Nat → Nat → Nat) (j t : Nat) : upto w kk j (t + 1) = upto w kk j t + w (kk j t) := by
  rw [upto, List.range_succ, List.map_append, List.sum_append]
  simp [upto]
theorem upto_mono (w : Nat → Nat) (kk : Nat → Nat → Nat) (j : Nat) {s t : Nat} (h : s ≤ t) : upto w kk j s ≤ upto w kk j t := by
  induction t with
  | zero => obtain rfl : s = 0 := by omega
            exact Nat.le_refl _
  | succ t ih =>
    rw [upto_succ]
    rcases Nat.lt_or_ge s (t + 1) with l | g
    · have := ih (by omega)
      omega
    · obtain rfl : s = t + 1 := by omega
      rw [upto_succ]
      exact Nat.le_refl _
/-- R roads from x to y: road j's pipe number t is kk j t and joins the places nd j t and nd j (t + 1) -/
structure Roads (n : Nat) (st en : Nat → α) (R : Nat) (len : Nat → Nat) (kk : Nat → Nat → Nat) (nd : Nat → Nat → α) (x y : α) : Prop where
  pos : ∀ j, j < R → 0 < len j
  fst : ∀ j, j < R → nd j 0 = x
  lst : ∀ j, j < R → nd j (len j) = y
  lt : ∀ j t, j < R → t < len j → kk j t < n
  ends : ∀ j t, j < R → t < len j → (st (kk j t) = nd j t ∧ en (kk j t) = nd j (t + 1)) ∨ (st (kk j t) = nd j (t + 1) ∧ en (kk j t) = nd j t)
  all : ∀ k, k < n → ∃ j t, j < R ∧ t < len j ∧ kk j t = k
  inj : ∀ j t j' t', j < R → t < len j → j' < R → t' < len j' → kk j t = kk j' t' → j = j' ∧ t = t'
  ne : x ≠ y
  dc : ∃ dc : α → Nat × Nat, ∀ j t, j < R → 0 < t → t < len j → dc (nd j t) = (j, t) ∧ nd j t ≠ x ∧ nd j t ≠ y
variable {n : Nat} {st en : Nat → α} {R : Nat} {len : Nat → Nat} {kk : Nat → Nat → Nat} {nd : Nat → Nat → α} {x y u v : α} {ok : Nat → Prop} {w : Nat → Nat} {l : List (Nat × Bool)}
/-- a height that no pipe of a walk climbs faster than its weight -/
theorem Wk.high (h : Wk st en ok u v l) (f : α → Int) (hf : ∀ k, ok k → f (st k) - f (en k) ≤ w k ∧ f (en k) - f (st k) ≤ w k) : f v - f u ≤ wl w l ∧ f u - f v ≤ wl w l := by
  induction h with
  | nil => simp [wl]
  | fwd _ o ih =>
    rw [wl_cons]
    have := hf _ o
    dsimp only at ih ⊢
    omega
  | bwd _ o ih =>
    rw [wl_cons]
    have := hf _ o
    dsimp only at ih ⊢
    omega
/-- a walk from one end of a pipe of road i to the other without that pipe goes through the rest of the road and through another one -/
theorem Roads.low (D : Roads n st en R len kk nd x y) {i q : Nat} (hi : i < R) (hq : q < len i) {m : Nat} (hm : ∀ j, j < R → j ≠ i → m ≤ upto w kk j (len j)) (hok : ∀ k, ok k → k < n ∧ k ≠ kk i q)
    (h : Wk st en ok (en (kk i q)) (st (kk i q)) l) : upto w kk i (len i) + m ≤ wl w l + w (kk i q) := by
  obtain ⟨dc, hdc⟩ := D.dc
  obtain ⟨A, hA⟩ : ∃ A : Int, A = (upto w kk i (len i) : Int) - upto w kk i (q + 1) := ⟨_, rfl⟩
  obtain ⟨ps, hps⟩ : ∃ ps : Nat → Nat → Int, ps = fun j t => if j = i then (if t ≤ q then A + m + upto w kk i t else (upto w kk i t : Int) - upto w kk i (q + 1)) else (if (upto w kk j (len j) : Int) - upto w kk j t ≤ m then A + ((upto w kk j (len j) : Int) - upto w kk j t) else A + m) := ⟨_, rfl⟩
  obtain ⟨f, hf⟩ : ∃ f : α → Int, f = fun a => if a = x then A + m else if a = y then A else ps (dc a).1 (dc a).2 := ⟨_, rfl⟩
  have p0 : ∀ j, j < R → ps j 0 = A + m := fun j hj => by
    have z1 := upto_zero w kk j
    have z2 := upto_zero w kk i
    rw [hps]
    dsimp only
    by_cases e : j = i
    · rw [if_pos e, if_pos (Nat.zero_le _)]
      omega
    · rw [if_neg e]
      have := hm j hj e
      split <;> omega
  have pl : ∀ j, j < R → ps j (len j) = A := fun j hj => by
    rw [hps]
    dsimp only
    by_cases e : j = i
    · subst e
      rw [if_pos rfl, if_neg (by omega)]
      omega
    · rw [if_neg e, if_pos (by omega)]
      omega
  have fn : ∀ j t, j < R → t ≤ len j → f (nd j t) = ps j t := fun j t hj ht => by
    rcases Nat.eq_zero_or_pos t with rfl | tp
    · rw [D.fst j hj, p0 j hj, hf]
      dsimp only
      rw [if_pos rfl]
    · rcases Nat.lt_or_ge t (len j) with tl | tg
      · obtain ⟨a, b, c⟩ := hdc j t hj tp tl
        rw [hf]
        dsimp only
        rw [if_neg b, if_neg c, a]
      · obtain rfl : t = len j := by omega
        rw [D.lst j hj, pl j hj, hf]
        dsimp only
        rw [if_neg (fun e => D.ne e.symm), if_pos rfl]
  have st1 : ∀ j t, j < R → t < len j → ¬ (j = i ∧ t = q) → ps j t - ps j (t + 1) ≤ w (kk j t) ∧ ps j (t + 1) - ps j t ≤ w (kk j t) := fun j t hj ht ne => by
    rw [hps]
    dsimp only
    by_cases e : j = i
    · subst e
      rw [if_pos rfl, if_pos rfl, upto_succ w kk j t]
      rcases Nat.lt_trichotomy t q with a | a | a
      · rw [if_pos (by omega), if_pos (by omega)]
        omega
      · exact absurd ⟨rfl, a⟩ ne
      · rw [if_neg (by omega), if_neg (by omega)]
        omega
    · rw [if_neg e, if_neg e, upto_succ w kk j t]
      split <;> split <;> omega
  have stp : ∀ k, ok k → f (st k) - f (en k) ≤ w k ∧ f (en k) - f (st k) ≤ w k := fun k o => by
    obtain ⟨o1, o2⟩ := hok k o
    obtain ⟨j, t, hj, ht, rfl⟩ := D.all k o1
    have z := st1 j t hj ht fun ⟨a, b⟩ => o2 (by rw [a, b])
    rcases D.ends j t hj ht with ⟨a, b⟩ | ⟨a, b⟩
    · rw [a, b, fn j t hj (by omega), fn j (t + 1) hj (by omega)]
      exact z
    · rw [a, b, fn j t hj (by omega), fn j (t + 1) hj (by omega)]
      exact ⟨z.2, z.1⟩
  have hh := h.high f stp
  have e1 : ps i q = A + m + upto w kk i q := by
    rw [hps]
    dsimp only
    rw [if_pos rfl, if_pos (Nat.le_refl _)]
  have e2 : ps i (q + 1) = 0 := by
    rw [hps]
    dsimp only
    rw [if_pos rfl, if_neg (by omega)]
    omega
  have us := upto_succ w kk i q
  rcases D.ends i q hi hq with ⟨a, b⟩ | ⟨a, b⟩
  · rw [a, b, fn i q hi (by omega), fn i (q + 1) hi (by omega), e1, e2] at hh
    omega
  · rw [a, b, fn i q hi (by omega), fn i (q + 1) hi (by omega), e1, e2] at hh
    omega
theorem Roads.step (D : Roads n st en R len kk nd x y) {j t : Nat} (hj : j < R) (ht : t < len j) (o : ok (kk j t)) (h : Wk st en ok u (nd j t) l) : ∃ l', Wk st en ok u (nd j (t + 1)) l' ∧ wl w l' = wl w l + w (kk j t) := by
  rcases D.ends j t hj ht with ⟨a, b⟩ | ⟨a, b⟩
  · refine ⟨(kk j t, true) :: l, ?_, by rw [wl_cons]; dsimp only; omega⟩
    rw [← b]
    exact .fwd (by rw [a]; exact h) o
  · refine ⟨(kk j t, false) :: l, ?_, by rw [wl_cons]; dsimp only; omega⟩
    rw [← a]
    exact .bwd (by rw [b]; exact h) o
theorem Roads.back (D : Roads n st en R len kk nd x y) {j t : Nat} (hj : j < R) (ht : t < len j) (o : ok (kk j t)) (h : Wk st en ok u (nd j (t + 1)) l) : ∃ l', Wk st en ok u (nd j t) l' ∧ wl w l' = wl w l + w (kk j t) := by
  rcases D.ends j t hj ht with ⟨a, b⟩ | ⟨a, b⟩
  · refine ⟨(kk j t, false) :: l, ?_, by rw [wl_cons]; dsimp only; omega⟩
    rw [← a]
    exact .bwd (by rw [b]; exact h) o
  · refine ⟨(kk j t, true) :: l, ?_, by rw [wl_cons]; dsimp only; omega⟩
    rw [← b]
    exact .fwd (by rw [a]; exact h) o
theorem Roads.runF (D : Roads n st en R len kk nd x y) {j s : Nat} (hj : j < R) (h : Wk st en ok u (nd j s) l) : ∀ d, s + d ≤ len j → (∀ t, s ≤ t → t < s + d → ok (kk j t)) → ∃ l', Wk st en ok u (nd j (s + d)) l' ∧ wl w l' + upto w kk j s = wl w l + upto w kk j (s + d)
  | 0, _, _ => ⟨l, h, rfl⟩
  | d + 1, hd, ho => by
    obtain ⟨l1, h1, e1⟩ := D.runF hj h d (by omega) fun t a b => ho t a (by omega)
    obtain ⟨l2, h2, e2⟩ := D.step (w := w) hj (show s + d < len j by omega) (ho (s + d) (by omega) (by omega)) h1
    refine ⟨l2, h2, ?_⟩
    rw [← Nat.add_assoc, upto_succ]
    omega
theorem Roads.runB (D : Roads n st en R len kk nd x y) {j s : Nat} (hj : j < R) : ∀ d, s + d ≤ len j → (∀ t, s ≤ t → t < s + d → ok (kk j t)) → ∀ {l : List (Nat × Bool)}, Wk st en ok u (nd j (s + d)) l → ∃ l', Wk st en ok u (nd j s) l' ∧ wl w l' + upto w kk j s = wl w l + upto w kk j (s + d)
  | 0, _, _, l, h => ⟨l, h, rfl⟩
  | d + 1, hd, ho, l, h => by
    obtain ⟨l1, h1, e1⟩ := D.back (w := w) hj (show s + d < len j by omega) (ho (s + d) (by omega) (by omega)) h
    obtain ⟨l2, h2, e2⟩ := D.runB hj d (by omega) (fun t a b => ho t a (by omega)) h1
    refine ⟨l2, h2, ?_⟩
    rw [← Nat.add_assoc, upto_succ]
    omega
/-- the walk over another road -/
theorem Roads.way (D : Roads n st en R len kk nd x y) {i q j : Nat} (hi : i < R) (hq : q < len i) (hj : j < R) (oi : ∀ t, t < len i → t ≠ q → ok (kk i t)) (oj : ∀ t, t < len j → ok (kk j t)) :
    ∃ l, Wk st en ok (en (kk i q)) (st (kk i q)) l ∧ wl w l + w (kk i q) = upto w kk i (len i) + upto w kk j (len j) := by
  have us := upto_succ w kk i q
  have m1 := upto_mono w kk i (show q + 1 ≤ len i by omega)
  have fx : nd i 0 = nd j 0 := (D.fst i hi).trans (D.fst j hj).symm
  have fy : nd i (len i) = nd j (len j) := (D.lst i hi).trans (D.lst j hj).symm
  rcases D.ends i q hi hq with ⟨a, b⟩ | ⟨a, b⟩
  · obtain ⟨l1, h1, e1⟩ := D.runF (w := w) hi (Wk.nil (st := st) (en := en) (ok := ok) (u := nd i (q + 1))) (len i - (q + 1)) (by omega) fun t c d => oi t (by omega) (by omega)
    rw [show q + 1 + (len i - (q + 1)) = len i by omega] at h1 e1
    obtain ⟨l2, h2, e2⟩ := D.runB (w := w) (s := 0) hj (len j) (by omega) (fun t _ d => oj t (by omega)) (l := l1) (by rw [Nat.zero_add, ← fy]; exact h1)
    rw [← fx] at h2
    rw [Nat.zero_add] at e2
    obtain ⟨l3, h3, e3⟩ := D.runF (w := w) hi h2 q (by omega) fun t _ d => oi t (by omega) (by omega)
    rw [Nat.zero_add] at h3 e3
    refine ⟨l3, by rw [a, b]; exact h3, ?_⟩
    have z1 := upto_zero w kk i
    have z2 := upto_zero w kk j
    have z3 : wl w ([] : List (Nat × Bool)) = 0 := rfl
    omega
  · obtain ⟨l1, h1, e1⟩ := D.runB (w := w) (s := 0) hi q (by omega) (fun t _ d => oi t (by omega) (by omega)) (l := []) (by rw [Nat.zero_add]; exact Wk.nil (st := st) (en := en) (ok := ok) (u := nd i q))
    rw [fx] at h1
    rw [Nat.zero_add] at e1
    obtain ⟨l2, h2, e2⟩ := D.runF (w := w) hj h1 (len j) (by omega) fun t _ d => oj t (by omega)
    rw [Nat.zero_add] at h2 e2
    rw [← fy] at h2
    obtain ⟨l3, h3, e3⟩ := D.runB (w := w) (s := q + 1) hi (len i - (q + 1)) (by omega) (fun t c d => oi t (by omega) (by omega)) (l := l2) (by rw [show q + 1 + (len i - (q + 1)) = len i by omega]; exact h2)
    rw [show q + 1 + (len i - (q + 1)) = len i by omega] at e3
    refine ⟨l3, by rw [a, b]; exact h3, ?_⟩
    have z1 := upto_zero w kk i
    have z2 := upto_zero w kk j
    have z3 : wl w ([] : List (Nat × Bool)) = 0 := rfl
    omega
end
end RV
/-! The strength of a pipe in a net of ways side by side. -/
namespace RV
open PySem
theorem find_name : ∀ {ps : List P3} {i : Nat} {q : P3}, (ps.map (·.1)).Nodup → ps[i]? = some q → ps.find? (fun p => decide (p.1 = q.1)) = some q
  | [], i, q, _, h => by simp at h
  | p :: ps, i, q, nd, h => by
    rw [List.map_cons, List.nodup_cons] at nd
    rw [List.find?_cons]
    cases i with
    | zero =>
      obtain rfl : p = q := by simpa using h
      rw [decide_eq_true rfl]
    | succ i =>
      rw [List.getElem?_cons_succ] at h
      rw [decide_eq_false (fun e => nd.1 (by rw [e]; exact List.mem_map.mpr ⟨q, List.mem_of_getElem? h, rfl⟩))]
      exact find_name nd.2 h
theorem strP_is {ps : List P3} {ms : List M3} (nd : (ps.map (·.1)).Nodup) {p : Nat} (hp : p < ps.length) :
    strP ps ms (pN ps p) = if seP ms (pN ps p) = [] then (turns ((lkA ps ms (pN ps p)).map lk3) ps.length (g0 (pE ps p)) (pS ps p)).map (· + wtP ms (pN ps p)) else none := by
  have hg := List.getElem?_eq_getElem hp
  obtain ⟨a, b, c⟩ := pN_at hg
  have hf : ps.find? (fun q => decide (q.1 = pN ps p)) = some ps[p] := by
    rw [a]
    exact find_name nd hg
  rw [strP, hf, b, c]
section
variable {α : Type} {st en : Nat → α} {ok : Nat → Prop} {u v : α} {l : List (Nat × Bool)}
theorem Wk.oks (h : Wk st en ok u v l) : ∀ q ∈ l, ok q.1 := by
  induction h with
  | nil => exact fun _ h => nomatch h
  | fwd _ o ih =>
    intro q hq
    rcases List.mem_cons.mp hq with rfl | hq
    · exact o
    · exact ih q hq
  | bwd _ o ih =>
    intro q hq
    rcases List.mem_cons.mp hq with rfl | hq
    · exact o
    · exact ih q hq
end
theorem wl_congr {w w' : Nat → Nat} : ∀ {l : List (Nat × Bool)}, (∀ q ∈ l, w q.1 = w' q.1) → wl w l = wl w' l
  | [], _ => rfl
  | q :: l, h => by rw [wl_cons, wl_cons, h q List.mem_cons_self, wl_congr fun q hq => h q (List.mem_cons_of_mem _ hq)]
theorem upto_congr {w w' : Nat → Nat} {kk : Nat → Nat → Nat} {j : Nat} : ∀ {t : Nat}, (∀ s, s < t → w (kk j s) = w' (kk j s)) → upto w kk j t = upto w' kk j t
  | 0, _ => rfl
  | t + 1, h => by rw [upto_succ, upto_succ, h t (by omega), upto_congr fun s hs => h s (by omega)]
theorem upto_one {w : Nat → Nat} {kk : Nat → Nat → Nat} {j s t : Nat} (h : s < t) : w (kk j s) ≤ upto w kk j t := by
  have := upto_mono w kk j (show s + 1 ≤ t by omega)
  rw [upto_succ] at this
  omega
theorem upto_two {w : Nat → Nat} {kk : Nat → Nat → Nat} {j r s t : Nat} (hr : r < t) (hs : s < t) (ne : r ≠ s) : w (kk j r) + w (kk j s) ≤ upto w kk j t := by
  have key : ∀ {r s : Nat}, r < s → s < t → w (kk j r) + w (kk j s) ≤ upto w kk j t := fun {r s} h1 h2 => by
    have a := upto_one (w := w) (kk := kk) (j := j) h1
    have b := upto_mono w kk j (show s + 1 ≤ t by omega)
    rw [upto_succ] at b
    omega
  rcases Nat.lt_or_gt_of_ne ne with h | h
  · exact key h hs
  · have := key h hr
    omega
open Classical in
/-- sealed pipes weigh B -/
noncomputable def shW (shut : Nat → Prop) (w : Nat → Nat) (B : Nat) (k : Nat) : Nat := if shut k then B else w k
section
variable {ps : List P3} {ms : List M3} {R : Nat} {len : Nat → Nat} {kk : Nat → Nat → Nat} {nd : Nat → Nat → Str} {x y : Str}
/-- the meters of a road -/
def metR (ps : List P3) (ms : List M3) (kk : Nat → Nat → Nat) (j t : Nat) : Nat := upto (fun k => wtP ms (pN ps k)) kk j t
def OpenR (ps : List P3) (ms : List M3) (len : Nat → Nat) (kk : Nat → Nat → Nat) (j : Nat) : Prop := ∀ t, t < len j → ¬ shutP ps ms (kk j t)
theorem Roads.none_or (D : Roads ps.length (pS ps) (pE ps) R len kk nd x y) (un : (ps.map (·.1)).Nodup) {i q : Nat} (hi : i < R) (hq : q < len i) {d : Nat} (ht : turns ((lkA ps ms (pN ps (kk i q))).map lk3) ps.length (g0 (pE ps (kk i q))) (pS ps (kk i q)) = some d)
    (B m : Nat) (hm : ∀ j, j < R → j ≠ i → m ≤ upto (shW (shutP ps ms) (fun k => wtP ms (pN ps k)) B) kk j (len j)) : upto (shW (shutP ps ms) (fun k => wtP ms (pN ps k)) B) kk i (len i) + m ≤ d + shW (shutP ps ms) (fun k => wtP ms (pN ps k)) B (kk i q) := by
  have hp := D.lt i q hi hq
  obtain ⟨l, h, e⟩ := turns_wk (links_of (ms := ms) un hp) _ _ _ ht
  have lo := D.low (w := shW (shutP ps ms) (fun k => wtP ms (pN ps k)) B) hi hq hm (fun k o => ⟨o.1, o.2.1⟩) h
  have ee : wl (shW (shutP ps ms) (fun k => wtP ms (pN ps k)) B) l = wl (fun k => wtP ms (pN ps k)) l := wl_congr fun z hz => if_neg (h.oks z hz).2.2
  omega
theorem Roads.shut (D : Roads ps.length (pS ps) (pE ps) R len kk nd x y) (un : (ps.map (·.1)).Nodup) {i q : Nat} (hi : i < R) (hq : q < len i) (hs : ¬ OpenR ps ms len kk i) : strP ps ms (pN ps (kk i q)) = none := by
  rw [strP_is un (D.lt i q hi hq)]
  by_cases e : seP ms (pN ps (kk i q)) = []
  · rw [if_pos e]
    cases ht : turns ((lkA ps ms (pN ps (kk i q))).map lk3) ps.length (g0 (pE ps (kk i q))) (pS ps (kk i q)) with
    | none => rfl
    | some d =>
      exfalso
      apply hs
      intro t tl sh
      have ne : t ≠ q := fun z => (z ▸ sh) e
      have lo := D.none_or (ms := ms) un hi hq ht (d + 1) 0 fun _ _ _ => Nat.zero_le _
      have tw := upto_two (w := shW (shutP ps ms) (fun k => wtP ms (pN ps k)) (d + 1)) (kk := kk) (j := i) tl hq ne
      have ex : shW (shutP ps ms) (fun k => wtP ms (pN ps k)) (d + 1) (kk i t) = d + 1 := if_pos sh
      omega
  · rw [if_neg e]
theorem Roads.lone (D : Roads ps.length (pS ps) (pE ps) R len kk nd x y) (un : (ps.map (·.1)).Nodup) {i q : Nat} (hi : i < R) (hq : q < len i) (ho : ∀ j, j < R → j ≠ i → ¬ OpenR ps ms len kk j) : strP ps ms (pN ps (kk i q)) = none := by
  rw [strP_is un (D.lt i q hi hq)]
  by_cases e : seP ms (pN ps (kk i q)) = []
  · rw [if_pos e]
    cases ht : turns ((lkA ps ms (pN ps (kk i q))).map lk3) ps.length (g0 (pE ps (kk i q))) (pS ps (kk i q)) with
    | none => rfl
    | some d =>
      exfalso
      have lo := D.none_or (ms := ms) un hi hq ht (d + 1 + wtP ms (pN ps (kk i q))) (d + 1 + wtP ms (pN ps (kk i q))) fun j hj ne => by
        have := ho j hj ne
        simp only [OpenR, Classical.not_forall, Classical.not_not] at this
        obtain ⟨t, tl, sh⟩ := this
        have o := upto_one (w := shW (shutP ps ms) (fun k => wtP ms (pN ps k)) (d + 1 + wtP ms (pN ps (kk i q)))) (kk := kk) (j := j) tl
        have ex : shW (shutP ps ms) (fun k => wtP ms (pN ps k)) (d + 1 + wtP ms (pN ps (kk i q))) (kk j t) = d + 1 + wtP ms (pN ps (kk i q)) := if_pos sh
        omega
      have ex : shW (shutP ps ms) (fun k => wtP ms (pN ps k)) (d + 1 + wtP ms (pN ps (kk i q))) (kk i q) = wtP ms (pN ps (kk i q)) := if_neg fun z => z e
      omega
  · rw [if_neg e]
theorem Roads.str (D : Roads ps.length (pS ps) (pE ps) R len kk nd x y) (un : (ps.map (·.1)).Nodup) {i q j : Nat} (hi : i < R) (hq : q < len i) (oi : OpenR ps ms len kk i) (hj : j < R) (ne : j ≠ i) (oj : OpenR ps ms len kk j)
    (hm : ∀ k, k < R → k ≠ i → OpenR ps ms len kk k → metR ps ms kk j (len j) ≤ metR ps ms kk k (len k)) : strP ps ms (pN ps (kk i q)) = some (metR ps ms kk i (len i) + metR ps ms kk j (len j)) := by
  have hp := D.lt i q hi hq
  have hs : ¬ shutP ps ms (kk i q) := oi q hq
  have e : seP ms (pN ps (kk i q)) = [] := Classical.not_not.mp hs
  rw [strP_is un hp, if_pos e]
  obtain ⟨l, h, hl⟩ := D.way (ok := okp ps.length (shutP ps ms) (kk i q)) (w := fun k => wtP ms (pN ps k)) hi hq hj (fun t tl tn => ⟨D.lt i t hi tl, fun z => tn (D.inj i t i q hi tl hi hq z).2, oi t tl⟩) (fun t tl => ⟨D.lt j t hj tl, fun z => ne (D.inj j t i q hj tl hi hq z).1, oj t tl⟩)
  obtain ⟨f, rf, cf⟩ := ring_of (w := fun k => wtP ms (pN ps k)) hp hs h
  obtain ⟨d, ht, hd⟩ := str_least (links_of (ms := ms) un hp) hp rf
  rw [ht]
  have up : d + wtP ms (pN ps (kk i q)) ≤ metR ps ms kk i (len i) + metR ps ms kk j (len j) := by
    show _ ≤ upto _ _ _ _ + upto _ _ _ _
    omega
  have lo := D.none_or (ms := ms) un hi hq ht (metR ps ms kk j (len j)) (metR ps ms kk j (len j)) fun k hk nk => by
    by_cases ok : OpenR ps ms len kk k
    · rw [← upto_congr (w := fun k => wtP ms (pN ps k)) fun s hs => (if_neg (ok s hs)).symm]
      exact hm k hk nk ok
    · simp only [OpenR, Classical.not_forall, Classical.not_not] at ok
      obtain ⟨t, tl, sh⟩ := ok
      have o := upto_one (w := shW (shutP ps ms) (fun k => wtP ms (pN ps k)) (metR ps ms kk j (len j))) (kk := kk) (j := k) tl
      have ex : shW (shutP ps ms) (fun k => wtP ms (pN ps k)) (metR ps ms kk j (len j)) (kk k t) = metR ps ms kk j (len j) := if_pos sh
      omega
  have ci : upto (shW (shutP ps ms) (fun k => wtP ms (pN ps k)) (metR ps ms kk j (len j))) kk i (len i) = metR ps ms kk i (len i) := (upto_congr fun s hs => (if_neg (oi s hs)).symm).symm
  have ex : shW (shutP ps ms) (fun k => wtP ms (pN ps k)) (metR ps ms kk j (len j)) (kk i q) = wtP ms (pN ps (kk i q)) := if_neg hs
  show some (d + _) = _
  congr 1
  omega
end
end RV
/-! Ways side by side, from pipes in any order. -/
namespace RV
open PySem
/-- where the pipe of this name stands -/
def kkN (ps : List P3) (nm : Nat → Nat → Str) (j t : Nat) : Nat := (ps.map (·.1)).findIdx (fun z => decide (z = nm j t))
theorem kkN_is {ps : List P3} {nm : Nat → Nat → Str} {j t : Nat} {p : P3} (un : (ps.map (·.1)).Nodup) (hp : p ∈ ps) (e : p.1 = nm j t) : ∃ h : kkN ps nm j t < ps.length, ps[kkN ps nm j t] = p := by
  have hm : nm j t ∈ ps.map (·.1) := List.mem_map.mpr ⟨p, hp, e⟩
  have lt : kkN ps nm j t < (ps.map (·.1)).length := List.findIdx_lt_length_of_exists ⟨_, hm, by simp⟩
  have ge := List.findIdx_getElem (w := lt)
  have lt' : kkN ps nm j t < ps.length := by rwa [List.length_map] at lt
  refine ⟨lt', ?_⟩
  have e2 : (ps[kkN ps nm j t]).1 = p.1 := by
    have z : (ps.map (·.1))[kkN ps nm j t]'lt = nm j t := of_decide_eq_true ge
    rw [List.getElem_map] at z
    exact z.trans e.symm
  obtain ⟨i, hi, ei⟩ := List.getElem_of_mem hp
  have h1 := find_name un (List.getElem?_eq_getElem lt')
  have h2 := find_name un (List.getElem?_eq_getElem hi)
  rw [ei] at h2
  rw [e2] at h1
  exact Option.some.inj (h1.symm.trans h2)
/-- the pipes of R roads: road j's pipe t is called nm j t and joins nd j t and nd j (t + 1) -/
structure RoadP (ps : List P3) (R : Nat) (len : Nat → Nat) (nm nd : Nat → Nat → Str) (x y : Str) : Prop where
  pos : ∀ j, j < R → 0 < len j
  fst : ∀ j, j < R → nd j 0 = x
  lst : ∀ j, j < R → nd j (len j) = y
  has : ∀ j t, j < R → t < len j → ∃ p ∈ ps, p.1 = nm j t ∧ ((p.2.1 = nd j t ∧ p.2.2 = nd j (t + 1)) ∨ (p.2.1 = nd j (t + 1) ∧ p.2.2 = nd j t))
  all : ∀ p ∈ ps, ∃ j t, j < R ∧ t < len j ∧ p.1 = nm j t
  un : (ps.map (·.1)).Nodup
  inj : ∀ j t j' t', j < R → t < len j → j' < R → t' < len j' → nm j t = nm j' t' → j = j' ∧ t = t'
  ne : x ≠ y
  dc : ∃ dc : Str → Nat × Nat, ∀ j t, j < R → 0 < t → t < len j → dc (nd j t) = (j, t) ∧ nd j t ≠ x ∧ nd j t ≠ y
section
variable {ps : List P3} {R : Nat} {len : Nat → Nat} {nm nd : Nat → Nat → Str} {x y : Str}
theorem RoadP.name (D : RoadP ps R len nm nd x y) {j t : Nat} (hj : j < R) (ht : t < len j) : kkN ps nm j t < ps.length ∧ pN ps (kkN ps nm j t) = nm j t ∧
    ((pS ps (kkN ps nm j t) = nd j t ∧ pE ps (kkN ps nm j t) = nd j (t + 1)) ∨ (pS ps (kkN ps nm j t) = nd j (t + 1) ∧ pE ps (kkN ps nm j t) = nd j t)) := by
  obtain ⟨p, hp, e, k⟩ := D.has j t hj ht
  obtain ⟨lt, ge⟩ := kkN_is (nm := nm) (j := j) (t := t) D.un hp e
  obtain ⟨a, b, c⟩ := pN_at (List.getElem?_eq_getElem lt)
  rw [ge] at a b c
  exact ⟨lt, a.trans e, by rw [b, c]; exact k⟩
theorem RoadP.roads (D : RoadP ps R len nm nd x y) : Roads ps.length (pS ps) (pE ps) R len (kkN ps nm) nd x y where
  pos := D.pos
  fst := D.fst
  lst := D.lst
  lt := fun j t hj ht => (D.name hj ht).1
  ends := fun j t hj ht => (D.name hj ht).2.2
  all := fun k hk => by
    obtain ⟨j, t, hj, ht, e⟩ := D.all ps[k] (List.getElem_mem hk)
    refine ⟨j, t, hj, ht, ?_⟩
    obtain ⟨lt, a, _⟩ := D.name hj ht
    refine pN_inj D.un lt hk ?_
    rw [a, (pN_at (List.getElem?_eq_getElem hk)).1, e]
  inj := fun j t j' t' hj ht hj' ht' e => D.inj j t j' t' hj ht hj' ht' (by rw [← (D.name hj ht).2.1, ← (D.name hj' ht').2.1, e])
  ne := D.ne
  dc := D.dc
/-- the meters on road j, in all -/
def onR (ms : List M3) (nm : Nat → Nat → Str) (j t : Nat) : Nat := ((List.range t).map fun s => wtP ms (nm j s)).sum
def ShutR (ms : List M3) (len : Nat → Nat) (nm : Nat → Nat → Str) (j : Nat) : Prop := ∃ t, t < len j ∧ seP ms (nm j t) ≠ []
theorem RoadP.met (D : RoadP ps R len nm nd x y) (ms : List M3) {j : Nat} (hj : j < R) : metR ps ms (kkN ps nm) j (len j) = onR ms nm j (len j) := by
  rw [metR, upto, onR]
  congr 1
  refine List.map_congr_left fun s hs => ?_
  rw [(D.name hj (List.mem_range.mp hs)).2.1]
theorem RoadP.opn (D : RoadP ps R len nm nd x y) (ms : List M3) {j : Nat} (hj : j < R) : OpenR ps ms len (kkN ps nm) j ↔ ¬ ShutR ms len nm j := by
  constructor
  · rintro h ⟨t, ht, s⟩
    refine h t ht ?_
    rw [shutP, (D.name hj ht).2.1]
    exact s
  · intro h t ht s
    refine h ⟨t, ht, ?_⟩
    rw [shutP, (D.name hj ht).2.1] at s
    exact s
theorem RoadP.shut (D : RoadP ps R len nm nd x y) (ms : List M3) {i q : Nat} (hi : i < R) (hq : q < len i) (h : ShutR ms len nm i) : strP ps ms (nm i q) = none := by
  rw [← (D.name hi hq).2.1]
  exact D.roads.shut D.un hi hq fun o => (D.opn ms hi).mp o h
theorem RoadP.lone (D : RoadP ps R len nm nd x y) (ms : List M3) {i q : Nat} (hi : i < R) (hq : q < len i) (h : ∀ j, j < R → j ≠ i → ShutR ms len nm j) : strP ps ms (nm i q) = none := by
  rw [← (D.name hi hq).2.1]
  exact D.roads.lone D.un hi hq fun j hj ne o => (D.opn ms hj).mp o (h j hj ne)
theorem RoadP.str (D : RoadP ps R len nm nd x y) (ms : List M3) {i q j : Nat} (hi : i < R) (hq : q < len i) (oi : ¬ ShutR ms len nm i) (hj : j < R) (ne : j ≠ i) (oj : ¬ ShutR ms len nm j)
    (hm : ∀ k, k < R → k ≠ i → ¬ ShutR ms len nm k → onR ms nm j (len j) ≤ onR ms nm k (len k)) : strP ps ms (nm i q) = some (onR ms nm i (len i) + onR ms nm j (len j)) := by
  rw [← (D.name hi hq).2.1, ← D.met ms hi, ← D.met ms hj]
  refine D.roads.str D.un hi hq ((D.opn ms hi).mpr oi) hj ne ((D.opn ms hj).mpr oj) fun k hk nk o => ?_
  rw [D.met ms hj, D.met ms hk]
  exact hm k hk nk ((D.opn ms hk).mp o)
end
end RV
/-! The places of ways side by side: x, y, and s with two figures between them. -/
namespace RV
open PySem
def nS (i : Nat) : Str := (toString (i : Int) : String)
def stopN (j k : Nat) : Str := ("s" : Str) ++ nS j ++ nS k
def nodeN (len : Nat → Nat) (j t : Nat) : Str := if t = 0 then "x" else if t = len j then "y" else stopN j (t - 1)
/-- which place it is -/
def stopD (s : Str) : Nat × Nat := (([(0, 1), (0, 2), (1, 1), (1, 2), (2, 1), (2, 2), (3, 1), (3, 2)] : List (Nat × Nat)).find? fun p => decide (s = stopN p.1 (p.2 - 1))).getD (0, 0)
theorem stop_is : ∀ p ∈ ([(0, 1), (0, 2), (1, 1), (1, 2), (2, 1), (2, 2), (3, 1), (3, 2)] : List (Nat × Nat)), stopD (stopN p.1 (p.2 - 1)) = p ∧ stopN p.1 (p.2 - 1) ≠ "x" ∧ stopN p.1 (p.2 - 1) ≠ "y" ∧ IsNm (stopN p.1 (p.2 - 1)) := by
  unfold IsNm
  decide +kernel
theorem stop_at {j t : Nat} (hj : j < 4) (h0 : 0 < t) (ht : t < 3) : stopD (stopN j (t - 1)) = (j, t) ∧ stopN j (t - 1) ≠ "x" ∧ stopN j (t - 1) ≠ "y" ∧ IsNm (stopN j (t - 1)) := by
  refine stop_is (j, t) ?_
  have : (j = 0 ∨ j = 1 ∨ j = 2 ∨ j = 3) ∧ (t = 1 ∨ t = 2) := by omega
  obtain ⟨rfl | rfl | rfl | rfl, rfl | rfl⟩ := this <;> simp
section
variable {len : Nat → Nat} {R : Nat}
theorem node_zero (j : Nat) : nodeN len j 0 = "x" := if_pos rfl
theorem node_len {j : Nat} (h : 0 < len j) : nodeN len j (len j) = "y" := by rw [nodeN, if_neg (by omega), if_pos rfl]
theorem node_dc (hR : R ≤ 4) (hl : ∀ j, j < R → len j ≤ 3) : ∃ dc : Str → Nat × Nat, ∀ j t, j < R → 0 < t → t < len j → dc (nodeN len j t) = (j, t) ∧ nodeN len j t ≠ "x" ∧ nodeN len j t ≠ "y" := by
  refine ⟨stopD, fun j t hj h0 ht => ?_⟩
  have l3 := hl j hj
  have e : nodeN len j t = stopN j (t - 1) := by rw [nodeN, if_neg (by omega), if_neg (by omega)]
  obtain ⟨a, b, c, _⟩ := stop_at (j := j) (t := t) (by omega) h0 (by omega)
  rw [e]
  exact ⟨a, b, c⟩
theorem node_nm {j t : Nat} (hR : R ≤ 4) (hl : ∀ j, j < R → len j ≤ 3) (hj : j < R) (ht : t ≤ len j) : IsNm (nodeN len j t) := by
  rw [nodeN]
  split
  · show _ = true
    decide +kernel
  · split
    · show _ = true
      decide +kernel
    · have l3 := hl j hj
      exact (stop_at (j := j) (t := t) (by omega) (by omega) (by omega)).2.2.2
end
/-- one pipe alone: no strength -/
theorem lone_none {ms : List M3} {n a b : Str} (ne : a ≠ b) : strP [(n, a, b)] ms n = none := by
  have D : RoadP [(n, a, b)] 1 (fun _ => 1) (fun _ _ => n) (fun _ t => if t = 0 then a else b) a b := {
    pos := fun _ _ => Nat.one_pos
    fst := fun _ _ => rfl
    lst := fun _ _ => rfl
    has := fun j t hj ht => ⟨_, List.mem_cons_self, rfl, .inl ⟨by rw [if_pos (by omega)], by rw [if_neg (by omega)]⟩⟩
    all := fun p hp => ⟨0, 0, Nat.one_pos, Nat.one_pos, by rw [List.mem_singleton.mp hp]⟩
    un := by simp
    inj := fun j t j' t' hj ht hj' ht' _ => by omega
    ne := ne
    dc := ⟨fun _ => (0, 0), fun j t _ h0 h1 => by omega⟩ }
  exact D.lone ms (i := 0) (q := 0) Nat.one_pos Nat.one_pos fun j hj nj => by omega
end RV
/-! Pipes laid one after another, each put in anywhere. -/
namespace RV
open PySem
/-- the pipes of these places of roads, in any order -/
structure LaidP (ps : List P3) (done : Nat → Nat → Prop) (nm nd : Nat → Nat → Str) : Prop where
  has : ∀ j t, done j t → ∃ p ∈ ps, p.1 = nm j t ∧ ((p.2.1 = nd j t ∧ p.2.2 = nd j (t + 1)) ∨ (p.2.1 = nd j (t + 1) ∧ p.2.2 = nd j t))
  all : ∀ p ∈ ps, ∃ j t, done j t ∧ p.1 = nm j t ∧ ((p.2.1 = nd j t ∧ p.2.2 = nd j (t + 1)) ∨ (p.2.1 = nd j (t + 1) ∧ p.2.2 = nd j t))
  un : (ps.map (·.1)).Nodup
section
variable {ps : List P3} {done : Nat → Nat → Prop} {nm nd : Nat → Nat → Str}
theorem LaidP.start (h : ∀ j t, ¬ done j t) : LaidP [] done nm nd := ⟨fun j t d => absurd d (h j t), (fun _ h => nomatch h), .nil⟩
theorem LaidP.put (h : LaidP ps done nm nd) {i J U : Nat} {p : P3} (e : p.1 = nm J U) (k : (p.2.1 = nd J U ∧ p.2.2 = nd J (U + 1)) ∨ (p.2.1 = nd J (U + 1) ∧ p.2.2 = nd J U)) (new : ∀ j t, done j t → nm j t ≠ nm J U) {done' : Nat → Nat → Prop} (hd : ∀ j t, done' j t ↔ done j t ∨ (j = J ∧ t = U)) :
    LaidP (ps.take i ++ p :: ps.drop i) done' nm nd := by
  have pm : (ps.take i ++ p :: ps.drop i).Perm (p :: ps) := by
    have := List.perm_middle (a := p) (l₁ := ps.take i) (l₂ := ps.drop i)
    rwa [List.take_append_drop] at this
  refine ⟨fun j t d => ?_, fun q hq => ?_, ?_⟩
  · rcases (hd j t).mp d with d | ⟨rfl, rfl⟩
    · obtain ⟨q, hq, z⟩ := h.has j t d
      exact ⟨q, pm.mem_iff.mpr (List.mem_cons_of_mem _ hq), z⟩
    · exact ⟨p, pm.mem_iff.mpr List.mem_cons_self, e, k⟩
  · rcases List.mem_cons.mp (pm.mem_iff.mp hq) with rfl | hq
    · exact ⟨J, U, (hd J U).mpr (.inr ⟨rfl, rfl⟩), e, k⟩
    · obtain ⟨j, t, d, z⟩ := h.all q hq
      exact ⟨j, t, (hd j t).mpr (.inl d), z⟩
  · rw [(pm.map (·.1)).nodup_iff, List.map_cons, List.nodup_cons]
    refine ⟨fun hm => ?_, h.un⟩
    obtain ⟨q, hq, eq⟩ := List.mem_map.mp hm
    obtain ⟨j, t, d, z, _⟩ := h.all q hq
    exact new j t d (by rw [← z, eq, e])
theorem LaidP.roads {R : Nat} {len : Nat → Nat} (h : LaidP ps (fun j t => j < R ∧ t < len j) nm (nodeN len)) (hR : R ≤ 4) (h0 : ∀ j, j < R → 0 < len j) (h3 : ∀ j, j < R → len j ≤ 3)
    (inj : ∀ j t j' t', j < R → t < len j → j' < R → t' < len j' → nm j t = nm j' t' → j = j' ∧ t = t') : RoadP ps R len nm (nodeN len) "x" "y" where
  pos := h0
  fst := fun j _ => node_zero j
  lst := fun j hj => node_len (h0 j hj)
  has := fun j t hj ht => h.has j t ⟨hj, ht⟩
  all := fun p hp => by
    obtain ⟨j, t, ⟨a, b⟩, e, _⟩ := h.all p hp
    exact ⟨j, t, a, b, e⟩
  un := h.un
  inj := inj
  ne := by decide +kernel
  dc := node_dc hR h3
theorem node_ne {R : Nat} {len : Nat → Nat} {j t : Nat} (hR : R ≤ 4) (hl : ∀ j, j < R → len j ≤ 3) (hj : j < R) (ht : t < len j) : nodeN len j t ≠ nodeN len j (t + 1) := by
  have l3 := hl j hj
  obtain ⟨dc, hdc⟩ := node_dc (len := len) hR hl
  rcases Nat.eq_zero_or_pos t with rfl | tp
  · rw [node_zero]
    by_cases e : 0 + 1 = len j
    · rw [e, node_len (by omega)]
      decide +kernel
    · exact fun z => (hdc j (0 + 1) hj (by omega) (by omega)).2.1 z.symm
  · obtain ⟨a, _, c⟩ := hdc j t hj tp ht
    by_cases e : t + 1 = len j
    · rw [e, node_len (by omega)]
      exact c
    · intro z
      have b := (hdc j (t + 1) hj (by omega) (by omega)).1
      rw [← z, a] at b
      have := congrArg Prod.snd b
      dsimp only at this
      omega
/-- it makes a net -/
theorem LaidP.po {R : Nat} {len : Nat → Nat} (h : LaidP ps (fun j t => j < R ∧ t < len j) nm (nodeN len)) (hR : R ≤ 4) (R0 : 0 < R) (h0 : ∀ j, j < R → 0 < len j) (h3 : ∀ j, j < R → len j ≤ 3) (hn : ∀ j t, j < R → t < len j → IsNm (nm j t)) (ln : ps.length ≤ 12) : POk ps where
  n0 := fun z => by
    obtain ⟨p, hp, _⟩ := h.has 0 0 ⟨R0, h0 0 R0⟩
    rw [z] at hp
    cases hp
  ln := ln
  nm := fun p hp => by
    obtain ⟨j, t, ⟨a, b⟩, e, k⟩ := h.all p hp
    have n1 := node_nm (R := R) hR h3 a (show t ≤ len j by omega)
    have n2 := node_nm (R := R) hR h3 a (show t + 1 ≤ len j by omega)
    have n3 := node_ne (R := R) hR h3 a b
    refine ⟨e ▸ hn j t a b, ?_⟩
    rcases k with ⟨k1, k2⟩ | ⟨k1, k2⟩
    · rw [k1, k2]
      exact ⟨n1, n2, n3.symm⟩
    · rw [k1, k2]
      exact ⟨n2, n1, n3⟩
  nd := h.un
end
end RV
/-! One more meter. -/
namespace RV
open PySem
section
variable {ms : List M3} {nm : Nat → Nat → Str} {R : Nat} {len : Nat → Nat} {J U : Nat} {g : Str} {b : Bool}
theorem onP_put (ms : List M3) (g n : Str) (b : Bool) (y : Str) : wtP (ms ++ [(g, n, b)]) y = wtP ms y + if n = y then 1 else 0 := by
  simp only [wtP, onP, List.filter_append, List.length_append]
  congr 1
  by_cases e : n = y <;> simp [e]
theorem seP_put (ms : List M3) (g n : Str) (b : Bool) (y : Str) : seP (ms ++ [(g, n, b)]) y ≠ [] ↔ seP ms y ≠ [] ∨ (b = true ∧ n = y) := by
  have e0 : onP (ms ++ [(g, n, b)]) y = onP ms y ++ (if n = y then [(g, n, b)] else []) := by
    simp only [onP, List.filter_append]
    congr 1
    by_cases e : n = y <;> simp [e]
  rw [seP, e0, List.filter_append, seP]
  by_cases e : n = y <;> cases b <;> simp [e]
theorem onR_put (inj : ∀ j t j' t', j < R → t < len j → j' < R → t' < len j' → nm j t = nm j' t' → j = j' ∧ t = t') (hJ : J < R) (hU : U < len J) {j : Nat} (hj : j < R) :
    ∀ {L : Nat}, L ≤ len j → onR (ms ++ [(g, nm J U, b)]) nm j L = onR ms nm j L + if j = J ∧ U < L then 1 else 0
  | 0, _ => by simp [onR]
  | L + 1, h => by
    have ih := onR_put inj hJ hU hj (L := L) (by omega)
    have e1 : ∀ ms : List M3, onR ms nm j (L + 1) = onR ms nm j L + wtP ms (nm j L) := fun ms => by
      rw [onR, List.range_succ, List.map_append, List.sum_append]
      simp [onR]
    rw [e1, e1, ih, onP_put]
    by_cases e : nm J U = nm j L
    · obtain ⟨rfl, rfl⟩ := inj J U j L hJ hU hj (by omega) e
      rw [if_neg (by omega), if_pos rfl, if_pos ⟨rfl, by omega⟩]
      omega
    · rw [if_neg e]
      by_cases c : j = J ∧ U < L
      · rw [if_pos c, if_pos ⟨c.1, by omega⟩]
        omega
      · rw [if_neg c, if_neg]
        · rfl
        · rintro ⟨rfl, h2⟩
          have : U = L := by
            rcases Nat.lt_or_ge U L with l | l
            · exact absurd ⟨rfl, l⟩ c
            · omega
          exact e (by rw [this])
theorem shutR_put (inj : ∀ j t j' t', j < R → t < len j → j' < R → t' < len j' → nm j t = nm j' t' → j = j' ∧ t = t') (hJ : J < R) (hU : U < len J) {j : Nat} (hj : j < R) :
    ShutR (ms ++ [(g, nm J U, b)]) len nm j ↔ ShutR ms len nm j ∨ (b = true ∧ j = J) := by
  constructor
  · rintro ⟨t, ht, h⟩
    rcases (seP_put ms g (nm J U) b (nm j t)).mp h with h | ⟨hb, e⟩
    · exact .inl ⟨t, ht, h⟩
    · exact .inr ⟨hb, (inj J U j t hJ hU hj ht e).1.symm⟩
  · rintro (⟨t, ht, h⟩ | ⟨hb, rfl⟩)
    · exact ⟨t, ht, (seP_put ms g (nm J U) b (nm j t)).mpr (.inl h)⟩
    · exact ⟨U, hU, (seP_put ms g (nm j U) b (nm j U)).mpr (.inr ⟨hb, rfl⟩)⟩
end
end RV
/-! The pipes' names by road: so many of a row of names for each road. -/
namespace RV
open PySem
/-- how many pipes the roads before road j have -/
def off (len : Nat → Nat) (j : Nat) : Nat := ((List.range j).map len).sum
theorem off_succ (len : Nat → Nat) (j : Nat) : off len (j + 1) = off len j + len j := by
  rw [off, List.range_succ, List.map_append, List.sum_append]
  simp [off]
theorem off_mono (len : Nat → Nat) {i j : Nat} (h : i ≤ j) : off len i ≤ off len j := by
  induction j with
  | zero => obtain rfl : i = 0 := by omega
            exact Nat.le_refl _
  | succ j ih =>
    rw [off_succ]
    rcases Nat.lt_or_ge i (j + 1) with l | g
    · have := ih (by omega)
      omega
    · obtain rfl : i = j + 1 := by omega
      rw [off_succ]
      exact Nat.le_refl _
theorem off_lt {len : Nat → Nat} {i j t : Nat} (h : i < j) (ht : t < len i) : off len i + t < off len j := by
  have := off_mono len (show i + 1 ≤ j by omega)
  rw [off_succ] at this
  omega
theorem off_inj {len : Nat → Nat} {j t j' t' : Nat} (ht : t < len j) (ht' : t' < len j') (e : off len j + t = off len j' + t') : j = j' ∧ t = t' := by
  rcases Nat.lt_trichotomy j j' with h | rfl | h
  · have := off_lt h ht
    omega
  · exact ⟨rfl, by omega⟩
  · have := off_lt h ht'
    omega
/-- the name of road j's pipe t -/
def nmT (ts : List Str) (len : Nat → Nat) (j t : Nat) : Str := ts.getD (off len j + t) ""
section
variable {ts : List Str} {len : Nat → Nat} {R : Nat}
theorem nmT_at (hl : ts.length = off len R) {j t : Nat} (hj : j < R) (ht : t < len j) : ts[off len j + t]? = some (nmT ts len j t) := by
  have lt := off_lt hj ht
  rw [nmT, List.getD, List.getElem?_eq_getElem (by omega)]
  rfl
theorem nmT_inj (hl : ts.length = off len R) (un : ts.Nodup) : ∀ j t j' t', j < R → t < len j → j' < R → t' < len j' → nmT ts len j t = nmT ts len j' t' → j = j' ∧ t = t' := fun j t j' t' hj ht hj' ht' e => by
  have l1 := off_lt hj ht
  have l2 := off_lt hj' ht'
  have a := nmT_at hl hj ht
  have b := nmT_at hl hj' ht'
  rw [← e, ← a] at b
  have := (List.getElem?_inj (by omega) un).mp b.symm
  exact off_inj ht ht' this
theorem nmT_nm (hl : ts.length = off len R) (hn : ∀ x ∈ ts, IsNm x) {j t : Nat} (hj : j < R) (ht : t < len j) : IsNm (nmT ts len j t) := hn _ (List.mem_of_getElem? (nmT_at hl hj ht))
/-- a road's own names -/
theorem nmT_own (hl : ts.length = off len R) {j : Nat} (hj : j < R) : (ts.drop (off len j)).take (len j) = (List.range (len j)).map fun t => nmT ts len j t := by
  have m := off_mono len (show j + 1 ≤ R by omega)
  rw [off_succ] at m
  refine List.ext_getElem? fun t => ?_
  rw [List.getElem?_map]
  rcases Nat.lt_or_ge t (len j) with l | g
  · rw [List.getElem?_take_of_lt l, List.getElem?_drop, nmT_at hl hj l, List.getElem?_range l]
    rfl
  · rw [List.getElem?_eq_none (by rw [List.length_take, List.length_drop]; omega), List.getElem?_eq_none (by rw [List.length_range]; omega)]
    rfl
/-- roads of one to three pipes: at most twelve -/
theorem off_le (h3 : ∀ j, j < R → len j ≤ 3) : ∀ {j : Nat}, j ≤ R → off len j ≤ 3 * j
  | 0, _ => Nat.le_refl _
  | j + 1, h => by
    have := off_le h3 (j := j) (by omega)
    have := h3 j (by omega)
    rw [off_succ]
    omega
end
end RV
/-! What is due of a pipe's strength. -/
namespace RV
open PySem
/-- the counts of the other roads without a seal -/
def othR (R : Nat) (ct : Nat → Nat) (sh : Nat → Bool) (i : Nat) : List Nat := ((List.range R).filter fun k => decide (k ≠ i) && !sh k).map ct
/-- the strength that is due, the least of the others being o -/
def dueR (ct : Nat → Nat) (sh : Nat → Bool) (i : Nat) (o : Option Nat) : Option Nat := if sh i then none else o.map fun m => ct i + m
theorem othR_mem {R : Nat} {ct : Nat → Nat} {sh : Nat → Bool} {i c : Nat} : c ∈ othR R ct sh i ↔ ∃ k, k < R ∧ k ≠ i ∧ sh k = false ∧ ct k = c := by
  simp only [othR, List.mem_map, List.mem_filter, List.mem_range, Bool.and_eq_true, decide_eq_true_eq, Bool.not_eq_true']
  constructor
  · rintro ⟨k, ⟨a, b, c⟩, d⟩
    exact ⟨k, a, b, c, d⟩
  · rintro ⟨k, a, b, c, d⟩
    exact ⟨k, ⟨a, b, c⟩, d⟩
theorem RoadP.due {ps : List P3} {R : Nat} {len : Nat → Nat} {nm nd : Nat → Nat → Str} {x y : Str} (D : RoadP ps R len nm nd x y) {ms : List M3} {ct : Nat → Nat} {sh : Nat → Bool} (hc : ∀ j, j < R → ct j = onR ms nm j (len j)) (hs : ∀ j, j < R → (sh j = true ↔ ShutR ms len nm j))
    {i q : Nat} (hi : i < R) (hq : q < len i) {o : Option Nat} (ho : IsMin (othR R ct sh i) o) : strP ps ms (nm i q) = dueR ct sh i o := by
  rw [dueR]
  by_cases h : sh i = true
  · rw [if_pos h]
    exact D.shut ms hi hq ((hs i hi).mp h)
  · rw [if_neg h]
    cases o with
    | none =>
      refine D.lone ms hi hq fun j hj nj => ?_
      refine (hs j hj).mp ?_
      cases e : sh j with
      | true => rfl
      | false =>
        have : ct j ∈ othR R ct sh i := othR_mem.mpr ⟨j, hj, nj, e, rfl⟩
        rw [show othR R ct sh i = [] from ho] at this
        cases this
    | some m =>
      obtain ⟨hm, least⟩ := ho
      obtain ⟨j, hj, nj, sj, rfl⟩ := othR_mem.mp hm
      have oj : ¬ ShutR ms len nm j := fun z => by
        rw [(hs j hj).mpr z] at sj
        cases sj
      rw [D.str ms hi hq (fun z => h ((hs i hi).mpr z)) hj nj oj fun k hk nk ok => ?_]
      · rw [hc i hi, hc j hj]
        rfl
      · rw [← hc j hj, ← hc k hk]
        refine least _ (othR_mem.mpr ⟨k, hk, nk, ?_, rfl⟩)
        cases e : sh k with
        | false => rfl
        | true => exact absurd ((hs k hk).mp e) ok
end RV
/-! Pipes and meters of roads, laid so far; things that change and things that stand. -/
namespace RV
open PySem L2
/-- the names of which roads are laid -/
structure RoOk (R : Nat) (len : Nat → Nat) (ts gs : List Str) (l0 : Nat) : Prop where
  r0 : 0 < R
  r4 : R ≤ 4
  h0 : ∀ j, j < R → 0 < len j
  h3 : ∀ j, j < R → len j ≤ 3
  tl : ts.length = off len R
  tn : ts.Nodup
  tm : ∀ x ∈ ts, IsNm x
  gl : gs.length = 12
  gd : gs.Nodup
  gm : ∀ x ∈ gs, IsNm x
  l0 : l0 ≤ 12
/-- the pipes of these places, the meters at them, how many meters and whether a seal each road has -/
structure Laid (R : Nat) (len : Nat → Nat) (ts gs : List Str) (l0 : Nat) (done : Nat → Nat → Prop) (ps : List P3) (ms : List M3) (ct : Nat → Nat) (sh : Nat → Bool) : Prop where
  lp : LaidP ps done (nmT ts len) (nodeN len)
  dn : ∀ j t, done j t → j < R ∧ t < len j
  gn : ms.map (·.1) = (List.range ms.length).map fun i => gs.getD (l0 - 1 - i) ""
  ml : ms.length ≤ l0
  mo : ∀ m ∈ ms, ∃ j t, done j t ∧ m.2.1 = nmT ts len j t
  ct : ∀ j, j < R → ct j = onR ms (nmT ts len) j (len j)
  sh : ∀ j, j < R → (sh j = true ↔ ShutR ms len (nmT ts len) j)
section
variable {R : Nat} {len : Nat → Nat} {ts gs : List Str} {l0 : Nat} {done : Nat → Nat → Prop} {ps : List P3} {ms : List M3} {ct : Nat → Nat} {sh : Nat → Bool}
theorem onR_nil (nm : Nat → Nat → Str) (j : Nat) : ∀ L : Nat, onR [] nm j L = 0
  | 0 => rfl
  | L + 1 => by
    have e1 : onR [] nm j (L + 1) = onR [] nm j L + wtP [] (nm j L) := by
      rw [onR, List.range_succ, List.map_append, List.sum_append]
      simp [onR]
    rw [e1, onR_nil nm j L]
    simp [wtP, onP]
theorem Laid.start (hd : ∀ j t, ¬ done j t) : Laid R len ts gs l0 done [] [] (fun _ => 0) (fun _ => false) where
  lp := LaidP.start hd
  dn := fun j t d => absurd d (hd j t)
  gn := rfl
  ml := Nat.zero_le _
  mo := fun _ h => nomatch h
  ct := fun j _ => (onR_nil _ j _).symm
  sh := fun j _ => ⟨(fun h => nomatch h), fun ⟨t, _, h⟩ => absurd (by simp [seP, onP]) h⟩
theorem Laid.is {done' : Nat → Nat → Prop} (h : Laid R len ts gs l0 done ps ms ct sh) (e : ∀ j t, done' j t ↔ done j t) : Laid R len ts gs l0 done' ps ms ct sh := by
  have : done' = done := funext fun j => funext fun t => propext (e j t)
  rw [this]
  exact h
theorem Laid.pipe (h : Laid R len ts gs l0 done ps ms ct sh) (K : RoOk R len ts gs l0) {i J U : Nat} {p : P3} (hJ : J < R) (hU : U < len J) (new : ¬ done J U) (e : p.1 = nmT ts len J U)
    (k : (p.2.1 = nodeN len J U ∧ p.2.2 = nodeN len J (U + 1)) ∨ (p.2.1 = nodeN len J (U + 1) ∧ p.2.2 = nodeN len J U)) {done' : Nat → Nat → Prop} (hd : ∀ j t, done' j t ↔ done j t ∨ (j = J ∧ t = U)) :
    Laid R len ts gs l0 done' (ps.take i ++ p :: ps.drop i) ms ct sh where
  lp := h.lp.put e k (fun j t d z => by
    obtain ⟨a, b⟩ := h.dn j t d
    obtain ⟨rfl, rfl⟩ := nmT_inj K.tl K.tn j t J U a b hJ hU z
    exact new d) hd
  dn := fun j t d => by
    rcases (hd j t).mp d with d | ⟨rfl, rfl⟩
    · exact h.dn j t d
    · exact ⟨hJ, hU⟩
  gn := h.gn
  ml := h.ml
  mo := fun m hm => by
    obtain ⟨j, t, d, z⟩ := h.mo m hm
    exact ⟨j, t, (hd j t).mpr (.inl d), z⟩
  ct := h.ct
  sh := h.sh
theorem Laid.meter (h : Laid R len ts gs l0 done ps ms ct sh) (K : RoOk R len ts gs l0) {J U : Nat} {b : Bool} (d : done J U) (lt : ms.length < l0) :
    Laid R len ts gs l0 done ps (ms ++ [(gs.getD (l0 - 1 - ms.length) "", nmT ts len J U, b)]) (fun k => if k = J then ct k + 1 else ct k) (fun k => if k = J then sh k || b else sh k) where
  lp := h.lp
  dn := h.dn
  gn := by
    rw [List.map_append, h.gn, List.length_append, List.length_singleton, List.range_succ, List.map_append]
    rfl
  ml := by
    rw [List.length_append, List.length_singleton]
    omega
  mo := fun m hm => by
    rcases List.mem_append.mp hm with hm | hm
    · exact h.mo m hm
    · exact ⟨J, U, d, by rw [List.mem_singleton.mp hm]⟩
  ct := fun j hj => by
    obtain ⟨a, c⟩ := h.dn J U d
    rw [onR_put (nmT_inj K.tl K.tn) a c hj (Nat.le_refl _), h.ct j hj]
    by_cases z : j = J
    · subst z
      rw [if_pos rfl, if_pos ⟨rfl, c⟩]
    · rw [if_neg z, if_neg (fun w => z w.1)]
      rfl
  sh := fun j hj => by
    obtain ⟨a, c⟩ := h.dn J U d
    rw [shutR_put (nmT_inj K.tl K.tn) a c hj, ← h.sh j hj]
    by_cases z : j = J
    · subst z
      rw [if_pos rfl, Bool.or_eq_true]
      simp
    · rw [if_neg z]
      constructor
      · exact .inl
      · rintro (w | ⟨_, w⟩)
        · exact w
        · exact absurd w z
theorem Laid.plen (h : Laid R len ts gs l0 done ps ms ct sh) (K : RoOk R len ts gs l0) : ps.length ≤ 12 := by
  have := nodup_len (xs := ps.map (·.1)) (ys := ts) h.lp.un fun x hx => by
    obtain ⟨p, hp, rfl⟩ := List.mem_map.mp hx
    obtain ⟨j, t, d, e, _⟩ := h.lp.all p hp
    obtain ⟨a, b⟩ := h.dn j t d
    rw [e]
    exact List.mem_of_getElem? (nmT_at K.tl a b)
  rw [List.length_map, K.tl] at this
  have := off_le K.h3 (Nat.le_refl R)
  have := K.r4
  omega
theorem Laid.po (h : Laid R len ts gs l0 (fun j t => j < R ∧ t < len j) ps ms ct sh) (K : RoOk R len ts gs l0) : POk ps :=
  h.lp.po K.r4 K.r0 K.h0 K.h3 (fun _ _ hj ht => nmT_nm K.tl K.tm hj ht) (h.plen K)
theorem Laid.mok (h : Laid R len ts gs l0 (fun j t => j < R ∧ t < len j) ps ms ct sh) (K : RoOk R len ts gs l0) : MOk ps ms where
  ln := Nat.le_trans h.ml K.l0
  nm := fun m hm => by
    have m1 : m.1 ∈ ms.map (·.1) := List.mem_map.mpr ⟨m, hm, rfl⟩
    rw [h.gn] at m1
    obtain ⟨i, hi, e⟩ := List.mem_map.mp m1
    have hi := List.mem_range.mp hi
    have ml := h.ml
    have l0 := K.l0
    have gl := K.gl
    refine ⟨?_, ?_⟩
    · rw [← e, List.getD, List.getElem?_eq_getElem (by omega)]
      exact K.gm _ (List.getElem_mem _)
    · obtain ⟨j, t, ⟨a, b⟩, z⟩ := h.mo m hm
      rw [z]
      exact nmT_nm K.tl K.tm a b
  nd := by
    rw [h.gn, List.Nodup, List.pairwise_map]
    refine List.Pairwise.imp_of_mem ?_ List.nodup_range
    intro x y hx hy ne e
    have hx := List.mem_range.mp hx
    have hy := List.mem_range.mp hy
    have ml := h.ml
    have l0 := K.l0
    have gl := K.gl
    rw [List.getD, List.getD, List.getElem?_eq_getElem (by omega), List.getElem?_eq_getElem (by omega)] at e
    have := (List.getElem_inj K.gd).mp e
    omega
  on := fun m hm => by
    obtain ⟨j, t, d, z⟩ := h.mo m hm
    obtain ⟨p, hp, e, _⟩ := h.lp.has j t d
    rw [z]
    exact List.mem_map.mpr ⟨p, hp, e⟩
theorem Laid.road (h : Laid R len ts gs l0 (fun j t => j < R ∧ t < len j) ps ms ct sh) (K : RoOk R len ts gs l0) : RoadP ps R len (nmT ts len) (nodeN len) "x" "y" :=
  h.lp.roads K.r4 K.h0 K.h3 (nmT_inj K.tl K.tn)
end
/-! ### the heap -/
/-- the things of M change, those of F stand; both are new, or not in M's places -/
structure Bag (H0 : Hp) (a : Addr) (n : Nat) (M F : List (Addr × HO)) (H : Hp) : Prop where
  gr : Grow a H0 H
  well : WellAt H a n
  m : ∀ p ∈ M, H0 p.1 = none ∧ p.1 ≠ a ∧ H p.1 = some p.2
  md : (M.map (·.1)).Nodup
  f : ∀ q ∈ F, q.1 ≠ a ∧ H q.1 = some q.2 ∧ ∀ p ∈ M, q.1 ≠ p.1
section
variable {H0 H H' : Hp} {a p : Addr} {n m : Nat} {M F F' : List (Addr × HO)} {o o' : HO} {Q : VK} {E : XK}
theorem Bag.grow (h : Bag H0 a n M F H) (g : Grow a H H') (w : WellAt H' a m) : Bag H0 a m M F H' :=
  ⟨h.gr.trans g, w, fun p hp => ⟨(h.m p hp).1, (h.m p hp).2.1, g _ _ (h.m p hp).2.1 (h.m p hp).2.2⟩, h.md, fun q hq => ⟨(h.f q hq).1, g _ _ (h.f q hq).1 (h.f q hq).2.1, (h.f q hq).2.2⟩⟩
theorem Bag.same (h : Bag H0 a n M F H) (g : Same H H') : Bag H0 a n M F H' := by
  obtain ⟨x, y, z, e, r⟩ := h.well
  exact h.grow (fun b o _ eb => g b o eb) ⟨x, y, z, g _ _ e, r⟩
theorem Bag.wm (h : Bag H0 a n M F H) (e : n ≤ m) : Bag H0 a m M F H := ⟨h.gr, h.well.mono e, h.m, h.md, h.f⟩
theorem Bag.dip {q : Int} (h : Bag H0 a n M F H) (hn : n < 1000000) (h0 : 0 < q) (h1 : q ≤ 10 ^ 60) (k : ∀ (r : Int) H', 0 ≤ r → r < q → Bag H0 a (n + 1) M F H' → Q (.int r) H') : Irr sp_dip [.ref a, .int q] H Q E :=
  irr ⟨a, q, n, rfl, h.well, hn, h0, h1, fun r H' r0 r1 g w => k r H' r0 r1 (h.grow g w)⟩
theorem Bag.new (h : Bag H0 a n M F H) (np : H p = none) : Bag H0 a n M ((p, o) :: F) (upd H p o) := by
  have h1 := h.grow (m := n) (Grow.new (o := o) np) (h.well.new np)
  refine ⟨h1.gr, h1.well, h1.m, h1.md, fun q hq => ?_⟩
  rcases List.mem_cons.mp hq with rfl | hq
  · exact ⟨(h.well.ne np).symm, upd_same, fun r hr => (ne_of_none (h.m r hr).2.2 np).symm⟩
  · exact h1.f q hq
theorem Bag.sub (h : Bag H0 a n M F H) (s : ∀ p ∈ F', p ∈ F) : Bag H0 a n M F' H := ⟨h.gr, h.well, h.m, h.md, fun q hq => h.f q (s q hq)⟩
theorem Bag.at (h : Bag H0 a n M F H) (hp : (p, o) ∈ F) : H p = some o := (h.f _ hp).2.1
theorem Bag.am (h : Bag H0 a n M F H) (hp : (p, o) ∈ M) : H p = some o := (h.m _ hp).2.2
theorem Bag.put (h : Bag H0 a n M F H) {i : Nat} (hi : M[i]? = some (p, o)) : Bag H0 a n (M.set i (p, o')) F (upd H p o') := by
  have hm := List.mem_of_getElem? hi
  obtain ⟨h0, pa, e⟩ := h.m _ hm
  have efst : (M.set i (p, o')).map (·.1) = M.map (·.1) := by
    rw [List.map_set]
    refine List.ext_getElem? fun k => ?_
    rw [List.getElem?_set]
    split
    · next e =>
      subst e
      rw [List.getElem?_map, hi]
      simp [(List.getElem?_eq_some_iff.mp hi).1]
    · rfl
  refine ⟨fun b u hb eb => ?_, ?_, fun q hq => ?_, by rw [efst]; exact h.md, fun q hq => ?_⟩
  · rw [upd_ne (ne_of_none eb h0)]
    exact h.gr b u hb eb
  · obtain ⟨x, y, z, ew, r⟩ := h.well
    exact ⟨x, y, z, by rw [upd_ne pa.symm]; exact ew, r⟩
  · obtain ⟨k, hk⟩ := List.getElem?_of_mem hq
    rw [List.getElem?_set] at hk
    split at hk
    · split at hk
      · obtain rfl := Option.some.inj hk
        exact ⟨h0, pa, upd_same⟩
      · cases hk
    · next ne =>
      have hq' := List.mem_of_getElem? hk
      obtain ⟨a1, a2, a3⟩ := h.m q hq'
      refine ⟨a1, a2, ?_⟩
      rw [upd_ne]
      · exact a3
      · intro z
        refine ne ((List.getElem?_inj (l := M.map (·.1)) ?_ h.md).mp ?_)
        · rw [List.length_map]
          exact (List.getElem?_eq_some_iff.mp hi).1
        · rw [List.getElem?_map, List.getElem?_map, hi, hk]
          show some p = some q.1
          rw [z]
  · obtain ⟨a1, a2, a3⟩ := h.f q hq
    refine ⟨a1, ?_, fun r hr => ?_⟩
    · rw [upd_ne (a3 _ hm)]
      exact a2
    · have : r.1 ∈ M.map (·.1) := by
        rw [← efst]
        exact List.mem_map.mpr ⟨r, hr, rfl⟩
      obtain ⟨r', hr', e'⟩ := List.mem_map.mp this
      rw [← e']
      exact a3 r' hr'
end
end RV
/-! What is told of roads; lists of ints; places along a road. -/
namespace RV
open PySem L2 TL
abbrev TU := Addr × Addr × List Str × Nat × Bool
def oT (u : TU) : HO := .lst [.ref u.2.1, .int (u.2.2.2.1 : Nat), .bl u.2.2.2.2]
def tolF (us : List TU) : List (Addr × HO) := us.map (fun u => (u.1, oT u)) ++ us.map fun u => (u.2.1, HO.lst (u.2.2.1.map V.str))
theorem tolF_put {us : List TU} {u : TU} {F : List (Addr × HO)} (p : Addr × HO) (h : p ∈ tolF (us ++ [u]) ++ F) : p = (u.1, oT u) ∨ p = (u.2.1, HO.lst (u.2.2.1.map V.str)) ∨ p ∈ tolF us ++ F := by
  simp only [tolF, List.map_append, List.map_cons, List.map_nil, List.mem_append, List.mem_singleton] at h ⊢
  rcases h with ((h | h) | h | h) | h
  · exact .inr (.inr (.inl (.inl h)))
  · exact .inl h
  · exact .inr (.inr (.inl (.inr h)))
  · exact .inr (.inl h)
  · exact .inr (.inr (.inr h))
/-- what is told of the first k roads -/
def tellL (nm : Nat → Nat → Str) (len : Nat → Nat) (ct : Nat → Nat) (sh : Nat → Bool) (k : Nat) : List (List Str × Nat × Bool) := (List.range k).map fun j => ((List.range (len j)).map (nm j), ct j, sh j)
theorem tellL_succ (nm : Nat → Nat → Str) (len : Nat → Nat) (ct : Nat → Nat) (sh : Nat → Bool) (k : Nat) : tellL nm len ct sh (k + 1) = tellL nm len ct sh k ++ [((List.range (len k)).map (nm k), ct k, sh k)] := by
  rw [tellL, List.range_succ, List.map_append]
  rfl
theorem tellL_congr {nm : Nat → Nat → Str} {len : Nat → Nat} {ct ct' : Nat → Nat} {sh sh' : Nat → Bool} {k : Nat} (h : ∀ j, j < k → ct j = ct' j ∧ sh j = sh' j) : tellL nm len ct sh k = tellL nm len ct' sh' k :=
  List.map_congr_left fun j hj => by
    obtain ⟨a, b⟩ := h j (List.mem_range.mp hj)
    rw [a, b]
/-- so many of a row of numbers -/
def lenL (ls : List Nat) (j : Nat) : Nat := ls.getD j 0
theorem off_lenL (ls : List Nat) : ∀ {i : Nat}, i ≤ ls.length → off (lenL ls) i = (ls.take i).sum
  | 0, _ => rfl
  | i + 1, h => by
    rw [off_succ, off_lenL ls (by omega), List.take_add_one, List.getElem?_eq_getElem (by omega), Option.toList_some, List.sum_append]
    simp [lenL, List.getD, List.getElem?_eq_getElem (show i < ls.length by omega)]
theorem isum : ∀ ls : List Nat, (ls.map fun (k : Nat) => (k : Int)).sum = ((ls.sum : Nat) : Int)
  | [] => rfl
  | x :: xs => by
    rw [List.map_cons, List.sum_cons, List.sum_cons, isum xs]
    omega
theorem vI_int (ls : List Nat) : ls.map vI = (ls.map fun (k : Nat) => (k : Int)).map V.int := by
  rw [List.map_map]
  rfl
theorem atI_vI {ls : List Nat} {j : Nat} (h : j < ls.length) : atI (ls.map vI) (j : Int) = some (.int (lenL ls j : Nat)) := by
  refine atI_nat ?_
  rw [List.getElem?_map, List.getElem?_eq_getElem h]
  simp [lenL, List.getD, List.getElem?_eq_getElem h, vI]
theorem cutV_tak (xs : List V) (k : Nat) : cutV xs none (some (k : Int)) = xs.take k := by
  unfold cutV
  rw [show HT.sIx xs.length 0 none = 0 from rfl, List.drop_zero, Nat.sub_zero]
  simp only [HT.sIx]
  rw [if_neg (by omega), Int.toNat_natCast]
  rcases Nat.le_total k xs.length with h | h
  · rw [Nat.min_eq_left h]
  · rw [Nat.min_eq_right h, List.take_of_length_le (Nat.le_refl _), List.take_of_length_le h]
theorem cutV_mid (xs : List V) {p q : Nat} (h : p ≤ q) (hq : q ≤ xs.length) : cutV xs (some (p : Int)) (some (q : Int)) = (xs.drop p).take (q - p) := by
  unfold cutV
  simp only [HT.sIx]
  rw [if_neg (by omega), if_neg (by omega), Int.toNat_natCast, Int.toNat_natCast, Nat.min_eq_left (show p ≤ xs.length by omega), Nat.min_eq_left (show q ≤ xs.length by omega)]
theorem nS_len {i : Nat} (h : i < 16) : (nS i).length ≤ 2 := by
  have : ∀ i : Fin 16, (nS i.val).length ≤ 2 := by decide +kernel
  exact this ⟨i, h⟩
/-- the places along a road -/
theorem stops_at {len : Nat → Nat} {i t : Nat} (h : 0 < len i) (ht : t ≤ len i) : ([V.str "x"] ++ ((List.range (len i - 1)).map (stopN i)).map V.str ++ [V.str "y"])[t]? = some (V.str (nodeN len i t)) := by
  rcases Nat.eq_zero_or_pos t with rfl | tp
  · rfl
  · rw [List.append_assoc, List.getElem?_append_right (by rw [List.length_singleton]; omega), List.length_singleton]
    by_cases e : t = len i
    · rw [List.getElem?_append_right (by simp; omega)]
      simp only [List.length_map, List.length_range]
      rw [show t - 1 - (len i - 1) = 0 by omega, e, node_len h]
      rfl
    · rw [List.getElem?_append_left (by simp; omega), List.getElem?_map, List.getElem?_map, List.getElem?_range (by omega)]
      rw [nodeN, if_neg (by omega), if_neg e]
      rfl
section
variable {H0 H H' : Hp} {a p : Addr} {n m : Nat} {M F F' : List (Addr × HO)} {o o' : HO}
theorem Bag.start (w : WellAt H a n) : Bag H a n [] [] H := ⟨Grow.refl a H, w, (fun _ h => nomatch h), .nil, fun _ h => nomatch h⟩
theorem Bag.none0 (h : Bag H0 a n M F H) (np : H p = none) : H0 p = none := by
  cases e : H0 p with
  | none => rfl
  | some o =>
    rw [h.gr p o (h.well.ne np).symm e] at np
    cases np
/-- a new thing that will change -/
theorem Bag.newM (h : Bag H0 a n M F H) (np : H p = none) : Bag H0 a n ((p, o) :: M) F (upd H p o) := by
  have h1 := h.grow (m := n) (Grow.new (o := o) np) (h.well.new np)
  refine ⟨h1.gr, h1.well, fun q hq => ?_, ?_, fun q hq => ?_⟩
  · rcases List.mem_cons.mp hq with rfl | hq
    · exact ⟨h.none0 np, (h.well.ne np).symm, upd_same⟩
    · exact h1.m q hq
  · rw [List.map_cons, List.nodup_cons]
    refine ⟨fun hm => ?_, h.md⟩
    obtain ⟨q, hq, e⟩ := List.mem_map.mp hm
    have := (h.m q hq).2.2
    rw [e, np] at this
    cases this
  · obtain ⟨a1, a2, a3⟩ := h1.f q hq
    refine ⟨a1, a2, fun r hr => ?_⟩
    rcases List.mem_cons.mp hr with rfl | hr
    · exact ne_of_none (h.f q hq).2.1 np
    · exact a3 r hr
/-- it stays as it is from here on -/
theorem Bag.frz (h : Bag H0 a n ((p, o) :: M) F H) : Bag H0 a n M ((p, o) :: F) H := by
  obtain ⟨a1, a2⟩ := List.nodup_cons.mp (by have := h.md; rwa [List.map_cons] at this)
  refine ⟨h.gr, h.well, fun q hq => h.m q (List.mem_cons_of_mem _ hq), a2, fun q hq => ?_⟩
  rcases List.mem_cons.mp hq with rfl | hq
  · obtain ⟨b1, b2, b3⟩ := h.m _ List.mem_cons_self
    exact ⟨b2, b3, fun r hr e => a1 (List.mem_map.mpr ⟨r, hr, e.symm⟩)⟩
  · obtain ⟨b1, b2, b3⟩ := h.f q hq
    exact ⟨b1, b2, fun r hr => b3 r (List.mem_cons_of_mem _ hr)⟩
theorem Bag.put0 (h : Bag H0 a n ((p, o) :: M) F H) : Bag H0 a n ((p, o') :: M) F (upd H p o') := h.put (i := 0) rfl
theorem Bag.add (h : Bag H0 a n [] F H) (n0 : p ≠ a) (e : H p = some o) : Bag H0 a n [] ((p, o) :: F) H :=
  ⟨h.gr, h.well, h.m, h.md, fun q hq => by
    rcases List.mem_cons.mp hq with rfl | hq
    · exact ⟨n0, e, fun _ h => nomatch h⟩
    · exact h.f q hq⟩
end
/-- a law's roads: told, and the text of the net -/
def sp_paths : Sp := fun vs H Q _ => ∃ (a : Addr) (n R : Nat), vs = [.ref a, .int (R : Int)] ∧ WellAt H a n ∧ n < 500 ∧ 2 ≤ R ∧ R ≤ 4 ∧
  ∀ (l lO : Addr) (us : List TU) (len : Nat → Nat) (ts gs : List Str) (l0 : Nat) (ps : List P3) (ms : List M3) (ct : Nat → Nat) (sh : Nat → Bool) H', RoOk R len ts gs l0 → Laid R len ts gs l0 (fun j t => j < R ∧ t < len j) ps ms ct sh → us.map (·.2.2) = tellL (nmT ts len) len ct sh R →
    Bag H a (n + 2000) [] ((l, .lst [.ref lO, .str (netT ps ms)]) :: (lO, .lst (rf us)) :: tolF us) H' → Q (.ref l) H'
end RV
/-! What is due of roads; one pipe alone, written. -/
namespace RV
open PySem L2 PyProof.Rows TL
theorem short_int' {k : Nat} (h : k ≤ 100) : Short (.int (k : Nat)) := by
  refine ⟨by simp [PyData.showable]; exact Nat.lt_of_le_of_lt (Nat.log2_le_self k) (by omega), by simp [PyData.depth], ?_⟩
  have : ∀ k, k < 101 → (PyData.int ((k : Nat) : Int)).shown.length ≤ 100 := by decide +kernel
  exact this k (by omega)
theorem shw_N' {xs : List (Option Nat)} (h : ∀ o ∈ xs, ∀ m, o = some m → m ≤ 100) (hl : xs.length ≤ 100) : Shw (.list (xs.map dO)) 60 20000 := by
  refine (shw_list (n := 0) (k := 100) fun d hd => ?_).mono (by decide) ?_
  · obtain ⟨o, ho, rfl⟩ := List.mem_map.mp hd
    cases o with
    | none => exact short_none.shw
    | some m => exact (short_int' (h _ ho m rfl)).shw
  · rw [List.length_map]
    omega
theorem onR_le (ms : List M3) (nm : Nat → Nat → Str) (j : Nat) : ∀ L : Nat, onR ms nm j L ≤ L * ms.length
  | 0 => Nat.zero_le _
  | L + 1 => by
    have e1 : onR ms nm j (L + 1) = onR ms nm j L + wtP ms (nm j L) := by
      rw [onR, List.range_succ, List.map_append, List.sum_append]
      simp [onR]
    have ih := onR_le ms nm j L
    have h2 : wtP ms (nm j L) ≤ ms.length := List.length_filter_le _ _
    rw [e1, Nat.add_mul]
    omega
section
variable {R : Nat} {len : Nat → Nat} {ts gs : List Str} {l0 : Nat} {done : Nat → Nat → Prop} {ps : List P3} {ms : List M3} {ct : Nat → Nat} {sh : Nat → Bool}
theorem Laid.ct_le (h : Laid R len ts gs l0 done ps ms ct sh) (K : RoOk R len ts gs l0) {j : Nat} (hj : j < R) : ct j ≤ 36 := by
  rw [h.ct j hj]
  have h1 := onR_le ms (nmT ts len) j (len j)
  have h2 : len j * ms.length ≤ 3 * 12 := Nat.mul_le_mul (K.h3 j hj) (Nat.le_trans h.ml K.l0)
  omega
theorem Laid.due_le (h : Laid R len ts gs l0 done ps ms ct sh) (K : RoOk R len ts gs l0) {i : Nat} (hi : i < R) {o : Option Nat} (ho : IsMin (othR R ct sh i) o) : ∀ m, dueR ct sh i o = some m → m ≤ 100 := fun m e => by
  rw [dueR] at e
  split at e
  · cases e
  · cases o with
    | none => cases e
    | some q =>
      obtain ⟨k, hk, _, _, e2⟩ := othR_mem.mp ho.1
      have h1 := h.ct_le K hi
      have h2 := h.ct_le K hk
      have e : ct i + q = m := Option.some.inj e
      omega
/-- road i's row of what is told -/
theorem tell_at {us : List TU} {nm : Nat → Nat → Str} (hu : us.map (·.2.2) = tellL nm len ct sh R) {i : Nat} (hi : i < R) : ∃ u : TU, us[i]? = some u ∧ u.2.2 = ((List.range (len i)).map (nm i), ct i, sh i) := by
  have e : (us.map (·.2.2))[i]? = some ((List.range (len i)).map (nm i), ct i, sh i) := by
    rw [hu, tellL, List.getElem?_map, List.getElem?_range hi]
    rfl
  rw [List.getElem?_map] at e
  cases h : us[i]? with
  | none => rw [h] at e; cases e
  | some u =>
    rw [h] at e
    exact ⟨u, rfl, Option.some.inj e⟩
theorem road_at {H0 H : Hp} {a l lO : Addr} {n : Nat} {o : HO} {us : List TU} {nm : Nat → Nat → Str} (hu : us.map (·.2.2) = tellL nm len ct sh R) (b : Bag H0 a n [] ((l, o) :: (lO, .lst (rf us)) :: tolF us) H) {i : Nat} (hi : i < R) :
    ∃ r w : Addr, atI (rf us) (i : Int) = some (.ref r) ∧ H r = some (.lst [.ref w, .int (ct i : Nat), .bl (sh i)]) ∧ H w = some (.lst (((List.range (len i)).map (nm i)).map V.str)) := by
  obtain ⟨u, hx, e⟩ := tell_at hu hi
  have hm := List.mem_of_getElem? hx
  refine ⟨u.1, u.2.1, atI_nat (by rw [rf, List.getElem?_map, hx]; rfl), ?_, ?_⟩
  · have := b.at (p := u.1) (o := oT u) (List.mem_cons_of_mem _ (List.mem_cons_of_mem _ (List.mem_append_left _ (List.mem_map.mpr ⟨u, hm, rfl⟩))))
    rw [this, oT, e]
  · have := b.at (p := u.2.1) (o := .lst (u.2.2.1.map V.str)) (List.mem_cons_of_mem _ (List.mem_cons_of_mem _ (List.mem_append_right _ (List.mem_map.mpr ⟨u, hm, rfl⟩))))
    rw [this, e]
end
/-! ### one pipe alone -/
def mlone (k : Nat) : Str := ("m" : Str) ++ nS k
def msL (x : Str) (c : Nat) : List M3 := (List.range c).map fun k => (mlone k, x, false)
def tailM (x : Str) (k : Nat) : Str := ("\nmeter m" : Str) ++ nS k ++ " " ++ x
theorem mlone_ok : ∀ k : Nat, k < 5 → IsNm (mlone k) ∧ ∀ j, j < 5 → mlone j = mlone k → j = k := by
  have : ∀ k : Fin 5, isNm (cd (mlone k.val)) = true ∧ ∀ j : Fin 5, mlone j.val = mlone k.val → j = k := by decide +kernel
  intro k hk
  obtain ⟨a, b⟩ := this ⟨k, hk⟩
  exact ⟨a, fun j hj e => Fin.mk.inj_iff.mp (b ⟨j, hj⟩ e)⟩
theorem lone_po {x : Str} (hx : IsNm x) : POk [(x, "a", "b")] where
  n0 := fun h => nomatch h
  ln := by show 1 ≤ 12; omega
  nm := fun p hp => by
    rw [List.mem_singleton.mp hp]
    exact ⟨hx, by show isNm (cd "a") = true; decide +kernel, by show isNm (cd "b") = true; decide +kernel, by show ("b" : Str) ≠ "a"; decide +kernel⟩
  nd := by simp
theorem lone_mo {x : Str} (hx : IsNm x) {c : Nat} (hc : c ≤ 5) : MOk [(x, "a", "b")] (msL x c) where
  ln := by
    rw [msL, List.length_map, List.length_range]
    omega
  nm := fun m hm => by
    obtain ⟨k, hk, rfl⟩ := List.mem_map.mp hm
    have := List.mem_range.mp hk
    exact ⟨(mlone_ok k (by omega)).1, hx⟩
  nd := by
    rw [msL, List.map_map, List.Nodup, List.pairwise_map]
    refine List.Pairwise.imp_of_mem ?_ List.nodup_range
    intro i j hi hj ne e
    have hi := List.mem_range.mp hi
    have hj := List.mem_range.mp hj
    exact ne ((mlone_ok j (by omega)).2 i (by omega) e)
  on := fun m hm => by
    obtain ⟨k, _, rfl⟩ := List.mem_map.mp hm
    exact List.mem_singleton.mpr rfl
theorem joinL_cons (s y : List Nat) : ∀ ys : List (List Nat), joinL s (y :: ys) = y ++ (ys.map (s ++ ·)).flatten
  | [] => by simp [joinL]
  | z :: zs => by
    show y ++ (s ++ joinL s (z :: zs)) = _
    rw [joinL_cons s z zs]
    simp
theorem cd_tail (x : Str) (k : Nat) : cd (tailM x k) = [10] ++ cd (mline (mlone k, x, false)) := by
  have e8 : cd "\nmeter m" = [10, 109, 101, 116, 101, 114, 32, 109] := by decide +kernel
  have e9 : cd "m" = [109] := by decide +kernel
  rw [mline_cd, tailM, cd_app, cd_app, cd_app, e8, cd_sp]
  dsimp only
  rw [mlone, cd_app, e9]
  simp
theorem lone_text (x : Str) (c : Nat) : ("pipe " : Str) ++ x ++ " a b" ++ Txt.join "" ((List.range c).map (tailM x)) = netT [(x, "a", "b")] (msL x c) := cd_inj (by
  have e1 : cd " a b" = [32, 97, 32, 98] := by decide +kernel
  have e2 : cd "a" = [97] := by decide +kernel
  have e3 : cd "b" = [98] := by decide +kernel
  rw [netT, cd_app, cd_app, cd_app, cd_pipe1, e1, join_eq, join_eq]
  show _ ++ tl _ = tl _
  rw [tl_join, tl_join, show tl "" = [] from cd_no, joinL_nil, show tl "\n" = [10] from cd_nl, netL]
  show _ = joinL [10] (cd (pline (x, "a", "b")) :: _)
  rw [joinL_cons, pline_cd]
  dsimp only
  rw [e2, e3, msL]
  simp only [List.map_map, List.append_assoc, List.cons_append, List.nil_append]
  congr 8
  refine congrArg (fun z : List (List Nat) => 32 :: 98 :: z.flatten) ?_
  show List.map (tl ∘ tailM x) (List.range c) = List.map ((fun x => 10 :: x) ∘ tl) (List.map (mline ∘ fun k => (mlone k, x, false)) (List.range c))
  rw [List.map_map]
  refine List.map_congr_left fun k _ => ?_
  show cd (tailM x k) = _
  rw [cd_tail]
  rfl)
theorem tail_len {x : Str} (hx : IsNm x) {k : Nat} (hk : k < 16) : (tailM x k).length ≤ 20 := by
  have z1 := nS_len hk
  have z2 := nm8 hx
  have z3 : Str.length "\nmeter m" = 8 := by decide +kernel
  have z4 : Str.length " " = 1 := by decide +kernel
  rw [tailM, sl_app, sl_app, sl_app]
  omega
theorem sum_len {xs : List Str} {b : Nat} (h : ∀ x ∈ xs, x.length ≤ b) : (xs.map (·.length)).sum ≤ b * xs.length := by
  induction xs with
  | nil => simp
  | cons x xs ih =>
    rw [List.map_cons, List.sum_cons, List.length_cons, Nat.mul_add]
    have := ih fun y hy => h y (List.mem_cons_of_mem _ hy)
    have := h x List.mem_cons_self
    omega
theorem join_len0 (xs : List Str) : (Txt.join "" xs).length = (xs.map (·.length)).sum := by
  have e : cd (Txt.join "" xs) = (xs.map cd).flatten := by
    rw [join_eq]
    show tl _ = _
    rw [tl_join, show tl "" = [] from cd_no, joinL_nil]
  rw [cd_len, e, List.length_flatten, List.map_map]
  rfl
end RV
namespace RV
open PySem L2
def top (i : Nat) : Stmt := PySem.Challenge.pw_ringvotes_k24_known_strengths.main.body.getD i (.Pass ⟨0, 0, 0, 0⟩)
abbrev s_is_name : Stmt := top 4
abbrev sc_is_name_N : List Str := ["value", "letter"]
theorem sc_is_name : FnScope sc_is_name_N ["value"] (defScope s_is_name) := ⟨rfl, rfl, rfl, by decide +kernel, rfl, by decide +kernel, by decide +kernel⟩
abbrev s_Pipe___init__ : Stmt := inClass (top 20) 0
abbrev sc_Pipe___init___N : List Str := ["self", "name", "start", "end"]
theorem sc_Pipe___init__ : FnScope sc_Pipe___init___N ["self", "name", "start", "end"] (defScope s_Pipe___init__) := ⟨rfl, rfl, rfl, by decide +kernel, rfl, by decide +kernel, by decide +kernel⟩
abbrev s_Pipe_name : Stmt := inClass (top 20) 1
abbrev sc_Pipe_name_N : List Str := ["self"]
theorem sc_Pipe_name : FnScope sc_Pipe_name_N ["self"] (defScope s_Pipe_name) := ⟨rfl, rfl, rfl, by decide +kernel, rfl, by decide +kernel, by decide +kernel⟩
abbrev s_Pipe_start : Stmt := inClass (top 20) 2
abbrev sc_Pipe_start_N : List Str := ["self"]
theorem sc_Pipe_start : FnScope sc_Pipe_start_N ["self"] (defScope s_Pipe_start) := ⟨rfl, rfl, rfl, by decide +kernel, rfl, by decide +kernel, by decide +kernel⟩
abbrev s_Pipe_end : Stmt := inClass (top 20) 3
abbrev sc_Pipe_end_N : List Str := ["self"]
theorem sc_Pipe_end : FnScope sc_Pipe_end_N ["self"] (defScope s_Pipe_end) := ⟨rfl, rfl, rfl, by decide +kernel, rfl, by decide +kernel, by decide +kernel⟩
abbrev s_Pipe___eq__ : Stmt := inClass (top 20) 4
abbrev sc_Pipe___eq___N : List Str := ["self", "other"]
theorem sc_Pipe___eq__ : FnScope sc_Pipe___eq___N ["self", "other"] (defScope s_Pipe___eq__) := ⟨rfl, rfl, rfl, by decide +kernel, rfl, by decide +kernel, by decide +kernel⟩
abbrev s_Meter___init__ : Stmt := inClass (top 21) 0
abbrev sc_Meter___init___N : List Str := ["self", "name", "at", "sealed"]
theorem sc_Meter___init__ : FnScope sc_Meter___init___N ["self", "name", "at", "sealed"] (defScope s_Meter___init__) := ⟨rfl, rfl, rfl, by decide +kernel, rfl, by decide +kernel, by decide +kernel⟩
abbrev s_Meter_name : Stmt := inClass (top 21) 1
abbrev sc_Meter_name_N : List Str := ["self"]
theorem sc_Meter_name : FnScope sc_Meter_name_N ["self"] (defScope s_Meter_name) := ⟨rfl, rfl, rfl, by decide +kernel, rfl, by decide +kernel, by decide +kernel⟩
abbrev s_Meter_at : Stmt := inClass (top 21) 2
abbrev sc_Meter_at_N : List Str := ["self"]
theorem sc_Meter_at : FnScope sc_Meter_at_N ["self"] (defScope s_Meter_at) := ⟨rfl, rfl, rfl, by decide +kernel, rfl, by decide +kernel, by decide +kernel⟩
abbrev s_Meter_sealed : Stmt := inClass (top 21) 3
abbrev sc_Meter_sealed_N : List Str := ["self"]
theorem sc_Meter_sealed : FnScope sc_Meter_sealed_N ["self"] (defScope s_Meter_sealed) := ⟨rfl, rfl, rfl, by decide +kernel, rfl, by decide +kernel, by decide +kernel⟩
abbrev s_Meter___eq__ : Stmt := inClass (top 21) 4
abbrev sc_Meter___eq___N : List Str := ["self", "other"]
theorem sc_Meter___eq__ : FnScope sc_Meter___eq___N ["self", "other"] (defScope s_Meter___eq__) := ⟨rfl, rfl, rfl, by decide +kernel, rfl, by decide +kernel, by decide +kernel⟩
abbrev s_Net___init__ : Stmt := inClass (top 22) 0
abbrev sc_Net___init___N : List Str := ["self", "pipes", "meters"]
theorem sc_Net___init__ : FnScope sc_Net___init___N ["self", "pipes", "meters"] (defScope s_Net___init__) := ⟨rfl, rfl, rfl, by decide +kernel, rfl, by decide +kernel, by decide +kernel⟩
abbrev s_Net_read : Stmt := inClass (top 22) 1
abbrev sc_Net_read_N : List Str := ["cls", "text", "net"]
theorem sc_Net_read : FnScope sc_Net_read_N ["cls", "text"] (defScope s_Net_read) := ⟨rfl, rfl, rfl, by decide +kernel, rfl, by decide +kernel, by decide +kernel⟩
abbrev s_Net_pipes : Stmt := inClass (top 22) 2
abbrev sc_Net_pipes_N : List Str := ["self"]
theorem sc_Net_pipes : FnScope sc_Net_pipes_N ["self"] (defScope s_Net_pipes) := ⟨rfl, rfl, rfl, by decide +kernel, rfl, by decide +kernel, by decide +kernel⟩
abbrev s_Net_meters : Stmt := inClass (top 22) 3
abbrev sc_Net_meters_N : List Str := ["self"]
theorem sc_Net_meters : FnScope sc_Net_meters_N ["self"] (defScope s_Net_meters) := ⟨rfl, rfl, rfl, by decide +kernel, rfl, by decide +kernel, by decide +kernel⟩
abbrev s_Net_places : Stmt := inClass (top 22) 4
abbrev sc_Net_places_N : List Str := ["self", "part", "place"]
abbrev s_Net_pipe : Stmt := inClass (top 22) 5
abbrev sc_Net_pipe_N : List Str := ["self", "name", "index"]
theorem sc_Net_pipe : FnScope sc_Net_pipe_N ["self", "name"] (defScope s_Net_pipe) := ⟨rfl, rfl, rfl, by decide +kernel, rfl, by decide +kernel, by decide +kernel⟩
abbrev s_Net_meter : Stmt := inClass (top 22) 6
abbrev sc_Net_meter_N : List Str := ["self", "name", "index"]
abbrev s_Net___add__ : Stmt := inClass (top 22) 7
abbrev sc_Net___add___N : List Str := ["self", "other", "index"]
abbrev s_Net___sub__ : Stmt := inClass (top 22) 8
abbrev sc_Net___sub___N : List Str := ["self", "other", "index"]
abbrev s_Net___contains__ : Stmt := inClass (top 22) 9
abbrev sc_Net___contains___N : List Str := ["self", "x"]
abbrev s_Net___len__ : Stmt := inClass (top 22) 10
abbrev sc_Net___len___N : List Str := ["self"]
theorem sc_Net___len__ : FnScope sc_Net___len___N ["self"] (defScope s_Net___len__) := ⟨rfl, rfl, rfl, by decide +kernel, rfl, by decide +kernel, by decide +kernel⟩
abbrev s_Net___str__ : Stmt := inClass (top 22) 11
abbrev sc_Net___str___N : List Str := ["self"]
theorem sc_Net___str__ : FnScope sc_Net___str___N ["self"] (defScope s_Net___str__) := ⟨rfl, rfl, rfl, by decide +kernel, rfl, by decide +kernel, by decide +kernel⟩
abbrev s_Net___repr__ : Stmt := inClass (top 22) 12
abbrev sc_Net___repr___N : List Str := ["self"]
abbrev s_Net___eq__ : Stmt := inClass (top 22) 13
abbrev sc_Net___eq___N : List Str := ["self", "other"]
theorem sc_Net___eq__ : FnScope sc_Net___eq___N ["self", "other"] (defScope s_Net___eq__) := ⟨rfl, rfl, rfl, by decide +kernel, rfl, by decide +kernel, by decide +kernel⟩
abbrev s_check_names : Stmt := top 23
abbrev sc_check_names_N : List Str := ["values", "value"]
theorem sc_check_names : FnScope sc_check_names_N ["values"] (defScope s_check_names) := ⟨rfl, rfl, rfl, by decide +kernel, rfl, by decide +kernel, by decide +kernel⟩
abbrev s_check_pipes : Stmt := top 24
abbrev sc_check_pipes_N : List Str := ["pipes", "names", "index", "part"]
theorem sc_check_pipes : FnScope sc_check_pipes_N ["pipes"] (defScope s_check_pipes) := ⟨rfl, rfl, rfl, by decide +kernel, rfl, by decide +kernel, by decide +kernel⟩
abbrev s_check_meters : Stmt := top 25
abbrev sc_check_meters_N : List Str := ["meters", "pipes", "names", "index", "part"]
theorem sc_check_meters : FnScope sc_check_meters_N ["meters", "pipes"] (defScope s_check_meters) := ⟨rfl, rfl, rfl, by decide +kernel, rfl, by decide +kernel, by decide +kernel⟩
abbrev s_index_of : Stmt := top 26
abbrev sc_index_of_N : List Str := ["parts", "name", "index", "part"]
theorem sc_index_of : FnScope sc_index_of_N ["parts", "name"] (defScope s_index_of) := ⟨rfl, rfl, rfl, by decide +kernel, rfl, by decide +kernel, by decide +kernel⟩
abbrev s_lines : Stmt := top 27
abbrev sc_lines_N : List Str := ["pipes", "meters", "part"]
theorem sc_lines : FnScope sc_lines_N ["pipes", "meters"] (defScope s_lines) := ⟨rfl, rfl, rfl, by decide +kernel, rfl, by decide +kernel, by decide +kernel⟩
abbrev s_pipe_line : Stmt := top 28
abbrev sc_pipe_line_N : List Str := ["part"]
theorem sc_pipe_line : FnScope sc_pipe_line_N ["part"] (defScope s_pipe_line) := ⟨rfl, rfl, rfl, by decide +kernel, rfl, by decide +kernel, by decide +kernel⟩
abbrev s_meter_line : Stmt := top 29
abbrev sc_meter_line_N : List Str := ["part", "seal"]
theorem sc_meter_line : FnScope sc_meter_line_N ["part"] (defScope s_meter_line) := ⟨rfl, rfl, rfl, by decide +kernel, rfl, by decide +kernel, by decide +kernel⟩
abbrev s_rows_in : Stmt := top 30
abbrev sc_rows_in_N : List Str := ["text", "line"]
theorem sc_rows_in : FnScope sc_rows_in_N ["text"] (defScope s_rows_in) := ⟨rfl, rfl, rfl, by decide +kernel, rfl, by decide +kernel, by decide +kernel⟩
abbrev s_pipes_in : Stmt := top 31
abbrev sc_pipes_in_N : List Str := ["text", "rows", "row"]
theorem sc_pipes_in : FnScope sc_pipes_in_N ["text"] (defScope s_pipes_in) := ⟨rfl, rfl, rfl, by decide +kernel, rfl, by decide +kernel, by decide +kernel⟩
abbrev s_meters_in : Stmt := top 32
abbrev sc_meters_in_N : List Str := ["text", "rows", "row"]
theorem sc_meters_in : FnScope sc_meters_in_N ["text"] (defScope s_meters_in) := ⟨rfl, rfl, rfl, by decide +kernel, rfl, by decide +kernel, by decide +kernel⟩
abbrev s_check_net : Stmt := top 34
abbrev sc_check_net_N : List Str := ["net"]
theorem sc_check_net : FnScope sc_check_net_N ["net"] (defScope s_check_net) := ⟨rfl, rfl, rfl, by decide +kernel, rfl, by decide +kernel, by decide +kernel⟩
abbrev s_check_pipe : Stmt := top 35
abbrev sc_check_pipe_N : List Str := ["net", "pipe"]
theorem sc_check_pipe : FnScope sc_check_pipe_N ["net", "pipe"] (defScope s_check_pipe) := ⟨rfl, rfl, rfl, by decide +kernel, rfl, by decide +kernel, by decide +kernel⟩
abbrev s_meters_at : Stmt := top 37
abbrev sc_meters_at_N : List Str := ["net", "name", "part"]
theorem sc_meters_at : FnScope sc_meters_at_N ["net", "name"] (defScope s_meters_at) := ⟨rfl, rfl, rfl, by decide +kernel, rfl, by decide +kernel, by decide +kernel⟩
abbrev s_sealed_at : Stmt := top 38
abbrev sc_sealed_at_N : List Str := ["net", "name", "part"]
theorem sc_sealed_at : FnScope sc_sealed_at_N ["net", "name"] (defScope s_sealed_at) := ⟨rfl, rfl, rfl, by decide +kernel, rfl, by decide +kernel, by decide +kernel⟩
abbrev s_shortest_ways : Stmt := top 39
abbrev sc_shortest_ways_N : List Str := ["net", "pipe", "ways", "links", "_", "start", "end", "many", "amounts"]
theorem sc_shortest_ways : FnScope sc_shortest_ways_N ["net", "pipe"] (defScope s_shortest_ways) := ⟨rfl, rfl, rfl, by decide +kernel, rfl, by decide +kernel, by decide +kernel⟩
abbrev s_links : Stmt := top 40
abbrev sc_links_N : List Str := ["net", "pipe", "links", "index", "part", "many"]
theorem sc_links : FnScope sc_links_N ["net", "pipe"] (defScope s_links) := ⟨rfl, rfl, rfl, by decide +kernel, rfl, by decide +kernel, by decide +kernel⟩
abbrev s_amounts : Stmt := top 41
abbrev sc_amounts_N : List Str := ["net", "index", "amount", "at"]
theorem sc_amounts : FnScope sc_amounts_N ["net", "index", "amount"] (defScope s_amounts) := ⟨rfl, rfl, rfl, by decide +kernel, rfl, by decide +kernel, by decide +kernel⟩
abbrev s_lead_on : Stmt := top 42
abbrev sc_lead_on_N : List Str := ["ways", "start", "end", "many", "amounts", "length", "flow", "here", "more"]
theorem sc_lead_on : FnScope sc_lead_on_N ["ways", "start", "end", "many", "amounts"] (defScope s_lead_on) := ⟨rfl, rfl, rfl, by decide +kernel, rfl, by decide +kernel, by decide +kernel⟩
abbrev s_strength : Stmt := top 44
abbrev sc_strength_N : List Str := ["net", "pipe", "way"]
theorem sc_strength : FnScope sc_strength_N ["net", "pipe"] (defScope s_strength) := ⟨rfl, rfl, rfl, by decide +kernel, rfl, by decide +kernel, by decide +kernel⟩
abbrev s_way_back : Stmt := top 45
abbrev sc_way_back_N : List Str := ["net", "pipe"]
theorem sc_way_back : FnScope sc_way_back_N ["net", "pipe"] (defScope s_way_back) := ⟨rfl, rfl, rfl, by decide +kernel, rfl, by decide +kernel, by decide +kernel⟩
abbrev s_well : Stmt := top 47
abbrev sc_well_N : List Str := ["_law_script", "_law_k", "_law_cell", "_law_mixed", "_law_other"]
theorem sc_well : FnScope sc_well_N ["_law_script", "_law_k"] (defScope s_well) := ⟨rfl, rfl, rfl, by decide +kernel, rfl, by decide +kernel, by decide +kernel⟩
abbrev s_dip : Stmt := top 48
abbrev sc_dip_N : List Str := ["_law_well_here", "_law_many", "_law_digit"]
theorem sc_dip : FnScope sc_dip_N ["_law_well_here", "_law_many"] (defScope s_dip) := ⟨rfl, rfl, rfl, by decide +kernel, rfl, by decide +kernel, by decide +kernel⟩
abbrev s_names : Stmt := top 49
abbrev sc_names_N : List Str := ["_law_well_here", "_law_many", "_law_words", "_law_signs", "_law_found", "_law_k", "_law_size", "_law_word", "_law_spare", "_law_j", "_law_one"]
theorem sc_names : FnScope sc_names_N ["_law_well_here", "_law_many"] (defScope s_names) := ⟨rfl, rfl, rfl, by decide +kernel, rfl, by decide +kernel, by decide +kernel⟩
abbrev s_paths : Stmt := top 50
abbrev sc_paths_N : List Str := ["_law_well_here", "_law_roads", "_law_lengths", "_law_titles", "_law_gauges", "_law_lines", "_law_marks", "_law_told", "_law_left", "_law_way", "_law_begin", "_law_count", "_law_shut", "_law_own", "_law_stops", "_law_k", "_law_ends", "_law_more", "_law_j", "_law_seal"]
theorem sc_paths : FnScope sc_paths_N ["_law_well_here", "_law_roads"] (defScope s_paths) := ⟨rfl, rfl, rfl, by decide +kernel, rfl, by decide +kernel, by decide +kernel⟩
abbrev s_right : Stmt := top 51
abbrev sc_right_N : List Str := ["_law_well_here", "_law_roads", "_law_text", "_law_net", "_law_at", "_law_own", "_law_count", "_law_shut", "_law_others", "_law_due", "_law_lone", "_law_marks", "_law_k", "_law_name"]
theorem sc_right : FnScope sc_right_N ["_law_well_here"] (defScope s_right) := ⟨rfl, rfl, rfl, by decide +kernel, rfl, by decide +kernel, by decide +kernel⟩
abbrev s_law : Stmt := top 52
abbrev sc_law_N : List Str := ["_law_script", "_law_k"]
theorem sc_law : FnScope sc_law_N ["_law_script"] (defScope s_law) := ⟨rfl, rfl, rfl, by decide +kernel, rfl, by decide +kernel, by decide +kernel⟩
end RV
namespace RV
open PySem L2
section
variable {P : Program} {w : World} {K : PySem.W.Frag} {mg : Str → Option Value} {base : Heap}
theorem ok_is_name {f : Addr} {fd : FuncData} (F : Fun K "is_name" "is_name" s_is_name f fd) (T : Blt mg) (C : Cst mg) : FnOk P w K mg base CX0 1 f fd ["value"] (sp_is_name K) := by
  refine F.ok sc_is_name (fun vs H Q E h => ?_) (fun cdv A outer s H vs Q E hr h => ?_)
  · obtain ⟨_, rfl, _⟩ := h
    rfl
  · obtain ⟨v, rfl, k⟩ := h
    refine ⟨_, (pss_cons (ps_if (PW.pt (pw_or (pt_not (pt_val (pe_callB call_isi (by rfl) T.b_isinstance (by decide +kernel) (pa_cons (pv 0) (pa_cons (pe_bltn (v := .ty "str") (by rfl) T.b_str (by decide +kernel) rfl) pa_nil))))) (pw_or1 (pt_not (pt_chain op_le op_le pe_int (pe_callB call_len_str (by rfl) T.b_len (by decide +kernel) (pa_cons (pv 0) pa_nil)) (pe_gI C.c__LONGEST_NAME)))))) (pss_one (ps_ret pe_bl)) pss_nil)
      (pss_one (ps_ret (pe_and (pe_cmpR op_in_sign (pe_ix ix_str (pv 0) pe_int (fun _ _ => rfl)) (pe_gS C.c__LETTERS) (by rfl)) (pe_one (pe_callB (cr_all rfl) (by rfl) T.b_all (by decide +kernel) (pa_cons (pe_lc (own := [("letter", 1)]) (g := gName 1) (tt := tYes) rfl sc_is_name.nd (pi_str (pv 0)) (blkOk_by (N := sc_is_name_N) (sc := defScope s_is_name) (by decide +kernel)) (fun _ _ _ _ _ => pg_name (i := 1) sc_is_name.nd rfl (Or.inl rfl)) (fun _ _ _ _ _ => pts_nil) (fun _ _ _ _ _ => (pe_cmpR op_in_sign (pv 1) (pe_op op_add_str (pe_gS C.c__LETTERS) (pe_gS C.c__DIGITS)) (by rfl)))) pa_nil))))))), ?_⟩
    rcases k with ⟨x, rfl, hx, k⟩ | ⟨t, ty, kt, k⟩
    · refine ⟨_, rfl, _, _, .type "str", .type "str", true, rfl, .ty _, .base (.str x), kit_ty (by decide +kernel), true, rfl, ?_⟩
      refine iteF ⟨_, rfl, _, rfl, hx, _, _, rfl, rfl, _, rfl, ?_⟩
      have out : isNm (cd x) = false → Q (.bl false) H := fun e => e ▸ k H (Same.refl H)
      refine ite2 (fun h1 => ?_) (fun h1 => ?_)
      · refine ⟨_, _, rfl, rfl, _, rfl, ?_⟩
        have h1' := of_decide_eq_true h1
        cases e8 : decide ((x.length : Int) ≤ 8) with
        | false =>
          refine out ?_
          cases q : isNm (cd x) with
          | false => rfl
          | true =>
            have := isNm_len q
            rw [← cd_len] at this
            have h8 := of_decide_eq_false e8
            omega
        | true =>
          have h8 := of_decide_eq_true e8
          obtain ⟨c, r, ec⟩ : ∃ c r, cd x = c :: r := by
            cases e : cd x with
            | nil =>
              rw [cd_len, e] at h1'
              simp at h1'
            | cons c r => exact ⟨c, r, rfl⟩
          have hr7 : r.length ≤ 7 := by
            rw [cd_len, ec, List.length_cons] at h8
            omega
          refine ⟨_, rfl, x, _, c, rfl, rfl, hx, atI_nat (j := 0) (by show (cd x)[0]? = some c; rw [ec]; rfl), c, _, rfl, rfl, _, rfl, ?_⟩
          have el : decide (c ∈ cd "abcdefghijklmnopqrstuvwxyz") = lowC c := low_in c
          refine ite2 (fun hl => ?_) (fun hl => ?_)
          · have hl' : lowC c = true := el.symm.trans hl
            refine ⟨_, rfl, x, rfl, fun D nD => lc_str (z := x) (fun i H' => Same H H' ∧ H' D = some (.lst ((((cd x).take i).map tailC).map V.bl))) ⟨fun b o e => by rw [upd_ne (ne_of_none e nD)]; exact e, upd_same⟩ ?_ ?_⟩
            · rintro i d H6 hi ⟨s6, h6⟩
              refine ⟨rfl, _, rfl, _, _, rfl, rfl, by decide, d, _, rfl, rfl, _, h6, ?_, ?_⟩
              · rw [List.length_map, List.length_map, List.length_take, ← cd_len]
                exact Nat.lt_of_lt_of_le (show _ < 1000 by omega) (by decide)
              · refine ⟨fun b o e => by rw [upd_ne (ne_of_none e nD)]; exact s6 b o e, ?_⟩
                rw [upd_same]
                obtain ⟨hl6, e'⟩ := List.getElem?_eq_some_iff.mp hi
                rw [List.take_succ_eq_append_getElem hl6, e', List.map_append, List.map_append]
                show some (HO.lst (_ ++ [V.bl (decide (d ∈ cd (("abcdefghijklmnopqrstuvwxyz" : Str) ++ ("0123456789" : Str))))])) = _
                rw [tail_in]
                rfl
            · rintro H6 ⟨s6, h6⟩
              rw [List.take_of_length_le (Nat.le_refl _)] at h6
              refine ⟨D, _, rfl, SqL.of h6, ?_⟩
              have e : isNm (cd x) = ((cd x).map tailC).all id := by
                rw [ec]
                show (lowC c && r.all tailC && decide (r.length ≤ 7)) = (tailC c && (r.map tailC).all id)
                rw [hl', tail_of_low hl', decide_eq_true hr7, List.all_map]
                simp
              have := k H6 s6
              rwa [e] at this
          · refine out ?_
            have hl' : lowC c = false := by
              rw [← el]
              exact Bool.eq_false_iff.mpr hl
            rw [ec]
            simp [isNm, hl']
      · refine ⟨_, rfl, ?_⟩
        refine out ?_
        cases q : isNm (cd x) with
        | false => rfl
        | true =>
          have := isNm_len q
          rw [← cd_len] at this
          exact absurd (decide_eq_true (by omega)) h1
    · refine ⟨_, rfl, _, _, t, .type "str", false, rfl, .ty _, ty, kt, false, rfl, ?_⟩
      exact iteT (iteT k)
end
end RV
namespace RV
open PySem L2
section
variable {P : Program} {w : World} {K : PySem.W.Frag} {mg : Str → Option Value} {base : Heap}
theorem ok_check_names {f : Addr} {fd : FuncData} (F : Fun K "_check_names" "_check_names" s_check_names f fd) (h_is_name : Fn P w K mg base "is_name" 1 ["value"] (Irr (sp_is_name K))) : FnOk P w K mg base CX0 2 f fd ["values"] (sp_check K) := by
  refine F.ok sc_check_names (fun vs H Q E h => ?_) (fun cdv A outer s H vs Q E hr h => ?_)
  · obtain ⟨_, _, rfl, _⟩ := h
    rfl
  · obtain ⟨t, xs, rfl, ht, hx, k⟩ := h
    refine ⟨_, (pss_one (ps_for PassesOwn.never rfl (pi_tup (pv 0)) (pg_name (i := 1) sc_check_names.nd rfl (Or.inl rfl)) (pss_one (ps_if (pt_not (pt_val (pe_fn h_is_name (hr.mono (by decide)) (pa_cons (pv 1) pa_nil)))) (pss_one ps_never) pss_nil)))), ?_⟩
    have sqt : ∀ {H'}, Same H H' → SqT K H' t (xs.map V.str) := fun e => by
      rcases ht with (h | ⟨o, h⟩) | h
      · exact .inl (.inl (e _ _ h))
      · exact .inl (.inr ⟨o, e _ _ h⟩)
      · exact .inr h
    refine ⟨_, rfl, t, rfl, ⟨_, ht⟩, for_tup (K := K) (a := t) (xs := xs.map V.str) (fun i σ H' => Same H H' ∧ ∃ o, σ = [some (.ref t), o]) ⟨Same.refl H, none, rfl⟩ (fun _ _ _ _ h => sqt h.1) ?_ ?_⟩
    · rintro i v σ H' hi ⟨sm, o, rfl⟩
      obtain ⟨y, rfl, hy⟩ : ∃ y, v = V.str y ∧ y ∈ xs := by
        rw [List.getElem?_map] at hi
        cases e : xs[i]? with
        | none => rw [e] at hi; cases hi
        | some y => rw [e] at hi; exact ⟨y, (Option.some.inj hi).symm, List.mem_of_getElem? e⟩
      have hn := hx y hy
      have hl := isNm_len hn
      rw [← cd_len] at hl
      refine ⟨_, rfl, irr ⟨_, rfl, .inl ⟨y, rfl, szn (by omega), fun H2 s2 => ?_⟩⟩⟩
      rw [show isNm (cd y) = true from hn]
      exact ⟨true, rfl, sm.trans s2, _, rfl⟩
    · rintro σ H' ⟨sm, o, rfl⟩
      exact k H' sm
theorem ok_Pipe_i {C f : Addr} {fd : FuncData} (F : Fun K "__init__" "Pipe.__init__" s_Pipe___init__ f fd) (T : PClass K mg C) (h_check_names : Fn P w K mg base "_check_names" 2 ["values"] (Irr (sp_check K))) : FnOk P w K mg base CX0 3 f fd ["self", "name", "start", "end"] (sp_Pipe C) := by
  refine F.ok sc_Pipe___init__ (fun vs H Q E h => ?_) (fun cdv A outer s H vs Q E hr h => ?_)
  · obtain ⟨_, _, _, _, _, rfl, _⟩ := h
    rfl
  · obtain ⟨x, dx, n, st, e, rfl, hx, hn, hs, he, hne, k⟩ := h
    refine ⟨_, (pss_cons (ps_expr (pe_fn h_check_names (hr.mono (by decide)) (pa_cons (pe_tup (pa_cons (pv 1) (pa_cons (pv 2) (pa_cons (pv 3) pa_nil)))) pa_nil)))
      (pss_cons (ps_if (pt_cmpR op_eq (pv 3) (pv 2) (nomark _)) (pss_one ps_never) pss_nil)
      (pss_cons (ps_fld (pv 0) (pv 1) rfl)
      (pss_cons (ps_fld (pv 0) (pv 2) rfl)
      (pss_one (ps_fld (pv 0) (pv 3) rfl)))))), ?_⟩
    refine ⟨_, rfl, _, rfl, _, rfl, (by show 3 ≤ sizeLine; decide), fun p np => irr ⟨p, [n, st, e], rfl, SqT.of upd_same, ?_, fun H1 s1 => ?_⟩⟩
    · intro y hy
      simp only [List.mem_cons, List.not_mem_nil, or_false] at hy
      rcases hy with rfl | rfl | rfl
      · exact hn
      · exact hs
      · exact he
    have hx1 := s1 _ _ (show (upd H p (.tup ([n, st, e].map V.str))) x = _ by rw [upd_ne (ne_of_none hx np)]; exact hx)
    refine ⟨_, rfl, _, rfl, rfl, _, rfl, ?_⟩
    refine ite2 (fun q => absurd (of_decide_eq_true q) fun z => hne (V.str.inj z)) (fun _ => ?_)
    refine ⟨_, rfl, _, rfl, x, C, dx, _, rfl, hx1, T.x.cl, T.n1, (by show 0 < 1000; decide), ?_⟩
    refine ⟨_, rfl, _, rfl, x, C, dx, _, rfl, upd_same, T.x.cl, T.n2, (by have := putF_len "_name" (.str n) []; simp at this ⊢; omega), ?_⟩
    refine ⟨_, rfl, _, rfl, x, C, dx, _, rfl, upd_same, T.x.cl, T.n3, (by have := putF_len "_name" (.str n) []; have := putF_len "_start" (.str st) (putF "_name" (.str n) []); simp at *; omega), ?_⟩
    refine k _ (fun b o hb eb => ?_) ⟨dx, upd_same⟩
    rw [upd_ne hb, upd_ne hb, upd_ne hb]
    exact s1 _ _ (by rw [upd_ne (ne_of_none eb np)]; exact eb)
theorem ok_Meter_i {C f : Addr} {fd : FuncData} {kws : List (Str × V)} (F : FunD K "__init__" "Meter.__init__" (defArgs s_Meter___init__) (defBody s_Meter___init__) (defScope s_Meter___init__) [] kws f fd) (T : MClass K mg C) (h_check_names : Fn P w K mg base "_check_names" 2 ["values"] (Irr (sp_check K))) : FnOk P w K mg base CX0 3 f fd ["self", "name", "at", "sealed"] (sp_Meter C) := by
  refine F.ok sc_Meter___init__ (fun vs H Q E h => ?_) (fun cdv A outer s H vs Q E hr h => ?_)
  · obtain ⟨_, _, _, _, _, rfl, _⟩ := h
    rfl
  · obtain ⟨x, dx, n, a, z, rfl, hx, hn, ha, k⟩ := h
    refine ⟨_, (pss_cons (ps_expr (pe_fn h_check_names (hr.mono (by decide)) (pa_cons (pe_tup (pa_cons (pv 1) (pa_cons (pv 2) pa_nil))) pa_nil)))
      (pss_cons (ps_if (PW.pt (pw_and (pt_cmpR op_isnot_bl (pv 3) pe_bl (nomark _)) (pw_and1 (pt_cmpR op_isnot_bl (pv 3) pe_bl (nomark _))))) (pss_one ps_never) pss_nil)
      (pss_cons (ps_fld (pv 0) (pv 1) rfl)
      (pss_cons (ps_fld (pv 0) (pv 2) rfl)
      (pss_one (ps_fld (pv 0) (pv 3) rfl)))))), ?_⟩
    refine ⟨_, rfl, _, rfl, (by show 2 ≤ sizeLine; decide), fun p np => irr ⟨p, [n, a], rfl, SqT.of upd_same, ?_, fun H1 s1 => ?_⟩⟩
    · intro y hy
      simp only [List.mem_cons, List.not_mem_nil, or_false] at hy
      rcases hy with rfl | rfl
      · exact hn
      · exact ha
    have hx1 := s1 _ _ (show (upd H p (.tup ([n, a].map V.str))) x = _ by rw [upd_ne (ne_of_none hx np)]; exact hx)
    have rest : tSeq (sFld K (tVar 0) (tVar 1) "_name") (tSeq (sFld K (tVar 0) (tVar 2) "_at") (sFld K (tVar 0) (tVar 3) "_sealed")) { nx := fun _ H' => Q .non H', rt := Q } [some (.ref x), some (.str n), some (.str a), some (.bl z)] H1 := by
      refine ⟨_, rfl, _, rfl, x, C, dx, _, rfl, hx1, T.x.cl, T.n1, (by show 0 < 1000; decide), ?_⟩
      refine ⟨_, rfl, _, rfl, x, C, dx, _, rfl, upd_same, T.x.cl, T.n2, (by have := putF_len "_name" (.str n) []; simp at this ⊢; omega), ?_⟩
      refine ⟨_, rfl, _, rfl, x, C, dx, _, rfl, upd_same, T.x.cl, T.n3, (by have := putF_len "_name" (.str n) []; have := putF_len "_at" (.str a) (putF "_name" (.str n) []); simp at *; omega), ?_⟩
      refine k _ (fun b o hb eb => ?_) ⟨dx, upd_same⟩
      rw [upd_ne hb, upd_ne hb, upd_ne hb]
      exact s1 _ _ (by rw [upd_ne (ne_of_none eb np)]; exact eb)
    refine ⟨_, rfl, _, _, rfl, rfl, _, rfl, ?_⟩
    cases z with
    | true => exact rest
    | false => exact ⟨_, rfl, _, _, rfl, rfl, _, rfl, rest⟩
theorem ok_Pipe_q {C f : Addr} {fd : FuncData} (F : Fun K "__eq__" "Pipe.__eq__" s_Pipe___eq__ f fd) (T : PClass K mg C) (B : Blt mg) : FnOk P w K mg base CX0 1 f fd ["self", "other"] (sp_Peq C) := by
  refine F.ok sc_Pipe___eq__ (fun vs H Q E h => ?_) (fun cdv A outer s H vs Q E hr h => ?_)
  · obtain ⟨_, _, _, _, rfl, _⟩ := h
    rfl
  · obtain ⟨a, b, ⟨n, st, e⟩, ⟨n', s', e'⟩, rfl, ⟨dx, ha⟩, ⟨dy, hb⟩, k⟩ := h
    refine ⟨_, (pss_one (ps_ret (pe_and (pe_callB call_isi (by rfl) B.b_isinstance (by decide +kernel) (pa_cons (pv 1) (pa_cons (pe_gC T.k) pa_nil))) (pe_and (pe_cmpR op_eq (pe_fld (pv 0) rfl) (pe_fld (pv 1) rfl) (nomark _)) (pe_and (pe_cmpR op_eq (pe_fld (pv 0) rfl) (pe_fld (pv 1) rfl) (nomark _)) (pe_one (pe_cmpR op_eq (pe_fld (pv 0) rfl) (pe_fld (pv 1) rfl) (nomark _)))))))), ?_⟩
    have dd : decide ((n, st, e) = (n', s', e')) = decide (n = n' ∧ st = s' ∧ e = e') := by simp only [Prod.mk.injEq]
    rw [dd] at k
    refine ⟨_, rfl, _, _, _, .ref C, true, rfl, .own C, T.x.ty hb, T.me, true, rfl, iteT ?_⟩
    refine ⟨_, rfl, a, C, dx, _, _, rfl, ha, T.x.cl, T.n1, pipeF_n _ _ _, _, rfl, b, C, dy, _, _, rfl, hb, T.x.cl, T.n1, pipeF_n _ _ _, rfl, _, rfl, ?_⟩
    refine ite2 (fun h1 => ?_) (fun h1 => ?_)
    · have e1 : n = n' := V.str.inj (of_decide_eq_true h1)
      refine ⟨_, rfl, a, C, dx, _, _, rfl, ha, T.x.cl, T.n2, pipeF_s _ _ _, _, rfl, b, C, dy, _, _, rfl, hb, T.x.cl, T.n2, pipeF_s _ _ _, rfl, _, rfl, ?_⟩
      refine ite2 (fun h2 => ?_) (fun h2 => ?_)
      · have e2 : st = s' := V.str.inj (of_decide_eq_true h2)
        refine ⟨_, rfl, a, C, dx, _, _, rfl, ha, T.x.cl, T.n3, pipeF_e _ _ _, _, rfl, b, C, dy, _, _, rfl, hb, T.x.cl, T.n3, pipeF_e _ _ _, rfl, ?_⟩
        have e3 : decide (V.str e = V.str e') = decide (n = n' ∧ st = s' ∧ e = e') := by
          subst e1 e2
          by_cases q : e = e' <;> simp [q]
        show Q (.bl (decide (V.str e = V.str e'))) H
        rw [e3]
        exact k
      · have : decide (n = n' ∧ st = s' ∧ e = e') = false := decide_eq_false fun z => h2 (decide_eq_true (congrArg V.str z.2.1))
        rw [← this]
        exact k
    · have : decide (n = n' ∧ st = s' ∧ e = e') = false := decide_eq_false fun z => h1 (decide_eq_true (congrArg V.str z.1))
      rw [← this]
      exact k
theorem ok_Meter_q {C f : Addr} {fd : FuncData} (F : Fun K "__eq__" "Meter.__eq__" s_Meter___eq__ f fd) (T : MClass K mg C) (B : Blt mg) : FnOk P w K mg base CX0 1 f fd ["self", "other"] (sp_Meq C) := by
  refine F.ok sc_Meter___eq__ (fun vs H Q E h => ?_) (fun cdv A outer s H vs Q E hr h => ?_)
  · obtain ⟨_, _, _, _, rfl, _⟩ := h
    rfl
  · obtain ⟨a, b, ⟨n, st, e⟩, ⟨n', s', e'⟩, rfl, ⟨dx, ha⟩, ⟨dy, hb⟩, k⟩ := h
    refine ⟨_, (pss_one (ps_ret (pe_and (pe_callB call_isi (by rfl) B.b_isinstance (by decide +kernel) (pa_cons (pv 1) (pa_cons (pe_gC T.k) pa_nil))) (pe_and (pe_cmpR op_eq (pe_fld (pv 0) rfl) (pe_fld (pv 1) rfl) (nomark _)) (pe_and (pe_cmpR op_eq (pe_fld (pv 0) rfl) (pe_fld (pv 1) rfl) (nomark _)) (pe_one (pe_cmpR op_eq (pe_fld (pv 0) rfl) (pe_fld (pv 1) rfl) (nomark _)))))))), ?_⟩
    have dd : decide ((n, st, e) = (n', s', e')) = decide (n = n' ∧ st = s' ∧ e = e') := by simp only [Prod.mk.injEq]
    rw [dd] at k
    refine ⟨_, rfl, _, _, _, .ref C, true, rfl, .own C, T.x.ty hb, T.me, true, rfl, iteT ?_⟩
    refine ⟨_, rfl, a, C, dx, _, _, rfl, ha, T.x.cl, T.n1, metF_n _ _ _, _, rfl, b, C, dy, _, _, rfl, hb, T.x.cl, T.n1, metF_n _ _ _, rfl, _, rfl, ?_⟩
    refine ite2 (fun h1 => ?_) (fun h1 => ?_)
    · have e1 : n = n' := V.str.inj (of_decide_eq_true h1)
      refine ⟨_, rfl, a, C, dx, _, _, rfl, ha, T.x.cl, T.n2, metF_a _ _ _, _, rfl, b, C, dy, _, _, rfl, hb, T.x.cl, T.n2, metF_a _ _ _, rfl, _, rfl, ?_⟩
      refine ite2 (fun h2 => ?_) (fun h2 => ?_)
      · have e2 : st = s' := V.str.inj (of_decide_eq_true h2)
        refine ⟨_, rfl, a, C, dx, _, _, rfl, ha, T.x.cl, T.n3, metF_z _ _ _, _, rfl, b, C, dy, _, _, rfl, hb, T.x.cl, T.n3, metF_z _ _ _, rfl, ?_⟩
        have e3 : decide (V.bl e = V.bl e') = decide (n = n' ∧ st = s' ∧ e = e') := by
          subst e1 e2
          by_cases q : e = e' <;> simp [q]
        show Q (.bl (decide (V.bl e = V.bl e'))) H
        rw [e3]
        exact k
      · have : decide (n = n' ∧ st = s' ∧ e = e') = false := decide_eq_false fun z => h2 (decide_eq_true (congrArg V.str z.2.1))
        rw [← this]
        exact k
    · have : decide (n = n' ∧ st = s' ∧ e = e') = false := decide_eq_false fun z => h1 (decide_eq_true (congrArg V.str z.1))
      rw [← this]
      exact k
theorem ok_Pipe_name {C f : Addr} {fd : FuncData} (F : Fun K "name" "Pipe.name" s_Pipe_name f fd) (T : PClass K mg C) : FnOk P w K mg base CX0 1 f fd ["self"] (sp_pn C) := by
  refine F.ok sc_Pipe_name (fun vs H Q E h => ?_) (fun cdv A outer s H vs Q E hr h => ?_)
  · obtain ⟨_, _, rfl, _⟩ := h
    rfl
  · obtain ⟨a, q, rfl, ⟨dx, ha⟩, k⟩ := h
    refine ⟨_, (pss_one (ps_ret (pe_fld (pv 0) rfl))), ?_⟩
    exact ⟨_, rfl, a, C, dx, _, _, rfl, ha, T.x.cl, T.n1, pipeF_n _ _ _, k⟩
theorem ok_Pipe_start {C f : Addr} {fd : FuncData} (F : Fun K "start" "Pipe.start" s_Pipe_start f fd) (T : PClass K mg C) : FnOk P w K mg base CX0 1 f fd ["self"] (sp_ps C) := by
  refine F.ok sc_Pipe_start (fun vs H Q E h => ?_) (fun cdv A outer s H vs Q E hr h => ?_)
  · obtain ⟨_, _, rfl, _⟩ := h
    rfl
  · obtain ⟨a, q, rfl, ⟨dx, ha⟩, k⟩ := h
    refine ⟨_, (pss_one (ps_ret (pe_fld (pv 0) rfl))), ?_⟩
    exact ⟨_, rfl, a, C, dx, _, _, rfl, ha, T.x.cl, T.n2, pipeF_s _ _ _, k⟩
theorem ok_Pipe_end {C f : Addr} {fd : FuncData} (F : Fun K "end" "Pipe.end" s_Pipe_end f fd) (T : PClass K mg C) : FnOk P w K mg base CX0 1 f fd ["self"] (sp_pe C) := by
  refine F.ok sc_Pipe_end (fun vs H Q E h => ?_) (fun cdv A outer s H vs Q E hr h => ?_)
  · obtain ⟨_, _, rfl, _⟩ := h
    rfl
  · obtain ⟨a, q, rfl, ⟨dx, ha⟩, k⟩ := h
    refine ⟨_, (pss_one (ps_ret (pe_fld (pv 0) rfl))), ?_⟩
    exact ⟨_, rfl, a, C, dx, _, _, rfl, ha, T.x.cl, T.n3, pipeF_e _ _ _, k⟩
theorem ok_Meter_name {C f : Addr} {fd : FuncData} (F : Fun K "name" "Meter.name" s_Meter_name f fd) (T : MClass K mg C) : FnOk P w K mg base CX0 1 f fd ["self"] (sp_mn C) := by
  refine F.ok sc_Meter_name (fun vs H Q E h => ?_) (fun cdv A outer s H vs Q E hr h => ?_)
  · obtain ⟨_, _, rfl, _⟩ := h
    rfl
  · obtain ⟨a, q, rfl, ⟨dx, ha⟩, k⟩ := h
    refine ⟨_, (pss_one (ps_ret (pe_fld (pv 0) rfl))), ?_⟩
    exact ⟨_, rfl, a, C, dx, _, _, rfl, ha, T.x.cl, T.n1, metF_n _ _ _, k⟩
theorem ok_Meter_at {C f : Addr} {fd : FuncData} (F : Fun K "at" "Meter.at" s_Meter_at f fd) (T : MClass K mg C) : FnOk P w K mg base CX0 1 f fd ["self"] (sp_ma C) := by
  refine F.ok sc_Meter_at (fun vs H Q E h => ?_) (fun cdv A outer s H vs Q E hr h => ?_)
  · obtain ⟨_, _, rfl, _⟩ := h
    rfl
  · obtain ⟨a, q, rfl, ⟨dx, ha⟩, k⟩ := h
    refine ⟨_, (pss_one (ps_ret (pe_fld (pv 0) rfl))), ?_⟩
    exact ⟨_, rfl, a, C, dx, _, _, rfl, ha, T.x.cl, T.n2, metF_a _ _ _, k⟩
theorem ok_Meter_sealed {C f : Addr} {fd : FuncData} (F : Fun K "sealed" "Meter.sealed" s_Meter_sealed f fd) (T : MClass K mg C) : FnOk P w K mg base CX0 1 f fd ["self"] (sp_mz C) := by
  refine F.ok sc_Meter_sealed (fun vs H Q E h => ?_) (fun cdv A outer s H vs Q E hr h => ?_)
  · obtain ⟨_, _, rfl, _⟩ := h
    rfl
  · obtain ⟨a, q, rfl, ⟨dx, ha⟩, k⟩ := h
    refine ⟨_, (pss_one (ps_ret (pe_fld (pv 0) rfl))), ?_⟩
    exact ⟨_, rfl, a, C, dx, _, _, rfl, ha, T.x.cl, T.n3, metF_z _ _ _, k⟩
end
end RV
namespace RV
open PySem L2
section
variable {P : Program} {w : World} {K : PySem.W.Frag} {mg : Str → Option Value} {base : Heap} {CN CP CM : Addr}
theorem ok_index_of {f : Addr} {fd : FuncData} (F : Fun K "_index_of" "_index_of" s_index_of f fd) (T : Blt mg) (T2 : Blt2 mg) (h_pn : Prp P w K mg base CP "name" 1 (Irr (sp_pn CP))) : FnOk P w K mg base CX0 3 f fd ["parts", "name"] (sp_index K CP) := by
  refine F.ok sc_index_of (fun vs H Q E h => ?_) (fun cdv A outer s H vs Q E hr h => ?_)
  · obtain ⟨_, _, _, rfl, _⟩ := h
    rfl
  · obtain ⟨t, us, y, rfl, ht, hl, hy, k⟩ := h
    refine ⟨_, (pss_cons (ps_if (pt_not (pt_val (pe_callB call_isi (by rfl) T.b_isinstance (by decide +kernel) (pa_cons (pv 1) (pa_cons (pe_bltn (v := .ty "str") (by rfl) T.b_str (by decide +kernel) rfl) pa_nil))))) (pss_one (ps_ret pe_non)) pss_nil)
      (pss_cons (ps_for PassesOwn.never rfl (pi_enumT (by rfl) T2.b_enumerate (pa_cons (pv 0) pa_nil)) (pg_tup (by rfl) (pgs_cons (pg_name (i := 2) sc_index_of.nd rfl (Or.inl rfl)) (pgs_cons (pg_name (i := 3) sc_index_of.nd rfl (Or.inl rfl)) pgs_nil))) (pss_one (ps_if (pt_cmpR op_eq (pe_propN h_pn (hr.mono (by decide)) (pv 3)) (pv 1) (nomark _)) (pss_one (ps_ret (pv 2))) pss_nil)))
      (pss_one (ps_ret pe_non)))), ?_⟩
    refine ⟨_, rfl, _, _, .type "str", .type "str", true, rfl, .ty _, .base (.str _), kit_ty (by decide +kernel), true, rfl, iteF ?_⟩
    refine ⟨_, rfl, t, _, rfl, ht.t, for_enumT (xs := rf us) (fun i σ H' => (∃ o2 o3, σ = [some (.ref t), some (.str y), o2, o3]) ∧ Same H H' ∧ ∀ j q, j < i → (sn us)[j]? = some q → q.1 ≠ y) ⟨⟨none, none, rfl⟩, fun _ _ e => e, fun j q hj => absurd hj (Nat.not_lt_zero j)⟩ ?_ ?_ ?_⟩
    · rintro i σ H1 _ ⟨_, s1, _⟩
      exact ht.t.ext s1
    · rintro i x σ H1 T' hx' ⟨⟨o1, o2, rfl⟩, s1, hj⟩ nT
      rw [rf, List.getElem?_map] at hx'
      cases hu : us[i]? with
      | none => rw [hu] at hx'; cases hx'
      | some u =>
        rw [hu] at hx'
        obtain rfl : V.ref u.1 = x := Option.some.inj hx'
        have hm := List.mem_of_getElem? hu
        have s2 : Same H (upd H1 T' (.tup [.int (i : Nat), .ref u.1])) := fun b o e => by
          rw [upd_ne (ne_of_none (s1 b o e) nT)]
          exact s1 b o e
        obtain ⟨dx, ex⟩ := (ht.o u hm).ext s2
        refine ⟨T', _, rfl, SqT.of upd_same, rfl, _, _, rfl, _, _, rfl, rfl, ?_⟩
        refine ⟨_, rfl, u.1, dx, _, rfl, ex, irr ⟨u.1, u.2, rfl, ⟨dx, ex⟩, _, rfl, rfl, _, rfl, ?_⟩⟩
        refine ite2 (fun hq => ⟨_, rfl, k _ _ (by rw [sn, List.getElem?_map, hu]; exact congrArg some (V.str.inj (of_decide_eq_true hq))) s2⟩) fun hne => ?_
        refine ⟨⟨_, _, rfl⟩, s2, fun j q hji hq => ?_⟩
        by_cases e : j = i
        · subst e
          rw [sn, List.getElem?_map, hu] at hq
          obtain rfl : u.2 = q := Option.some.inj hq
          exact fun z => hne (decide_eq_true (congrArg V.str z))
        · exact hj j q (by omega) hq
    · rintro σ H1 ⟨⟨o1, o2, rfl⟩, s1, hj⟩
      obtain ⟨q, hq, e⟩ := List.mem_map.mp hy
      obtain ⟨j, hlt, ej⟩ := List.mem_iff_getElem.mp hq
      exact absurd e (hj j q (by rw [rf_len]; rwa [sn_len] at hlt) (by rw [List.getElem?_eq_getElem hlt, ej]))
/-- how many pipes and meters there may be -/
structure Cst3 (mg : Str → Option Value) : Prop where
  pipes : ∃ u, mg "MOST_PIPES" = some u ∧ RelV (.int 12) u
  meters : ∃ u, mg "MOST_METERS" = some u ∧ RelV (.int 12) u
theorem ok_check_pipes {f : Addr} {fd : FuncData} (F : Fun K "_check_pipes" "_check_pipes" s_check_pipes f fd) (T : Blt mg) (T2 : Blt2 mg) (C3 : Cst3 mg) (PC : PClass K mg CP) (h_pn : Prp P w K mg base CP "name" 1 (Irr (sp_pn CP))) : FnOk P w K mg base CX0 3 f fd ["pipes"] (sp_chkP K CP) := by
  refine F.ok sc_check_pipes (fun vs H Q E h => ?_) (fun cdv A outer s H vs Q E hr h => ?_)
  · obtain ⟨_, _, rfl, _⟩ := h
    rfl
  · obtain ⟨t, us, rfl, ht, po, k⟩ := h
    refine ⟨_, (pss_cons (ps_if (PW.pt (pw_or (pt_not (pt_val (pe_callB call_isi (by rfl) T.b_isinstance (by decide +kernel) (pa_cons (pv 0) (pa_cons (pe_bltn (v := .ty "tuple") (by rfl) T2.b_tuple (by decide +kernel) rfl) pa_nil))))) (pw_or1 (pt_not (pt_truth (pv 0) (by intro _; rfl)))))) (pss_one ps_never) pss_nil)
      (pss_cons (ps_set (i := 1) sc_check_pipes.nd rfl (Or.inl rfl) (pe_lst pa_nil))
      (pss_one (ps_for PassesOwn.never rfl (pi_enumT (by rfl) T2.b_enumerate (pa_cons (pv 0) pa_nil)) (pg_tup (by rfl) (pgs_cons (pg_name (i := 2) sc_check_pipes.nd rfl (Or.inl rfl)) (pgs_cons (pg_name (i := 3) sc_check_pipes.nd rfl (Or.inl rfl)) pgs_nil))) (pss_cons (ps_if (PW.pt (pw_or (pt_not (pt_val (pe_callB call_isi (by rfl) T.b_isinstance (by decide +kernel) (pa_cons (pv 3) (pa_cons (pe_gC PC.k) pa_nil))))) (pw_or (pt_cmpR op_in_seq (pe_propN h_pn (hr.mono (by decide)) (pv 3)) (pv 1) (by rfl)) (pw_or1 (pt_cmpR op_ge (pv 2) (pe_gI C3.pipes) (nomark _)))))) (pss_one ps_never) pss_nil) (pss_one (ps_expr (pe_bm PySem.F.plainAttrs_list PySem.F.slot_list_append PySem.F.type_list_append mt_append (pv 1) (pa_cons (pe_propN h_pn (hr.mono (by decide)) (pv 3)) pa_nil))))))))), ?_⟩
    refine ⟨_, rfl, _, _, .type "tuple", .type "tuple", true, rfl, .ty _, tyx_tup ht.t, kit_ty (by decide +kernel), true, rfl, iteF ?_⟩
    have une : (rf us).isEmpty = false := by
      cases us with
      | nil => exact absurd rfl po.n0
      | cons u us => rfl
    refine ⟨_, rfl, true, .inr (.inl ⟨rf us, ht.t, by rw [une]; rfl⟩), iteF ?_⟩
    refine ⟨by decide, fun nl nn => ?_⟩
    have ul : us.length ≤ 12 := by rw [← sn_len]; exact po.ln
    dsimp only [gName]
    refine ⟨_, rfl, t, _, rfl, ht.t.ext (fun b o e => by rw [upd_ne (ne_of_none e nn)]; exact e), for_enumT (xs := rf us) (fun i σ H' => (∃ o2 o3, σ = [some (.ref t), some (.ref nl), o2, o3]) ∧ Same H H' ∧ H' nl = some (.lst ((((sn us).take i).map (·.1)).map V.str))) ⟨⟨none, none, rfl⟩, fun b o e => by rw [upd_ne (ne_of_none e nn)]; exact e, upd_same⟩ ?_ ?_ ?_⟩
    · rintro i σ H1 _ ⟨_, s1, _⟩
      exact ht.t.ext s1
    · rintro i x σ H1 T' hx' ⟨⟨o1, o2, rfl⟩, s1, e1⟩ nT
      rw [rf, List.getElem?_map] at hx'
      cases hu : us[i]? with
      | none => rw [hu] at hx'; cases hx'
      | some u =>
        rw [hu] at hx'
        obtain rfl : V.ref u.1 = x := Option.some.inj hx'
        have hm := List.mem_of_getElem? hu
        have hlt := (List.getElem?_eq_some_iff.mp hu).1
        have s2 : Same H (upd H1 T' (.tup [.int (i : Nat), .ref u.1])) := fun b o e => by
          rw [upd_ne (ne_of_none (s1 b o e) nT)]
          exact s1 b o e
        have e2 := (upd_ne (o := .tup [.int (i : Nat), .ref u.1]) (ne_of_none e1 nT)).trans e1
        obtain ⟨dx, ex⟩ := (ht.o u hm).ext s2
        have hsn : (sn us)[i]? = some u.2 := by rw [sn, List.getElem?_map, hu]; rfl
        refine ⟨T', _, rfl, SqT.of upd_same, rfl, _, _, rfl, _, _, rfl, rfl, ?_⟩
        refine ⟨_, rfl, _, _, _, .ref CP, true, rfl, .own CP, PC.x.ty ex, PC.me, true, rfl, iteF ?_⟩
        refine ⟨_, rfl, u.1, dx, _, rfl, ex, irr ⟨u.1, u.2, rfl, ⟨dx, ex⟩, _, rfl, nl, _, rfl, .inl (SqL.of e2), rfl, strs_flat _, ?_⟩⟩
        rw [inV_str, decide_eq_false (nodup_take po.nd hsn)]
        refine ⟨_, rfl, iteF ⟨_, rfl, _, _, rfl, rfl, _, rfl, ?_⟩⟩
        refine ite2 (fun h => ?_) fun _ => ?_
        · have := of_decide_eq_true h
          omega
        refine ⟨_, rfl, .inl ⟨rfl, _, SqL.of e2⟩, _, rfl, u.1, dx, _, rfl, ex, irr ⟨u.1, u.2, rfl, ⟨dx, ex⟩, nl, _, _, rfl, rfl, e2, ?_, ⟨_, _, rfl⟩, fun b o e => ?_, ?_⟩⟩
        · rw [List.length_map, List.length_map]
          exact Nat.lt_of_le_of_lt (List.length_take_le _ _) (Nat.lt_of_lt_of_le (show i < 13 by omega) (by decide))
        · rw [upd_ne (ne_of_none e nn)]
          exact s2 b o e
        · rw [upd_same, List.take_add_one, hsn]
          simp
    · rintro σ H1 ⟨⟨o1, o2, rfl⟩, s1, _⟩
      exact k H1 s1
end
end RV
namespace RV
open PySem L2
section
variable {P : Program} {w : World} {K : PySem.W.Frag} {mg : Str → Option Value} {base : Heap} {CN CP CM : Addr}
theorem ok_check_meters {f : Addr} {fd : FuncData} (F : Fun K "_check_meters" "_check_meters" s_check_meters f fd) (T : Blt mg) (T2 : Blt2 mg) (C3 : Cst3 mg) (MC : MClass K mg CM) (h_mn : Prp P w K mg base CM "name" 1 (Irr (sp_mn CM))) (h_ma : Prp P w K mg base CM "at" 1 (Irr (sp_ma CM))) (h_index_of : Fn P w K mg base "_index_of" 3 ["parts", "name"] (Irr (sp_index K CP))) : FnOk P w K mg base CX0 4 f fd ["meters", "pipes"] (sp_chkM K CP CM) := by
  refine F.ok sc_check_meters (fun vs H Q E h => ?_) (fun cdv A outer s H vs Q E hr h => ?_)
  · obtain ⟨_, _, _, _, rfl, _⟩ := h
    rfl
  · obtain ⟨t, tp, us, pu, rfl, ht, hp, pl, mo, k⟩ := h
    refine ⟨_, (pss_cons (ps_if (pt_not (pt_val (pe_callB call_isi (by rfl) T.b_isinstance (by decide +kernel) (pa_cons (pv 0) (pa_cons (pe_bltn (v := .ty "tuple") (by rfl) T2.b_tuple (by decide +kernel) rfl) pa_nil))))) (pss_one ps_never) pss_nil)
      (pss_cons (ps_set (i := 2) sc_check_meters.nd rfl (Or.inl rfl) (pe_lst pa_nil))
      (pss_one (ps_for PassesOwn.never rfl (pi_enumT (by rfl) T2.b_enumerate (pa_cons (pv 0) pa_nil)) (pg_tup (by rfl) (pgs_cons (pg_name (i := 3) sc_check_meters.nd rfl (Or.inl rfl)) (pgs_cons (pg_name (i := 4) sc_check_meters.nd rfl (Or.inl rfl)) pgs_nil))) (pss_cons (ps_if (PW.pt (pw_or (pt_not (pt_val (pe_callB call_isi (by rfl) T.b_isinstance (by decide +kernel) (pa_cons (pv 4) (pa_cons (pe_gC MC.k) pa_nil))))) (pw_or (pt_cmpR op_in_seq (pe_propN h_mn (hr.mono (by decide)) (pv 4)) (pv 2) (by rfl)) (pw_or1 (pt_cmpR op_ge (pv 3) (pe_gI C3.meters) (nomark _)))))) (pss_one ps_never) pss_nil) (pss_cons (ps_if (pt_cmpR op_isN (pe_fn h_index_of (hr.mono (by decide)) (pa_cons (pv 1) (pa_cons (pe_propN h_ma (hr.mono (by decide)) (pv 4)) pa_nil))) pe_non (nomark _)) (pss_one ps_never) pss_nil) (pss_one (ps_expr (pe_bm PySem.F.plainAttrs_list PySem.F.slot_list_append PySem.F.type_list_append mt_append (pv 2) (pa_cons (pe_propN h_mn (hr.mono (by decide)) (pv 4)) pa_nil)))))))))), ?_⟩
    refine ⟨_, rfl, _, _, .type "tuple", .type "tuple", true, rfl, .ty _, tyx_tup ht.t, kit_ty (by decide +kernel), true, rfl, iteF ?_⟩
    refine ⟨by decide, fun nl nn => ?_⟩
    have ul : us.length ≤ 12 := by rw [← sn_len]; exact mo.ln
    dsimp only [gName]
    refine ⟨_, rfl, t, _, rfl, ht.t.ext (fun b o e => by rw [upd_ne (ne_of_none e nn)]; exact e), for_enumT (xs := rf us) (fun i σ H' => (∃ o3 o4, σ = [some (.ref t), some (.ref tp), some (.ref nl), o3, o4]) ∧ Same H H' ∧ H' nl = some (.lst ((((sn us).take i).map (·.1)).map V.str))) ⟨⟨none, none, rfl⟩, fun b o e => by rw [upd_ne (ne_of_none e nn)]; exact e, upd_same⟩ ?_ ?_ ?_⟩
    · rintro i σ H1 _ ⟨_, s1, _⟩
      exact ht.t.ext s1
    · rintro i x σ H1 T' hx' ⟨⟨o1, o2, rfl⟩, s1, e1⟩ nT
      rw [rf, List.getElem?_map] at hx'
      cases hu : us[i]? with
      | none => rw [hu] at hx'; cases hx'
      | some u =>
        rw [hu] at hx'
        obtain rfl : V.ref u.1 = x := Option.some.inj hx'
        have hm := List.mem_of_getElem? hu
        have hlt := (List.getElem?_eq_some_iff.mp hu).1
        have s2 : Same H (upd H1 T' (.tup [.int (i : Nat), .ref u.1])) := fun b o e => by
          rw [upd_ne (ne_of_none (s1 b o e) nT)]
          exact s1 b o e
        have e2 := (upd_ne (o := .tup [.int (i : Nat), .ref u.1]) (ne_of_none e1 nT)).trans e1
        have mu := (ht.o u hm).ext s2
        obtain ⟨dx, ex⟩ := id mu
        have hsn : (sn us)[i]? = some u.2 := by rw [sn, List.getElem?_map, hu]; rfl
        refine ⟨T', _, rfl, SqT.of upd_same, rfl, _, _, rfl, _, _, rfl, rfl, ?_⟩
        refine ⟨_, rfl, _, _, _, .ref CM, true, rfl, .own CM, MC.x.ty ex, MC.me, true, rfl, iteF ?_⟩
        refine ⟨_, rfl, u.1, dx, _, rfl, ex, irr ⟨u.1, u.2, rfl, mu, _, rfl, nl, _, rfl, .inl (SqL.of e2), rfl, strs_flat _, ?_⟩⟩
        rw [inV_str, decide_eq_false (nodup_take mo.nd hsn)]
        refine ⟨_, rfl, iteF ⟨_, rfl, _, _, rfl, rfl, _, rfl, ?_⟩⟩
        refine ite2 (fun h => ?_) fun _ => ?_
        · have := of_decide_eq_true h
          omega
        refine ⟨_, rfl, _, rfl, u.1, dx, _, rfl, ex, irr ⟨u.1, u.2, rfl, mu, irr ⟨tp, pu, u.2.2.1, rfl, hp.ext s2, pl, mo.on u.2 (List.mem_of_getElem? hsn), fun ix H2 _ s3 => ?_⟩⟩⟩
        refine ⟨rfl, _, rfl, iteF ?_⟩
        have e3 := s3 _ _ e2
        have mu3 := mu.ext s3
        obtain ⟨dx3, ex3⟩ := id mu3
        refine ⟨_, rfl, .inl ⟨rfl, _, SqL.of e3⟩, _, rfl, u.1, dx3, _, rfl, ex3, irr ⟨u.1, u.2, rfl, mu3, nl, _, _, rfl, rfl, e3, ?_, ⟨_, _, rfl⟩, fun b o e => ?_, ?_⟩⟩
        · rw [List.length_map, List.length_map]
          exact Nat.lt_of_le_of_lt (List.length_take_le _ _) (Nat.lt_of_lt_of_le (show i < 13 by omega) (by decide))
        · rw [upd_ne (ne_of_none e nn)]
          exact s3 _ _ (s2 b o e)
        · rw [upd_same, List.take_add_one, hsn]
          simp
    · rintro σ H1 ⟨⟨o1, o2, rfl⟩, s1, _⟩
      exact k H1 s1
theorem ok_Net_i {f : Addr} {fd : FuncData} {pds : List V} {kws : List (Str × V)} (F : FunD K "__init__" "Net.__init__" (defArgs s_Net___init__) (defBody s_Net___init__) (defScope s_Net___init__) pds kws f fd) (T : NClass K mg CN) (h_check_pipes : Fn P w K mg base "_check_pipes" 3 ["pipes"] (Irr (sp_chkP K CP))) (h_check_meters : Fn P w K mg base "_check_meters" 4 ["meters", "pipes"] (Irr (sp_chkM K CP CM))) : FnOk P w K mg base CX0 5 f fd ["self", "pipes", "meters"] (sp_Net K CN CP CM) := by
  refine F.ok sc_Net___init__ (fun vs H Q E h => ?_) (fun cdv A outer s H vs Q E hr h => ?_)
  · obtain ⟨_, _, _, _, _, _, rfl, _⟩ := h
    rfl
  · obtain ⟨x, dx, tp, tm, pu, mu, rfl, hx, hp, hm, po, mo, k⟩ := h
    refine ⟨_, (pss_cons (ps_expr (pe_fn h_check_pipes (hr.mono (by decide)) (pa_cons (pv 1) pa_nil)))
      (pss_cons (ps_expr (pe_fn h_check_meters (hr.mono (by decide)) (pa_cons (pv 2) (pa_cons (pv 1) pa_nil))))
      (pss_cons (ps_fld (pv 0) (pv 1) rfl)
      (pss_one (ps_fld (pv 0) (pv 2) rfl))))), ?_⟩
    refine ⟨_, rfl, irr ⟨tp, pu, rfl, hp, po, fun H1 s1 => ?_⟩⟩
    refine ⟨_, rfl, _, rfl, irr ⟨tm, tp, mu, pu, rfl, hm.ext s1, hp.ext s1, by rw [← sn_len]; exact po.ln, mo, fun H2 s2 => ?_⟩⟩
    have hx2 := s2 _ _ (s1 _ _ hx)
    refine ⟨_, rfl, _, rfl, x, CN, dx, _, rfl, hx2, T.x.cl, T.n1, (by show 0 < 1000; decide), ?_⟩
    refine ⟨_, rfl, _, rfl, x, CN, dx, _, rfl, upd_same, T.x.cl, T.n2, (by have := putF_len "_pipes" (.ref tp) []; simp at this ⊢; omega), ?_⟩
    refine k _ (fun b o hb eb => ?_) ⟨dx, upd_same⟩
    rw [upd_ne hb, upd_ne hb]
    exact s2 _ _ (s1 _ _ eb)
/-- the tuple of a net's pipes, of a net's meters -/
def sp_npi (CN : Addr) : Sp := fun vs H Q _ => ∃ (a dx tp tm : Addr), vs = [.ref a] ∧ H a = some (.ins CN dx (netF tp tm)) ∧ Q (.ref tp) H
def sp_nme (CN : Addr) : Sp := fun vs H Q _ => ∃ (a dx tp tm : Addr), vs = [.ref a] ∧ H a = some (.ins CN dx (netF tp tm)) ∧ Q (.ref tm) H
def sp_nlen (K : PySem.W.Frag) (CN : Addr) : Sp := fun vs H Q _ => ∃ (a dx tp tm : Addr) (xs : List V), vs = [.ref a] ∧ H a = some (.ins CN dx (netF tp tm)) ∧ SqT K H tp xs ∧ ∃ n : Nat, n = xs.length ∧ n < 2 ^ 62 ∧ Q (.int n) H
theorem ok_Net_p {f : Addr} {fd : FuncData} (F : Fun K "pipes" "Net.pipes" s_Net_pipes f fd) (T : NClass K mg CN) : FnOk P w K mg base CX0 1 f fd ["self"] (sp_npi CN) := by
  refine F.ok sc_Net_pipes (fun vs H Q E h => ?_) (fun cdv A outer s H vs Q E hr h => ?_)
  · obtain ⟨_, _, _, _, rfl, _⟩ := h
    rfl
  · obtain ⟨a, dx, tp, tm, rfl, ha, k⟩ := h
    refine ⟨_, (pss_one (ps_ret (pe_fld (pv 0) rfl))), ?_⟩
    exact ⟨_, rfl, a, CN, dx, _, _, rfl, ha, T.x.cl, T.n1, netF_p _ _, k⟩
theorem ok_Net_m {f : Addr} {fd : FuncData} (F : Fun K "meters" "Net.meters" s_Net_meters f fd) (T : NClass K mg CN) : FnOk P w K mg base CX0 1 f fd ["self"] (sp_nme CN) := by
  refine F.ok sc_Net_meters (fun vs H Q E h => ?_) (fun cdv A outer s H vs Q E hr h => ?_)
  · obtain ⟨_, _, _, _, rfl, _⟩ := h
    rfl
  · obtain ⟨a, dx, tp, tm, rfl, ha, k⟩ := h
    refine ⟨_, (pss_one (ps_ret (pe_fld (pv 0) rfl))), ?_⟩
    exact ⟨_, rfl, a, CN, dx, _, _, rfl, ha, T.x.cl, T.n2, netF_m _ _, k⟩
theorem ok_Net_l {f : Addr} {fd : FuncData} (F : Fun K "__len__" "Net.__len__" s_Net___len__ f fd) (T : NClass K mg CN) (B : Blt mg) : FnOk P w K mg base CX0 1 f fd ["self"] (sp_nlen K CN) := by
  refine F.ok sc_Net___len__ (fun vs H Q E h => ?_) (fun cdv A outer s H vs Q E hr h => ?_)
  · obtain ⟨_, _, _, _, _, rfl, _⟩ := h
    rfl
  · obtain ⟨a, dx, tp, tm, xs, rfl, ha, ht, n, en, nb, k⟩ := h
    refine ⟨_, (pss_one (ps_ret (pe_callB call_len_seq (by rfl) B.b_len (by decide +kernel) (pa_cons (pe_fld (pv 0) rfl) pa_nil)))), ?_⟩
    refine ⟨_, rfl, a, CN, dx, _, _, rfl, ha, T.x.cl, T.n1, netF_p _ _, tp, xs, rfl, .inr ht, ?_⟩
    rw [← en]
    exact k
end
end RV
namespace RV
open PySem L2 TL
section
variable {P : Program} {w : World} {K : PySem.W.Frag} {mg : Str → Option Value} {base : Heap} {CN CP CM : Addr}
theorem ok_pipe_line {f : Addr} {fd : FuncData} (F : Fun K "_pipe_line" "_pipe_line" s_pipe_line f fd) (h_pn : Prp P w K mg base CP "name" 1 (Irr (sp_pn CP))) (h_ps : Prp P w K mg base CP "start" 1 (Irr (sp_ps CP))) (h_pe : Prp P w K mg base CP "end" 1 (Irr (sp_pe CP))) : FnOk P w K mg base CX0 3 f fd ["part"] (sp_pline CP) := by
  refine F.ok sc_pipe_line (fun vs H Q E h => ?_) (fun cdv A outer s H vs Q E hr h => ?_)
  · obtain ⟨_, _, rfl, _⟩ := h
    rfl
  · obtain ⟨a, q, rfl, ha, h1, h2, h3, k⟩ := h
    refine ⟨_, (pss_one (ps_ret (pe_joined (.cons pe_str (.cons (pe_fmt (pe_propN h_pn (hr.mono (by decide)) (pv 0))) (.cons pe_str (.cons (pe_fmt (pe_propN h_ps (hr.mono (by decide)) (pv 0))) (.cons pe_str (.cons (pe_fmt (pe_propN h_pe (hr.mono (by decide)) (pv 0))) .nil))))))))), ?_⟩
    obtain ⟨dx, ea⟩ := id ha
    have l1 := nm8 h1
    have l2 := nm8 h2
    have l3 := nm8 h3
    have e1 : Str.length " " = 1 := by decide +kernel
    have e2 : Str.length Str.empty = 0 := by decide +kernel
    have e3 : Str.length "pipe " = 5 := by decide +kernel
    refine ⟨_, rfl, ?_, _, rfl, a, dx, _, rfl, ea, irr ⟨a, q, rfl, ha, .inl ⟨_, rfl, szn (by omega), _, rfl, ?_, _, rfl, ?_, _, rfl, a, dx, _, rfl, ea, irr ⟨a, q, rfl, ha, .inl ⟨_, rfl, szn (by omega), _, rfl, ?_, _, rfl, ?_, _, rfl, a, dx, _, rfl, ea, irr ⟨a, q, rfl, ha, .inl ⟨_, rfl, szn (by omega), _, rfl, ?_, k⟩⟩⟩⟩⟩⟩⟩
    all_goals (repeat rw [sl_app]); rw [e2, e3]; try rw [e1]
    all_goals exact szn (by omega)
theorem ok_meter_line {f : Addr} {fd : FuncData} (F : Fun K "_meter_line" "_meter_line" s_meter_line f fd) (h_mn : Prp P w K mg base CM "name" 1 (Irr (sp_mn CM))) (h_ma : Prp P w K mg base CM "at" 1 (Irr (sp_ma CM))) (h_mz : Prp P w K mg base CM "sealed" 1 (Irr (sp_mz CM))) : FnOk P w K mg base CX0 3 f fd ["part"] (sp_mline CM) := by
  refine F.ok sc_meter_line (fun vs H Q E h => ?_) (fun cdv A outer s H vs Q E hr h => ?_)
  · obtain ⟨_, _, rfl, _⟩ := h
    rfl
  · obtain ⟨a, q, rfl, ha, h1, h2, k⟩ := h
    refine ⟨_, (pss_cons (ps_set (i := 1) sc_meter_line.nd rfl (Or.inl rfl) (pe_ifExp (pt_val (pe_propN h_mz (hr.mono (by decide)) (pv 0))) pe_str pe_str))
      (pss_one (ps_ret (pe_joined (.cons pe_str (.cons (pe_fmt (pe_propN h_mn (hr.mono (by decide)) (pv 0))) (.cons pe_str (.cons (pe_fmt (pe_propN h_ma (hr.mono (by decide)) (pv 0))) (.cons (pe_fmt (pv 1)) .nil))))))))), ?_⟩
    obtain ⟨dx, ea⟩ := id ha
    have l1 := nm8 h1
    have l2 := nm8 h2
    have e1 : Str.length " " = 1 := by decide +kernel
    have e2 : Str.length Str.empty = 0 := by decide +kernel
    have e3 : Str.length "meter " = 6 := by decide +kernel
    have e4 : ∀ z, (mseal z).length ≤ 7 := fun z => by
      cases z
      · show Str.length "" ≤ 7
        decide +kernel
      · show Str.length " sealed" ≤ 7
        decide +kernel
    have l4 := e4 q.2.2
    refine seq_of (fun σ' H' => σ' = [some (.ref a), some (.str (mseal q.2.2))] ∧ H' = H) ?rest (fun N hN => ?main)
    case main =>
      refine ⟨_, rfl, a, dx, _, rfl, ea, irr ⟨a, q, rfl, ha, q.2.2, rfl, ?_⟩⟩
      cases hz : q.2.2 with
      | true => exact iteT (hN _ _ ⟨by rw [hz]; rfl, rfl⟩)
      | false => exact iteF (hN _ _ ⟨by rw [hz]; rfl, rfl⟩)
    rintro σ1 H1 ⟨rfl, rfl⟩
    refine ⟨_, rfl, ?_, _, rfl, a, dx, _, rfl, ea, irr ⟨a, q, rfl, ha, .inl ⟨_, rfl, szn (by omega), _, rfl, ?_, _, rfl, ?_, _, rfl, a, dx, _, rfl, ea, irr ⟨a, q, rfl, ha, .inl ⟨_, rfl, szn (by omega), _, rfl, ?_, _, rfl, .inl ⟨_, rfl, szn (by omega), _, rfl, ?_, k⟩⟩⟩⟩⟩⟩
    all_goals (repeat rw [sl_app]); rw [e2, e3]; try rw [e1]
    all_goals exact szn (by omega)
end
end RV
namespace RV
open PySem L2 TL
section
variable {P : Program} {w : World} {K : PySem.W.Frag} {mg : Str → Option Value} {base : Heap} {CN CP CM : Addr}
theorem ok_lines {f : Addr} {fd : FuncData} (F : Fun K "_lines" "_lines" s_lines f fd) (h_pipe_line : Fn P w K mg base "_pipe_line" 3 ["part"] (Irr (sp_pline CP))) (h_meter_line : Fn P w K mg base "_meter_line" 3 ["part"] (Irr (sp_mline CM))) : FnOk P w K mg base CX0 4 f fd ["pipes", "meters"] (sp_lines K CP CM) := by
  refine F.ok sc_lines (fun vs H Q E h => ?_) (fun cdv A outer s H vs Q E hr h => ?_)
  · obtain ⟨_, _, _, _, rfl, _⟩ := h
    rfl
  · obtain ⟨tp, tm, pu, mu, rfl, hp, hm, np, nm, pl, ml, k⟩ := h
    refine ⟨_, (pss_one (ps_ret (pe_op op_cat (pe_lc (own := [("part", 2)]) (g := gName 2) (tt := tYes) rfl sc_lines.nd (pi_tup (pv 0)) (blkOk_by (N := sc_lines_N) (sc := defScope s_lines) (by decide +kernel)) (fun _ _ _ _ _ => pg_name (i := 2) sc_lines.nd rfl (Or.inl rfl)) (fun _ _ _ _ _ => pts_nil) (fun _ _ _ _ _ => (pe_fn h_pipe_line (hr.mono (by decide)) (pa_cons (pv 2) pa_nil)))) (pe_lc (own := [("part", 2)]) (g := gName 2) (tt := tYes) rfl sc_lines.nd (pi_tup (pv 1)) (blkOk_by (N := sc_lines_N) (sc := defScope s_lines) (by decide +kernel)) (fun _ _ _ _ _ => pg_name (i := 2) sc_lines.nd rfl (Or.inl rfl)) (fun _ _ _ _ _ => pts_nil) (fun _ _ _ _ _ => (pe_fn h_meter_line (hr.mono (by decide)) (pa_cons (pv 2) pa_nil))))))), ?_⟩
    refine ⟨_, rfl, tp, rfl, ⟨_, hp.t⟩, fun D nD => lc_to (xs := rf pu) (((sn pu).map pline).map V.str) (by rw [List.length_map, List.length_map, sn_len, rf_len]) walk_tup nD (by rw [rf_len]; omega) (fun H' s' => hp.t.ext s') (fun _ => rfl) (fun j x y hx hy H2 s2 R kR => ?_) fun H2 s2 hD => ?_⟩
    · rw [rf, List.getElem?_map] at hx
      cases hu : pu[j]? with
      | none => rw [hu] at hx; cases hx
      | some u =>
        rw [hu] at hx
        obtain rfl : V.ref u.1 = x := Option.some.inj hx
        rw [List.getElem?_map, List.getElem?_map, sn, List.getElem?_map, hu] at hy
        obtain rfl : V.str (pline u.2) = y := Option.some.inj hy
        have hm := List.mem_of_getElem? hu
        have n := np u.2 (List.mem_map.mpr ⟨u, hm, rfl⟩)
        exact ⟨_, rfl, irr ⟨u.1, u.2, rfl, (hp.o u hm).ext s2, n.1, n.2.1, n.2.2, kR _ (Same.refl _)⟩⟩
    refine ⟨_, rfl, tm, rfl, ⟨_, hm.t.ext s2⟩, fun D2 nD2 => lc_to (xs := rf mu) (((sn mu).map mline).map V.str) (by rw [List.length_map, List.length_map, sn_len, rf_len]) walk_tup nD2 (by rw [rf_len]; omega) (fun H' s' => (hm.t.ext s2).ext s') (fun _ => rfl) (fun j x y hx hy H3 s3 R kR => ?_) fun H3 s3 hD2 => ?_⟩
    · rw [rf, List.getElem?_map] at hx
      cases hu : mu[j]? with
      | none => rw [hu] at hx; cases hx
      | some u =>
        rw [hu] at hx
        obtain rfl : V.ref u.1 = x := Option.some.inj hx
        rw [List.getElem?_map, List.getElem?_map, sn, List.getElem?_map, hu] at hy
        obtain rfl : V.str (mline u.2) = y := Option.some.inj hy
        have hmu := List.mem_of_getElem? hu
        have n := nm u.2 (List.mem_map.mpr ⟨u, hmu, rfl⟩)
        exact ⟨_, rfl, irr ⟨u.1, u.2, rfl, ((hm.o u hmu).ext s2).ext s3, n.1, n.2, kR _ (Same.refl _)⟩⟩
    refine ⟨D, D2, _, _, rfl, rfl, s3 _ _ hD, hD2, ?_, fun lo nlo => ?_⟩
    · simp only [List.length_map, sn_len]
      exact Nat.le_trans (show pu.length + mu.length ≤ 40 by omega) (by decide)
    · refine k lo _ ⟨fun b o e => ?_, fun p hp => ?_⟩
      · rw [upd_ne (ne_of_none (s3 _ _ (s2 _ _ e)) nlo)]
        exact s3 _ _ (s2 _ _ e)
      · rw [List.mem_singleton.mp hp]
        refine ⟨?_, by rw [upd_same, netL, List.map_append]⟩
        show H lo = none
        cases e : H lo with
        | none => rfl
        | some o => rw [s3 _ _ (s2 _ _ e)] at nlo; cases nlo
theorem ok_Net_s {f : Addr} {fd : FuncData} (F : Fun K "__str__" "Net.__str__" s_Net___str__ f fd) (T : NClass K mg CN) (h_lines : Fn P w K mg base "_lines" 4 ["pipes", "meters"] (Irr (sp_lines K CP CM))) : FnOk P w K mg base CX0 5 f fd ["self"] (sp_nstr K CN CP CM) := by
  refine F.ok sc_Net___str__ (fun vs H Q E h => ?_) (fun cdv A outer s H vs Q E hr h => ?_)
  · obtain ⟨_, _, _, rfl, _⟩ := h
    rfl
  · obtain ⟨x, ps, ms, rfl, hx, np, nm, pl, ml, k⟩ := h
    refine ⟨_, (pss_one (ps_ret (pe_join pe_str (pe_fn h_lines (hr.mono (by decide)) (pa_cons (pe_fld (pv 0) rfl) (pa_cons (pe_fld (pv 0) rfl) pa_nil)))))), ?_⟩
    obtain ⟨dx, tp, tm, pu, mu, ex, hp, hm, rfl, rfl⟩ := hx.ex
    refine ⟨⟨_, rfl⟩, _, rfl, x, CN, dx, _, _, rfl, ex, T.x.cl, T.n1, netF_p _ _, _, rfl, x, CN, dx, _, _, rfl, ex, T.x.cl, T.n2, netF_m _ _, irr ⟨tp, tm, pu, mu, rfl, hp, hm, np, nm, by rw [← sn_len]; exact pl, by rw [← sn_len]; exact ml, fun m H' kp => ⟨_, m, netL (sn pu) (sn mu), rfl, rfl, .inl (SqL.of (kp.at List.mem_cons_self)), ?_, k H' kp.sm⟩⟩⟩
    have h1 := netL_sum np nm
    have h2 : (netL (sn pu) (sn mu)).length = (sn pu).length + (sn mu).length := by rw [netL, List.length_append, List.length_map, List.length_map]
    have h3 : Str.length "\n" = 1 := by decide +kernel
    rw [h3]
    omega
end
end RV
namespace RV
open PySem L2 TL
section
variable {P : Program} {w : World} {K : PySem.W.Frag} {mg : Str → Option Value} {base : Heap} {CN CP CM : Addr}
theorem ok_Net_q {f : Addr} {fd : FuncData} (F : Fun K "__eq__" "Net.__eq__" s_Net___eq__ f fd) (T : NClass K mg CN) (B : Blt mg) (oP : OwnEq P w K mg base CP 1 (sp_Peq CP)) (oM : OwnEq P w K mg base CM 1 (sp_Meq CM)) : FnOk P w K mg base CX0 4 f fd ["self", "other"] (sp_Neq K CN CP CM) := by
  refine F.ok sc_Net___eq__ (fun vs H Q E h => ?_) (fun cdv A outer s H vs Q E hr h => ?_)
  · obtain ⟨_, _, _, _, _, rfl, _⟩ := h
    rfl
  · obtain ⟨a, b, ps, ms, ms', rfl, ha, hb, hor, k⟩ := h
    refine ⟨_, (pss_one (ps_ret (pe_and (pe_callB call_isi (by rfl) B.b_isinstance (by decide +kernel) (pa_cons (pv 1) (pa_cons (pe_gC T.k) pa_nil))) (pe_and (pe_cmpR (op_eqTup (rc_pipes oP) (hr.mono (by decide))) (pe_fld (pv 0) rfl) (pe_fld (pv 1) rfl) (nomark _)) (pe_one (pe_cmpR (op_eqTup (rc_meters oM) (hr.mono (by decide))) (pe_fld (pv 0) rfl) (pe_fld (pv 1) rfl) (nomark _))))))), ?_⟩
    obtain ⟨dx, tp, tm, pu, mu, ex, hp, hm, e1, e2⟩ := ha.ex
    obtain ⟨dx', tp', tm', pu', mu', ex', hp', hm', e1', e2'⟩ := hb.ex
    refine ⟨_, rfl, _, _, _, .ref CN, true, rfl, .own CN, T.x.ty ex', T.me, true, rfl, iteT ?_⟩
    refine ⟨_, rfl, a, CN, dx, _, _, rfl, ex, T.x.cl, T.n1, netF_p _ _, _, rfl, b, CN, dx', _, _, rfl, ex', T.x.cl, T.n1, netF_p _ _, .inl ⟨dtup_of hp.t hp'.t (e1.trans e1'.symm) fun i u v hu hv e => ?_, fun H1 s1 => ⟨true, rfl, iteT ?_⟩⟩⟩
    · obtain ⟨dy, ey⟩ := hp.o u (List.mem_of_getElem? hu)
      obtain ⟨dz, ez⟩ := hp'.o v (List.mem_of_getElem? hv)
      exact ⟨u.1, v.1, dy, dz, _, _, rfl, rfl, ey, ez, u.2, ⟨dy, ey⟩, by rw [e]; exact ⟨dz, ez⟩⟩
    refine ⟨_, rfl, a, CN, dx, _, _, rfl, s1 _ _ ex, T.x.cl, T.n2, netF_m _ _, _, rfl, b, CN, dx', _, _, rfl, s1 _ _ ex', T.x.cl, T.n2, netF_m _ _, ?_⟩
    have hm1 := hm.ext s1
    have hm1' := hm'.ext s1
    by_cases e : ms = ms'
    · refine .inl ⟨dtup_of hm1.t hm1'.t (e2.trans (e.trans e2'.symm)) fun i u v hu hv e => ?_, fun H2 s2 => ?_⟩
      · obtain ⟨dy, ey⟩ := hm1.o u (List.mem_of_getElem? hu)
        obtain ⟨dz, ez⟩ := hm1'.o v (List.mem_of_getElem? hv)
        exact ⟨u.1, v.1, dy, dz, _, _, rfl, rfl, ey, ez, u.2, ⟨dy, ey⟩, by rw [e]; exact ⟨dz, ez⟩⟩
      · have := k H2 fun b o e => s2 b o (s1 b o e)
        rwa [decide_eq_true e] at this
    · have hl1 : (rf mu).length = ms.length := by rw [rf_len, ← sn_len, e2]
      have hl2 : (rf mu').length = ms'.length := by rw [rf_len, ← sn_len, e2']
      refine .inr ⟨tm, tm', _, _, rfl, rfl, hm1.t, hm1'.t, ?_, ?_, ?_⟩
      · rw [hl1, hl2, List.length_eq_zero_iff, List.length_eq_zero_iff]
        exact hor.resolve_left e
      · rw [hl1, hl2]
        rcases hor.resolve_left e with z | z
        · subst z
          intro q
          exact e (List.length_eq_zero_iff.mp q.symm).symm
        · subst z
          intro q
          exact e (List.length_eq_zero_iff.mp q)
      · have := k H1 s1
        rwa [decide_eq_false e] at this
theorem ok_rows_in {f : Addr} {fd : FuncData} (F : Fun K "_rows_in" "_rows_in" s_rows_in f fd) : FnOk P w K mg base CX0 1 f fd ["text"] sp_rows := by
  refine F.ok sc_rows_in (fun vs H Q E h => ?_) (fun cdv A outer s H vs Q E hr h => ?_)
  · obtain ⟨_, _, rfl, _⟩ := h
    rfl
  · obtain ⟨ps, ms, rfl, ok, k⟩ := h
    refine ⟨_, (pss_one (ps_ret (pe_lc (own := [("line", 1)]) (g := gName 1) (tt := tYes) rfl sc_rows_in.nd (pi_list (pe_split (pv 0) pe_str)) (blkOk_by (N := sc_rows_in_N) (sc := defScope s_rows_in) (by decide +kernel)) (fun _ _ _ _ _ => pg_name (i := 1) sc_rows_in.nd rfl (Or.inl rfl)) (fun _ _ _ _ _ => pts_nil) (fun _ _ _ _ _ => (pe_split (pv 1) pe_str))))), ?_⟩
    have tl := netT_len ok.pn ok.mn ok.pl ok.ml
    refine ⟨_, rfl, ⟨_, rfl⟩, _, _, rfl, rfl, by decide +kernel, Nat.le_trans (show _ ≤ 5010 by omega) (by decide), fun p np => ?_⟩
    rw [split_netT ok.n0 ok.pn ok.mn]
    have s1 : Same H (upd H p (.lst ((netL ps ms).map V.str))) := fun b o e => (upd_ne (ne_of_none e np)).trans e
    have hll : ((netL ps ms).map V.str).length = ps.length + ms.length := by rw [List.length_map, netL, List.length_append, List.length_map, List.length_map]
    have hl1 : SqL K (upd H p (.lst ((netL ps ms).map V.str))) p ((netL ps ms).map V.str) := SqL.of upd_same
    have := ok.pl
    have := ok.ml
    refine ⟨p, rfl, ⟨_, hl1⟩, fun D nD => lc_new (β := RU) (xs := (netL ps ms).map V.str) (fun u => .ref u.1) (fun j u H' => H' u.1 = some (.lst (u.2.map V.str)) ∧ u.1 ≠ D ∧ (rowsL ps ms)[j]? = some u.2) walk_list nD (by omega) (fun H' s' => hl1.ext s') (fun _ => rfl) (fun j u H' H'' s' z => ⟨s' _ _ z.1, z.2⟩) (fun j u H' acc acc' _ z => ⟨by rw [upd_ne z.2.1]; exact z.1, z.2⟩) (fun j x hx H2 s2 hD R kR => ?_) fun us H2 s2 ul up hD => ?_⟩
    · rw [List.getElem?_map] at hx
      cases hu : (netL ps ms)[j]? with
      | none => rw [hu] at hx; cases hx
      | some z =>
        rw [hu] at hx
        obtain rfl : V.str z = x := Option.some.inj hx
        obtain ⟨row, er, hl, es⟩ : ∃ row, (rowsL ps ms)[j]? = some row ∧ z.length ≤ 40 ∧ Txt.split z " " = row := by
          unfold netL at hu
          unfold rowsL
          rw [List.getElem?_append] at hu ⊢
          rw [List.length_map] at hu ⊢
          split at hu
          · rename_i hlt
            rw [if_pos hlt]
            rw [List.getElem?_map] at hu ⊢
            cases hq : ps[j]? with
            | none => rw [hq] at hu; cases hu
            | some q =>
              rw [hq] at hu
              obtain rfl : pline q = z := Option.some.inj hu
              have n := ok.pn q (List.mem_of_getElem? hq)
              exact ⟨_, rfl, pline_len n.1 n.2.1 n.2.2, split_pline n.1 n.2.1 n.2.2⟩
          · rename_i hlt
            rw [if_neg hlt]
            rw [List.getElem?_map] at hu ⊢
            cases hq : ms[j - ps.length]? with
            | none => rw [hq] at hu; cases hu
            | some q =>
              rw [hq] at hu
              obtain rfl : mline q = z := Option.some.inj hu
              have n := ok.mn q (List.mem_of_getElem? hq)
              exact ⟨_, rfl, mline_len n.1 n.2, split_mline n.1 n.2⟩
        obtain ⟨acc, eD⟩ := hD
        refine ⟨_, rfl, ⟨_, rfl⟩, _, _, rfl, rfl, by decide +kernel, szn (by omega), fun t nt => ?_⟩
        rw [es]
        exact kR (t, row) _ (fun b o e => (upd_ne (ne_of_none e nt)).trans e) ⟨upd_same, fun e => (by rw [show t = D from e, eD] at nt; cases nt), er⟩
    · refine k D us H2 (fun b o e => s2 b o (s1 b o e)) ⟨hD, fun u hu => ?_⟩ (List.ext_getElem? fun j => ?_)
      · obtain ⟨j, hj, e⟩ := List.mem_iff_getElem.mp hu
        exact (up j u (by rw [List.getElem?_eq_getElem hj, e])).1
      · rw [sn, List.getElem?_map]
        cases e : us[j]? with
        | some u => exact (up j u e).2.2.symm
        | none =>
          rw [List.getElem?_eq_none_iff] at e
          rw [List.getElem?_eq_none (by rw [rowsL, List.length_append, List.length_map, List.length_map]; omega)]
          rfl
end
end RV
namespace RV
open PySem L2 TL
section
variable {P : Program} {w : World} {K : PySem.W.Frag} {mg : Str → Option Value} {base : Heap} {CN CP CM : Addr}
theorem ok_pipes_in {f : Addr} {fd : FuncData} (F : Fun K "_pipes_in" "_pipes_in" s_pipes_in f fd) (T : Blt mg) (T2 : Blt2 mg) (h_rows_in : Fn P w K mg base "_rows_in" 1 ["text"] (Irr sp_rows)) (h_Pipe : Mkr P w K mg base "Pipe" CP 3 (Irr (sp_Pipe CP)) []) : FnOk P w K mg base CX0 5 f fd ["text"] (sp_pin K CP) := by
  refine F.ok sc_pipes_in (fun vs H Q E h => ?_) (fun cdv A outer s H vs Q E hr h => ?_)
  · obtain ⟨_, _, rfl, _⟩ := h
    rfl
  · obtain ⟨ps, ms, rfl, ok, po, k⟩ := h
    refine ⟨_, (pss_cons (ps_setLc (i := 1) (own := [("row", 2)]) (g := gName 2) rfl sc_pipes_in.nd rfl rfl (sw_true rfl rfl rfl (by decide +kernel)) (pi_list (pe_fn h_rows_in (hr.mono (by decide)) (pa_cons (pv 0) pa_nil))) (blkOk_by (N := sc_pipes_in_N) (sc := defScope s_pipes_in) (by decide +kernel)) (fun _ _ _ _ _ => pg_name (i := 2) sc_pipes_in.nd rfl (Or.inl rfl)) (fun _ _ _ _ _ => pts_one (PW.pt (pw_and (pt_cmpR op_eq (pe_ix ix_listK (pv 2) pe_int (fun _ _ => rfl)) pe_str (nomark _)) (pw_and1 (pt_cmpR op_eq (pe_callB call_lenK (by rfl) T.b_len (by decide +kernel) (pa_cons (pv 2) pa_nil)) pe_int (nomark _)))))) (fun _ _ _ _ _ => (pv 2)))
      (pss_one (ps_ret (pe_callTy call_tuple_of (by rfl) T2.b_tuple (by decide +kernel) (pa_cons (pe_lc (own := [("row", 2)]) (g := gName 2) (tt := tYes) rfl sc_pipes_in.nd (pi_list (pv 1)) (blkOk_by (N := sc_pipes_in_N) (sc := defScope s_pipes_in) (by decide +kernel)) (fun _ _ _ _ _ => pg_name (i := 2) sc_pipes_in.nd rfl (Or.inl rfl)) (fun _ _ _ _ _ => pts_nil) (fun _ _ _ _ _ => (pe_mk h_Pipe (hr.mono (by decide)) (pa_cons (pe_ix ix_listK (pv 2) pe_int (fun _ _ => rfl)) (pa_cons (pe_ix ix_listK (pv 2) pe_int (fun _ _ => rfl)) (pa_cons (pe_ix ix_listK (pv 2) pe_int (fun _ _ => rfl)) pa_nil)))))) pa_nil))))), ?_⟩
    refine ⟨_, rfl, irr ⟨ps, ms, rfl, ok, fun l us H1 s1 rw1 er => ⟨l, rfl, ⟨_, SqL.of rw1.l⟩, fun D nD => ?_⟩⟩⟩
    have hl1 : SqL K H1 l (rf us) := SqL.of rw1.l
    have ul : us.length ≤ 40 := by
      rw [← sn_len, er, rowsL, List.length_append, List.length_map, List.length_map]
      have := ok.pl
      have := ok.ml
      omega
    have row_of : ∀ u ∈ us, (∃ q, u.2 = prow q) ∨ ∃ q, u.2 = mrow q := fun u hu => by
      have : u.2 ∈ rowsL ps ms := by rw [← er]; exact List.mem_map.mpr ⟨u, hu, rfl⟩
      rcases List.mem_append.mp this with h | h
      · obtain ⟨q, _, e⟩ := List.mem_map.mp h
        exact .inl ⟨q, e.symm⟩
      · obtain ⟨q, _, e⟩ := List.mem_map.mp h
        exact .inr ⟨q, e.symm⟩
    refine lc_keep (us := us) (fun u => isP u.2) walk_list nD (by omega) (fun H' s' => hl1.ext s') (fun _ => rfl) (fun u hu H2 s2 R kR => ?_) (fun u hu H2 R r => ⟨_, rfl, r⟩) fun H2 s2 hD => ?_
    · have eu := s2 _ _ (rw1.o u hu)
      rcases row_of u hu with ⟨q, e⟩ | ⟨q, e⟩
      · rw [e] at eu
        have kR' := kR H2 (Same.refl H2)
        rw [e, isP_p] at kR'
        refine ⟨_, rfl, u.1, _, 0, _, rfl, rfl, SqL.of eu, rfl, rfl, _, rfl, ite2 (fun _ => ?_) fun h => absurd (decide_eq_true rfl) h⟩
        exact ⟨_, rfl, u.1, _, rfl, .inl (SqL.of eu), rfl, _, rfl, kR'⟩
      · have kR' := kR H2 (Same.refl H2)
        rw [e, isP_m] at kR'
        obtain ⟨r, er⟩ : ∃ r : List Str, mrow q = ("meter" : Str) :: r := by unfold mrow; split <;> exact ⟨_, rfl⟩
        rw [e, er] at eu
        refine ⟨_, rfl, u.1, _, 0, .str "meter", rfl, rfl, SqL.of eu, atI_nat (j := 0) rfl, rfl, _, rfl, ite2 (fun h => ?_) fun _ => kR'⟩
        exact absurd (V.str.inj (of_decide_eq_true h)).symm p_ne_m
    generalize hfu : us.filter (fun u => isP u.2) = fu at hD
    have efu : sn fu = ps.map prow := by rw [← hfu, sn_filter, er, rows_p]
    have ofu : ∀ u ∈ fu, H2 u.1 = some (.lst (u.2.map V.str)) := fun u hu => s2 _ _ (rw1.o u (List.mem_filter.mp (by rw [hfu]; exact hu : u ∈ us.filter (fun u => isP u.2)) |>.1))
    have lfu : fu.length = ps.length := by rw [← sn_len, efu, List.length_map]
    have hl2 : SqL K H2 D (rf fu) := SqL.of hD
    dsimp only [gName]
    refine ⟨_, rfl, D, rfl, ⟨_, hl2⟩, fun D2 nD2 => lc_new (β := PU) (xs := rf fu) (fun u => .ref u.1) (fun j u H' => PipeAt CP H' u.1 u.2 ∧ ps[j]? = some u.2) walk_list nD2 (by rw [rf_len, lfu]; have := ok.pl; omega) (fun H' s' => hl2.ext s') (fun _ => rfl) (fun j u H' H'' s' z => ⟨z.1.ext s', z.2⟩) (fun j u H' acc acc' e z => ⟨z.1.gro e Grow.put, z.2⟩) (fun j x hx H3 s3 hD3 R kR => ?_) fun bs H3 s3 bl bp hD3 => ?_⟩
    · obtain ⟨u, hu, rfl⟩ := rf_get hx
      have hs := sn_get hu
      rw [efu, List.getElem?_map] at hs
      cases hq : ps[j]? with
      | none => rw [hq] at hs; cases hs
      | some q =>
        rw [hq] at hs
        have e : u.2 = prow q := (Option.some.inj hs).symm
        have eu := s3 _ _ (ofu u (List.mem_of_getElem? hu))
        rw [e] at eu
        obtain ⟨n1, n2, n3, n4⟩ := po.nm q (List.mem_of_getElem? hq)
        refine ⟨_, rfl, u.1, _, 1, _, rfl, rfl, SqL.of eu, rfl, _, rfl, u.1, _, 2, _, rfl, rfl, SqL.of eu, rfl, _, rfl, u.1, _, 3, _, rfl, rfl, SqL.of eu, rfl, ?_⟩
        exact fun x dx hx hd ne => Pipe_kp n1 n2 n3 n4 hx hd ne fun H4 s4 pa => kR (x, q) H4 s4 ⟨pa, hq⟩
    · refine ⟨D2, _, rfl, .inl ⟨SqL.of hD3, fun t nt => ?_⟩⟩
      have s4 : Same H3 (upd H3 t (.tup (bs.map fun u => .ref u.1))) := fun b o e => (upd_ne (ne_of_none e nt)).trans e
      refine k t bs _ (fun b o e => s4 b o (s3 b o (s2 b o (s1 b o e)))) ⟨SqT.of upd_same, fun u hu => ?_⟩ (List.ext_getElem? fun j => ?_)
      · obtain ⟨j, hj, e⟩ := List.mem_iff_getElem.mp hu
        exact (bp j u (by rw [List.getElem?_eq_getElem hj, e])).1.ext s4
      · cases e : bs[j]? with
        | some u => rw [sn_get e]; exact (bp j u e).2.symm
        | none =>
          rw [List.getElem?_eq_none_iff] at e
          rw [rf_len, lfu] at bl
          rw [List.getElem?_eq_none (by rw [sn_len]; omega), List.getElem?_eq_none (by omega)]
theorem ok_meters_in {f : Addr} {fd : FuncData} (F : Fun K "_meters_in" "_meters_in" s_meters_in f fd) (T : Blt mg) (T2 : Blt2 mg) (h_rows_in : Fn P w K mg base "_rows_in" 1 ["text"] (Irr sp_rows)) (h_MeterK : MkrK P w K mg base "Meter" CM 3 2 ["sealed"] (Irr (sp_Meter CM)) gM2) : FnOk P w K mg base CX0 5 f fd ["text"] (sp_min K CM) := by
  refine F.ok sc_meters_in (fun vs H Q E h => ?_) (fun cdv A outer s H vs Q E hr h => ?_)
  · obtain ⟨_, _, rfl, _⟩ := h
    rfl
  · obtain ⟨ps, ms, rfl, ok, k⟩ := h
    refine ⟨_, (pss_cons (ps_setLc (i := 1) (own := [("row", 2)]) (g := gName 2) rfl sc_meters_in.nd rfl rfl (sw_true rfl rfl rfl (by decide +kernel)) (pi_list (pe_fn h_rows_in (hr.mono (by decide)) (pa_cons (pv 0) pa_nil))) (blkOk_by (N := sc_meters_in_N) (sc := defScope s_meters_in) (by decide +kernel)) (fun _ _ _ _ _ => pg_name (i := 2) sc_meters_in.nd rfl (Or.inl rfl)) (fun _ _ _ _ _ => pts_one (PW.pt (pw_and (pt_cmpR op_eq (pe_ix ix_listK (pv 2) pe_int (fun _ _ => rfl)) pe_str (nomark _)) (pw_and1 (pt_cmpR (op_inK (K := K)) (pe_callB call_lenK (by rfl) T.b_len (by decide +kernel) (pa_cons (pv 2) pa_nil)) (pe_tup (pa_cons pe_int (pa_cons pe_int pa_nil))) (by rfl)))))) (fun _ _ _ _ _ => (pv 2)))
      (pss_one (ps_ret (pe_callTy call_tuple_of (by rfl) T2.b_tuple (by decide +kernel) (pa_cons (pe_lc (own := [("row", 2)]) (g := gName 2) (tt := tYes) rfl sc_meters_in.nd (pi_list (pv 1)) (blkOk_by (N := sc_meters_in_N) (sc := defScope s_meters_in) (by decide +kernel)) (fun _ _ _ _ _ => pg_name (i := 2) sc_meters_in.nd rfl (Or.inl rfl)) (fun _ _ _ _ _ => pts_nil) (fun _ _ _ _ _ => (pe_mkK h_MeterK (hr.mono (by decide)) (pa_cons (pe_ix ix_listK (pv 2) pe_int (fun _ _ => rfl)) (pa_cons (pe_ix ix_listK (pv 2) pe_int (fun _ _ => rfl)) pa_nil)) (pk_cons (pe_cmpR op_eq (pe_callB call_lenK (by rfl) T.b_len (by decide +kernel) (pa_cons (pv 2) pa_nil)) pe_int (nomark _)) pk_nil)))) pa_nil))))), ?_⟩
    refine ⟨_, rfl, irr ⟨ps, ms, rfl, ok, fun l us H1 s1 rw1 er => ⟨l, rfl, ⟨_, SqL.of rw1.l⟩, fun D nD => ?_⟩⟩⟩
    have hl1 : SqL K H1 l (rf us) := SqL.of rw1.l
    have ul : us.length ≤ 40 := by
      rw [← sn_len, er, rowsL, List.length_append, List.length_map, List.length_map]
      have := ok.pl
      have := ok.ml
      omega
    have row_of : ∀ u ∈ us, (∃ q, u.2 = prow q) ∨ ∃ q, u.2 = mrow q := fun u hu => by
      have : u.2 ∈ rowsL ps ms := by rw [← er]; exact List.mem_map.mpr ⟨u, hu, rfl⟩
      rcases List.mem_append.mp this with h | h
      · obtain ⟨q, _, e⟩ := List.mem_map.mp h
        exact .inl ⟨q, e.symm⟩
      · obtain ⟨q, _, e⟩ := List.mem_map.mp h
        exact .inr ⟨q, e.symm⟩
    refine lc_keep (us := us) (fun u => isM u.2) walk_list nD (by omega) (fun H' s' => hl1.ext s') (fun _ => rfl) (fun u hu H2 s2 R kR => ?_) (fun u hu H2 R r => ⟨_, rfl, r⟩) fun H2 s2 hD => ?_
    · have eu := s2 _ _ (rw1.o u hu)
      rcases row_of u hu with ⟨q, e⟩ | ⟨q, e⟩
      · rw [e] at eu
        have kR' := kR H2 (Same.refl H2)
        rw [e, isM_p] at kR'
        refine ⟨_, rfl, u.1, _, 0, .str "pipe", rfl, rfl, SqL.of eu, rfl, rfl, _, rfl, ite2 (fun h => ?_) fun _ => kR'⟩
        exact absurd (V.str.inj (of_decide_eq_true h)) p_ne_m
      · obtain ⟨r, er, lr⟩ : ∃ r : List Str, mrow q = ("meter" : Str) :: r ∧ (r.length = 2 ∨ r.length = 3) := by
          unfold mrow
          split
          · exact ⟨_, rfl, .inr rfl⟩
          · exact ⟨_, rfl, .inl rfl⟩
        have em : isM u.2 = true := by rw [e, isM_m]
        rw [e, er] at eu
        refine ⟨_, rfl, u.1, _, 0, .str "meter", rfl, rfl, SqL.of eu, atI_nat (j := 0) rfl, rfl, _, rfl, ite2 (fun _ => ?_) fun h => absurd (decide_eq_true rfl) h⟩
        refine ⟨_, rfl, u.1, _, rfl, .inl (SqL.of eu), (by show 2 ≤ sizeLine; decide), fun t nt => ⟨t, _, rfl, .inr (SqT.of upd_same), rfl, rfl, ?_⟩⟩
        have kR' := kR _ (fun b o e => (upd_ne (o := .tup [.int 3, .int 4]) (ne_of_none e nt)).trans e)
        rw [em] at kR'
        have ev : inV (V.int ((List.map V.str (("meter" : Str) :: r)).length : Nat)) [V.int 3, V.int 4] = true := by
          rw [List.length_map, List.length_cons]
          rcases lr with z | z <;> rw [z] <;> rfl
        refine ⟨_, rfl, ?_⟩
        rw [ev]
        exact kR'
    generalize hfu : us.filter (fun u => isM u.2) = fu at hD
    have efu : sn fu = ms.map mrow := by rw [← hfu, sn_filter, er, rows_m]
    have ofu : ∀ u ∈ fu, H2 u.1 = some (.lst (u.2.map V.str)) := fun u hu => s2 _ _ (rw1.o u (List.mem_filter.mp (by rw [hfu]; exact hu : u ∈ us.filter (fun u => isM u.2)) |>.1))
    have lfu : fu.length = ms.length := by rw [← sn_len, efu, List.length_map]
    have hl2 : SqL K H2 D (rf fu) := SqL.of hD
    dsimp only [gName]
    refine ⟨_, rfl, D, rfl, ⟨_, hl2⟩, fun D2 nD2 => lc_new (β := MU) (xs := rf fu) (fun u => .ref u.1) (fun j u H' => MetAt CM H' u.1 u.2 ∧ ms[j]? = some u.2) walk_list nD2 (by rw [rf_len, lfu]; have := ok.ml; omega) (fun H' s' => hl2.ext s') (fun _ => rfl) (fun j u H' H'' s' z => ⟨z.1.ext s', z.2⟩) (fun j u H' acc acc' e z => ⟨z.1.gro e Grow.put, z.2⟩) (fun j x hx H3 s3 hD3 R kR => ?_) fun bs H3 s3 bl bp hD3 => ?_⟩
    · obtain ⟨u, hu, rfl⟩ := rf_get hx
      have hs := sn_get hu
      rw [efu, List.getElem?_map] at hs
      cases hq : ms[j]? with
      | none => rw [hq] at hs; cases hs
      | some q =>
        rw [hq] at hs
        have e : u.2 = mrow q := (Option.some.inj hs).symm
        have eu := s3 _ _ (ofu u (List.mem_of_getElem? hu))
        obtain ⟨n1, n2⟩ := ok.mn q (List.mem_of_getElem? hq)
        obtain ⟨r, er, lr⟩ : ∃ r : List Str, mrow q = ("meter" : Str) :: q.1 :: q.2.1 :: r ∧ decide ((r.length + 3 : Nat) = 4) = q.2.2 := by
          unfold mrow
          split
          · rename_i hz
            exact ⟨_, rfl, by rw [hz]; rfl⟩
          · rename_i hz
            exact ⟨_, rfl, by simp at hz; rw [hz]; rfl⟩
        rw [e, er] at eu
        refine ⟨_, rfl, u.1, _, 1, .str q.1, rfl, rfl, SqL.of eu, atI_nat (j := 1) rfl, _, rfl, u.1, _, 2, .str q.2.1, rfl, rfl, SqL.of eu, atI_nat (j := 2) rfl, ?_⟩
        refine ⟨_, rfl, u.1, _, rfl, .inl (SqL.of eu), rfl, rfl, rfl, ?_⟩
        have ez : decide (V.int ((List.map V.str (("meter" : Str) :: q.1 :: q.2.1 :: r)).length : Nat) = V.int 4) = q.2.2 := by
          rw [← lr, List.length_map, List.length_cons, List.length_cons, List.length_cons]
          refine decide_eq_decide.mpr ⟨fun h => ?_, fun h => ?_⟩
          · have := V.int.inj h
            omega
          · congr 1
            omega
        rw [ez]
        exact fun x dx hx hd ne => Meter_kp n1 n2 hx hd ne fun H4 s4 pa => kR (x, q) H4 s4 ⟨pa, hq⟩
    · refine ⟨D2, _, rfl, .inl ⟨SqL.of hD3, fun t nt => ?_⟩⟩
      have s4 : Same H3 (upd H3 t (.tup (bs.map fun u => .ref u.1))) := fun b o e => (upd_ne (ne_of_none e nt)).trans e
      refine k t bs _ (fun b o e => s4 b o (s3 b o (s2 b o (s1 b o e)))) ⟨SqT.of upd_same, fun u hu => ?_⟩ (List.ext_getElem? fun j => ?_)
      · obtain ⟨j, hj, e⟩ := List.mem_iff_getElem.mp hu
        exact (bp j u (by rw [List.getElem?_eq_getElem hj, e])).1.ext s4
      · cases e : bs[j]? with
        | some u => rw [sn_get e]; exact (bp j u e).2.symm
        | none =>
          rw [List.getElem?_eq_none_iff] at e
          rw [rf_len, lfu] at bl
          rw [List.getElem?_eq_none (by rw [sn_len]; omega), List.getElem?_eq_none (by omega)]
theorem ok_Net_r {f : Addr} {fd : FuncData} (F : Fun K "read" "Net.read" s_Net_read f fd) (T : Blt mg) (h_Net : Mkr P w K mg base "Net" CN 5 (Irr (sp_Net K CN CP CM)) []) (h_pipes_in : Fn P w K mg base "_pipes_in" 5 ["text"] (Irr (sp_pin K CP))) (h_meters_in : Fn P w K mg base "_meters_in" 5 ["text"] (Irr (sp_min K CM))) (h_str : OwnM P w K mg base CN "__str__" 5 (Irr (sp_nstr K CN CP CM))) : FnOk P w K mg base CX0 8 f fd ["cls", "text"] (sp_nread K CN CP CM) := by
  refine F.ok sc_Net_read (fun vs H Q E h => ?_) (fun cdv A outer s H vs Q E hr h => ?_)
  · obtain ⟨_, _, rfl, _⟩ := h
    rfl
  · obtain ⟨ps, ms, rfl, po, mo, k⟩ := h
    refine ⟨_, (pss_cons (ps_if (pt_not (pt_val (pe_callB call_isi (by rfl) T.b_isinstance (by decide +kernel) (pa_cons (pv 1) (pa_cons (pe_bltn (v := .ty "str") (by rfl) T.b_str (by decide +kernel) rfl) pa_nil))))) (pss_one ps_never) pss_nil)
      (pss_cons (ps_try_thru0 (pss_one (ps_set (i := 2) sc_Net_read.nd rfl (Or.inl rfl) (pe_mkL (i := 0) h_Net (hr.mono (by decide)) rfl (Or.inl rfl) (pa_cons (pe_fn h_pipes_in (hr.mono (by decide)) (pa_cons (pv 1) pa_nil)) (pa_cons (pe_fn h_meters_in (hr.mono (by decide)) (pa_cons (pv 1) pa_nil)) pa_nil))))))
      (pss_cons (ps_if (pt_cmpR op_ne (pe_callTy (call_strO h_str (hr.mono (by decide))) (by rfl) T.b_str (by decide +kernel) (pa_cons (pv 2) pa_nil)) (pv 1) (nomark _)) (pss_one ps_never) pss_nil)
      (pss_one (ps_ret (pv 2)))))), ?_⟩
    have ok := TOk.of po mo
    refine ⟨_, rfl, _, _, .type "str", .type "str", true, rfl, .ty _, .base (.str _), kit_ty (by decide +kernel), true, rfl, iteF ?_⟩
    refine ⟨rfl, _, rfl, irr ⟨ps, ms, rfl, ok, po, fun tp pu H1 s1 hp ep => ⟨_, rfl, irr ⟨ps, ms, rfl, ok, fun tm mu H2 s2 hm em => ?_⟩⟩⟩⟩
    have hp2 := hp.ext s2
    refine fun x dx hx hd ne => Net_kp hp2 hm (ep ▸ po) (by rw [ep, em]; exact mo) hx hd ne fun H3 s3 hn => ?_
    rw [ep, em] at hn
    obtain ⟨dx', tp', tm', pu', mu', ex, _⟩ := id hn.ex
    refine ⟨_, rfl, x, dx', _, rfl, ex, irr ⟨x, ps, ms, rfl, hn, ok.pn, ok.mn, ok.pl, ok.ml, fun H4 s4 => ?_⟩⟩
    refine ⟨_, rfl, _, rfl, rfl, _, rfl, ?_⟩
    refine ite2 (fun h => ?_) (fun _ => ?_)
    · simp at h
    exact ⟨_, rfl, k x H4 (fun b o e => s4 b o (s3 b o (s2 b o (s1 b o e)))) (hn.ext s4)⟩
end
end RV
namespace RV
open PySem L2
/-! Net(p, m); Meter(n, a, sealed=z); Net.read(text=t) -/
theorem chainN {f t0 : Addr} {K : PySem.W.Frag} {fd : FuncData} (F : FunD K "__init__" "Net.__init__" (defArgs s_Net___init__) (defBody s_Net___init__) (defScope s_Net___init__) [.ref t0] [] f fd) : ∃ ds, Vals [] ds ∧ Binds K fd ["self", "pipes", "meters"] ds := by
  refine FunD.binds1 F 3 1 (by simp) rfl fun T kV doc pm an cdv ct us its h1 h2 => ?_
  match us, h1, its, h2 with
  | [x, y, z], _, [d], _ => exact ⟨_, rfl, rfl⟩
def gM2' (us ws : List Value) : List Value := match us, ws with
  | [x, n, a], [z] => [x, n, a, z]
  | _, _ => []
theorem gM2_rel {vs : List V} {us : List Value} {zs : List V} {ws : List Value} (r1 : Vals vs us) (r2 : Vals zs ws) : Vals (gM2 vs zs) (gM2' us ws) := by
  cases r1 with
  | nil => cases r2 <;> exact .nil
  | cons a1 r1 =>
    cases r1 with
    | nil => cases r2 <;> exact .nil
    | cons a2 r1 =>
      cases r1 with
      | nil => cases r2 <;> exact .nil
      | cons a3 r1 =>
        cases r1 with
        | cons a4 r1 => cases r2 <;> exact .nil
        | nil =>
          cases r2 with
          | nil => exact .nil
          | cons b r2 =>
            cases r2 with
            | nil => exact .cons a1 (.cons a2 (.cons a3 (.cons b .nil)))
            | cons c r2 => exact .nil
theorem kbM2 {f : Addr} {K : PySem.W.Frag} {fd : FuncData} (F : FunD K "__init__" "Meter.__init__" (defArgs s_Meter___init__) (defBody s_Meter___init__) (defScope s_Meter___init__) [] [("sealed", V.bl false)] f fd) :
    KBn K fd ["self", "name", "at", "sealed"] 3 ["sealed"] gM2' gM2 := by
  refine ⟨fun s us ws X h1 h2 => ?_, gM2_rel⟩
  obtain ⟨oc, od, dV, kV, doc, pm, an, cdv, ct, osl, rfl, lk, hcd, hD, hK⟩ := F.ex
  rcases hD with ⟨_, rfl⟩ | ⟨e, _⟩
  · match us, h1, ws, h2 with
    | [x, n, a], _, [z], _ => exact BindsTo.of_eq rfl
  · exact absurd rfl e
def gR' (us ws : List Value) : List Value := match us, ws with
  | [x], [t] => [x, t]
  | _, _ => []
theorem gR_rel {vs : List V} {us : List Value} {zs : List V} {ws : List Value} (r1 : Vals vs us) (r2 : Vals zs ws) : Vals (gR vs zs) (gR' us ws) := by
  cases r1 with
  | nil => exact .nil
  | cons a r =>
    cases r with
    | cons b r => exact .nil
    | nil =>
      cases r2 with
      | nil => exact .nil
      | cons c r2 =>
        cases r2 with
        | nil => exact .cons a (.cons c .nil)
        | cons d r2 => exact .nil
theorem kbNR {f : Addr} {K : PySem.W.Frag} {fd : FuncData} (F : Fun K "read" "Net.read" s_Net_read f fd) : KBn K fd ["cls", "text"] 1 ["text"] gR' gR := by
  refine ⟨fun s us ws X h1 h2 => ?_, gR_rel⟩
  obtain ⟨oc, od, kV, doc, pm, an, cdv, ct, osl, rfl, lk, hcd⟩ := F.ex
  match us, h1, ws, h2 with
  | [x], _, [t], _ => exact BindsTo.of_eq rfl
end RV
namespace RV
open PySem L2
theorem cutV_int (ns : List Int) (a b : Option Int) : ∃ ms : List Int, cutV (ns.map V.int) a b = ms.map V.int ∧ ms.length ≤ ns.length := by
  unfold cutV
  rw [List.length_map, ← List.map_drop, ← List.map_take]
  refine ⟨_, rfl, ?_⟩
  rw [List.length_take, List.length_drop]
  omega
section
variable {P : Program} {w : World} {K : PySem.W.Frag} {mg : Str → Option Value} {base : Heap}
/-- the well of the laws over scripts -/
theorem ok_well2 {f : Addr} {fd : FuncData} (F : Fun K "_law_well" "_law_well" s_well f fd) (T : Blt mg) : FnOk P w K mg base CX0 1 f fd ["_law_script", "_law_k"] (sp_well K) := by
  refine F.ok sc_well (fun vs H Q E h => ?_) (fun cdv A outer s H vs Q E hr h => ?_)
  · obtain ⟨_, _, _, rfl, _⟩ := h
    rfl
  · obtain ⟨c, ns, i, rfl, hS, hl, hi, k⟩ := h
    refine ⟨_, (pss_cons (ps_set (i := 2) sc_well.nd rfl (Or.inl rfl) (pe_ifExp (pt_cmpR op_lt (pv 1) (pe_callB call_len_seq (by rfl) T.b_len (by decide +kernel) (pa_cons (pv 0) pa_nil)) (nomark _)) (pe_ix ix_list (pv 0) (pv 1) (fun _ _ => rfl)) pe_int))
      (pss_cons (ps_set (i := 3) sc_well.nd rfl (Or.inl rfl) (pe_op op_add pe_int (pe_op op_mul pe_int (pv 1))))
      (pss_cons (ps_for PassesOwn.never rfl (pi_list (pe_slice sl_list (pv 0) po_none (po_some pe_int))) (pg_name (i := 4) sc_well.nd rfl (Or.inl rfl)) (pss_one (ps_set (i := 3) sc_well.nd rfl (Or.inl rfl) (pe_op op_mod (pe_callTy call_int1 (by rfl) T.b_int (by decide +kernel) (pa_cons (pe_op op_add (pe_op op_add (pe_op op_mul (pv 3) pe_int) (pe_op op_mod (pe_callTy call_int1 (by rfl) T.b_int (by decide +kernel) (pa_cons (pv 4) pa_nil)) pe_int)) pe_int) pa_nil)) pe_int))))
      (pss_cons (ps_set (i := 3) sc_well.nd rfl (Or.inl rfl) (pe_op op_mod (pe_callTy call_int1 (by rfl) T.b_int (by decide +kernel) (pa_cons (pe_op op_add (pe_op op_add (pe_op op_mul (pv 3) pe_int) (pe_op op_mod (pe_callTy call_int1 (by rfl) T.b_int (by decide +kernel) (pa_cons (pv 2) pa_nil)) pe_int)) pe_int) pa_nil)) pe_int))
      (pss_one (ps_ret (pe_lst (pa_cons (pv 3) (pa_cons (pe_ifExp (pt_cmpR op_ge (pe_callB call_abs (by rfl) T.b_abs (by decide +kernel) (pa_cons (pv 2) pa_nil)) (pe_op op_pow pe_int pe_int) (nomark _)) (pe_callB call_abs (by rfl) T.b_abs (by decide +kernel) (pa_cons (pv 2) pa_nil)) pe_int) (pa_cons pe_int pa_nil)))))))))), ?_⟩
    refine seq_of (fun σ' H' => ∃ z : Int, σ' = [some (.ref c), some (.int i), some (.int z), none, none] ∧ H' = H) ?rest (fun N hN => ?main)
    case main =>
      refine tif_int (b := decide ((i : Int) < ns.length)) (fun R r => ⟨_, rfl, _, rfl, c, _, rfl, .inl hS, _, _, rfl, rfl, _, rfl, by rw [List.length_map]; exact r⟩) (fun hb => ?_) (fun hb => ?_) (fun z => hN _ _ ⟨z, rfl, rfl⟩)
      · have hlt : (i : Int) < ns.length := of_decide_eq_true hb
        have hlt' : i < ns.length := by omega
        exact ⟨ns[i], fun R r => ⟨_, rfl, _, rfl, c, _, _, _, rfl, rfl, hS, atI_nat (by rw [List.getElem?_map, List.getElem?_eq_getElem hlt']; rfl), r⟩⟩
      · exact ⟨0, fun R r => r⟩
    rintro σ1 H1 ⟨z, rfl, rfl⟩
    refine ⟨_, rfl, _, _, rfl, rfl, .inl ⟨by decide, by decide⟩, _, _, rfl, rfl, ?_⟩
    dsimp only [gName]
    refine ⟨_, rfl, _, rfl, c, _, rfl, hS, fun p np => ?_⟩
    obtain ⟨ms, em, lm⟩ := cutV_int ns none (some 4)
    rw [em]
    have s1 : Same H1 (upd H1 p (.lst (ms.map V.int))) := fun b o e => (upd_ne (ne_of_none e np)).trans e
    have hp : SqL K (upd H1 p (.lst (ms.map V.int))) p (ms.map V.int) := SqL.of upd_same
    revert s1 hp
    generalize upd H1 p (.lst (ms.map V.int)) = H2
    intro s1 hp
    refine ⟨p, rfl, ⟨_, hp⟩, for_list (K := K) (a := p) (xs := ms.map V.int) (fun j σ H' => H' = H2 ∧ ∃ (y : Int) (o : Option V), σ = [some (.ref c), some (.int i), some (.int z), some (.int y), o]) ⟨rfl, _, none, rfl⟩ (fun j σ H' _ h => by rw [h.1]; exact hp) ?_ ?_⟩
    · rintro j y σ H' hj ⟨rfl, y', o, rfl⟩
      obtain ⟨u, rfl⟩ : ∃ u, y = V.int u := by
        rw [List.getElem?_map] at hj
        cases e : ms[j]? with
        | none => rw [e] at hj; cases hj
        | some u => rw [e] at hj; exact ⟨u, (Option.some.inj hj).symm⟩
      dsimp only [gName]
      exact ⟨_, rfl, _, _, rfl, rfl, .inr ⟨by decide, by decide⟩, _, rfl, .inl ⟨_, rfl, _, _, rfl, rfl, (by show (0 : Int) < 2147483587; decide), _, _, rfl, rfl, _, _, rfl, rfl, .inl ⟨_, rfl, _, _, rfl, rfl, (by show (0 : Int) < 2147483629; decide), rfl, _, _, rfl⟩⟩⟩
    · rintro σ H' ⟨rfl, y, o, rfl⟩
      refine ⟨_, rfl, _, _, rfl, rfl, .inr ⟨by decide, by decide⟩, _, rfl, .inl ⟨_, rfl, _, _, rfl, rfl, (by show (0 : Int) < 2147483579; decide), _, _, rfl, rfl, _, _, rfl, rfl, .inl ⟨_, rfl, _, _, rfl, rfl, (by show (0 : Int) < 2147483629; decide), ?_⟩⟩⟩
      dsimp only [gName]
      generalize hx : (y * 69621 + z % 2147483579 + 5) % 2147483629 = x
      have hx0 : 0 ≤ x ∧ x < 2147483629 := by subst hx; omega
      refine ⟨_, rfl, _, rfl, _, rfl, _, _, rfl, rfl, ⟨by decide, by decide, by decide⟩, _, _, rfl, rfl, _, rfl, ?_⟩
      have out : ∀ y : Int, 0 ≤ y → ∀ p, H' p = none → Q (.ref p) (upd H' p (.lst [.int x, .int y, .int 0])) := fun y hy q nq =>
        k q _ (by
          cases e : H1 q with
          | none => rfl
          | some o => rw [s1 _ _ e] at nq; cases nq) (fun b o e => (upd_ne (ne_of_none (s1 b o e) nq)).trans (s1 b o e)) ⟨_, _, _, upd_same, hx0, hy, by omega⟩
      have hz : (0 : Int) ≤ if z < 0 then -z else z := by split <;> omega
      refine ite2 (fun _ => ?_) (fun _ => ?_)
      · exact ⟨_, rfl, _, rfl, (by show 3 ≤ sizeLine; decide), out _ hz⟩
      · exact ⟨(by show 3 ≤ sizeLine; decide), out _ (by decide)⟩
theorem ok_dip2 {f : Addr} {fd : FuncData} (F : Fun K "_law_dip" "_law_dip" s_dip f fd) (T : Blt mg) : FnOk P w K mg base CX0 1 f fd ["_law_well_here", "_law_many"] sp_dip := by
  refine F.ok sc_dip (fun vs H Q E h => ?_) (fun cdv A outer s H vs Q E hr h => ?_)
  · obtain ⟨_, _, _, rfl, _⟩ := h
    rfl
  · obtain ⟨a, m, n, rfl, ⟨x, y, z, e, hx, hy, hz⟩, hn, hm, hm2, k⟩ := h
    refine ⟨_, (pss_cons (ps_if (pt_cmpR op_gt (pe_ix ix_list (pv 0) pe_int (fun _ _ => rfl)) pe_int (nomark _)) (pss_cons (ps_asg (pe_callB call_divmodW (by rfl) T.b_divmod (by decide +kernel) (pa_cons (pe_ix ix_list (pv 0) pe_int (fun _ _ => rfl)) (pa_cons (pv 1) pa_nil))) (pg_tup (by rfl) (pgs_cons (pg_sub (pv 0) pe_int set_list) (pgs_cons (pg_name (i := 2) sc_dip.nd rfl (Or.inl rfl)) pgs_nil)))) (pss_one (ps_ret (pv 2)))) pss_nil)
      (pss_cons (ps_asg (pe_op op_add (pe_ix ix_list (pv 0) pe_int (fun _ _ => rfl)) pe_int) (pg_sub (pv 0) pe_int set_list))
      (pss_cons (ps_asg (pe_op op_mod (pe_callTy call_int1 (by rfl) T.b_int (by decide +kernel) (pa_cons (pe_op op_add (pe_op op_add (pe_op op_mul (pe_ix ix_list (pv 0) pe_int (fun _ _ => rfl)) pe_int) (pe_op op_mul (pe_op op_mul pe_int (pe_ix ix_list (pv 0) pe_int (fun _ _ => rfl))) (pe_ix ix_list (pv 0) pe_int (fun _ _ => rfl)))) pe_int) pa_nil)) pe_int) (pg_sub (pv 0) pe_int set_list))
      (pss_one (ps_ret (pe_op op_mod (pe_callTy call_int1 (by rfl) T.b_int (by decide +kernel) (pa_cons (pe_op op_fdiv (pe_ix ix_list (pv 0) pe_int (fun _ _ => rfl)) pe_int) pa_nil)) (pv 1))))))), ?_⟩
    refine ⟨_, rfl, a, _, 1, _, rfl, rfl, SqL.of e, rfl, _, _, rfl, rfl, _, rfl, ?_⟩
    refine ite2 (fun hp => ?_) (fun _ => ?_)
    · refine ⟨_, rfl, a, _, 1, _, rfl, rfl, SqL.of e, rfl, _, rfl, _, _, rfl, ⟨hm, ?_⟩, fun p np => ?_⟩
      · refine PyProof.noPylong_of_log2 ?_
        have q := PySem.Flt.log2_lt_of (n := m.natAbs) (k := 200) (by decide) (by omega)
        omega
      · have npa : a ≠ p := fun w => by rw [← w, e] at np; cases np
        refine ⟨p, _, rfl, SqT.of upd_same, rfl, _, _, rfl, ⟨_, rfl, a, _, _, 1, rfl, rfl, Eq.trans (upd_ne npa) e, rfl, _, _, rfl, ⟨rfl, _, rfl, ?_⟩⟩⟩
        refine k _ _ (Int.emod_nonneg _ (by omega)) (Int.emod_lt_of_pos _ hm) (fun b o hb eb => ?_) ⟨_, _, _, upd_same, hx, Int.ediv_nonneg hy (by omega), hz.1, by omega⟩
        rw [upd_ne hb, upd_ne (ne_of_none eb np)]
        exact eb
    · refine ⟨_, rfl, a, _, 2, _, rfl, rfl, SqL.of e, rfl, _, _, rfl, rfl, _, rfl, a, _, _, 2, rfl, rfl, e, rfl, ?_⟩
      refine ⟨_, rfl, a, _, 0, _, rfl, rfl, SqL.of upd_same, rfl, _, _, rfl, rfl, .inr ⟨by decide, by decide⟩, _, rfl, a, _, 2, _, rfl, rfl, SqL.of upd_same, rfl, _, _, rfl, rfl, .inl ⟨by decide, by decide⟩, _, rfl, a, _, 2, _, rfl, rfl, SqL.of upd_same, rfl, _, _, rfl, rfl, .inl ⟨?_, ?_⟩,
        _, _, rfl, rfl, _, _, rfl, rfl, .inl ⟨_, rfl, _, _, rfl, rfl, (by show (0 : Int) < 2147483629; decide), _, rfl, a, _, _, 0, rfl, rfl, upd_same, rfl, ?_⟩⟩
      · omega
      · omega
      refine ⟨_, rfl, a, _, 0, _, rfl, rfl, SqL.of upd_same, rfl, _, _, rfl, rfl, ⟨by decide, by decide⟩, .inl ⟨_, rfl, _, rfl, _, _, rfl, rfl, hm, ?_⟩⟩
      refine k _ _ (Int.emod_nonneg _ (by omega)) (Int.emod_lt_of_pos _ hm) (fun b o hb eb => by rw [upd_ne hb, upd_ne hb]; exact eb) ⟨_, _, _, upd_same, ⟨by omega, by omega⟩, hy, by omega, by omega⟩
end
end RV
namespace RV
open PySem L2 TL
section
variable {P : Program} {w : World} {K : PySem.W.Frag} {mg : Str → Option Value} {base : Heap}
theorem ok_names {f : Addr} {fd : FuncData} (F : Fun K "_law_names" "_law_names" s_names f fd) (T : Blt mg) (h_dip : Fn P w K mg base "_law_dip" 1 ["_law_well_here", "_law_many"] (Irr sp_dip)) : FnOk P w K mg base CX0 2 f fd ["_law_well_here", "_law_many"] sp_names := by
  refine F.ok sc_names (fun vs H Q E h => ?_) (fun cdv A outer s H vs Q E hr h => ?_)
  · obtain ⟨_, _, _, rfl, _⟩ := h
    rfl
  · obtain ⟨a, n, m, rfl, wl, hn, hm, k⟩ := h
    refine ⟨_, (pss_cons (ps_set (i := 2) sc_names.nd rfl (Or.inl rfl) (pe_lst (pa_cons pe_str (pa_cons pe_str (pa_cons pe_str (pa_cons pe_str (pa_cons pe_str (pa_cons pe_str (pa_cons pe_str (pa_cons pe_str (pa_cons pe_str (pa_cons pe_str pa_nil))))))))))))
      (pss_cons (ps_asg (pe_tup (pa_cons pe_str (pa_cons (pe_lst pa_nil) pa_nil))) (pg_tup (by rfl) (pgs_cons (pg_name (i := 3) sc_names.nd rfl (Or.inr rfl)) (pgs_cons (pg_name (i := 4) sc_names.nd rfl (Or.inr rfl)) pgs_nil))))
      (pss_cons (ps_for PassesOwn.never rfl (pi_range1 rfl T.b_range (pa_cons (pv 1) pa_nil)) (pg_name (i := 5) sc_names.nd rfl (Or.inl rfl)) (pss_cons (ps_set (i := 6) sc_names.nd rfl (Or.inl rfl) (pe_ifExp (pt_cmpR op_eq (pe_fn h_dip (hr.mono (by decide)) (pa_cons (pv 0) (pa_cons pe_int pa_nil))) pe_int (nomark _)) (pe_fn h_dip (hr.mono (by decide)) (pa_cons (pv 0) (pa_cons pe_int pa_nil))) (pe_fn h_dip (hr.mono (by decide)) (pa_cons (pv 0) (pa_cons pe_int pa_nil))))) (pss_cons (ps_set (i := 7) sc_names.nd rfl (Or.inl rfl) (pe_op op_add_str (pe_ix ix_str (pv 3) (pe_fn h_dip (hr.mono (by decide)) (pa_cons (pv 0) (pa_cons pe_int pa_nil))) (fun _ _ => rfl)) (pe_join pe_str (pe_lc (own := [("_law_j", 9)]) (g := gName 9) (tt := tYes) rfl sc_names.nd (pi_range1 rfl T.b_range (pa_cons (pv 6) pa_nil)) (blkOk_by (N := sc_names_N) (sc := defScope s_names) (by decide +kernel)) (fun _ _ _ _ _ => pg_name (i := 9) sc_names.nd rfl (Or.inl rfl)) (fun _ _ _ _ _ => pts_nil) (fun _ _ _ _ _ => (pe_ix ix_str (pv 3) (pe_fn h_dip (hr.mono (by decide)) (pa_cons (pv 0) (pa_cons pe_int pa_nil))) (fun _ _ => rfl))))))) (pss_cons (ps_if (pt_cmpR op_eq (pe_fn h_dip (hr.mono (by decide)) (pa_cons (pv 0) (pa_cons pe_int pa_nil))) pe_int (nomark _)) (pss_one (ps_set (i := 7) sc_names.nd rfl (Or.inl rfl) (pe_ix ix_list (pv 2) (pe_fn h_dip (hr.mono (by decide)) (pa_cons (pv 0) (pa_cons pe_int pa_nil))) (fun _ _ => rfl)))) pss_nil) (pss_cons (ps_set (i := 8) sc_names.nd rfl (Or.inl rfl) (pe_op op_cat (pe_lst (pa_cons (pv 7) pa_nil)) (pe_lc (own := [("_law_j", 9)]) (g := gName 9) (tt := tYes) rfl sc_names.nd (pi_range1 rfl T.b_range (pa_cons (pv 1) pa_nil)) (blkOk_by (N := sc_names_N) (sc := defScope s_names) (by decide +kernel)) (fun _ _ _ _ _ => pg_name (i := 9) sc_names.nd rfl (Or.inl rfl)) (fun _ _ _ _ _ => pts_nil) (fun _ _ _ _ _ => (pe_op op_add_str pe_str (pe_callTy call_str_int (by rfl) T.b_str (by decide +kernel) (pa_cons (pv 9) pa_nil))))))) (pss_one (ps_expr (pe_bm PySem.F.plainAttrs_list PySem.F.slot_list_append PySem.F.type_list_append mt_append (pv 4) (pa_cons (pe_ix ix_list (pe_lc (own := [("_law_one", 10)]) (g := gName 10) rfl sc_names.nd (pi_list (pv 8)) (blkOk_by (N := sc_names_N) (sc := defScope s_names) (by decide +kernel)) (fun _ _ _ _ _ => pg_name (i := 10) sc_names.nd rfl (Or.inl rfl)) (fun _ _ _ _ _ => pts_one (pt_cmpR (op_notInK (K := K)) (pv 10) (pv 4) (by rfl))) (fun _ _ _ _ _ => (pv 10))) pe_int (fun _ _ => rfl)) pa_nil)))))))))
      (pss_one (ps_ret (pv 4)))))), ?_⟩
    refine ⟨(by show 10 ≤ sizeLine; decide), fun W0 nW0 => ?_⟩
    have h1 := (Has.start wl).new (o := .lst (words2.map V.str)) nW0
    dsimp only [gName]
    refine ⟨by decide, fun fl f0 => ⟨(by show 2 ≤ sizeLine; decide), fun T0 nT0 => ⟨T0, _, rfl, SqT.of upd_same, rfl, _, _, rfl, _, _, rfl, rfl, ?_⟩⟩⟩
    have h2 := (h1.new (o := .lst []) f0).new (o := .tup [.str signs, .ref fl]) nT0
    have fl0 : H fl = none := h1.none0 f0
    have nWf : W0 ≠ fl := fun e => by rw [← e, upd_same] at f0; cases f0
    dsimp only
    refine ⟨_, rfl, m, rfl, by omega, by omega, for_range (lo := 0) (n := m) (fun j σ H' => ∃ (xs : List Str) (o5 o6 o7 o8 o9 o10 : Option V), σ = [some (.ref a), some (.int m), some (.ref W0), some (.str signs), some (.ref fl), o5, o6, o7, o8, o9, o10] ∧
      xs.length = j ∧ xs.Nodup ∧ (∀ x ∈ xs, IsNm x) ∧ Has H a (n + 14 * j) [(fl, .lst (xs.map V.str)), (W0, .lst (words2.map V.str))] H') ?_ ?_ ?_⟩
    · exact ⟨[], _, _, _, _, _, _, rfl, rfl, .nil, fun _ hx => (nomatch hx), h2.sub fun p hp => by
        simp only [List.map_nil, List.mem_cons, List.not_mem_nil, or_false] at hp ⊢
        rcases hp with z | z
        · exact .inr (.inl z)
        · exact .inr (.inr z)⟩
    · rintro j σ H2 hj ⟨xs, o5, o6, o7, o8, o9, o10, rfl, xl, xd, xn, h3⟩
      have mW : (W0, HO.lst (words2.map V.str)) ∈ [(fl, HO.lst (xs.map V.str)), (W0, HO.lst (words2.map V.str))] := List.mem_cons_of_mem _ List.mem_cons_self
      dsimp only [gName]
      -- how long
      refine seq_of (fun σ' H' => ∃ sz : Nat, sz ≤ 7 ∧ σ' = [some (.ref a), some (.int m), some (.ref W0), some (.str signs), some (.ref fl), some (.int (0 + (j : Int))), some (.int (sz : Int)), o7, o8, o9, o10] ∧ Has H a (n + 14 * j + 2) [(fl, .lst (xs.map V.str)), (W0, .lst (words2.map V.str))] H') ?rest1 (fun N hN => ?main1)
      case main1 =>
        refine ⟨_, rfl, dip_step h3 (by omega) (by decide) (by decide) fun r H3 _ _ h4 => ⟨rfl, _, rfl, ite2 (fun _ => ?_) fun _ => ?_⟩⟩
        · refine ⟨_, rfl, dip_step h4 (by omega) (by decide) (by decide) fun r H4 r0 r1 h5 => ?_⟩
          obtain ⟨q, rfl⟩ := Int.eq_ofNat_of_zero_le r0
          exact hN _ _ ⟨q, by omega, rfl, h5⟩
        · refine ⟨_, rfl, dip_step h4 (by omega) (by decide) (by decide) fun r H4 r0 r1 h5 => ?_⟩
          obtain ⟨q, rfl⟩ := Int.eq_ofNat_of_zero_le r0
          exact hN _ _ ⟨q, by omega, rfl, h5⟩
      rintro σ1 H3 ⟨sz, hsz, rfl, h4⟩
      -- the word
      refine seq_of (fun σ' H' => ∃ x : Str, IsNm x ∧ σ' = [some (.ref a), some (.int m), some (.ref W0), some (.str signs), some (.ref fl), some (.int (0 + (j : Int))), some (.int (sz : Int)), some (.str x), o8, o9, o10] ∧ Has H a (n + 14 * j + 10) [(fl, .lst (xs.map V.str)), (W0, .lst (words2.map V.str))] H') ?rest2 (fun N hN => ?main2)
      case main2 =>
        refine ⟨_, rfl, _, rfl, dip_step h4 (by omega) (by decide) (by decide) fun r H4 r0 r1 h5 => ?_⟩
        obtain ⟨c, hc, lc⟩ := at_low r0 r1
        refine ⟨signs, _, c, rfl, rfl, by decide, hc, ⟨_, rfl⟩, _, rfl, sz, rfl, by omega, by omega, fun D nD => lc_range (lo := 0) (n := sz) (fun i H' => ∃ cs : List Nat, cs.length = i ∧ (∀ x ∈ cs, tailC x = true) ∧ Has H a (n + 14 * j + 3 + i) [(fl, .lst (xs.map V.str)), (W0, .lst (words2.map V.str))] H' ∧ H' D = some (.lst ((cs.map fun x => (⟨#[x]⟩ : Str)).map V.str))) ?_ ?_ ?_⟩
        · exact ⟨[], rfl, fun _ hx => (nomatch hx), h5.put (h5.none0 nD) (h5.free nD) (h5.ne nD), upd_same⟩
        · rintro i H5 hi ⟨cs, cl, ct, h6, eD⟩
          refine ⟨rfl, _, rfl, _, rfl, dip_step (Has.start h6.well) (by omega) (by decide) (by decide) fun r H6 r0 r1 hx => ?_⟩
          have h7 := h6.grow hx.gr hx.well
          obtain ⟨c6, hc6, lc6⟩ := at_tail r0 r1
          have eD6 := hx.gr D _ (h5.ne nD) eD
          refine ⟨signs, _, c6, rfl, rfl, by decide, hc6, _, eD6, ?_, cs ++ [c6], by rw [List.length_append, cl]; rfl, fun x hx => ?_, ?_, ?_⟩
          · rw [List.length_map, List.length_map, cl]
            exact Nat.lt_of_lt_of_le (show i < 8 by omega) (by decide)
          · exact (List.mem_append.mp hx).elim (ct x) fun z => by rw [List.mem_singleton.mp z]; exact lc6
          · exact (h7.put (h5.none0 nD) (fun q hq => h5.free nD q hq) (h5.ne nD)).wm (by omega)
          · rw [upd_same, List.map_append, List.map_append]
            rfl
        · rintro H5 ⟨cs, cl, ct, h6, eD⟩
          have e0 : Str.length "" = 0 := by decide +kernel
          have sl1 : ∀ cs : List Nat, ((cs.map fun x => (⟨#[x]⟩ : Str)).map (·.length)).sum = cs.length := by
            intro cs
            induction cs with
            | nil => rfl
            | cons x cs ih =>
              rw [List.map_cons, List.map_cons, List.sum_cons, ih, List.length_cons]
              show 1 + cs.length = _
              omega
          have nm := isNm_join lc ct (by omega)
          have ln := nm8 nm
          rw [sl_app] at ln
          refine ⟨_, D, cs.map (fun x => (⟨#[x]⟩ : Str)), rfl, rfl, .inl (SqL.of eD), ?_, _, _, rfl, rfl, szn (by omega), hN _ _ ⟨_, nm, rfl, h6.wm (by omega)⟩⟩
          rw [sl1, e0]
          omega
      rintro σ2 H4 ⟨x, hx, rfl, h5⟩
      refine seq_of (fun σ' H' => ∃ x : Str, IsNm x ∧ σ' = [some (.ref a), some (.int m), some (.ref W0), some (.str signs), some (.ref fl), some (.int (0 + (j : Int))), some (.int (sz : Int)), some (.str x), o8, o9, o10] ∧ Has H a (n + 14 * j + 12) [(fl, .lst (xs.map V.str)), (W0, .lst (words2.map V.str))] H') ?rest3 (fun N hN => ?main3)
      case main3 =>
        refine ⟨_, rfl, dip_step h5 (by omega) (by decide) (by decide) fun r H5 _ _ h6 => ⟨rfl, _, rfl, ite2 (fun _ => ?_) fun _ => hN _ _ ⟨x, hx, rfl, h6.wm (by omega)⟩⟩⟩
        refine ⟨_, rfl, _, rfl, dip_step h6 (by omega) (by decide) (by decide) fun r H6 r0 r1 h7 => ?_⟩
        obtain ⟨y, hy, hyn, _⟩ := at_of_list words2_nm r0 (by exact r1)
        refine ⟨W0, _, r, .str y, rfl, rfl, SqL.of (h7.at mW), ?_, hN _ _ ⟨y, hyn, rfl, h7.wm (by omega)⟩⟩
        unfold atI at hy ⊢
        rw [List.length_map]
        revert hy
        cases ixN words2.length r with
        | none => intro hy; cases hy
        | some i =>
          intro hy
          show (words2.map V.str)[i]? = _
          rw [List.getElem?_map, show words2[i]? = some y from hy]
          rfl
      rintro σ3 H5 ⟨x, hx, rfl, h6⟩
      -- the spare ones
      refine ⟨_, rfl, (by show 1 ≤ sizeLine; decide), fun p np => ?_⟩
      have h7 := h6.new (o := .lst [.str x]) np
      refine ⟨_, rfl, m, rfl, by omega, by omega, fun D nD => lc_range (lo := 0) (n := m) (fun i H' => Has H a (n + 14 * j + 12) [(p, .lst [.str x]), (fl, .lst (xs.map V.str)), (W0, .lst (words2.map V.str))] H' ∧ H' D = some (.lst (((List.range i).map zn).map V.str))) ?_ ?_ ?_⟩
      · exact ⟨h7.put (h7.none0 nD) (h7.free nD) (h7.ne nD), upd_same⟩
      · rintro i H6 hi ⟨h8, eD⟩
        have nz := nm8 (zn_nm (j := i) (by omega))
        rw [zn, sl_app] at nz
        refine ⟨rfl, _, rfl, (0 + (i : Int)), rfl, ?_, _, _, rfl, rfl, szn (by rw [Int.zero_add]; exact Nat.le_trans nz.2 (by decide)), _, eD, ?_, ?_, ?_⟩
        · have q := PySem.Flt.log2_lt_of (n := (0 + (i : Int)).natAbs) (k := 200) (by decide) (by omega)
          omega
        · rw [List.length_map, List.length_map, List.length_range]
          exact Nat.lt_of_lt_of_le (show i < 20 by omega) (by decide)
        · exact h8.put (h7.none0 nD) (h7.free nD) (h7.ne nD)
        · rw [upd_same, List.range_succ, List.map_append, List.map_append, Int.zero_add]
          rfl
      rintro H6 ⟨h8, eD⟩
      refine ⟨p, D, _, _, rfl, rfl, h8.at List.mem_cons_self, eD, ?_, fun sp nsp => ?_⟩
      · rw [List.length_map, List.length_map, List.length_range]
        exact Nat.le_trans (show 1 + m ≤ 20 by omega) (by decide)
      have h9 := (h8.new (o := .lst ((x :: (List.range m).map zn).map V.str)) nsp)
      dsimp only [gName]
      have mF : (fl, HO.lst (xs.map V.str)) ∈ [(sp, HO.lst ((x :: (List.range m).map zn).map V.str)), (p, HO.lst [.str x]), (fl, HO.lst (xs.map V.str)), (W0, HO.lst (words2.map V.str))] := List.mem_cons_of_mem _ (List.mem_cons_of_mem _ List.mem_cons_self)
      have esp : SqL K _ sp ((x :: (List.range m).map zn).map V.str) := SqL.of (h9.at List.mem_cons_self)
      have ylen : ((x :: (List.range m).map zn).map V.str).length ≤ 1000 := by
        rw [List.length_map, List.length_cons, List.length_map, List.length_range]
        omega
      refine ⟨_, rfl, .inl ⟨rfl, _, SqL.of (h9.at mF)⟩, _, rfl, sp, rfl, ⟨_, esp⟩, fun D2 nD2 => lc_keepV (xs := (x :: (List.range m).map zn).map V.str) (fun v => !inV v (xs.map V.str)) walk_list nD2 ylen (fun H' s' => esp.ext s') (fun _ => rfl) (fun v hv H7 s7 R kR => ?_) (fun v hv H7 R r => ⟨_, rfl, r⟩) fun H7 s7 hD2 => ?_⟩
      · obtain ⟨y, _, rfl⟩ := List.mem_map.mp hv
        exact ⟨_, rfl, _, rfl, fl, _, rfl, .inl (SqL.of (s7 _ _ (h9.at mF))), rfl, strs_flat _, _, rfl, kR⟩
      -- the first that is not there
      have h10 := h9.same s7
      have ef : ((x :: (List.range m).map zn).map V.str).filter (fun v => !inV v (xs.map V.str)) = ((x :: (List.range m).map zn).filter fun y => !decide (y ∈ xs)).map V.str := by
        rw [List.filter_map]
        congr 1
        exact List.filter_congr fun y _ => by rw [Function.comp, inV_str]
      rw [ef] at hD2
      obtain ⟨y, ys, hys⟩ : ∃ y ys, ((x :: (List.range m).map zn).filter fun y => !decide (y ∈ xs)) = y :: ys := by
        cases e : ((x :: (List.range m).map zn).filter fun y => !decide (y ∈ xs)) with
        | cons y ys => exact ⟨y, ys, rfl⟩
        | nil =>
          obtain ⟨i, hi, hz⟩ := zn_free (xs := xs) (m := m) (by omega) (by omega)
          have : zn i ∈ ((x :: (List.range m).map zn).filter fun y => !decide (y ∈ xs)) := List.mem_filter.mpr ⟨List.mem_cons_of_mem _ (List.mem_map.mpr ⟨i, List.mem_range.mpr hi, rfl⟩), by simp [hz]⟩
          rw [e] at this
          cases this
      have hy : y ∈ (x :: (List.range m).map zn) ∧ y ∉ xs := by
        have : y ∈ ((x :: (List.range m).map zn).filter fun y => !decide (y ∈ xs)) := by rw [hys]; exact List.mem_cons_self
        have := List.mem_filter.mp this
        exact ⟨this.1, by simpa using this.2⟩
      have hyn : IsNm y := by
        rcases List.mem_cons.mp hy.1 with z | z
        · rw [z]; exact hx
        · obtain ⟨i, hi, rfl⟩ := List.mem_map.mp z
          exact zn_nm (by have := List.mem_range.mp hi; omega)
      rw [hys] at hD2
      refine ⟨D2, _, 0, .str y, rfl, rfl, SqL.of hD2, atI_nat (j := 0) rfl, fl, _, _, rfl, rfl, h10.at mF, ?_, xs ++ [y], _, _, _, _, _, _, rfl, by rw [List.length_append, xl]; rfl, nodup_snoc xd hy.2, fun z hz => ?_, ?_⟩
      · rw [List.length_map, xl]
        exact Nat.lt_of_lt_of_le (show j < 20 by omega) (by decide)
      · exact (List.mem_append.mp hz).elim (xn z) fun w => by rw [List.mem_singleton.mp w]; exact hyn
      · rw [List.map_append]
        have h11 : Has H a (n + 14 * j + 12) [(fl, .lst (xs.map V.str)), (W0, .lst (words2.map V.str))] H7 := h10.sub fun q hq => List.mem_cons_of_mem _ (List.mem_cons_of_mem _ hq)
        exact (h11.reset fl0 fun q hq => by rw [List.mem_singleton.mp hq]; exact nWf).wm (by omega)
    · rintro σ H4 ⟨xs, o5, o6, o7, o8, o9, o10, rfl, xl, xd, xn, h5⟩
      exact ⟨_, rfl, k fl xs H4 fl0 (h5.here _ List.mem_cons_self).1 h5.gr (h5.well.mono (by omega)) (h5.at List.mem_cons_self) xl xd xn⟩
end
end RV
namespace RV
open PySem L2 TL
section
variable {P : Program} {w : World} {K : PySem.W.Frag} {mg : Str → Option Value} {base : Heap} {CN CP CM : Addr}
theorem ok_gpipe {f : Addr} {fd : FuncData} (F : Fun K "pipe" "Net.pipe" s_Net_pipe f fd) (NC : NClass K mg CN) (h_index_of : Fn P w K mg base "_index_of" 3 ["parts", "name"] (Irr (sp_index K CP))) : FnOk P w K mg base CX0 4 f fd ["self", "name"] (sp_gpipe K CN CP CM) := by
  refine F.ok sc_Net_pipe (fun vs H Q E h => ?_) (fun cdv A outer s H vs Q E hr h => ?_)
  · obtain ⟨_, _, _, _, rfl, _⟩ := h
    rfl
  · obtain ⟨x, ps, ms, y, rfl, nr, hl, hy, k⟩ := h
    refine ⟨_, (pss_cons (ps_set (i := 2) sc_Net_pipe.nd rfl (Or.inl rfl) (pe_fn h_index_of (hr.mono (by decide)) (pa_cons (pe_fld (pv 0) rfl) (pa_cons (pv 1) pa_nil))))
      (pss_cons (ps_if (pt_cmpR op_isN (pv 2) pe_non (nomark _)) (pss_one ps_never) pss_nil)
      (pss_one (ps_ret (pe_ix ix_tup (pe_fld (pv 0) rfl) (pv 2) (fun _ _ => rfl)))))), ?_⟩
    obtain ⟨dx, tp, tm, pu, mu, ex, hp, hm, rfl, rfl⟩ := nr.ex
    refine ⟨_, rfl, x, CN, dx, _, _, rfl, ex, NC.x.cl, NC.n1, netF_p _ _, _, rfl, irr ⟨tp, pu, y, rfl, hp, by rw [sn_len] at hl; exact hl, hy, fun i H1 hi s1 => ?_⟩⟩
    refine ⟨_, rfl, rfl, _, rfl, iteF ?_⟩
    have ex1 := s1 _ _ ex
    have hp1 := hp.ext s1
    cases hu : pu[i]? with
    | none => rw [sn, List.getElem?_map, hu] at hi; cases hi
    | some u =>
      have hu2 : (sn pu)[i]? = some u.2 := sn_get hu
      rw [hu2] at hi
      refine ⟨_, rfl, x, CN, dx, _, _, rfl, ex1, NC.x.cl, NC.n1, netF_p _ _, _, rfl, tp, _, _, _, rfl, rfl, hp1.t, atI_nat (j := i) (by rw [rf, List.getElem?_map, hu]; rfl), ?_⟩
      exact k u.1 i u.2 H1 hu2 (Option.some.inj hi) s1 (hp1.o u (List.mem_of_getElem? hu))
theorem ok_chkn {f : Addr} {fd : FuncData} (F : Fun K "check_net" "check_net" s_check_net f fd) (T : Blt mg) (NC : NClass K mg CN) : FnOk P w K mg base CX0 1 f fd ["net"] (sp_chkn K CN CP CM) := by
  refine F.ok sc_check_net (fun vs H Q E h => ?_) (fun cdv A outer s H vs Q E hr h => ?_)
  · obtain ⟨_, _, _, rfl, _⟩ := h
    rfl
  · obtain ⟨x, ps, ms, rfl, nr, k⟩ := h
    refine ⟨_, (pss_one (ps_if (pt_not (pt_val (pe_callB call_isi (by rfl) T.b_isinstance (by decide +kernel) (pa_cons (pv 0) (pa_cons (pe_gC NC.k) pa_nil))))) (pss_one ps_never) pss_nil)), ?_⟩
    obtain ⟨dx, tp, tm, pu, mu, ex, hp, hm, rfl, rfl⟩ := nr.ex
    exact ⟨_, rfl, _, _, _, .ref CN, true, rfl, .own CN, NC.x.ty ex, NC.me, true, rfl, iteF k⟩
theorem ok_chkp {f : Addr} {fd : FuncData} (F : Fun K "check_pipe" "check_pipe" s_check_pipe f fd) (h_gpipe : Mtd P w K mg base CN "pipe" 4 ["self", "name"] (Irr (sp_gpipe K CN CP CM))) : FnOk P w K mg base CX0 5 f fd ["net", "pipe"] (sp_chkp K CN CP CM) := by
  refine F.ok sc_check_pipe (fun vs H Q E h => ?_) (fun cdv A outer s H vs Q E hr h => ?_)
  · obtain ⟨_, _, _, _, rfl, _⟩ := h
    rfl
  · obtain ⟨x, ps, ms, y, rfl, nr, hl, hy, k⟩ := h
    refine ⟨_, (pss_one (ps_expr (pe_mtd h_gpipe (hr.mono (by decide)) (pv 0) (pa_cons (pv 1) pa_nil)))), ?_⟩
    obtain ⟨dx, tp, tm, pu, mu, ex, hp, hm, e1, e2⟩ := id nr.ex
    refine ⟨_, rfl, x, dx, _, rfl, ex, rfl, _, rfl, irr ⟨x, ps, ms, y, rfl, nr, hl, hy, fun a i q H1 hi hq s1 pa => k H1 s1⟩⟩
theorem ok_mat {f : Addr} {fd : FuncData} (F : Fun K "meters_at" "meters_at" s_meters_at f fd) (h_nm : Prp P w K mg base CN "meters" 1 (Irr (sp_nme CN))) (h_ma : Prp P w K mg base CM "at" 1 (Irr (sp_ma CM))) : FnOk P w K mg base CX0 3 f fd ["net", "name"] (sp_mat K CN CP CM) := by
  refine F.ok sc_meters_at (fun vs H Q E h => ?_) (fun cdv A outer s H vs Q E hr h => ?_)
  · obtain ⟨_, _, _, _, rfl, _⟩ := h
    rfl
  · obtain ⟨x, ps, ms, y, rfl, nr, hl, k⟩ := h
    refine ⟨_, (pss_one (ps_ret (pe_lc (own := [("part", 2)]) (g := gName 2) rfl sc_meters_at.nd (pi_tup (pe_propN h_nm (hr.mono (by decide)) (pv 0))) (blkOk_by (N := sc_meters_at_N) (sc := defScope s_meters_at) (by decide +kernel)) (fun _ _ _ _ _ => pg_name (i := 2) sc_meters_at.nd rfl (Or.inl rfl)) (fun _ _ _ _ _ => pts_one (pt_cmpR op_eq (pe_propN h_ma (hr.mono (by decide)) (pv 2)) (pv 1) (nomark _))) (fun _ _ _ _ _ => (pv 2))))), ?_⟩
    obtain ⟨dx, tp, tm, pu, mu, ex, hp, hm, rfl, rfl⟩ := nr.ex
    have ml : mu.length ≤ 12 := by rw [sn_len] at hl; exact hl
    refine ⟨_, rfl, x, dx, _, rfl, ex, irr ⟨x, dx, tp, tm, rfl, ex, tm, rfl, ⟨_, hm.t⟩, fun D nD => lc_keep (fun u : MU => decide (u.2.2.1 = y)) walk_tup nD (by omega) (fun H' s' => hm.t.ext s') (fun _ => rfl) (fun u hu H2 s2 R kR => ?_) (fun u hu H2 R kR => ⟨_, rfl, kR⟩) fun H2 s2 hD => ?_⟩⟩
    · have mu2 := (hm.o u hu).ext s2
      obtain ⟨dx2, ex2⟩ := id mu2
      refine ⟨_, rfl, u.1, dx2, _, rfl, ex2, irr ⟨u.1, u.2, rfl, mu2, _, rfl, rfl, _, rfl, ?_⟩⟩
      rw [decV]
      exact kR H2 (Same.refl _)
    · refine k D _ H2 s2 hD (fun u hu => (hm.o u (List.mem_filter.mp hu).1).ext s2) ?_
      rw [sn, onP, sn, List.filter_map]
      rfl
theorem ok_sat {f : Addr} {fd : FuncData} (F : Fun K "sealed_at" "sealed_at" s_sealed_at f fd) (h_mat : Fn P w K mg base "meters_at" 3 ["net", "name"] (Irr (sp_mat K CN CP CM))) (h_mn : Prp P w K mg base CM "name" 1 (Irr (sp_mn CM))) (h_mz : Prp P w K mg base CM "sealed" 1 (Irr (sp_mz CM))) : FnOk P w K mg base CX0 4 f fd ["net", "name"] (sp_sat K CN CP CM) := by
  refine F.ok sc_sealed_at (fun vs H Q E h => ?_) (fun cdv A outer s H vs Q E hr h => ?_)
  · obtain ⟨_, _, _, _, rfl, _⟩ := h
    rfl
  · obtain ⟨x, ps, ms, y, rfl, nr, hl, k⟩ := h
    refine ⟨_, (pss_one (ps_ret (pe_lc (own := [("part", 2)]) (g := gName 2) rfl sc_sealed_at.nd (pi_list (pe_fn h_mat (hr.mono (by decide)) (pa_cons (pv 0) (pa_cons (pv 1) pa_nil)))) (blkOk_by (N := sc_sealed_at_N) (sc := defScope s_sealed_at) (by decide +kernel)) (fun _ _ _ _ _ => pg_name (i := 2) sc_sealed_at.nd rfl (Or.inl rfl)) (fun _ _ _ _ _ => pts_one (pt_val (pe_propN h_mz (hr.mono (by decide)) (pv 2)))) (fun _ _ _ _ _ => (pe_propN h_mn (hr.mono (by decide)) (pv 2)))))), ?_⟩
    refine ⟨_, rfl, _, rfl, irr ⟨x, ps, ms, y, rfl, nr, hl, fun l us H1 s1 hL hu e1 => ?_⟩⟩
    have ul : us.length ≤ 12 := by
      rw [← sn_len, e1]
      exact Nat.le_trans (List.length_filter_le _ _) hl
    refine ⟨l, rfl, ⟨_, SqL.of hL⟩, fun D nD => ?_⟩
    refine lc_keepF (fun u : MU => u.2.2.2) (fun u => V.str u.2.1) walk_list nD (by omega) (fun H' s' => SqL.of (s' _ _ hL)) (fun _ => rfl) (fun u hm H2 s2 R kR => ?_) (fun u hm H2 s2 R kR => ?_) fun H2 s2 hD => ?_
    · have mu2 := (hu u hm).ext s2
      obtain ⟨dx2, ex2⟩ := id mu2
      exact ⟨_, rfl, u.1, dx2, _, rfl, ex2, irr ⟨u.1, u.2, rfl, mu2, _, rfl, kR H2 (Same.refl _)⟩⟩
    · have mu2 := (hu u hm).ext s2
      obtain ⟨dx2, ex2⟩ := id mu2
      exact ⟨_, rfl, u.1, dx2, _, rfl, ex2, irr ⟨u.1, u.2, rfl, mu2, kR⟩⟩
    · refine k D _ H2 (s1.trans s2) hD ?_
      rw [seP, ← e1, sn, List.filter_map, List.map_eq_nil_iff, List.map_eq_nil_iff]
      exact Iff.rfl
end
end RV
namespace RV
open PySem L2 TL
theorem decN (j : Nat) : ∀ o : Option Nat, decide (V.int (j : Nat) = vN o) = decide (o = some j)
  | none => by simp [vN]
  | some k => by
    simp only [vN, V.int.injEq, Option.some.injEq]
    exact decide_eq_decide.mpr (by omega)
section
variable {P : Program} {w : World} {K : PySem.W.Frag} {mg : Str → Option Value} {base : Heap} {CN CP CM : Addr}
theorem ok_amt {f : Addr} {fd : FuncData} (F : Fun K "_amounts" "_amounts" s_amounts f fd) (T : Blt mg) (T2 : Blt2 mg) (h_np : Prp P w K mg base CN "pipes" 1 (Irr (sp_npi CN))) : FnOk P w K mg base CX0 3 f fd ["net", "index", "amount"] (sp_amt K CN CP CM) := by
  refine F.ok sc_amounts (fun vs H Q E h => ?_) (fun cdv A outer s H vs Q E hr h => ?_)
  · obtain ⟨_, _, _, _, _, rfl, _⟩ := h
    rfl
  · obtain ⟨x, ps, ms, o, c, rfl, nr, hl, k⟩ := h
    refine ⟨_, (pss_one (ps_ret (pe_callTy call_tuple_of (by rfl) T2.b_tuple (by decide +kernel) (pa_cons (pe_lc (own := [("at", 3)]) (g := gName 3) (tt := tYes) rfl sc_amounts.nd (pi_range1 rfl T.b_range (pa_cons (pe_callB call_len_seq (by rfl) T.b_len (by decide +kernel) (pa_cons (pe_propN h_np (hr.mono (by decide)) (pv 0)) pa_nil)) pa_nil)) (blkOk_by (N := sc_amounts_N) (sc := defScope s_amounts) (by decide +kernel)) (fun _ _ _ _ _ => pg_name (i := 3) sc_amounts.nd rfl (Or.inl rfl)) (fun _ _ _ _ _ => pts_nil) (fun _ _ _ _ _ => (pe_ifExp (pt_cmpR op_eq (pv 3) (pv 1) (nomark _)) (pv 2) pe_int))) pa_nil)))), ?_⟩
    obtain ⟨dx, tp, tm, pu, mu, ex, hp, hm, rfl, rfl⟩ := nr.ex
    have pl : pu.length ≤ 12 := by rw [sn_len] at hl; exact hl
    refine ⟨_, rfl, x, dx, _, rfl, ex, irr ⟨x, dx, tp, tm, rfl, ex, tp, _, rfl, .inr hp.t, pu.length, by rw [rf_len], by omega, by omega, fun D nD => lc_to (xs := rgL pu.length) ((un pu.length o c).map V.int) (by rw [rgL_len, List.length_map, un, List.length_map, List.length_range]) walk_rgL nD (by rw [rgL_len]; omega) (fun _ _ => True.intro) (fun _ => rfl) (fun j x y hx hy H2 s2 R kR => ?_) fun H2 s2 hD => ?_⟩⟩
    · obtain ⟨rfl, hj⟩ := rgL_get hx
      have ey : y = V.int (if o = some j then c else 0) := by
        rw [un, List.map_map, List.getElem?_map, List.getElem?_range hj] at hy
        exact (Option.some.inj hy).symm
      refine ⟨_, rfl, _, rfl, by cases o <;> rfl, _, rfl, ?_⟩
      rw [decN]
      by_cases e : o = some j
      · rw [if_pos e] at ey
        rw [decide_eq_true e]
        exact iteT ⟨_, rfl, ey ▸ kR H2 (Same.refl _)⟩
      · rw [if_neg e] at ey
        rw [decide_eq_false e]
        exact iteF (ey ▸ kR H2 (Same.refl _))
    · refine ⟨D, _, rfl, .inl ⟨SqL.of hD, fun t nt => ?_⟩⟩
      refine k t _ (fun b o e => (upd_ne (ne_of_none (s2 _ _ e) nt)).trans (s2 _ _ e)) ?_
      rw [upd_same, sn_len]
theorem ok_lnks {f : Addr} {fd : FuncData} (F : Fun K "_links" "_links" s_links f fd) (T : Blt mg) (T2 : Blt2 mg) (h_np : Prp P w K mg base CN "pipes" 1 (Irr (sp_npi CN))) (h_pn : Prp P w K mg base CP "name" 1 (Irr (sp_pn CP))) (h_ps : Prp P w K mg base CP "start" 1 (Irr (sp_ps CP))) (h_pe : Prp P w K mg base CP "end" 1 (Irr (sp_pe CP)))
    (h_sat : Fn P w K mg base "sealed_at" 4 ["net", "name"] (Irr (sp_sat K CN CP CM))) (h_mat : Fn P w K mg base "meters_at" 3 ["net", "name"] (Irr (sp_mat K CN CP CM))) (h_amt : Fn P w K mg base "_amounts" 3 ["net", "index", "amount"] (Irr (sp_amt K CN CP CM))) : FnOk P w K mg base CX0 5 f fd ["net", "pipe"] (sp_lnks K CN CP CM) := by
  refine F.ok sc_links (fun vs H Q E h => ?_) (fun cdv A outer s H vs Q E hr h => ?_)
  · obtain ⟨_, _, _, _, rfl, _⟩ := h
    rfl
  · obtain ⟨x, ps, ms, y, rfl, nr, pl, ml, k⟩ := h
    refine ⟨_, (pss_cons (ps_set (i := 2) sc_links.nd rfl (Or.inl rfl) (pe_lst pa_nil))
      (pss_cons (ps_for PassesOwn.never rfl (pi_enumT (by rfl) T2.b_enumerate (pa_cons (pe_propN h_np (hr.mono (by decide)) (pv 0)) pa_nil)) (pg_tup (by rfl) (pgs_cons (pg_name (i := 3) sc_links.nd rfl (Or.inl rfl)) (pgs_cons (pg_name (i := 4) sc_links.nd rfl (Or.inl rfl)) pgs_nil))) (pss_one (ps_if (PW.pt (pw_and (pt_cmpR op_ne (pe_propN h_pn (hr.mono (by decide)) (pv 4)) (pv 1) (nomark _)) (pw_and1 (pt_not (pt_truth (pe_fn h_sat (hr.mono (by decide)) (pa_cons (pv 0) (pa_cons (pe_propN h_pn (hr.mono (by decide)) (pv 4)) pa_nil))) (by intro _; rfl)))))) (pss_cons (ps_set (i := 5) sc_links.nd rfl (Or.inl rfl) (pe_callB call_len_seq (by rfl) T.b_len (by decide +kernel) (pa_cons (pe_fn h_mat (hr.mono (by decide)) (pa_cons (pv 0) (pa_cons (pe_propN h_pn (hr.mono (by decide)) (pv 4)) pa_nil))) pa_nil))) (pss_cons (ps_expr (pe_bm PySem.F.plainAttrs_list PySem.F.slot_list_append PySem.F.type_list_append mt_append (pv 2) (pa_cons (pe_tup (pa_cons (pe_propN h_ps (hr.mono (by decide)) (pv 4)) (pa_cons (pe_propN h_pe (hr.mono (by decide)) (pv 4)) (pa_cons (pv 5) (pa_cons (pe_fn h_amt (hr.mono (by decide)) (pa_cons (pv 0) (pa_cons (pv 3) (pa_cons pe_int pa_nil)))) pa_nil))))) pa_nil))) (pss_one (ps_expr (pe_bm PySem.F.plainAttrs_list PySem.F.slot_list_append PySem.F.type_list_append mt_append (pv 2) (pa_cons (pe_tup (pa_cons (pe_propN h_pe (hr.mono (by decide)) (pv 4)) (pa_cons (pe_propN h_ps (hr.mono (by decide)) (pv 4)) (pa_cons (pv 5) (pa_cons (pe_fn h_amt (hr.mono (by decide)) (pa_cons (pv 0) (pa_cons (pv 3) (pa_cons (pe_un un_neg pe_int) pa_nil)))) pa_nil))))) pa_nil)))))) pss_nil)))
      (pss_one (ps_ret (pv 2))))), ?_⟩
    obtain ⟨dx, tp, tm, pu, mu, ex, hp, hm, ep, em⟩ := id nr.ex
    have pul : pu.length ≤ 12 := by rw [← sn_len, ep]; exact pl
    refine ⟨by decide, fun l nl => ?_⟩
    have s0 : Same H (upd H l (.lst [])) := fun b o e => (upd_ne (ne_of_none e nl)).trans e
    dsimp only [gName]
    refine ⟨_, rfl, x, dx, _, rfl, s0 _ _ ex, irr ⟨x, dx, tp, tm, rfl, s0 _ _ ex, tp, _, rfl, hp.t.ext s0, for_enumT (xs := rf pu) (fun i σ H' => ∃ (us : List (Addr × L4)) (o3 o4 o5 : Option V), σ = [some (.ref x), some (.str y), some (.ref l), o3, o4, o5] ∧ Same H H' ∧ H' l = some (.lst (rf us)) ∧ (∀ u ∈ us, LkAt H' u.1 u.2) ∧ sn us = lkF ps.length ms y 0 (ps.take i)) ⟨[], none, none, none, rfl, s0, upd_same, fun u hu => (nomatch hu), rfl⟩ ?_ ?_ ?_⟩⟩
    · rintro i σ H1 _ ⟨_, _, _, _, _, s1, _⟩
      exact hp.t.ext s1
    · rintro i v σ H1 T' hv ⟨us, o3, o4, o5, rfl, s1, hL, hat, hsn⟩ nT
      obtain ⟨u, hu, rfl⟩ := rf_get hv
      have hpi : ps[i]? = some u.2 := ep ▸ sn_get hu
      have hm := List.mem_of_getElem? hu
      have s1b : Same H1 (upd H1 T' (.tup [.int (i : Nat), .ref u.1])) := fun b o e => (upd_ne (ne_of_none e nT)).trans e
      have s2 : Same H (upd H1 T' (.tup [.int (i : Nat), .ref u.1])) := s1.trans s1b
      have pa := (hp.o u hm).ext s2
      obtain ⟨dp, edp⟩ := id pa
      refine ⟨T', _, rfl, SqT.of upd_same, rfl, _, _, rfl, _, _, rfl, rfl, ?_⟩
      refine ⟨_, rfl, u.1, dp, _, rfl, edp, irr ⟨u.1, u.2, rfl, pa, _, rfl, ?_⟩⟩
      refine ⟨rfl, _, rfl, ?_⟩
      rw [decV]
      have hL2 := s1b _ _ hL
      have hat2 : ∀ q ∈ us, LkAt (upd H1 T' (.tup [.int (i : Nat), .ref u.1])) q.1 q.2 := fun q hq => (hat q hq).ext s1b
      have lus : us.length ≤ 24 := by
        rw [← sn_len, hsn]
        have h1 := lkF_len ps.length ms y 0 (ps.take i)
        have h2 := List.length_take_le' i ps
        omega
      have skip : ∀ H', Same (upd H1 T' (.tup [.int (i : Nat), .ref u.1])) H' → ¬ (u.2.1 ≠ y ∧ seP ms u.2.1 = []) → ∃ (us : List (Addr × L4)) (a3 a4 a5 : Option V), (([some (V.ref x), some (V.str y), some (V.ref l), o3, o4, o5].set 3 (some (V.int ↑i))).set 4 (some (V.ref u.fst))) = [some (.ref x), some (.str y), some (.ref l), a3, a4, a5] ∧ Same H H' ∧ H' l = some (.lst (rf us)) ∧ (∀ u ∈ us, LkAt H' u.1 u.2) ∧ sn us = lkF ps.length ms y 0 (ps.take (i + 1)) := fun H' s' no =>
        ⟨us, some (.int i), some (.ref u.1), o5, rfl, s2.trans s', s' _ _ hL2, fun q hq => (hat2 q hq).ext s', by rw [lkF_take hpi, lks, if_neg no, List.append_nil]; exact hsn⟩
      refine ite2 (fun h1 => ?_) fun h1 => ?_
      · have hne : u.2.1 ≠ y := by simpa using h1
        refine ⟨_, rfl, _, rfl, u.1, dp, _, rfl, edp, irr ⟨u.1, u.2, rfl, pa, irr ⟨x, ps, ms, u.2.1, rfl, nr.ext s2, ml, fun l2 xs H3 s3 h3 hiff => ?_⟩⟩⟩
        refine ⟨!xs.isEmpty, .inl ⟨xs, SqL.of h3, rfl⟩, ?_⟩
        cases xs with
        | cons v vs =>
          obtain ⟨q1, q2, q3, q4, q5⟩ := skip H3 s3 fun z => nomatch hiff.mpr z.2
          exact iteF ⟨q1, q2, q3, q4, q5⟩
        | nil =>
          have hse := hiff.mp rfl
          have pa3 := pa.ext s3
          obtain ⟨dp3, ed3⟩ := id pa3
          refine iteT ⟨_, rfl, _, rfl, u.1, dp3, _, rfl, ed3, irr ⟨u.1, u.2, rfl, pa3, irr ⟨x, ps, ms, u.2.1, rfl, nr.ext (s2.trans s3), ml, fun l3 mus H4 s4 h4 hm4 em4 => ?_⟩⟩⟩
          have emany : (rf mus).length = wtP ms u.2.1 := by rw [rf_len, wtP, ← em4, sn_len]
          refine ⟨l3, _, rfl, .inl (SqL.of h4), ?_⟩
          rw [emany]
          dsimp only [gName]
          have s4b : Same H H4 := (s2.trans s3).trans s4
          have hL4 := s4 _ _ (s3 _ _ hL2)
          have pa4 := pa3.ext s4
          obtain ⟨dp4, ed4⟩ := id pa4
          refine ⟨_, rfl, .inl ⟨rfl, _, SqL.of hL4⟩, _, rfl, u.1, dp4, _, rfl, ed4, irr ⟨u.1, u.2, rfl, pa4, _, rfl, u.1, dp4, _, rfl, ed4, irr ⟨u.1, u.2, rfl, pa4, _, rfl, _, rfl, _, rfl, irr ⟨x, ps, ms, some i, 1, rfl, nr.ext s4b, pl, fun t1 H5 s5 h5 => ⟨(by show 4 ≤ sizeLine; decide), fun T1 nT1 => ?_⟩⟩⟩⟩⟩
          have hL5 := s5 _ _ hL4
          have s5b : Same H5 (upd H5 T1 (.tup [.str u.2.2.1, .str u.2.2.2, .int (wtP ms u.2.1 : Nat), .ref t1])) := fun b o e => (upd_ne (ne_of_none e nT1)).trans e
          refine ⟨l, _, _, rfl, rfl, s5b _ _ hL5, by rw [rf_len]; exact Nat.lt_of_le_of_lt lus (by decide), ?_⟩
          have s6 : Same H (upd (upd H5 T1 (.tup [.str u.2.2.1, .str u.2.2.2, .int (wtP ms u.2.1 : Nat), .ref t1])) l (.lst (rf us ++ [.ref T1]))) := fun b o e => (upd_ne (ne_of_none e nl)).trans (s5b _ _ (s5 _ _ (s4b _ _ e)))
          have lk1 : LkAt (upd H5 T1 (.tup [.str u.2.2.1, .str u.2.2.2, .int (wtP ms u.2.1 : Nat), .ref t1])) T1 (u.2.2.1, u.2.2.2, wtP ms u.2.1, un ps.length (some i) 1) := ⟨t1, upd_same, s5b _ _ h5⟩
          have hat6 : ∀ q ∈ us ++ [(T1, (u.2.2.1, u.2.2.2, wtP ms u.2.1, un ps.length (some i) 1))], LkAt (upd (upd H5 T1 (.tup [.str u.2.2.1, .str u.2.2.2, .int (wtP ms u.2.1 : Nat), .ref t1])) l (.lst (rf us ++ [.ref T1]))) q.1 q.2 := fun q hq => by
            refine LkAt.put ?_ (s5b _ _ hL5)
            rcases List.mem_append.mp hq with hq | hq
            · exact ((((hat2 q hq).ext s3).ext s4).ext s5).ext s5b
            · rw [List.mem_singleton.mp hq]
              exact lk1
          generalize hH6 : upd (upd H5 T1 (.tup [.str u.2.2.1, .str u.2.2.2, .int (wtP ms u.2.1 : Nat), .ref t1])) l (.lst (rf us ++ [.ref T1])) = H6 at s6 hat6
          have hL6 : H6 l = some (.lst (rf us ++ [.ref T1])) := by rw [← hH6, upd_same]
          have pa6 := (hp.o u hm).ext s6
          obtain ⟨dp6, ed6⟩ := id pa6
          refine ⟨_, rfl, .inl ⟨rfl, _, SqL.of hL6⟩, _, rfl, u.1, dp6, _, rfl, ed6, irr ⟨u.1, u.2, rfl, pa6, _, rfl, u.1, dp6, _, rfl, ed6, irr ⟨u.1, u.2, rfl, pa6, _, rfl, _, rfl, _, rfl, _, rfl, irr ⟨x, ps, ms, some i, -1, rfl, nr.ext s6, pl, fun t2 H7 s7 h7 => ⟨(by show 4 ≤ sizeLine; decide), fun T2 nT2 => ?_⟩⟩⟩⟩⟩
          have hL7 := s7 _ _ hL6
          have s7b : Same H7 (upd H7 T2 (.tup [.str u.2.2.2, .str u.2.2.1, .int (wtP ms u.2.1 : Nat), .ref t2])) := fun b o e => (upd_ne (ne_of_none e nT2)).trans e
          refine ⟨l, _, _, rfl, rfl, s7b _ _ hL7, by rw [List.length_append, rf_len]; exact Nat.lt_of_le_of_lt (show _ ≤ 25 by simp; omega) (by decide), ?_⟩
          refine ⟨us ++ [(T1, (u.2.2.1, u.2.2.2, wtP ms u.2.1, un ps.length (some i) 1)), (T2, (u.2.2.2, u.2.2.1, wtP ms u.2.1, un ps.length (some i) (-1)))], _, _, _, rfl, fun b o e => (upd_ne (ne_of_none e nl)).trans (s7b _ _ (s7 _ _ (s6 _ _ e))), ?_, fun q hq => LkAt.put ?_ (s7b _ _ hL7), ?_⟩
          · rw [upd_same]
            simp [rf]
          · rw [show us ++ [(T1, (u.2.2.1, u.2.2.2, wtP ms u.2.1, un ps.length (some i) 1)), (T2, (u.2.2.2, u.2.2.1, wtP ms u.2.1, un ps.length (some i) (-1)))] = (us ++ [(T1, (u.2.2.1, u.2.2.2, wtP ms u.2.1, un ps.length (some i) 1))]) ++ [(T2, (u.2.2.2, u.2.2.1, wtP ms u.2.1, un ps.length (some i) (-1)))] by simp] at hq
            rcases List.mem_append.mp hq with hq | hq
            · exact ((hat6 q hq).ext s7).ext s7b
            · rw [List.mem_singleton.mp hq]
              exact ⟨t2, upd_same, s7b _ _ h7⟩
          · rw [lkF_take hpi, lks, if_pos ⟨hne, hse⟩, ← hsn]
            simp [sn]
      · obtain ⟨q1, q2, q3, q4, q5⟩ := skip _ (Same.refl _) fun z => h1 (by simpa using z.1)
        exact iteF ⟨q1, q2, q3, q4, q5⟩
    · rintro σ H1 ⟨us, o3, o4, o5, rfl, s1, hL, hat, hsn⟩
      rw [rf_len, show pu.length = ps.length by rw [← ep, sn_len], List.take_length] at hsn
      exact ⟨_, rfl, k l us H1 s1 hL hat hsn⟩
end
end RV
namespace RV
open PySem L2 TL
section
variable {P : Program} {w : World} {K : PySem.W.Frag} {mg : Str → Option Value} {base : Heap} {CN CP CM : Addr}
theorem ok_lead {f : Addr} {fd : FuncData} (F : Fun K "_lead_on" "_lead_on" s_lead_on f fd) (hz : mg "zip" = none) (T2 : Blt2 mg) : FnOk P w K mg base CX0 1 f fd ["ways", "start", "end", "many", "amounts"] sp_lead := by
  refine F.ok sc_lead_on (fun vs H Q E h => ?_) (fun cdv A outer s H vs Q E hr h => ?_)
  · obtain ⟨_, _, _, _, _, _, _, _, _, _, _, rfl, _⟩ := h
    rfl
  · obtain ⟨d, t, a, b, m, n, fs, kvs, g, Z, Z', rfl, ed, et, fn, n12, kl, dw0, zk, zn, k⟩ := h
    have dw := dw0.imp zk
    have hu : (A.deeper (PyProof.Rows.envOfC "_lead_on" (defScope s_lead_on) s.heap.objs.size f cdv)).units + 1 < cLine := by have := hr.units; omega
    refine ⟨_, (pss_cons (ps_if (pt_cmp (pc_dnotin hu (pv 1) (pv 0))) (pss_one ps_retN) pss_nil)
      (pss_cons (ps_asg (pe_dget hu (pv 0) (pv 1) (fun _ _ => rfl)) (pg_tup (by rfl) (pgs_cons (pg_name (i := 5) sc_lead_on.nd rfl (Or.inl rfl)) (pgs_cons (pg_name (i := 6) sc_lead_on.nd rfl (Or.inl rfl)) pgs_nil))))
      (pss_one (ps_if (PW.pt (pw_or (pt_cmp (pc_dnotin hu (pv 2) (pv 0))) (pw_or1 (pt_cmpR op_lt (pe_op op_add (pv 5) (pv 3)) (pe_ix ix_tup (pe_dget hu (pv 0) (pv 2) (fun _ _ => rfl)) pe_int (fun _ _ => rfl)) (nomark _))))) (pss_one (ps_dput hu (pv 0) (pv 2) (pe_tup (pa_cons (pe_op op_add (pv 5) (pv 3)) (pa_cons (pe_callTy call_tuple_of (by rfl) T2.b_tuple (by decide +kernel) (pa_cons (pe_lc (own := [("here", 7), ("more", 8)]) (g := gPr K 7 8) (tt := tYes) rfl sc_lead_on.nd (RZ.pi_zipA (by rfl) hz (pa_cons (pv 6) (pa_cons (pv 4) pa_nil))) (blkOk_by (N := sc_lead_on_N) (sc := defScope s_lead_on) (by decide +kernel)) (fun _ _ _ _ _ => pg_tupK (by rfl) (pgs_cons (pg_name (i := 7) sc_lead_on.nd rfl (Or.inl rfl)) (pgs_cons (pg_name (i := 8) sc_lead_on.nd rfl (Or.inl rfl)) pgs_nil))) (fun _ _ _ _ _ => pts_nil) (fun _ _ _ _ _ => (pe_op op_add (pv 7) (pv 8)))) pa_nil)) pa_nil))) (by rfl))) pss_nil)))), ?_⟩
    have ga : ∀ (x : Str) (H' : Hp), H' d = some (.dK kvs) → DGet H' d (.str x) (valV kvs (.inr x)) := fun x H' e => DGet.k (k := Sum.inr x) e
    cases hga : g a with
    | none =>
      refine ⟨_, rfl, _, rfl, d, _, rfl, ga a H ed, ?_⟩
      rw [dw.z a hga]
      exact ⟨_, rfl, iteT (k kvs H (fun _ _ _ e => e) ed (Nat.le_succ _) (by rw [ld_n (e := (a, b, m)) hga]; exact dw))⟩
    | some da =>
      obtain ⟨ea, ta, fa, va, ha1, ha2, ha3, ha4⟩ := dw0.s a da hga
      refine ⟨_, rfl, _, rfl, d, _, rfl, ga a H ed, ?_⟩
      rw [va]
      refine ⟨_, rfl, iteF ⟨_, rfl, _, rfl, d, _, rfl, by rw [← va]; exact ga a H ed, ?_⟩⟩
      refine ⟨ea, _, rfl, SqT.of ha1, rfl, _, _, rfl, _, _, rfl, rfl, ?_⟩
      dsimp only
      unfold tIfS
      have hless : (∃ db, g b = some db ∧ ¬ da + m < db) ∨ (g b = none ∨ ∃ d', g b = some d' ∧ da + m < d') := by
        cases hgb : g b with
        | none => exact .inr (.inl rfl)
        | some db =>
          by_cases c : da + m < db
          · exact .inr (.inr ⟨db, rfl, c⟩)
          · exact .inl ⟨db, rfl, c⟩
      refine tst_of (fun v H' => H' = H ∧ ((v = true ∧ (g b = none ∨ ∃ d', g b = some d' ∧ da + m < d')) ∨ (v = false ∧ ∃ db, g b = some db ∧ ¬ da + m < db))) ?ret ?tst
      case tst =>
        intro Q' kq
        cases hgb : g b with
        | none =>
          refine ⟨_, rfl, _, rfl, d, _, rfl, ga b H ed, ?_⟩
          rw [dw.z b hgb]
          exact ⟨_, rfl, iteT (kq _ _ ⟨rfl, .inl ⟨rfl, .inl hgb⟩⟩)⟩
        | some db =>
          obtain ⟨eb, tb, fb, vb, hb1, hb2, hb3, _⟩ := dw.s b db hgb
          refine ⟨_, rfl, _, rfl, d, _, rfl, ga b H ed, ?_⟩
          rw [vb]
          refine ⟨_, rfl, iteF ?_⟩
          refine ⟨_, rfl, _, rfl, _, _, rfl, rfl, _, rfl, _, rfl, d, _, rfl, by rw [← vb]; exact ga b H ed, eb, _, 0, _, rfl, rfl, SqT.of hb1, rfl, ?_⟩
          refine ⟨_, _, rfl, rfl, _, rfl, ?_⟩
          refine kq _ _ ⟨rfl, ?_⟩
          by_cases c : da + m < db
          · exact .inl ⟨decide_eq_true (by omega), .inr ⟨db, hgb, c⟩⟩
          · exact .inr ⟨decide_eq_false (by omega), db, hgb, c⟩
      case ret =>
        rintro v H' ⟨rfl, hv⟩
        rcases hv with ⟨rfl, hv⟩ | ⟨rfl, db, hgb, c⟩
        · refine iteT ?_
          refine ⟨_, rfl, _, rfl, _, _, rfl, rfl, _, rfl, _, rfl, ta, t, fa.map V.int, fs.map V.int, rfl, .inr ⟨SqT.of ha2, SqT.of et, ?_⟩⟩
          refine fun D nD => L2.lc_it (walk_zipT (K := K) (xs := fa.map V.int) (ys := fs.map V.int) (n := n) (by simp [ha3, fn])) (fun i H2 => Same H' H2 ∧ H2 D = some (.lst (((List.zipWith (· + ·) fa fs).take i).map V.int))) ⟨fun b o e => (upd_ne (ne_of_none e nD)).trans e, upd_same⟩ (fun i H2 _ z => ⟨(SqT.of ha2).ext z.1, (SqT.of et).ext z.1⟩) (fun i x Ha Hb hi hv y => ?_) (fun H2 hv => ?_)
          · obtain ⟨s1, eD⟩ := hv
            obtain ⟨T, p, q, rfl, nT, rfl, hp, hq⟩ := y
            dsimp only at hp hq
            have hi1 : i < fa.length := by omega
            have hi2 : i < fs.length := by omega
            rw [List.getElem?_map, List.getElem?_eq_getElem hi1] at hp
            rw [List.getElem?_map, List.getElem?_eq_getElem hi2] at hq
            obtain rfl : V.int fa[i] = p := Option.some.inj hp
            obtain rfl : V.int fs[i] = q := Option.some.inj hq
            have eT : upd Ha T (.tup [V.int fa[i], V.int fs[i]]) D = some (.lst (((List.zipWith (· + ·) fa fs).take i).map V.int)) := by rw [upd_ne (ne_of_none eD nT)]; exact eD
            have sT : Same H' (upd Ha T (.tup [V.int fa[i], V.int fs[i]])) := fun b o e => (upd_ne (ne_of_none (s1 _ _ e) nT)).trans (s1 _ _ e)
            refine ⟨T, _, rfl, SqT.of upd_same, rfl, _, _, rfl, _, _, rfl, ⟨rfl, ⟨rfl, ?_⟩⟩⟩
            have e0 : ∀ (σ : L2.St) (H : Hp) (R : Bool → Hp → Prop), R true H → tYes σ H R := fun _ _ _ r => r
            refine e0 _ _ _ ?_
            simp only [↓reduceIte]
            refine ⟨_, rfl, _, rfl, _, _, rfl, rfl, _, eT, ?_, fun b o e => (upd_ne (ne_of_none e nD)).trans (sT _ _ e), ?_⟩
            · rw [List.length_map]
              exact Nat.lt_of_le_of_lt (List.length_take_le _ _) (Nat.lt_of_lt_of_le (show i < 13 by omega) (by decide))
            · rw [upd_same, List.take_add_one, List.getElem?_zipWith, List.getElem?_eq_getElem hi1, List.getElem?_eq_getElem hi2, List.map_append]
              rfl
          · obtain ⟨s1, eD⟩ := hv
            have zl : (List.zipWith (· + ·) fa fs).length = n := by rw [List.length_zipWith, ha3, fn, Nat.min_self]
            rw [← zl, List.take_length] at eD
            refine ⟨D, _, rfl, .inl ⟨SqL.of eD, fun l nl => ⟨(by show 2 ≤ sizeLine; decide), fun e2 ne2 => ?_⟩⟩⟩
            have s2 : Same H' (upd (upd H2 l (.tup ((List.zipWith (· + ·) fa fs).map V.int))) e2 (.tup [.int ((da : Int) + (m : Int)), .ref l])) := fun b o e => (upd_ne (ne_of_none ((upd_ne (ne_of_none (s1 _ _ e) nl)).trans (s1 _ _ e)) ne2)).trans ((upd_ne (ne_of_none (s1 _ _ e) nl)).trans (s1 _ _ e))
            refine ⟨_, rfl, _, rfl, d, _, rfl, DPut.k (k := Sum.inr b) (s2 _ _ ed) ?_, ?_⟩
            · exact Nat.lt_of_le_of_lt kl (by decide)
            have dw2 := dw.ext s2
            have dw3 : DW n Z' _ _ (fun x => if x = b then some (da + m) else g x) := dw2.put (e := e2) (t := l) (b := b) (c := da + m) (by rw [upd_same, Int.natCast_add]) (by rw [upd_ne (ne_of_none upd_same ne2)]; exact upd_same) zl (zn da fa ha3 hga ha4 hv)
            have s3 : ∀ p o, p ≠ d → upd (upd H2 l (.tup ((List.zipWith (· + ·) fa fs).map V.int))) e2 (.tup [.int ((da : Int) + (m : Int)), .ref l]) p = some o → upd (upd (upd H2 l (.tup ((List.zipWith (· + ·) fa fs).map V.int))) e2 (.tup [.int ((da : Int) + (m : Int)), .ref l])) d (.dK (putK kvs (.inr b) (.ref e2))) p = some o := fun p o hp e => (upd_ne hp).trans e
            refine k (putK kvs (.inr b) (.ref e2)) _ (fun p o hp e => s3 p o hp (s2 _ _ e)) upd_same (length_putK _ _ _) ?_
            rw [ld_p (e := (a, b, m)) hga hv]
            exact dw3.keep ⟨kvs, s2 _ _ ed⟩ s3
        · exact iteF (k kvs H' (fun _ _ _ e => e) ed (Nat.le_succ _) (by rw [ld_k (e := (a, b, m)) hga hgb c]; exact dw))
end
end RV
namespace RV
open PySem L2 TL
/-- all but the dict stays -/
def SB (d : Addr) (H H' : Hp) : Prop := ∀ b o, b ≠ d → H b = some o → H' b = some o
theorem SB.trans {d : Addr} {H H1 H2 : Hp} (h : SB d H H1) (h' : SB d H1 H2) : SB d H H2 := fun b o n e => h' b o n (h b o n e)
theorem un_len (n : Nat) (o : Option Nat) (c : Int) : (un n o c).length = n := by rw [un, List.length_map, List.length_range]
theorem lkF_fl (n : Nat) (ms : List M3) (y : Str) : ∀ (s : Nat) (ps : List P3), ∀ l ∈ lkF n ms y s ps, l.2.2.2.length = n
  | _, [], l, h => nomatch h
  | s, p :: ps, l, h => by
    rw [lkF] at h
    rcases List.mem_append.mp h with h | h
    · unfold lks at h
      split at h
      · rcases List.mem_cons.mp h with rfl | h
        · exact un_len _ _ _
        · obtain rfl := List.mem_singleton.mp h
          exact un_len _ _ _
      · exact nomatch h
    · exact lkF_fl n ms y (s + 1) ps l h
theorem LkAt.sb {H H' : Hp} {a d : Addr} {l : L4} {q : List (Key × V)} (h : LkAt H a l) (e : H d = some (.dK q)) (s : SB d H H') : LkAt H' a l := by
  obtain ⟨t, h1, h2⟩ := h
  exact ⟨t, s _ _ (fun z => by rw [z, e] at h1; cases h1) h1, s _ _ (fun z => by rw [z, e] at h2; cases h2) h2⟩
section
variable {P : Program} {w : World} {K : PySem.W.Frag} {mg : Str → Option Value} {base : Heap} {CN CP CM : Addr}
theorem ok_ways {f : Addr} {fd : FuncData} (F : Fun K "shortest_ways" "shortest_ways" s_shortest_ways f fd) (h_gpipe : Mtd P w K mg base CN "pipe" 4 ["self", "name"] (Irr (sp_gpipe K CN CP CM))) (h_np : Prp P w K mg base CN "pipes" 1 (Irr (sp_npi CN))) (h_pe : Prp P w K mg base CP "end" 1 (Irr (sp_pe CP)))
    (h_amt : Fn P w K mg base "_amounts" 3 ["net", "index", "amount"] (Irr (sp_amt K CN CP CM))) (h_lnks : Fn P w K mg base "_links" 5 ["net", "pipe"] (Irr (sp_lnks K CN CP CM))) (h_lead : Fn P w K mg base "_lead_on" 1 ["ways", "start", "end", "many", "amounts"] (Irr sp_lead)) : FnOk P w K mg base CX0 6 f fd ["net", "pipe"] (sp_ways K CN CP CM) := by
  refine F.ok sc_shortest_ways (fun vs H Q E h => ?_) (fun cdv A outer s H vs Q E hr h => ?_)
  · obtain ⟨_, _, _, _, _, rfl, _⟩ := h
    rfl
  · obtain ⟨x, ps, ms, y, Z, rfl, nr, pl, ml, hy, zo, k⟩ := h
    refine ⟨_, (pss_cons (ps_set (i := 2) sc_shortest_ways.nd rfl (Or.inl rfl) (pe_disp (pps_cons (pe_propN h_pe (hr.mono (by decide)) (pe_mtd h_gpipe (hr.mono (by decide)) (pv 0) (pa_cons (pv 1) pa_nil))) (pe_tup (pa_cons pe_int (pa_cons (pe_fn h_amt (hr.mono (by decide)) (pa_cons (pv 0) (pa_cons pe_non (pa_cons pe_int pa_nil)))) pa_nil))) pps_nil) rfl rfl (by simp) (by simp)))
      (pss_cons (ps_set (i := 3) sc_shortest_ways.nd rfl (Or.inl rfl) (pe_fn h_lnks (hr.mono (by decide)) (pa_cons (pv 0) (pa_cons (pv 1) pa_nil))))
      (pss_cons (ps_for PassesOwn.never rfl (pi_tup (pe_propN h_np (hr.mono (by decide)) (pv 0))) (pg_name (i := 4) sc_shortest_ways.nd rfl (Or.inl rfl)) (pss_one (ps_for PassesOwn.never rfl (pi_list (pv 3)) (pg_tup (by rfl) (pgs_cons (pg_name (i := 5) sc_shortest_ways.nd rfl (Or.inl rfl)) (pgs_cons (pg_name (i := 6) sc_shortest_ways.nd rfl (Or.inl rfl)) (pgs_cons (pg_name (i := 7) sc_shortest_ways.nd rfl (Or.inl rfl)) (pgs_cons (pg_name (i := 8) sc_shortest_ways.nd rfl (Or.inl rfl)) pgs_nil))))) (pss_one (ps_expr (pe_fn h_lead (hr.mono (by decide)) (pa_cons (pv 2) (pa_cons (pv 5) (pa_cons (pv 6) (pa_cons (pv 7) (pa_cons (pv 8) pa_nil)))))))))))
      (pss_one (ps_ret (pv 2)))))), ?_⟩
    obtain ⟨dx, tp, tm, pu, mu, ex, hp, hm, ep, em⟩ := id nr.ex
    have pul : pu.length = ps.length := by rw [← ep, sn_len]
    intro d nd
    have s0 : Same H (upd H d (.dK [])) := fun b o e => (upd_ne (ne_of_none e nd)).trans e
    refine ⟨_, rfl, x, dx, _, rfl, s0 _ _ ex, rfl, _, rfl, irr ⟨x, ps, ms, y, rfl, nr.ext s0, pl, hy, fun a i q H1 hi hq s1 pa => ?_⟩⟩
    obtain ⟨dp, edp⟩ := id pa
    refine ⟨a, dp, _, rfl, edp, irr ⟨a, q, rfl, pa, ?_⟩⟩
    have s1b : Same H H1 := s0.trans s1
    refine ⟨_, rfl, irr ⟨x, ps, ms, none, 0, rfl, nr.ext s1b, pl, fun t1 H2 s2 h2 => ⟨(by show 2 ≤ sizeLine; decide), fun T1 nT1 => ?_⟩⟩⟩
    have s2b : Same H2 (upd H2 T1 (.tup [.int 0, .ref t1])) := fun b o e => (upd_ne (ne_of_none e nT1)).trans e
    have ed : upd H2 T1 (.tup [.int 0, .ref t1]) d = some (.dK []) := s2b _ _ (s2 _ _ (s1 _ _ upd_same))
    refine ⟨ed, [(.inr q.2.2, .ref T1)], rfl, by simp, ?_⟩
    dsimp only [gName]
    have dw0 : DW ps.length (Z (g0 q.2.2)) (upd H2 T1 (.tup [.int 0, .ref t1])) (putK [] (.inr q.2.2) (.ref T1)) (g0 q.2.2) := DW.new upd_same (s2b _ _ h2) (un_len _ _ _) (zo.st i q hi hq)
    have sb3 : SB d (upd H2 T1 (.tup [.int 0, .ref t1])) (upd (upd H2 T1 (.tup [.int 0, .ref t1])) d (.dK (putK [] (.inr q.2.2) (.ref T1)))) := fun b o n e => (upd_ne n).trans e
    have dw1 := dw0.keep ⟨_, ed⟩ sb3
    have s3 : Same H (upd (upd H2 T1 (.tup [.int 0, .ref t1])) d (.dK (putK [] (.inr q.2.2) (.ref T1)))) := fun b o e => sb3 _ _ (ne_of_none e nd) (s2b _ _ (s2 _ _ (s1b _ _ e)))
    have ed3 : upd (upd H2 T1 (.tup [.int 0, .ref t1])) d (.dK (putK [] (.inr q.2.2) (.ref T1))) d = some (.dK (putK [] (.inr q.2.2) (.ref T1))) := upd_same
    rw [show mergeK [] [((Sum.inr q.2.2 : Key), V.ref T1)] = putK [] (.inr q.2.2) (.ref T1) from rfl]
    clear sb3 dw0 ed
    revert dw1 s3 ed3
    generalize upd (upd H2 T1 (.tup [.int 0, .ref t1])) d (.dK (putK [] (.inr q.2.2) (.ref T1))) = H3
    intro dw1 s3 ed3
    refine ⟨_, rfl, _, rfl, irr ⟨x, ps, ms, y, rfl, nr.ext s3, pl, ml, fun ll us H4 s4 eL hat hsn => ?_⟩⟩
    dsimp only [gName]
    have ed4 := s4 _ _ ed3
    have dw4 := dw1.ext s4
    have s4b : Same H H4 := s3.trans s4
    have edx := s4b _ _ ex
    have lus : us.length ≤ 24 := by
      rw [← sn_len, hsn]
      have h1 := lkF_len ps.length ms y 0 ps
      unfold lkA
      omega
    have hL : (lkA ps ms y).map lk3 = us.map fun u => lk3 u.2 := by rw [← hsn, sn, List.map_map]; rfl
    have sbx : ∀ {H'}, SB d H4 H' → Same H H' := fun z b o e => z _ _ (ne_of_none e nd) (s4b _ _ e)
    have nl : ll ≠ d := fun z => by rw [z, ed4] at eL; cases eL
    refine ⟨_, rfl, x, dx, _, rfl, edx, irr ⟨x, dx, tp, tm, rfl, edx, tp, rfl, ⟨_, hp.t.ext s4b⟩, for_tup (xs := rf pu) (fun j σ H' => ∃ (kvs : List (Key × V)) (o4 o5 o6 o7 o8 : Option V), σ = [some (.ref x), some (.str y), some (.ref d), some (.ref ll), o4, o5, o6, o7, o8] ∧ SB d H4 H' ∧ H' d = some (.dK kvs) ∧ kvs.length ≤ 1 + 24 * j ∧ DW ps.length (Z (turns ((lkA ps ms y).map lk3) j (g0 q.2.2))) H' kvs (turns ((lkA ps ms y).map lk3) j (g0 q.2.2))) ⟨_, none, none, none, none, none, rfl, fun _ _ _ e => e, ed4, by simp [putK], dw4⟩ ?_ ?_ ?_⟩⟩
    · rintro j σ H5 _ ⟨_, _, _, _, _, _, _, sb, _⟩
      exact hp.t.ext (sbx sb)
    · rintro j v σ H5 hv ⟨kvs, o4, o5, o6, o7, o8, rfl, sb5, ed5, kl5, dw5⟩
      have hj : j < 12 := by
        have := (List.getElem?_eq_some_iff.mp hv).1
        rw [rf_len] at this
        omega
      dsimp only [gName]
      refine ⟨_, rfl, ll, rfl, ⟨_, SqL.of (sb5 _ _ nl eL)⟩, for_list (xs := rf us) (fun i σ H' => ∃ (kvs : List (Key × V)) (o5 o6 o7 o8 : Option V), σ = [some (.ref x), some (.str y), some (.ref d), some (.ref ll), some v, o5, o6, o7, o8] ∧ SB d H4 H' ∧ H' d = some (.dK kvs) ∧ kvs.length ≤ 1 + 24 * j + i ∧ DW ps.length (Z (((us.take i).map fun u => lk3 u.2).foldl ld (turns ((lkA ps ms y).map lk3) j (g0 q.2.2)))) H' kvs (((us.take i).map fun u => lk3 u.2).foldl ld (turns ((lkA ps ms y).map lk3) j (g0 q.2.2)))) ⟨kvs, o5, o6, o7, o8, rfl, sb5, ed5, by omega, dw5⟩ ?_ ?_ ?_⟩
      · rintro i σ H6 _ ⟨_, _, _, _, _, _, sb, _⟩
        exact SqL.of (sb _ _ nl eL)
      · rintro i v' σ H6 hv' ⟨kvs6, p5, p6, p7, p8, rfl, sb6, ed6, kl6, dw6⟩
        obtain ⟨u, hu, rfl⟩ := rf_get hv'
        have hlt := (List.getElem?_eq_some_iff.mp hu).1
        obtain ⟨t, g1, g2⟩ := (hat u (List.mem_of_getElem? hu)).sb ed4 sb6
        refine ⟨u.1, _, rfl, SqT.of g1, rfl, _, _, rfl, _, _, rfl, _, _, rfl, _, _, rfl, rfl, ?_⟩
        have um : u.2 ∈ lkA ps ms y := by rw [← hsn]; exact List.mem_map.mpr ⟨u, List.mem_of_getElem? hu, rfl⟩
        have ufl : u.2.2.2.2.length = ps.length := lkF_fl _ ms y 0 ps u.2 (by rw [← show sn us = lkF ps.length ms y 0 ps from hsn]; exact List.mem_map.mpr ⟨u, List.mem_of_getElem? hu, rfl⟩)
        refine ⟨_, rfl, _, rfl, _, rfl, _, rfl, _, rfl, irr ⟨d, t, u.2.1, u.2.2.1, u.2.2.2.1, ps.length, u.2.2.2.2, kvs6, _, _, Z (ld _ (lk3 u.2)), rfl, ed6, g2, ufl, pl, by omega, dw6, fun x d f => zo.ke u.2 um _ x d f, fun d f hf => zo.ne u.2 um _ d f hf, fun kvs7 H7 s7 ed7 kl7 dw7 => ?_⟩⟩
        refine ⟨kvs7, _, _, _, _, rfl, sb6.trans s7, ed7, by omega, ?_⟩
        rw [List.take_add_one, hu, List.map_append, List.foldl_append]
        exact dw7
      · rintro σ H6 ⟨kvs6, p5, p6, p7, p8, rfl, sb6, ed6, kl6, dw6⟩
        rw [rf_len] at kl6 dw6
        rw [List.take_length, ← hL] at dw6
        exact ⟨kvs6, _, _, _, _, _, rfl, sb6, ed6, by omega, dw6⟩
    · rintro σ H5 ⟨kvs, o4, o5, o6, o7, o8, rfl, sb5, ed5, kl5, dw5⟩
      rw [rf_len, pul] at dw5
      exact ⟨_, rfl, k i q d kvs H5 hi hq (sbx sb5) ed5 dw5⟩
end
end RV
namespace RV
open PySem L2 TL
theorem find_nd {ps : List P3} {i : Nat} {q : P3} {y : Str} (nd : (ps.map (·.1)).Nodup) (h : ps[i]? = some q) (hq : q.1 = y) : ps.find? (fun p => decide (p.1 = y)) = some q := by
  induction ps generalizing i with
  | nil => simp at h
  | cons p ps ih =>
    rw [List.map_cons, List.nodup_cons] at nd
    rw [List.find?_cons]
    cases i with
    | zero =>
      obtain rfl : p = q := by simpa using h
      rw [decide_eq_true hq]
    | succ i =>
      rw [List.getElem?_cons_succ] at h
      have hne : p.1 ≠ y := fun e => nd.1 (by rw [e, ← hq]; exact List.mem_map.mpr ⟨q, List.mem_of_getElem? h, rfl⟩)
      rw [decide_eq_false hne]
      exact ih nd.2 h
section
variable {P : Program} {w : World} {K : PySem.W.Frag} {mg : Str → Option Value} {base : Heap} {CN CP CM : Addr}
theorem ok_back {f : Addr} {fd : FuncData} (F : Fun K "_way_back" "_way_back" s_way_back f fd) (h_gpipe : Mtd P w K mg base CN "pipe" 4 ["self", "name"] (Irr (sp_gpipe K CN CP CM))) (h_ps : Prp P w K mg base CP "start" 1 (Irr (sp_ps CP)))
    (h_sat : Fn P w K mg base "sealed_at" 4 ["net", "name"] (Irr (sp_sat K CN CP CM))) (h_ways : Fn P w K mg base "shortest_ways" 6 ["net", "pipe"] (Irr (sp_ways K CN CP CM))) : FnOk P w K mg base CX0 7 f fd ["net", "pipe"] (sp_back K CN CP CM) := by
  refine F.ok sc_way_back (fun vs H Q E h => ?_) (fun cdv A outer s H vs Q E hr h => ?_)
  · obtain ⟨_, _, _, _, _, rfl, _⟩ := h
    rfl
  · obtain ⟨x, ps, ms, y, Z, rfl, nr, pl, ml, hy, zo, k⟩ := h
    have hu : (A.deeper (PyProof.Rows.envOfC "_way_back" (defScope s_way_back) s.heap.objs.size f cdv)).units + 1 < cLine := by have := hr.units; omega
    refine ⟨_, (pss_cons (ps_if (pt_truth (pe_fn h_sat (hr.mono (by decide)) (pa_cons (pv 0) (pa_cons (pv 1) pa_nil))) (by intro _; rfl)) (pss_one (ps_ret pe_non)) pss_nil)
      (pss_one (ps_ret (pe_dget1 hu (pe_fn h_ways (hr.mono (by decide)) (pa_cons (pv 0) (pa_cons (pv 1) pa_nil))) (pe_propN h_ps (hr.mono (by decide)) (pe_mtd h_gpipe (hr.mono (by decide)) (pv 0) (pa_cons (pv 1) pa_nil))) ⟨by rfl, by rfl, by rfl, by rfl⟩)))), ?_⟩
    have some_pipe : ∃ (i : Nat) (q : P3), ps[i]? = some q ∧ q.1 = y := by
      obtain ⟨q, hq, e⟩ := List.mem_map.mp hy
      obtain ⟨i, hi, ei⟩ := List.mem_iff_getElem.mp hq
      exact ⟨i, q, by rw [List.getElem?_eq_getElem hi, ei], e⟩
    refine ⟨_, rfl, _, rfl, irr ⟨x, ps, ms, y, rfl, nr, ml, fun l2 xs H1 s1 h1 hiff => ?_⟩⟩
    refine ⟨!xs.isEmpty, .inl ⟨xs, SqL.of h1, rfl⟩, ?_⟩
    cases xs with
    | cons v vs =>
      have hne : seP ms y ≠ [] := fun z => nomatch hiff.mpr z
      obtain ⟨i, q, hi, hq⟩ := some_pipe
      refine iteT (k i i q q .non H1 hi hq hi hq s1 ?_)
      rw [if_neg hne]
      rfl
    | nil =>
      have hse := hiff.mp rfl
      have nr1 := nr.ext s1
      refine iteF ⟨_, rfl, _, rfl, irr ⟨x, ps, ms, y, Z, rfl, nr1, pl, ml, hy, zo, fun i q d kvs H2 hi hq s2 ed dw => ?_⟩⟩
      have nr2 := nr1.ext s2
      obtain ⟨dx, tp, tm, pu, mu, ex, hp, hm, ep, em⟩ := id nr2.ex
      refine ⟨d, rfl, .inl ⟨_, .inl ed⟩, _, rfl, x, dx, _, rfl, ex, rfl, _, rfl, irr ⟨x, ps, ms, y, rfl, nr2, pl, hy, fun a j r H3 hj hr s3 pa => ?_⟩⟩
      obtain ⟨dp, edp⟩ := id pa
      refine ⟨a, dp, _, rfl, edp, irr ⟨a, r, rfl, pa, _, DGet.k (k := Sum.inr r.2.1) (s3 _ _ ed), ?_⟩⟩
      have dw3 := dw.ext s3
      refine k i j q r _ H3 hi hq hj hr ((s1.trans s2).trans s3) ?_
      rw [if_pos hse]
      cases hg : turns ((lkA ps ms y).map lk3) ps.length (g0 q.2.2) r.2.1 with
      | none => rw [dw3.z _ hg]; rfl
      | some c =>
        obtain ⟨e, t, fs, h1, h2, h3, h4, h5⟩ := dw3.s _ _ hg
        rw [h1]
        exact ⟨e, t, fs, rfl, h2, h3, h4, h5⟩
theorem ok_stren {f : Addr} {fd : FuncData} (F : Fun K "strength" "strength" s_strength f fd) (T : Blt mg)
    (h_chkn : Fn P w K mg base "check_net" 1 ["net"] (Irr (sp_chkn K CN CP CM))) (h_chkp : Fn P w K mg base "check_pipe" 5 ["net", "pipe"] (Irr (sp_chkp K CN CP CM))) (h_back : Fn P w K mg base "_way_back" 7 ["net", "pipe"] (Irr (sp_back K CN CP CM))) (h_mat : Fn P w K mg base "meters_at" 3 ["net", "name"] (Irr (sp_mat K CN CP CM))) : FnOk P w K mg base CX0 8 f fd ["net", "pipe"] (sp_stren K CN CP CM) := by
  refine F.ok sc_strength (fun vs H Q E h => ?_) (fun cdv A outer s H vs Q E hr h => ?_)
  · obtain ⟨_, _, _, _, rfl, _⟩ := h
    rfl
  · obtain ⟨x, ps, ms, y, rfl, nr, po, ml, hy, k⟩ := h
    refine ⟨_, (pss_cons (ps_expr (pe_fn h_chkn (hr.mono (by decide)) (pa_cons (pv 0) pa_nil)))
      (pss_cons (ps_expr (pe_fn h_chkp (hr.mono (by decide)) (pa_cons (pv 0) (pa_cons (pv 1) pa_nil))))
      (pss_cons (ps_set (i := 2) sc_strength.nd rfl (Or.inl rfl) (pe_fn h_back (hr.mono (by decide)) (pa_cons (pv 0) (pa_cons (pv 1) pa_nil))))
      (pss_one (ps_ret (pe_ifExp (pt_cmpR op_isN (pv 2) pe_non (nomark _)) pe_non (pe_op op_add (pe_ix ix_tup (pv 2) pe_int (fun _ _ => rfl)) (pe_callB call_len_seq (by rfl) T.b_len (by decide +kernel) (pa_cons (pe_fn h_mat (hr.mono (by decide)) (pa_cons (pv 0) (pa_cons (pv 1) pa_nil))) pa_nil))))))))), ?_⟩
    have pl := po.ln
    refine ⟨_, rfl, irr ⟨x, ps, ms, rfl, nr, ?_⟩⟩
    refine ⟨_, rfl, _, rfl, irr ⟨x, ps, ms, y, rfl, nr, pl, hy, fun H1 s1 => ?_⟩⟩
    refine ⟨_, rfl, _, rfl, irr ⟨x, ps, ms, y, _, rfl, nr.ext s1, pl, ml, hy, ZOk.triv _ _ _, fun i j q r v H2 hi hq hj hr s2 hw => ?_⟩⟩
    dsimp only [gName]
    have s2b := s1.trans s2
    have nr2 := nr.ext s2b
    have efq := find_nd po.nd hi hq
    obtain rfl : q = r := Option.some.inj (efq.symm.trans (find_nd po.nd hj hr))
    have eS : strP ps ms y = (if seP ms y = [] then turns ((lkA ps ms y).map lk3) ps.length (g0 q.2.2) q.2.1 else none).map (· + wtP ms y) := by
      rw [strP, efq]
      dsimp only
      split
      · rfl
      · rfl
    cases hW : (if seP ms y = [] then turns ((lkA ps ms y).map lk3) ps.length (g0 q.2.2) q.2.1 else none) with
    | none =>
      rw [hW] at hw eS
      obtain rfl : v = .non := hw
      refine ⟨_, rfl, rfl, _, rfl, iteT ?_⟩
      have := k H2 s2b
      rw [eS] at this
      exact this
    | some c =>
      rw [hW] at hw eS
      obtain ⟨e, t, fs, rfl, he, _⟩ := hw
      refine ⟨_, rfl, rfl, _, rfl, iteF ⟨_, rfl, e, _, 0, _, rfl, rfl, SqT.of he, rfl, _, rfl, _, rfl, irr ⟨x, ps, ms, y, rfl, nr2, ml, fun l mus H3 s3 h3 hm3 em3 => ?_⟩⟩⟩
      have emany : (rf mus).length = wtP ms y := by rw [rf_len, wtP, ← em3, sn_len]
      refine ⟨l, _, rfl, .inl (SqL.of h3), ?_⟩
      rw [emany]
      refine ⟨_, _, rfl, rfl, ?_⟩
      have := k H3 (s2b.trans s3)
      rw [eS] at this
      exact this
end
end RV
/-! k24: roads. -/
namespace RV
open PySem L2 TL
section
variable {P : Program} {w : World} {K : PySem.W.Frag} {mg : Str → Option Value} {base : Heap}
theorem ok_paths {f : Addr} {fd : FuncData} (F : Fun K "_law_paths" "_law_paths" s_paths f fd) (T : Blt mg) (T2 : Blt2 mg) (h_dip : Fn P w K mg base "_law_dip" 1 ["_law_well_here", "_law_many"] (Irr sp_dip)) (h_names : Fn P w K mg base "_law_names" 2 ["_law_well_here", "_law_many"] (Irr sp_names)) : FnOk P w K mg base CX0 3 f fd ["_law_well_here", "_law_roads"] sp_paths := by
  refine F.ok sc_paths (fun vs H Q E h => ?_) (fun cdv A outer s H vs Q E hr h => ?_)
  · obtain ⟨_, _, _, rfl, _⟩ := h
    rfl
  · obtain ⟨a, n, R, rfl, wl, hn, R2, R4, k⟩ := h
    refine ⟨_, (pss_cons (ps_setLc (i := 2) (own := [("_law_way", 9)]) (g := gName 9) (tt := tYes) rfl sc_paths.nd rfl rfl (sw_true rfl rfl rfl (by decide +kernel)) (pi_range1 rfl T.b_range (pa_cons (pv 1) pa_nil)) (blkOk_by (N := sc_paths_N) (sc := defScope s_paths) (by decide +kernel)) (fun _ _ _ _ _ => pg_name (i := 9) sc_paths.nd rfl (Or.inl rfl)) (fun _ _ _ _ _ => pts_nil) (fun _ _ _ _ _ => (pe_op op_add pe_int (pe_fn h_dip (hr.mono (by decide)) (pa_cons (pv 0) (pa_cons pe_int pa_nil))))))
      (pss_cons (ps_par (i := 3) (j := 4) (by rfl) sc_paths.nd rfl rfl (by decide) rfl rfl (pa_cons (pe_fn h_names (hr.mono (by decide)) (pa_cons (pv 0) (pa_cons (pe_callB (cr_sum rfl) (by rfl) T2.b_sum (by decide +kernel) (pa_cons (pv 2) pa_nil)) pa_nil))) (pa_cons (pe_fn h_names (hr.mono (by decide)) (pa_cons (pv 0) (pa_cons pe_int pa_nil))) pa_nil)) (by rfl))
      (pss_cons (ps_asg (pe_tup (pa_cons (pe_lst pa_nil) (pa_cons (pe_lst pa_nil) (pa_cons (pe_lst pa_nil) (pa_cons (pe_op op_sub pe_int (pe_fn h_dip (hr.mono (by decide)) (pa_cons (pv 0) (pa_cons pe_int pa_nil)))) pa_nil))))) (pg_tup (by rfl) (pgs_cons (pg_name (i := 5) sc_paths.nd rfl (Or.inl rfl)) (pgs_cons (pg_name (i := 6) sc_paths.nd rfl (Or.inl rfl)) (pgs_cons (pg_name (i := 7) sc_paths.nd rfl (Or.inl rfl)) (pgs_cons (pg_name (i := 8) sc_paths.nd rfl (Or.inl rfl)) pgs_nil))))))
      (pss_cons (ps_for PassesOwn.never rfl (pi_range1 rfl T.b_range (pa_cons (pv 1) pa_nil)) (pg_name (i := 9) sc_paths.nd rfl (Or.inr rfl)) (pss_cons (ps_par3 (i := 10) (j := 11) (l := 12) (by rfl) sc_paths.nd rfl rfl rfl (by decide) (by decide) (by decide) rfl rfl rfl (pa_cons (pe_callB (cr_sum rfl) (by rfl) T2.b_sum (by decide +kernel) (pa_cons (pe_slice sl_list (pv 2) po_none (po_some (pv 9))) pa_nil)) (pa_cons pe_int (pa_cons pe_bl pa_nil))) (by rfl)) (pss_cons (ps_set (i := 13) sc_paths.nd rfl (Or.inl rfl) (pe_slice sl_list (pv 3) (po_some (pv 10)) (po_some (pe_op op_add (pv 10) (pe_ix ix_list (pv 2) (pv 9) (fun _ _ => rfl)))))) (pss_cons (ps_set (i := 14) sc_paths.nd rfl (Or.inl rfl) (pe_op op_cat (pe_op op_cat (pe_lst (pa_cons pe_str pa_nil)) (pe_lc (own := [("_law_k", 15)]) (g := gName 15) (tt := tYes) rfl sc_paths.nd (pi_range1 rfl T.b_range (pa_cons (pe_op op_sub (pe_callB call_len_seq (by rfl) T.b_len (by decide +kernel) (pa_cons (pv 13) pa_nil)) pe_int) pa_nil)) (blkOk_by (N := sc_paths_N) (sc := defScope s_paths) (by decide +kernel)) (fun _ _ _ _ _ => pg_name (i := 15) sc_paths.nd rfl (Or.inl rfl)) (fun _ _ _ _ _ => pts_nil) (fun _ _ _ _ _ => (pe_op op_add_str (pe_op op_add_str pe_str (pe_callTy call_str_int (by rfl) T.b_str (by decide +kernel) (pa_cons (pv 9) pa_nil))) (pe_callTy call_str_int (by rfl) T.b_str (by decide +kernel) (pa_cons (pv 15) pa_nil)))))) (pe_lst (pa_cons pe_str pa_nil)))) (pss_cons (ps_for PassesOwn.never rfl (pi_range1 rfl T.b_range (pa_cons (pe_callB call_len_seq (by rfl) T.b_len (by decide +kernel) (pa_cons (pv 13) pa_nil)) pa_nil)) (pg_name (i := 15) sc_paths.nd rfl (Or.inl rfl)) (pss_cons (ps_set (i := 16) sc_paths.nd rfl (Or.inl rfl) (pe_lst (pa_cons (pe_ix ix_list (pv 14) (pv 15) (fun _ _ => rfl)) (pa_cons (pe_ix ix_list (pv 14) (pe_op op_add (pv 15) pe_int) (fun _ _ => rfl)) pa_nil)))) (pss_cons (ps_set (i := 16) sc_paths.nd rfl (Or.inl rfl) (pe_ifExp (pt_cmpR op_eq (pe_fn h_dip (hr.mono (by decide)) (pa_cons (pv 0) (pa_cons pe_int pa_nil))) pe_int (nomark _)) (pv 16) (pe_lst (pa_cons (pe_ix ix_list (pv 16) pe_int (fun _ _ => rfl)) (pa_cons (pe_ix ix_list (pv 16) pe_int (fun _ _ => rfl)) pa_nil))))) (pss_cons (ps_expr (pe_bm PySem.F.plainAttrs_list PySem.F.slot_list_insert PySem.F.type_list_insert mt_insert (pv 5) (pa_cons (pe_fn h_dip (hr.mono (by decide)) (pa_cons (pv 0) (pa_cons (pe_op op_add (pe_callB call_len_seq (by rfl) T.b_len (by decide +kernel) (pa_cons (pv 5) pa_nil)) pe_int) pa_nil))) (pa_cons (pe_op op_add_str (pe_op op_add_str (pe_op op_add_str (pe_op op_add_str (pe_op op_add_str pe_str (pe_ix ix_list (pv 13) (pv 15) (fun _ _ => rfl))) pe_str) (pe_ix ix_list (pv 16) pe_int (fun _ _ => rfl))) pe_str) (pe_ix ix_list (pv 16) pe_int (fun _ _ => rfl))) pa_nil)))) (pss_cons (ps_set (i := 17) sc_paths.nd rfl (Or.inl rfl) (pe_callB (call_min2 rfl) (by rfl) T.b_min (by decide +kernel) (pa_cons (pv 8) (pa_cons (pe_fn h_dip (hr.mono (by decide)) (pa_cons (pv 0) (pa_cons pe_int pa_nil))) pa_nil)))) (pss_cons (ps_for PassesOwn.never rfl (pi_range1 rfl T.b_range (pa_cons (pv 17) pa_nil)) (pg_name (i := 18) sc_paths.nd rfl (Or.inl rfl)) (pss_cons (ps_set (i := 19) sc_paths.nd rfl (Or.inl rfl) (pe_cmpR op_eq (pe_fn h_dip (hr.mono (by decide)) (pa_cons (pv 0) (pa_cons pe_int pa_nil))) pe_int (nomark _))) (pss_cons (ps_set (i := 12) sc_paths.nd rfl (Or.inl rfl) (pe_or (pv 12) (pe_one (pv 19)))) (pss_one (ps_expr (pe_bm PySem.F.plainAttrs_list PySem.F.slot_list_append PySem.F.type_list_append mt_append (pv 6) (pa_cons (pe_op op_add_str (pe_op op_add_str (pe_op op_add_str (pe_op op_add_str pe_str (pe_ix ix_list (pv 4) (pe_op op_sub (pe_op op_sub (pv 8) pe_int) (pv 18)) (fun _ _ => rfl))) pe_str) (pe_ix ix_list (pv 13) (pv 15) (fun _ _ => rfl))) (pe_ifExp (pt_val (pv 19)) pe_str pe_str)) pa_nil))))))) (pss_one (ps_par (i := 8) (j := 11) (by rfl) sc_paths.nd rfl rfl (by decide) rfl rfl (pa_cons (pe_op op_sub (pv 8) (pv 17)) (pa_cons (pe_op op_add (pv 11) (pv 17)) pa_nil)) (by rfl))))))))) (pss_one (ps_expr (pe_bm PySem.F.plainAttrs_list PySem.F.slot_list_append PySem.F.type_list_append mt_append (pv 7) (pa_cons (pe_lst (pa_cons (pv 13) (pa_cons (pv 11) (pa_cons (pv 12) pa_nil)))) pa_nil)))))))))
      (pss_one (ps_ret (pe_lst (pa_cons (pv 7) (pa_cons (pe_bm PySem.F.plainAttrs_str PySem.F.slot_str_join PySem.F.type_str_join mt_join pe_str (pa_cons (pe_op op_cat (pv 5) (pv 6)) pa_nil)) pa_nil))))))))), ?_⟩
    have b0 := Bag.start wl
    -- how many pipes
    refine ⟨_, rfl, R, rfl, by omega, by omega, fun lL nL => lc_range (lo := 0) (n := R) (fun i H' => ∃ ls : List Nat, ls.length = i ∧ (∀ x ∈ ls, 0 < x ∧ x ≤ 3) ∧ Bag H a (n + i) [(lL, .lst (ls.map vI))] [] H') ⟨[], rfl, (fun _ hx => nomatch hx), b0.newM nL⟩ ?_ ?_⟩
    · rintro i H1 hi ⟨ls, ll, l3, b1⟩
      refine ⟨rfl, _, rfl, b1.dip (by omega) (by decide) (by decide) fun r H2 r0 r1 b2 => ?_⟩
      obtain ⟨q, rfl⟩ := Int.eq_ofNat_of_zero_le r0
      refine ⟨_, _, rfl, rfl, _, b2.am List.mem_cons_self, ?_, ls ++ [1 + q], by rw [List.length_append, ll]; rfl, fun x hx => ?_, ?_⟩
      · rw [List.length_map, ll]
        exact Nat.lt_of_lt_of_le (show i < 8 by omega) (by decide)
      · rcases List.mem_append.mp hx with z | z
        · exact l3 x z
        · rw [List.mem_singleton.mp z]
          omega
      · have e : (ls ++ [1 + q]).map vI = ls.map vI ++ [V.int (1 + (q : Int))] := by
          rw [List.map_append, List.map_cons, List.map_nil, vI]
          congr 3
        rw [e]
        exact b2.put0
    rintro H1 ⟨ls, ll, l3, b1⟩
    replace b1 := b1.frz
    generalize hlen : lenL ls = len
    have len3 : ∀ j, j < R → 0 < len j ∧ len j ≤ 3 := fun j hj => by
      rw [← hlen, lenL, List.getD, List.getElem?_eq_getElem (by omega)]
      exact l3 _ (List.getElem_mem _)
    have offL : ∀ i, i ≤ R → off len i = (ls.take i).sum := fun i hi => by
      rw [← hlen]
      exact off_lenL ls (by omega)
    have esum : ls.sum = off len R := by
      rw [offL R (Nat.le_refl _), ← ll, List.take_length]
    have off12 : off len R ≤ 12 := by
      have := off_le (R := R) (len := len) (fun j hj => (len3 j hj).2) (Nat.le_refl R)
      omega
    dsimp only [gName]
    -- names
    refine ⟨_, rfl, _, rfl, lL, ls.map (fun (k : Nat) => (k : Int)), rfl, by rw [← vI_int]; exact SqL.of (b1.at List.mem_cons_self), ?_⟩
    rw [isum, esum]
    refine irr ⟨a, _, off len R, rfl, b1.well, by omega, by omega, fun lT ts H2 np pa g2 w2 eT tl tn tm => ?_⟩
    have b2 := (b1.grow g2 w2).add pa eT
    refine ⟨_, rfl, irr ⟨a, _, 12, rfl, w2, by omega, by omega, fun lG gs H3 npG paG g3 w3 eG gl gd gm => ?_⟩⟩
    have b3 := (b2.grow g3 w3).add paG eG
    refine ⟨_, _, rfl, ?_⟩
    dsimp only
    -- nothing is laid
    refine ⟨by decide, fun lN nN => ⟨by decide, fun lM nM => ⟨by decide, fun lO nO => ?_⟩⟩⟩
    have b4 := ((b3.newM (o := .lst []) nN).newM (o := .lst []) nM).newM (o := .lst []) nO
    refine ⟨_, rfl, b4.dip (by omega) (by decide) (by decide) fun r H4 r0 r1 b5 => ?_⟩
    obtain ⟨q, rfl⟩ := Int.eq_ofNat_of_zero_le r0
    refine ⟨_, _, rfl, rfl, (by show 4 ≤ sizeLine; decide), fun T0 nT0 => ⟨T0, _, rfl, SqT.of upd_same, rfl, _, _, rfl, _, _, rfl, _, _, rfl, _, _, rfl, rfl, ?_⟩⟩
    have b6 := (b5.new (o := .tup [.ref lN, .ref lM, .ref lO, .int (12 - (q : Int))]) nT0).sub (F' := [(lG, .lst (gs.map V.str)), (lT, .lst (ts.map V.str)), (lL, .lst (ls.map vI))]) fun p hp => List.mem_cons_of_mem _ hp
    replace b6 := b6.wm (m := n + 500) (by omega)
    obtain ⟨l0, hl0⟩ : ∃ l0 : Nat, l0 + q = 12 := ⟨12 - q, by omega⟩
    have KK : RoOk R len ts gs l0 := ⟨by omega, R4, fun j hj => (len3 j hj).1, fun j hj => (len3 j hj).2, tl, tn, tm, gl, gd, gm, by omega⟩
    dsimp only
    rw [show (12 : Int) - (q : Int) = (l0 : Int) by omega] at b6 ⊢
    -- the roads
    refine ⟨_, rfl, R, rfl, by omega, by omega, for_range (lo := 0) (n := R) (fun i σ H' => ∃ (ps : List P3) (ms : List M3) (ct : Nat → Nat) (sh : Nat → Bool) (us : List TU) (left : Nat) (o9 o10 o11 o12 o13 o14 o15 o16 o17 o18 o19 : Option V), σ = [some (.ref a), some (.int R), some (.ref lL), some (.ref lT), some (.ref lG), some (.ref lN), some (.ref lM), some (.ref lO), some (.int (left : Int)), o9, o10, o11, o12, o13, o14, o15, o16, o17, o18, o19] ∧
      Laid R len ts gs l0 (fun j t => j < i ∧ t < len j) ps ms ct sh ∧ left + ms.length = l0 ∧ (∀ j, i ≤ j → ct j = 0 ∧ sh j = false) ∧ us.map (·.2.2) = tellL (nmT ts len) len ct sh i ∧
      Bag H a (n + 500 + 300 * i) [(lO, .lst (rf us)), (lM, .lst ((ms.map mline).map V.str)), (lN, .lst ((ps.map pline).map V.str))] (tolF us ++ [(lG, .lst (gs.map V.str)), (lT, .lst (ts.map V.str)), (lL, .lst (ls.map vI))]) H') ?_ ?_ ?_⟩
    · refine ⟨[], [], fun _ => 0, fun _ => false, [], l0, _, _, _, _, _, _, _, _, _, _, _, rfl, Laid.start fun j t h => absurd h.1 (by omega), rfl, fun _ _ => ⟨rfl, rfl⟩, rfl, ?_⟩
      exact b6
    · rintro i σ H5 hi ⟨ps, ms, ct, sh, us, left, o9, o10, o11, o12, o13, o14, o15, o16, o17, o18, o19, rfl, La, hle, hz, hu, b7⟩
      have mL : (lL, HO.lst (ls.map vI)) ∈ tolF us ++ [(lG, HO.lst (gs.map V.str)), (lT, HO.lst (ts.map V.str)), (lL, HO.lst (ls.map vI))] := List.mem_append_right _ (List.mem_cons_of_mem _ (List.mem_cons_of_mem _ List.mem_cons_self))
      have mT : (lT, HO.lst (ts.map V.str)) ∈ tolF us ++ [(lG, HO.lst (gs.map V.str)), (lT, HO.lst (ts.map V.str)), (lL, HO.lst (ls.map vI))] := List.mem_append_right _ (List.mem_cons_of_mem _ List.mem_cons_self)
      have h3 := len3 i hi
      dsimp only [gName]
      rw [Int.zero_add]
      refine ⟨_, rfl, _, rfl, _, rfl, lL, _, rfl, SqL.of (b7.at mL), fun p1 np1 => ?_⟩
      have b8 := b7.new (o := .lst (cutV (ls.map vI) none (some (i : Int)))) np1
      refine ⟨p1, (ls.take i).map (fun (k : Nat) => (k : Int)), rfl, ?_, ?_⟩
      · exact SqL.of ((b8.at List.mem_cons_self).trans (by rw [cutV_tak, ← List.map_take, vI_int]))
      rw [isum, ← offL i (by omega)]
      replace b8 := b8.sub (F' := tolF us ++ [(lG, .lst (gs.map V.str)), (lT, .lst (ts.map V.str)), (lL, .lst (ls.map vI))]) fun p hp => List.mem_cons_of_mem _ hp
      refine ⟨_, _, _, rfl, ?_⟩
      dsimp only
      have hoff : off len i + len i ≤ ts.length := by
        rw [tl, ← off_succ]
        exact off_mono len (by omega)
      have eL : atI (ls.map vI) (i : Int) = some (.int (len i : Nat)) := by
        rw [← hlen]
        exact atI_vI (by omega)
      refine ⟨_, rfl, _, rfl, _, rfl, _, rfl, _, rfl, _, rfl, lL, _, _, _, rfl, rfl, SqL.of (b8.at mL), eL, _, _, rfl, rfl, _, rfl, lT, _, rfl, SqL.of (b8.at mT), fun lw nw => ?_⟩
      have ew : cutV (ts.map V.str) (some ((off len i : Nat) : Int)) (some (((off len i : Nat) : Int) + ((len i : Nat) : Int))) = ((List.range (len i)).map (nmT ts len i)).map V.str := by
        rw [show ((off len i : Nat) : Int) + ((len i : Nat) : Int) = ((off len i + len i : Nat) : Int) by omega, cutV_mid _ (by omega) (by rw [List.length_map]; exact hoff), Nat.add_sub_cancel_left, ← nmT_own tl hi, List.map_take, List.map_drop]
      dsimp only [gName]
      rw [ew]
      have b9 := b8.new (o := .lst (((List.range (len i)).map (nmT ts len i)).map V.str)) nw
      refine ⟨(by show 1 ≤ sizeLine; decide), fun px npx => ?_⟩
      have b10 := b9.new (o := .lst [.str "x"]) npx
      refine ⟨_, rfl, lw, _, rfl, .inl (SqL.of (b10.at (List.mem_cons_of_mem _ List.mem_cons_self))), ?_⟩
      rw [List.length_map, List.length_map, List.length_range]
      refine ⟨_, _, rfl, rfl, ?_⟩
      dsimp only
      rw [show ((len i : Nat) : Int) - 1 = ((len i - 1 : Nat) : Int) by omega]
      refine ⟨((len i - 1 : Nat) : Int), rfl, by omega, by omega, fun D nD => lc_to (xs := rgL (len i - 1)) (((List.range (len i - 1)).map (stopN i)).map V.str) (by rw [rgL_len, List.length_map, List.length_map, List.length_range]) walk_rgL nD (by rw [rgL_len]; omega) (fun _ _ => True.intro) (fun _ => rfl) (fun j v y hv hy H6 s6 R' kR => ?_) fun H6 s6 hD => ?_⟩
      · obtain ⟨rfl, hj⟩ := rgL_get hv
        have ey : y = .str (stopN i j) := by
          rw [List.getElem?_map, List.getElem?_map, List.getElem?_range hj] at hy
          exact (Option.some.inj hy).symm
        have z1 := nS_len (i := i) (by omega)
        have z2 := nS_len (i := j) (by omega)
        have z3 : Str.length "s" = 1 := by decide +kernel
        have big : ∀ q : Nat, q < 16 → ((q : Int)).natAbs.log2 < 1920 := fun q hq => by
          have z := PySem.Flt.log2_lt_of (n := ((q : Int)).natAbs) (k := 200) (by decide) (by omega)
          omega
        refine ⟨_, rfl, _, rfl, big i (by omega), _, _, rfl, rfl, ?_, _, rfl, _, rfl, big j (by omega), _, _, rfl, rfl, ?_, ?_⟩
        · exact szn (show Str.length "s" + (nS i).length ≤ 1000 by omega)
        · refine szn (show (("s" : Str) ++ nS i).length + (nS j).length ≤ 1000 from ?_)
          rw [sl_app]
          omega
        · have := kR H6 (Same.refl H6)
          rwa [ey] at this
      have b11 := b10.same s6
      -- the places
      refine ⟨px, D, _, _, rfl, rfl, b11.at List.mem_cons_self, hD, ?_, fun pc npc => ?_⟩
      · rw [List.length_map, List.length_map, List.length_range]
        exact szn (show 1 + (len i - 1) ≤ 1000 by omega)
      have b12 := b11.new (o := .lst ([V.str "x"] ++ ((List.range (len i - 1)).map (stopN i)).map V.str)) npc
      refine ⟨(by show 1 ≤ sizeLine; decide), fun py npy => ?_⟩
      have b13 := b12.new (o := .lst [.str "y"]) npy
      refine ⟨pc, py, _, _, rfl, rfl, b13.at (List.mem_cons_of_mem _ List.mem_cons_self), b13.at List.mem_cons_self, ?_, fun lst nst => ?_⟩
      · rw [List.length_append, List.length_map, List.length_map, List.length_range]
        exact szn (show 1 + (len i - 1) + 1 ≤ 1000 by omega)
      have b14 := (b13.new (o := .lst ([V.str "x"] ++ ((List.range (len i - 1)).map (stopN i)).map V.str ++ [V.str "y"])) nst).sub (F' := (lst, .lst ([V.str "x"] ++ ((List.range (len i - 1)).map (stopN i)).map V.str ++ [V.str "y"])) :: (lw, .lst (((List.range (len i)).map (nmT ts len i)).map V.str)) :: (tolF us ++ [(lG, .lst (gs.map V.str)), (lT, .lst (ts.map V.str)), (lL, .lst (ls.map vI))])) fun p hp => by
        rcases List.mem_cons.mp hp with z | z
        · exact List.mem_cons.mpr (.inl z)
        · exact List.mem_cons_of_mem _ (List.mem_cons_of_mem _ (List.mem_cons_of_mem _ (List.mem_cons_of_mem _ z)))
      have stp : ∀ t, t ≤ len i → atI ([V.str "x"] ++ ((List.range (len i - 1)).map (stopN i)).map V.str ++ [V.str "y"]) (t : Int) = some (V.str (nodeN len i t)) := fun t ht => atI_nat (stops_at h3.1 ht)
      revert b14 stp
      generalize [V.str "x"] ++ ((List.range (len i - 1)).map (stopN i)).map V.str ++ [V.str "y"] = zs
      intro b14 stp
      dsimp only [gName]
      -- the pipes of this road
      refine ⟨_, rfl, lw, _, rfl, .inl (SqL.of (b14.at (List.mem_cons_of_mem _ List.mem_cons_self))), ?_⟩
      rw [List.length_map, List.length_map, List.length_range]
      refine ⟨len i, rfl, by omega, by omega, for_range (lo := 0) (n := len i) (fun k σ H' => ∃ (ps : List P3) (ms : List M3) (ct : Nat → Nat) (sh : Nat → Bool) (left : Nat) (o15 o16 o17 o18 o19 : Option V), σ = [some (.ref a), some (.int R), some (.ref lL), some (.ref lT), some (.ref lG), some (.ref lN), some (.ref lM), some (.ref lO), some (.int (left : Int)), some (.int (i : Int)), some (.int ((off len i : Nat) : Int)), some (.int ((ct i : Nat) : Int)), some (.bl (sh i)), some (.ref lw), some (.ref lst), o15, o16, o17, o18, o19] ∧
        Laid R len ts gs l0 (fun j t => (j < i ∧ t < len j) ∨ (j = i ∧ t < k)) ps ms ct sh ∧ left + ms.length = l0 ∧ (∀ j, i + 1 ≤ j → ct j = 0 ∧ sh j = false) ∧ us.map (·.2.2) = tellL (nmT ts len) len ct sh i ∧
        Bag H a (n + 500 + 300 * i + 50 * k) [(lO, .lst (rf us)), (lM, .lst ((ms.map mline).map V.str)), (lN, .lst ((ps.map pline).map V.str))] ((lst, .lst zs) :: (lw, .lst (((List.range (len i)).map (nmT ts len i)).map V.str)) :: (tolF us ++ [(lG, .lst (gs.map V.str)), (lT, .lst (ts.map V.str)), (lL, .lst (ls.map vI))])) H') ?_ ?_ ?_⟩
      · obtain ⟨z1, z2⟩ := hz i (Nat.le_refl i)
        exact ⟨ps, ms, ct, sh, left, _, _, _, _, _, by rw [z1, z2]; rfl, La.is fun j t => ⟨fun h => h.elim id fun h => absurd h.2 (by omega), .inl⟩, hle, fun j hj => hz j (by omega), hu, b14⟩
      · clear La hle hz hu b7 b8 b9 b10 b11 b12 b13 b14
        rintro k' σ H7 hk ⟨ps, ms, ct, sh, left, o15, o16, o17, o18, o19, rfl, La, hle, hz, hu, b15⟩
        dsimp only [gName]
        rw [Int.zero_add]
        have own : atI (((List.range (len i)).map (nmT ts len i)).map V.str) (k' : Int) = some (V.str (nmT ts len i k')) := atI_nat (by rw [List.getElem?_map, List.getElem?_map, List.getElem?_range hk]; rfl)
        have st1 : atI zs (k' : Int) = some (V.str (nodeN len i k')) := stp k' (by omega)
        have st2 : atI zs ((k' : Int) + 1) = some (V.str (nodeN len i (k' + 1))) := stp (k' + 1) (by omega)
        have mS : (lst, HO.lst zs) ∈ ((lst, HO.lst zs) :: (lw, HO.lst (((List.range (len i)).map (nmT ts len i)).map V.str)) :: (tolF us ++ [(lG, HO.lst (gs.map V.str)), (lT, HO.lst (ts.map V.str)), (lL, HO.lst (ls.map vI))])) := List.mem_cons_self
        have mW : (lw, HO.lst (((List.range (len i)).map (nmT ts len i)).map V.str)) ∈ ((lst, HO.lst zs) :: (lw, HO.lst (((List.range (len i)).map (nmT ts len i)).map V.str)) :: (tolF us ++ [(lG, HO.lst (gs.map V.str)), (lT, HO.lst (ts.map V.str)), (lL, HO.lst (ls.map vI))])) := List.mem_cons_of_mem _ List.mem_cons_self
        refine ⟨_, rfl, _, rfl, lst, _, _, _, rfl, rfl, SqL.of (b15.at mS), st1, _, rfl, _, rfl, _, _, rfl, rfl, lst, _, _, _, rfl, rfl, SqL.of (b15.at mS), st2, (by show 2 ≤ sizeLine; decide), fun e1 ne1 => ?_⟩
        have b16 := b15.new (o := .lst [.str (nodeN len i k'), .str (nodeN len i (k' + 1))]) ne1
        dsimp only [gName]
        refine seq_of (fun σ' H' => ∃ (e : Addr) (x y : Str), σ' = [some (.ref a), some (.int R), some (.ref lL), some (.ref lT), some (.ref lG), some (.ref lN), some (.ref lM), some (.ref lO), some (.int (left : Int)), some (.int (i : Int)), some (.int ((off len i : Nat) : Int)), some (.int ((ct i : Nat) : Int)), some (.bl (sh i)), some (.ref lw), some (.ref lst), some (.int (k' : Int)), some (.ref e), o17, o18, o19] ∧ ((x = nodeN len i k' ∧ y = nodeN len i (k' + 1)) ∨ (x = nodeN len i (k' + 1) ∧ y = nodeN len i k')) ∧
          Bag H a (n + 500 + 300 * i + 50 * k' + 1) [(lO, .lst (rf us)), (lM, .lst ((ms.map mline).map V.str)), (lN, .lst ((ps.map pline).map V.str))] ((e, .lst [.str x, .str y]) :: ((lst, .lst zs) :: (lw, .lst (((List.range (len i)).map (nmT ts len i)).map V.str)) :: (tolF us ++ [(lG, .lst (gs.map V.str)), (lT, .lst (ts.map V.str)), (lL, .lst (ls.map vI))]))) H') ?rest1 (fun N hN => ?main1)
        case main1 =>
          refine ⟨_, rfl, b16.dip (by omega) (by decide) (by decide) fun r H8 _ _ b17 => ⟨rfl, _, rfl, ite2 (fun _ => ?_) fun _ => ?_⟩⟩
          · exact ⟨_, rfl, hN _ _ ⟨e1, _, _, rfl, .inl ⟨rfl, rfl⟩, b17⟩⟩
          · refine ⟨_, rfl, e1, _, _, _, rfl, rfl, SqL.of (b17.at List.mem_cons_self), rfl, _, rfl, e1, _, _, _, rfl, rfl, SqL.of (b17.at List.mem_cons_self), rfl, (by show 2 ≤ sizeLine; decide), fun e2 ne2 => hN _ _ ⟨e2, _, _, rfl, .inr ⟨rfl, rfl⟩, ?_⟩⟩
            refine (b17.new ne2).sub fun p hp => ?_
            rcases List.mem_cons.mp hp with z | z
            · exact List.mem_cons.mpr (.inl z)
            · exact List.mem_cons_of_mem _ (List.mem_cons_of_mem _ z)
        rintro σ1 H8 ⟨e, x, y, rfl, hxy, b17⟩
        -- the line
        have plen := La.plen KK
        have eN := b17.am (p := lN) (List.mem_cons_of_mem _ (List.mem_cons_of_mem _ List.mem_cons_self))
        have ee := b17.at List.mem_cons_self
        have l1 := nm8 (nmT_nm tl tm hi hk)
        have l2 : 1 ≤ x.length ∧ x.length ≤ 8 ∧ 1 ≤ y.length ∧ y.length ≤ 8 := by
          have q1 := nm8 (node_nm (R := R) R4 (fun j hj => (len3 j hj).2) hi (show k' ≤ len i by omega))
          have q2 := nm8 (node_nm (R := R) R4 (fun j hj => (len3 j hj).2) hi (show k' + 1 ≤ len i by omega))
          rcases hxy with ⟨rfl, rfl⟩ | ⟨rfl, rfl⟩ <;> exact ⟨by omega, by omega, by omega, by omega⟩
        have ep1 : Str.length " " = 1 := by decide +kernel
        have ep5 : Str.length "pipe " = 5 := by decide +kernel
        have ep6 : Str.length "meter " = 6 := by decide +kernel
        have plm : ((ps.map pline).map V.str).length = ps.length := by rw [List.length_map, List.length_map]
        refine ⟨_, rfl, .inl ⟨rfl, _, SqL.of eN⟩, _, rfl, _, rfl, lN, _, rfl, .inl (SqL.of eN), _, _, rfl, rfl, b17.dip (by omega) (by rw [plm]; omega) (by rw [plm]; omega) fun r H9 r0 r1 b18 => ?_⟩
        obtain ⟨q, rfl⟩ := Int.eq_ofNat_of_zero_le r0
        have mW9 := b18.at (p := lw) (List.mem_cons_of_mem _ mW)
        have ee9 := b18.at List.mem_cons_self
        refine ⟨_, rfl, _, rfl, lw, _, _, _, rfl, rfl, SqL.of mW9, own, _, _, rfl, rfl, ?_, _, _, rfl, rfl, ?_, _, rfl, e, _, 0, .str x, rfl, rfl, SqL.of ee9, rfl, _, _, rfl, rfl, ?_, _, _, rfl, rfl, ?_, _, rfl, e, _, 1, .str y, rfl, rfl, SqL.of ee9, rfl, _, _, rfl, rfl, ?_, ?_⟩
        · rw [ep5]; exact szn (by omega)
        · rw [sl_app, ep5, ep1]; exact szn (by omega)
        · rw [sl_app, sl_app, ep5, ep1]; exact szn (by omega)
        · rw [sl_app, sl_app, sl_app, ep5, ep1]; exact szn (by omega)
        · rw [sl_app, sl_app, sl_app, sl_app, ep5, ep1]; exact szn (by omega)
        rw [pline_app2]
        refine ⟨lN, _, _, _, rfl, rfl, b18.am (List.mem_cons_of_mem _ (List.mem_cons_of_mem _ List.mem_cons_self)), by rw [plm]; exact Nat.lt_of_le_of_lt plen (by decide), by omega, by rw [plm] at r1; omega, ?_⟩
        rw [Int.toNat_natCast]
        have La2 := La.pipe KK (i := q) (J := i) (U := k') (p := (nmT ts len i k', x, y)) hi hk (fun h => by omega) rfl hxy (done' := fun j t => (j < i ∧ t < len j) ∨ (j = i ∧ t < k' + 1)) (fun j t => by omega)
        have b19 := b18.put (i := 2) rfl (o' := .lst (((ps.map pline).map V.str).take q ++ [.str (pline (nmT ts len i k', x, y))] ++ ((ps.map pline).map V.str).drop q))
        have en : ((ps.map pline).map V.str).take q ++ [V.str (pline (nmT ts len i k', x, y))] ++ ((ps.map pline).map V.str).drop q = ((ps.take q ++ (nmT ts len i k', x, y) :: ps.drop q).map pline).map V.str := by
          simp [List.map_append, List.map_take, List.map_drop]
        rw [en] at b19 ⊢
        revert La2 b19
        generalize ps.take q ++ (nmT ts len i k', x, y) :: ps.drop q = ps2
        intro La2 b19
        replace b19 : Bag H a (n + 500 + 300 * i + 50 * k' + 2) [(lO, .lst (rf us)), (lM, .lst ((ms.map mline).map V.str)), (lN, .lst ((ps2.map pline).map V.str))] ((e, .lst [.str x, .str y]) :: ((lst, .lst zs) :: (lw, .lst (((List.range (len i)).map (nmT ts len i)).map V.str)) :: (tolF us ++ [(lG, .lst (gs.map V.str)), (lT, .lst (ts.map V.str)), (lL, .lst (ls.map vI))]))) _ := b19
        revert b19
        generalize upd H9 lN _ = H10
        intro b19
        clear La b18 b17 en plm eN ee mW9 ee9
        -- how many meters
        refine ⟨_, rfl, _, rfl, b19.dip (by omega) (by decide) (by decide) fun r H11 r0 r1 b20 => ?_⟩
        refine ⟨_, _, rfl, ?_⟩
        obtain ⟨more, hm⟩ : ∃ more : Nat, (if r < (left : Int) then r else (left : Int)) = (more : Int) := Int.eq_ofNat_of_zero_le (by split <;> omega)
        have hml : more ≤ left ∧ more ≤ 3 := by
          split at hm <;> omega
        rw [hm]
        dsimp only [gName]
        refine ⟨_, rfl, more, rfl, by omega, by omega, ?_⟩
        have hl0 := La2.ml
        generalize hc0 : ct i = c0
        refine for_range (lo := 0) (n := more) (fun j σ H' => ∃ (ms' : List M3) (ct' : Nat → Nat) (sh' : Nat → Bool) (o18 o19 : Option V), σ = [some (.ref a), some (.int R), some (.ref lL), some (.ref lT), some (.ref lG), some (.ref lN), some (.ref lM), some (.ref lO), some (.int (left : Int)), some (.int (i : Int)), some (.int ((off len i : Nat) : Int)), some (.int ((c0 : Nat) : Int)), some (.bl (sh' i)), some (.ref lw), some (.ref lst), some (.int (k' : Int)), some (.ref e), some (.int (more : Int)), o18, o19] ∧
          Laid R len ts gs l0 (fun j t => (j < i ∧ t < len j) ∨ (j = i ∧ t < k' + 1)) ps2 ms' ct' sh' ∧ left + ms'.length = l0 + j ∧ ct' i = c0 + j ∧ (∀ j, i + 1 ≤ j → ct' j = 0 ∧ sh' j = false) ∧ us.map (·.2.2) = tellL (nmT ts len) len ct' sh' i ∧
          Bag H a (n + 500 + 300 * i + 50 * k' + 3 + j) [(lO, .lst (rf us)), (lM, .lst ((ms'.map mline).map V.str)), (lN, .lst ((ps2.map pline).map V.str))] ((e, .lst [.str x, .str y]) :: ((lst, .lst zs) :: (lw, .lst (((List.range (len i)).map (nmT ts len i)).map V.str)) :: (tolF us ++ [(lG, .lst (gs.map V.str)), (lT, .lst (ts.map V.str)), (lL, .lst (ls.map vI))]))) H') ?_ ?_ ?_
        · exact ⟨ms, ct, sh, _, _, rfl, La2, hle, hc0, hz, hu, b20⟩
        · clear La2 hle hz hu b20 b19 b15 b16 hc0 hl0
          rintro j σ H12 hj ⟨ms', ct', sh', o18, o19, rfl, La3, hle, hct, hz, hu, b21⟩
          dsimp only [gName]
          rw [Int.zero_add]
          refine ⟨_, rfl, b21.dip (by omega) (by decide) (by decide) fun r H13 _ _ b22 => ⟨rfl, ?_⟩⟩
          generalize decide (V.int r = V.int 0) = sl1
          dsimp only [gName]
          refine seq_of (fun σ' H' => σ' = [some (.ref a), some (.int R), some (.ref lL), some (.ref lT), some (.ref lG), some (.ref lN), some (.ref lM), some (.ref lO), some (.int (left : Int)), some (.int (i : Int)), some (.int ((off len i : Nat) : Int)), some (.int ((c0 : Nat) : Int)), some (.bl (sh' i || sl1)), some (.ref lw), some (.ref lst), some (.int (k' : Int)), some (.ref e), some (.int (more : Int)), some (.int (j : Int)), some (.bl sl1)] ∧ H' = H13) ?rest2 (fun N hN => ?main2)
          case main2 =>
            refine ⟨_, rfl, sh' i, rfl, ?_⟩
            cases hs : sh' i with
            | true => exact iteT (hN _ _ ⟨by rw [hs]; rfl, rfl⟩)
            | false => exact iteF ⟨_, rfl, hN _ _ ⟨by rw [hs]; rfl, rfl⟩⟩
          rintro σ2 H14 ⟨rfl, e14⟩
          rw [e14]
          clear e14 H14
          have mlt : ms'.length < l0 := by omega
          have gat : atI (gs.map V.str) ((left : Int) - 1 - (j : Int)) = some (V.str (gs.getD (l0 - 1 - ms'.length) "")) := by
            rw [show (left : Int) - 1 - (j : Int) = ((l0 - 1 - ms'.length : Nat) : Int) by omega]
            have lt : l0 - 1 - ms'.length < gs.length := by
              have := KK.l0
              omega
            exact atI_nat (by rw [List.getElem?_map, List.getElem?_eq_getElem lt, getD_lt lt]; rfl)
          have gnm : IsNm (gs.getD (l0 - 1 - ms'.length) "") := by
            have lt : l0 - 1 - ms'.length < gs.length := by
              have := KK.l0
              omega
            rw [getD_lt lt]
            exact gm _ (List.getElem_mem lt)
          have La4 := La3.meter KK (b := sl1) (show (fun j t => (j < i ∧ t < len j) ∨ (j = i ∧ t < k' + 1)) i k' from .inr ⟨rfl, by omega⟩) mlt
          revert gat gnm La4
          generalize gs.getD (l0 - 1 - ms'.length) "" = g
          intro gat gnm La4
          have lg := nm8 gnm
          have eM := b22.am (p := lM) (List.mem_cons_of_mem _ List.mem_cons_self)
          have mW9 := b22.at (p := lw) (List.mem_cons_of_mem _ mW)
          have mG9 := b22.at (p := lG) (o := .lst (gs.map V.str)) (List.mem_cons_of_mem _ (List.mem_cons_of_mem _ (List.mem_cons_of_mem _ (List.mem_append_right _ List.mem_cons_self))))
          refine ⟨_, rfl, .inl ⟨rfl, _, SqL.of eM⟩, _, rfl, _, rfl, _, _, rfl, rfl, _, rfl, _, _, rfl, rfl, lG, _, _, _, rfl, rfl, SqL.of mG9, gat, _, _, rfl, rfl, ?_, _, _, rfl, rfl, ?_, _, rfl, _, rfl, lw, _, _, _, rfl, rfl, SqL.of mW9, own, _, _, rfl, rfl, ?_, _, rfl, sl1, rfl, ?_⟩
          · rw [ep6]; exact szn (by omega)
          · rw [sl_app, ep6, ep1]; exact szn (by omega)
          · rw [sl_app, sl_app, ep6, ep1]; exact szn (by omega)
          have ez0 : Str.length "" = 0 := by decide +kernel
          have ez7 : Str.length " sealed" = 7 := by decide +kernel
          have ed := mline_app (g, nmT ts len i k', sl1)
          dsimp only at ed
          have fin : ∀ {N : L2.St → Hp → Prop}, (∀ (ms'' : List M3) (ct'' : Nat → Nat) (sh'' : Nat → Bool) H', sh'' i = (sh' i || sl1) → Laid R len ts gs l0 (fun j t => (j < i ∧ t < len j) ∨ (j = i ∧ t < k' + 1)) ps2 ms'' ct'' sh'' → left + ms''.length = l0 + (j + 1) → ct'' i = c0 + (j + 1) → (∀ j, i + 1 ≤ j → ct'' j = 0 ∧ sh'' j = false) → us.map (·.2.2) = tellL (nmT ts len) len ct'' sh'' i →
              Bag H a (n + 500 + 300 * i + 50 * k' + 3 + (j + 1)) [(lO, .lst (rf us)), (lM, .lst ((ms''.map mline).map V.str)), (lN, .lst ((ps2.map pline).map V.str))] ((e, .lst [.str x, .str y]) :: ((lst, .lst zs) :: (lw, .lst (((List.range (len i)).map (nmT ts len i)).map V.str)) :: (tolF us ++ [(lG, .lst (gs.map V.str)), (lT, .lst (ts.map V.str)), (lL, .lst (ls.map vI))]))) H' → N [some (.ref a), some (.int R), some (.ref lL), some (.ref lT), some (.ref lG), some (.ref lN), some (.ref lM), some (.ref lO), some (.int (left : Int)), some (.int (i : Int)), some (.int ((off len i : Nat) : Int)), some (.int ((c0 : Nat) : Int)), some (.bl (sh'' i)), some (.ref lw), some (.ref lst), some (.int (k' : Int)), some (.ref e), some (.int (more : Int)), some (.int (j : Int)), some (.bl sl1)] H') → N [some (.ref a), some (.int R), some (.ref lL), some (.ref lT), some (.ref lG), some (.ref lN), some (.ref lM), some (.ref lO), some (.int (left : Int)), some (.int (i : Int)), some (.int ((off len i : Nat) : Int)), some (.int ((c0 : Nat) : Int)), some (.bl (sh' i || sl1)), some (.ref lw), some (.ref lst), some (.int (k' : Int)), some (.ref e), some (.int (more : Int)), some (.int (j : Int)), some (.bl sl1)] (upd H13 lM (.lst ((ms'.map mline).map V.str ++ [.str (mline (g, nmT ts len i k', sl1))]))) := fun {N} kN => by
            have := kN (ms' ++ [(g, nmT ts len i k', sl1)]) (fun k => if k = i then ct' k + 1 else ct' k) (fun k => if k = i then sh' k || sl1 else sh' k) (upd H13 lM (.lst ((ms'.map mline).map V.str ++ [.str (mline (g, nmT ts len i k', sl1))]))) (if_pos rfl) La4 (by rw [List.length_append, List.length_singleton]; omega) (by rw [if_pos rfl]; omega) (fun j hj => by rw [if_neg (by omega), if_neg (by omega)]; exact hz j hj) (hu.trans (tellL_congr fun j hj => by rw [if_neg (by omega), if_neg (by omega)]; exact ⟨rfl, rfl⟩)) ?_
            · rwa [if_pos rfl] at this
            · have := (b22.put (i := 1) rfl (o' := .lst ((ms'.map mline).map V.str ++ [.str (mline (g, nmT ts len i k', sl1))]))).wm (m := n + 500 + 300 * i + 50 * k' + 3 + (j + 1)) (by omega)
              rw [List.map_append, List.map_append]
              exact this
          cases sl1
          refine iteF ?_
          rotate_left
          refine iteT ?_
          all_goals
            refine ⟨_, _, rfl, rfl, ?_, ?_⟩
            · rw [sl_app, sl_app, sl_app, ep6, ep1]; first | rw [ez0] | rw [ez7]
              exact szn (by omega)
            refine ⟨lM, _, _, rfl, rfl, eM, ?_, ?_⟩
            · rw [List.length_map, List.length_map]
              have := KK.l0
              exact Nat.lt_of_le_of_lt (show _ ≤ 30 by omega) (by decide)
            have et := fin (N := fun σ H' => ∃ (ms' : List M3) (ct' : Nat → Nat) (sh' : Nat → Bool) (o18 o19 : Option V), σ = [some (.ref a), some (.int R), some (.ref lL), some (.ref lT), some (.ref lG), some (.ref lN), some (.ref lM), some (.ref lO), some (.int (left : Int)), some (.int (i : Int)), some (.int ((off len i : Nat) : Int)), some (.int ((c0 : Nat) : Int)), some (.bl (sh' i)), some (.ref lw), some (.ref lst), some (.int (k' : Int)), some (.ref e), some (.int (more : Int)), o18, o19] ∧
              Laid R len ts gs l0 (fun j t => (j < i ∧ t < len j) ∨ (j = i ∧ t < k' + 1)) ps2 ms' ct' sh' ∧ left + ms'.length = l0 + (j + 1) ∧ ct' i = c0 + (j + 1) ∧ (∀ j, i + 1 ≤ j → ct' j = 0 ∧ sh' j = false) ∧ us.map (·.2.2) = tellL (nmT ts len) len ct' sh' i ∧
              Bag H a (n + 500 + 300 * i + 50 * k' + 3 + (j + 1)) [(lO, .lst (rf us)), (lM, .lst ((ms'.map mline).map V.str)), (lN, .lst ((ps2.map pline).map V.str))] ((e, .lst [.str x, .str y]) :: ((lst, .lst zs) :: (lw, .lst (((List.range (len i)).map (nmT ts len i)).map V.str)) :: (tolF us ++ [(lG, .lst (gs.map V.str)), (lT, .lst (ts.map V.str)), (lL, .lst (ls.map vI))]))) H') fun ms'' ct'' sh'' H' e1 e2 e3 e4 e5 e6 e7 => ⟨ms'', ct'', sh'', _, _, rfl, e2, e3, e4, e5, e6, e7⟩
            rw [← ed] at et
            exact et
        · rintro σ H12 ⟨ms', ct', sh', o18, o19, rfl, La3, hle, hct, hz, hu, b21⟩
          refine ⟨_, rfl, _, rfl, _, _, rfl, rfl, _, rfl, _, rfl, _, _, rfl, rfl, _, _, rfl, ps2, ms', ct', sh', left - more, some (.int (k' : Int)), some (.ref e), some (.int (more : Int)), o18, o19, ?_, La3, by omega, hz, hu, (b21.wm (m := n + 500 + 300 * i + 50 * (k' + 1)) (by omega)).sub fun p hp => List.mem_cons_of_mem _ hp⟩
          rw [show ((left - more : Nat) : Int) = (left : Int) - (more : Int) by omega, show ((ct' i : Nat) : Int) = (c0 : Int) + (more : Int) by omega]
          rfl
      · rintro σ H7 ⟨ps, ms, ct, sh, left, o15, o16, o17, o18, o19, rfl, La, hle, hz, hu, b15⟩
        have eO := b15.am (p := lO) List.mem_cons_self
        have ul : us.length = i := by
          have := congrArg List.length hu
          simpa [tellL] using this
        refine ⟨_, rfl, .inl ⟨rfl, _, SqL.of eO⟩, _, rfl, _, rfl, _, rfl, (by show 3 ≤ sizeLine; decide), fun u nu => ?_⟩
        have b16 := b15.new (o := .lst [.ref lw, .int ((ct i : Nat) : Int), .bl (sh i)]) nu
        refine ⟨lO, _, _, rfl, rfl, b16.am List.mem_cons_self, ?_, ps, ms, ct, sh, us ++ [(u, lw, (List.range (len i)).map (nmT ts len i), ct i, sh i)], left, _, _, _, _, _, _, _, _, _, _, _, rfl, La.is fun j t => ?_, hle, hz, ?_, ?_⟩
        · rw [rf_len, ul]
          exact Nat.lt_of_lt_of_le (show i < 20 by omega) (by decide)
        · constructor
          · rintro ⟨h1, h2⟩
            rcases Nat.lt_or_ge j i with l | l
            · exact .inl ⟨l, h2⟩
            · obtain rfl : j = i := by omega
              exact .inr ⟨rfl, h2⟩
          · rintro (⟨h1, h2⟩ | ⟨rfl, h2⟩)
            · exact ⟨by omega, h2⟩
            · exact ⟨by omega, h2⟩
        · rw [List.map_append, hu, tellL_succ]
          rfl
        · have e1 : rf (us ++ [(u, lw, (List.range (len i)).map (nmT ts len i), ct i, sh i)]) = rf us ++ [.ref u] := by rw [rf, List.map_append]; rfl
          rw [e1]
          refine ((b16.put0 (o' := .lst (rf us ++ [.ref u]))).wm (m := n + 500 + 300 * (i + 1)) (by omega)).sub fun p hp => ?_
          rcases tolF_put p hp with z | z | z
          · exact List.mem_cons.mpr (.inl z)
          · exact List.mem_cons_of_mem _ (List.mem_cons_of_mem _ (List.mem_cons.mpr (.inl z)))
          · exact List.mem_cons_of_mem _ (List.mem_cons_of_mem _ (List.mem_cons_of_mem _ z))
    · rintro σ H5 ⟨ps, ms, ct, sh, us, left, o9, o10, o11, o12, o13, o14, o15, o16, o17, o18, o19, rfl, La, hle, hz, hu, b7⟩
      have eN := b7.am (p := lN) (List.mem_cons_of_mem _ (List.mem_cons_of_mem _ List.mem_cons_self))
      have eM := b7.am (p := lM) (List.mem_cons_of_mem _ List.mem_cons_self)
      have po := La.po KK
      have mo := La.mok KK
      have h4 := po.ln
      have h5 := mo.ln
      refine ⟨_, rfl, rfl, _, rfl, _, rfl, lN, lM, _, _, rfl, rfl, eN, eM, ?_, fun pc npc => ?_⟩
      · rw [List.length_map, List.length_map, List.length_map, List.length_map]
        exact szn (by omega)
      have b8 := b7.new (o := .lst ((ps.map pline).map V.str ++ (ms.map mline).map V.str)) npc
      have en : (ps.map pline).map V.str ++ (ms.map mline).map V.str = (netL ps ms).map V.str := by rw [netL, List.map_append]
      rw [en] at b8 ⊢
      have pn : PNm ps := fun p hp => ⟨(po.nm p hp).1, (po.nm p hp).2.1, (po.nm p hp).2.2.1⟩
      have mn : MNm ms := fun p hp => mo.nm p hp
      have h1 := netL_sum pn mn
      have h2 : (netL ps ms).length = ps.length + ms.length := by rw [netL, List.length_append, List.length_map, List.length_map]
      have h3 : Str.length "\n" = 1 := by decide +kernel
      refine ⟨_, pc, netL ps ms, rfl, rfl, .inl (SqL.of (b8.at List.mem_cons_self)), ?_, (by show 2 ≤ sizeLine; decide), fun l nl => ?_⟩
      · rw [h3]
        omega
      have b9 := (b8.new (o := .lst [.ref lO, .str (netT ps ms)]) nl)
      have b10 : Bag H a (n + 2000) [(lO, .lst (rf us))] ((l, .lst [.ref lO, .str (netT ps ms)]) :: tolF us) _ := ⟨b9.gr, b9.well.mono (by omega), fun p hp => b9.m p (by rw [List.mem_singleton.mp hp]; exact List.mem_cons_self), List.nodup_cons.mpr ⟨(fun h => nomatch h), .nil⟩, fun q hq => by
        have := b9.f q (by
          rcases List.mem_cons.mp hq with z | z
          · exact List.mem_cons.mpr (.inl z)
          · exact List.mem_cons_of_mem _ (List.mem_cons_of_mem _ (List.mem_append_left _ z)))
        exact ⟨this.1, this.2.1, fun p hp => this.2.2 p (by rw [List.mem_singleton.mp hp]; exact List.mem_cons_self)⟩⟩
      exact k l lO us len ts gs l0 ps ms ct sh _ KK La hu (b10.frz.sub fun p hp => by
        rcases List.mem_cons.mp hp with z | z
        · exact List.mem_cons_of_mem _ (List.mem_cons.mpr (.inl z))
        · rcases List.mem_cons.mp z with z | z
          · exact List.mem_cons.mpr (.inl z)
          · exact List.mem_cons_of_mem _ (List.mem_cons_of_mem _ z))
end
end RV
/-! k24: the law, from what _law_right does. -/
namespace RV
open PySem L2
/-- a law's own look from its first draw on: True, whatever is drawn -/
def sp_right24 : Sp := fun vs H Q _ => ∃ (a : Addr) (n : Nat), vs = [.ref a] ∧ WellAt H a n ∧ n ≤ 100 ∧ ∀ H', Grow a H H' → Q (.bl true) H'
section
variable {P : Program} {w : World} {K : PySem.W.Frag} {mg : Str → Option Value} {base : Heap}
theorem ok_law {f : Addr} {fd : FuncData} (F : Fun K "law" "law" s_law f fd) (T : Blt mg)
    (h_well : Fn P w K mg base "_law_well" 1 ["_law_script", "_law_k"] (sp_well K)) (h_right : FnGd P w K mg base "_law_right" 9 ["_law_well_here"] sp_right24) : FnG P w K mg base 10 f fd ["_law_script"] (spLaw K) := by
  refine gFun F sc_law (fun vs H Q E h => ?_) (fun cdv A outer s H vs Q E gs hr h => ?_)
  · obtain ⟨_, _, rfl, _⟩ := h
    rfl
  · obtain ⟨c, ns, rfl, hS, hl, k⟩ := h
    refine ⟨_, (pss_cons (ps_for PassesOwn.never rfl (pi_range1 rfl T.b_range (pa_cons (pe_callB (call_max2 rfl) (by rfl) T.b_max (by decide +kernel) (pa_cons pe_int (pa_cons (pe_callB (call_min2 rfl) (by rfl) T.b_min (by decide +kernel) (pa_cons (pe_callB call_len_seq (by rfl) T.b_len (by decide +kernel) (pa_cons (pv 0) pa_nil)) (pa_cons pe_int pa_nil))) pa_nil))) pa_nil)) (pg_name (i := 1) sc_law.nd rfl (Or.inl rfl)) (pss_one (ps_if (pt_not (pt_val (pe_fnG h_right gs (hr.mono (by decide)) (pa_cons (pe_fn h_well (hr.mono (by decide)) (pa_cons (pv 0) (pa_cons (pv 1) pa_nil))) pa_nil)))) (pss_one (ps_ret pe_bl)) pss_nil)))
      (pss_one (ps_ret pe_bl))), ?_⟩
    refine ⟨_, rfl, c, _, rfl, .inl hS, _, _, rfl, _, _, rfl, ?_⟩
    rw [List.length_map]
    generalize hj : (if (if (6 : Int) < (ns.length : Int) then (6 : Int) else (ns.length : Int)) > 2 then (if (6 : Int) < (ns.length : Int) then (6 : Int) else (ns.length : Int)) else 2) = j
    have hj2 : 2 ≤ j ∧ j ≤ 6 := by
      subst hj
      constructor <;> (repeat' split) <;> omega
    clear hj
    refine ⟨j, rfl, by omega, by omega, for_range (lo := 0) (n := j.toNat) (fun i σ H' => Same H H' ∧ ∃ o1, σ = [some (.ref c), o1]) ⟨Same.refl H, none, rfl⟩ ?_ ?_⟩
    · rintro i σ H1 hi ⟨s1, o1, rfl⟩
      refine ⟨_, rfl, _, rfl, c, ns, i, by rw [Int.zero_add]; rfl, hS.ext s1, hl, by omega, fun a H3 na s3 w3 => ?_⟩
      refine ⟨a, _, rfl, w3, by omega, fun H5 g5 => ?_⟩
      exact ⟨true, rfl, iteF ⟨fun b o e => g5 b o (ne_of_none (s1 b o e) na) (s3 b o (s1 b o e)), _, rfl⟩⟩
    · rintro σ H1 ⟨s1, o1, rfl⟩
      exact k H1
end
end RV
/-! k24: the strengths of roads are right. -/
namespace RV
open PySem L2 TL
section
variable {P : Program} {w : World} {K : PySem.W.Frag} {mg : Str → Option Value} {base : Heap} {CN CP CM : Addr}
theorem ok_right24 {f : Addr} {fd : FuncData} (F : Fun K "_law_right" "_law_right" s_right f fd) (T : Blt mg) (NC : NClass K mg CN)
    (h_dip : Fn P w K mg base "_law_dip" 1 ["_law_well_here", "_law_many"] (Irr sp_dip)) (h_paths : Fn P w K mg base "_law_paths" 3 ["_law_well_here", "_law_roads"] (Irr sp_paths))
    (h_strength : Fn P w K mg base "strength" 8 ["net", "pipe"] (Irr (sp_stren K CN CP CM))) (h_read : ClsM P w K mg base CN "read" 8 ["cls", "text"] (Irr (sp_nread K CN CP CM))) : FnG P w K mg base 9 f fd ["_law_well_here"] sp_right24 := by
  refine gFun F sc_right (fun vs H Q E h => ?_) (fun cdv A outer s H vs Q E gs hr h => ?_)
  · obtain ⟨_, _, rfl, _⟩ := h
    rfl
  · obtain ⟨a, n, rfl, wl, hn, k⟩ := h
    refine ⟨_, (pss_cons (ps_asg (pe_fn h_paths (hr.mono (by decide)) (pa_cons (pv 0) (pa_cons (pe_op op_add pe_int (pe_fn h_dip (hr.mono (by decide)) (pa_cons (pv 0) (pa_cons pe_int pa_nil)))) pa_nil))) (pg_lst (by rfl) (pgs_cons (pg_name (i := 1) sc_right.nd rfl (Or.inr rfl)) (pgs_cons (pg_name (i := 2) sc_right.nd rfl (Or.inl rfl)) pgs_nil))))
      (pss_cons (ps_set (i := 3) sc_right.nd rfl (Or.inr rfl) (pe_cm h_read (hr.mono (by decide)) (pe_gC NC.k) (pa_cons (pv 2) pa_nil)))
      (pss_cons (ps_for PassesOwn.never rfl (pi_range1 rfl T.b_range (pa_cons (pe_callB call_len_seq (by rfl) T.b_len (by decide +kernel) (pa_cons (pv 1) pa_nil)) pa_nil)) (pg_name (i := 4) sc_right.nd rfl (Or.inr rfl)) (pss_cons (ps_asg (pe_ix ix_list (pv 1) (pv 4) (fun _ _ => rfl)) (pg_lst (by rfl) (pgs_cons (pg_name (i := 5) sc_right.nd rfl (Or.inl rfl)) (pgs_cons (pg_name (i := 6) sc_right.nd rfl (Or.inl rfl)) (pgs_cons (pg_name (i := 7) sc_right.nd rfl (Or.inl rfl)) pgs_nil))))) (pss_cons (ps_setLc (i := 8) (own := [("_law_k", 12)]) (g := gName 12) rfl sc_right.nd rfl rfl (sw_true rfl rfl rfl (by decide +kernel)) (pi_range1 rfl T.b_range (pa_cons (pe_callB call_len_seq (by rfl) T.b_len (by decide +kernel) (pa_cons (pv 1) pa_nil)) pa_nil)) (blkOk_by (N := sc_right_N) (sc := defScope s_right) (by decide +kernel)) (fun _ _ _ _ _ => pg_name (i := 12) sc_right.nd rfl (Or.inl rfl)) (fun _ _ _ _ _ => pts_one (PW.pt (pw_and (pt_cmpR op_ne (pv 12) (pv 4) (nomark _)) (pw_and1 (pt_not (pt_truthK (K := K) (pe_ix (ix_listK (K := K)) (pe_ix (ix_listK (K := K)) (pv 1) (pv 12) (fun _ _ => rfl)) pe_int (fun _ _ => rfl)) (by intro _; rfl))))))) (fun _ _ _ _ _ => (pe_ix (ix_listK (K := K)) (pe_ix (ix_listK (K := K)) (pv 1) (pv 12) (fun _ _ => rfl)) pe_int (fun _ _ => rfl)))) (pss_cons (ps_set (i := 9) sc_right.nd rfl (Or.inr rfl) (pe_ifExp (PW.pt (pw_or (pt_val (pv 7)) (pw_or1 (pt_cmpR (op_eqD hr.units) (pv 8) (pe_lst pa_nil) (nomark _))))) pe_non (pe_op op_add (pv 6) (pe_callB (cr_min rfl) (by rfl) T.b_min (by decide +kernel) (pa_cons (pv 8) pa_nil))))) (pss_one (ps_if (pt_cmpR op_ne (pe_callB (call_reprD hr.units gs) (by rfl) T.b_repr (by decide +kernel) (pa_cons (pe_lc (own := [("_law_name", 13)]) (g := gName 13) (tt := tYes) rfl sc_right.nd (pi_list (pv 5)) (blkOk_by (N := sc_right_N) (sc := defScope s_right) (by decide +kernel)) (fun _ _ _ _ _ => pg_name (i := 13) sc_right.nd rfl (Or.inl rfl)) (fun _ _ _ _ _ => pts_nil) (fun _ _ _ _ _ => (pe_fn h_strength (hr.mono (by decide)) (pa_cons (pv 3) (pa_cons (pv 13) pa_nil))))) pa_nil)) (pe_callB (call_reprD hr.units gs) (by rfl) T.b_repr (by decide +kernel) (pa_cons (pe_lc (own := [("_law_name", 13)]) (g := gName 13) (tt := tYes) rfl sc_right.nd (pi_list (pv 5)) (blkOk_by (N := sc_right_N) (sc := defScope s_right) (by decide +kernel)) (fun _ _ _ _ _ => pg_name (i := 13) sc_right.nd rfl (Or.inl rfl)) (fun _ _ _ _ _ => pts_nil) (fun _ _ _ _ _ => (pv 9))) pa_nil)) (nomark _)) (pss_one (ps_ret pe_bl)) pss_nil))))))
      (pss_cons (ps_set (i := 10) sc_right.nd rfl (Or.inl rfl) (pe_op op_add_str (pe_op op_add_str pe_str (pe_ix ix_list (pe_ix ix_list (pe_ix ix_list (pv 1) pe_int (fun _ _ => rfl)) pe_int (fun _ _ => rfl)) pe_int (fun _ _ => rfl))) pe_str))
      (pss_cons (ps_set (i := 11) sc_right.nd rfl (Or.inl rfl) (pe_bm PySem.F.plainAttrs_str PySem.F.slot_str_join PySem.F.type_str_join mt_join pe_str (pa_cons (pe_lc (own := [("_law_k", 12)]) (g := gName 12) (tt := tYes) rfl sc_right.nd (pi_range1 rfl T.b_range (pa_cons (pe_fn h_dip (hr.mono (by decide)) (pa_cons (pv 0) (pa_cons pe_int pa_nil))) pa_nil)) (blkOk_by (N := sc_right_N) (sc := defScope s_right) (by decide +kernel)) (fun _ _ _ _ _ => pg_name (i := 12) sc_right.nd rfl (Or.inl rfl)) (fun _ _ _ _ _ => pts_nil) (fun _ _ _ _ _ => (pe_op op_add_str (pe_op op_add_str (pe_op op_add_str pe_str (pe_callTy call_str_int (by rfl) T.b_str (by decide +kernel) (pa_cons (pv 12) pa_nil))) pe_str) (pe_ix (ix_listK (K := K)) (pe_ix (ix_listK (K := K)) (pe_ix (ix_listK (K := K)) (pv 1) pe_int (fun _ _ => rfl)) pe_int (fun _ _ => rfl)) pe_int (fun _ _ => rfl))))) pa_nil)))
      (pss_one (ps_ret (pe_cmpR op_isN (pe_fn h_strength (hr.mono (by decide)) (pa_cons (pe_cm h_read (hr.mono (by decide)) (pe_gC NC.k) (pa_cons (pe_op op_add_str (pv 10) (pv 11)) pa_nil)) (pa_cons (pe_ix ix_list (pe_ix ix_list (pe_ix ix_list (pv 1) pe_int (fun _ _ => rfl)) pe_int (fun _ _ => rfl)) pe_int (fun _ _ => rfl)) pa_nil))) pe_non (nomark _))))))))), ?_⟩
    have b0 := Bag.start wl
    refine ⟨_, rfl, _, rfl, b0.dip (by omega) (by decide) (by decide) fun r H1 r0 r1 b1 => ?_⟩
    obtain ⟨q, rfl⟩ := Int.eq_ofNat_of_zero_le r0
    refine ⟨_, _, rfl, rfl, ?_⟩
    dsimp only
    rw [show (2 : Int) + (q : Int) = ((2 + q : Nat) : Int) by omega]
    have hR : 2 ≤ 2 + q ∧ 2 + q ≤ 4 := by omega
    revert hR
    generalize 2 + q = R
    intro hR
    refine irr ⟨a, _, R, rfl, b1.well, by omega, hR.1, hR.2, fun l lO us len ts gs l0 ps ms ct sh H2 KK La hu b2 => ?_⟩
    have gr2 := b1.gr.trans b2.gr
    have po := La.po KK
    have mo := La.mok KK
    have D := La.road KK
    have mO : (lO, HO.lst (rf us)) ∈ (l, HO.lst [.ref lO, .str (netT ps ms)]) :: (lO, .lst (rf us)) :: tolF us := List.mem_cons_of_mem _ List.mem_cons_self
    have ul : us.length = R := by
      have := congrArg List.length hu
      simpa [tellL] using this
    refine ⟨l, _, rfl, SqL.of (b2.at List.mem_cons_self), rfl, _, _, rfl, _, _, rfl, rfl, ?_⟩
    refine ⟨rfl, _, rfl, irr ⟨ps, ms, rfl, po, mo, fun x H3 s3 nr => ?_⟩⟩
    have b3 := b2.same s3
    dsimp only [gName]
    refine ⟨_, rfl, lO, _, rfl, .inl (SqL.of (b3.at mO)), ?_⟩
    rw [rf_len, ul]
    refine ⟨R, rfl, by omega, by omega, for_range (lo := 0) (n := R) (fun i σ H' => ∃ (o4 o5 o6 o7 o8 o9 o10 o11 o12 o13 : Option V), σ = [some (.ref a), some (.ref lO), some (.str (netT ps ms)), some (.ref x), o4, o5, o6, o7, o8, o9, o10, o11, o12, o13] ∧ Same H3 H') ⟨_, _, _, _, _, _, _, _, _, _, rfl, Same.refl _⟩ ?_ ?_⟩
    · rintro i σ H4 hi ⟨o4, o5, o6, o7, o8, o9, o10, o11, o12, o13, rfl, s4⟩
      have b4 := b3.same s4
      obtain ⟨r, w', e1, e2, e3⟩ := road_at hu b4 hi
      obtain ⟨o, ho⟩ := isMin_ex (othR R ct sh i)
      dsimp only [gName]
      rw [Int.zero_add]
      refine ⟨_, rfl, _, rfl, lO, _, _, _, rfl, rfl, SqL.of (b4.at mO), e1, r, _, rfl, SqL.of e2, rfl, _, _, rfl, _, _, rfl, _, _, rfl, rfl, ?_⟩
      dsimp only
      refine ⟨_, rfl, lO, _, rfl, .inl (SqL.of (b4.at mO)), ?_⟩
      rw [rf_len, ul]
      refine ⟨R, rfl, by omega, by omega, fun D1 n1 => lc_idx (List.range R) (fun k => decide (k ≠ i) && !sh k) (fun k => vI (ct k)) walk_rgi n1 (by rw [List.length_range]; omega) (fun _ _ => True.intro) (fun _ => rfl) (fun k hk H5 s5 R' kR => ?_) (fun k hk hp H5 s5 R' kR => ?_) fun H5 s5 hD1 => ?_⟩
      · have hk := List.mem_range.mp hk
        have b5 := b4.same s5
        obtain ⟨rk, wk, f1, f2, _⟩ := road_at hu b5 hk
        have kR2 := kR H5 (Same.refl _)
        refine ⟨_, rfl, _, rfl, rfl, _, rfl, ?_⟩
        rw [show (!decide (vI k = V.int (i : Int))) = decide (k ≠ i) by
          by_cases e : k = i
          · subst e; simp [vI]
          · have e2 : ¬ vI k = V.int (i : Int) := fun z => by
              injection z with z
              omega
            simp [e, e2]]
        by_cases e : k = i
        · rw [decide_eq_false (fun z => z e)] at kR2 ⊢
          exact iteF kR2
        · rw [decide_eq_true (show k ≠ i from e), Bool.true_and] at kR2
          rw [decide_eq_true (show k ≠ i from e)]
          exact iteT ⟨_, rfl, _, rfl, lO, _, _, _, rfl, rfl, SqL.of (b5.at mO), f1, rk, _, 2, .bl (sh k), rfl, rfl, SqL.of f2, rfl, sh k, rfl, kR2⟩
      · have hk := List.mem_range.mp hk
        have b5 := b4.same s5
        obtain ⟨rk, wk, f1, f2, _⟩ := road_at hu b5 hk
        exact ⟨_, rfl, _, rfl, lO, _, _, _, rfl, rfl, SqL.of (b5.at mO), f1, rk, _, 1, .int (ct k : Nat), rfl, rfl, SqL.of f2, rfl, kR H5 (Same.refl _)⟩
      have b5 := b4.same s5
      have eo : ((List.range R).filter fun k => decide (k ≠ i) && !sh k).map (fun k => vI (ct k)) = (othR R ct sh i).map vI := by
        rw [othR, List.map_map]
        rfl
      rw [eo] at hD1
      dsimp only [gName]
      -- what is due
      refine seq_of (fun σ' H' => (∃ o8, σ' = [some (.ref a), some (.ref lO), some (.str (netT ps ms)), some (.ref x), some (.int (i : Int)), some (.ref w'), some (.int (ct i : Nat)), some (.bl (sh i)), o8, some (vN (dueR ct sh i o)), o10, o11, o12, o13]) ∧ Same H5 H') ?rest1 (fun N hN => ?main1)
      case main1 =>
        cases hs : sh i with
        | true =>
          refine ⟨_, rfl, true, rfl, iteT (iteT (hN _ _ ⟨⟨some (.ref D1), ?_⟩, Same.refl _⟩))⟩
          rw [dueR, hs]
          rfl
        | false =>
          refine ⟨_, rfl, false, rfl, iteF ?_⟩
          have due : dueR ct sh i o = o.map fun m => ct i + m := by rw [dueR, hs]; rfl
          have hcs : (othR R ct sh i).map vI = ((othR R ct sh i).map some).map vN := by rw [List.map_map (g := vN)]; rfl
          revert hD1 hcs ho
          generalize othR R ct sh i = cs
          intro ho hD1 hcs
          refine ⟨_, rfl, by decide, fun L nL => ?_⟩
          have s6 : Same H5 (upd H5 L (.lst [])) := fun b o e => (upd_ne (ne_of_none e nL)).trans e
          refine ⟨.list ((cs.map some).map dO), .list [], .lst (SqL.of (by rw [s6 _ _ hD1, hcs])) (dps_N _), .lst (SqL.of upd_same) .nil, shaped_N _, shaped_nil, _, rfl, ?_⟩
          rw [eqv_nilN]
          cases cs with
          | nil =>
            have eo : o = none := by
              cases o with
              | none => rfl
              | some m => exact nomatch ho.1
            subst eo
            exact iteT (hN _ _ ⟨⟨some (.ref D1), by rw [due, hs]; rfl⟩, s6⟩)
          | cons c0 cr =>
            refine iteF ⟨_, rfl, _, rfl, D1, (c0 :: cr).map fun (n : Nat) => (n : Int), rfl, SqL.of (by rw [s6 _ _ hD1, List.map_map]; rfl), by simp, fun m hm hle => ?_⟩
            obtain ⟨n, hn, rfl⟩ := List.mem_map.mp hm
            cases o with
            | none => exact absurd ho (by simp [IsMin])
            | some m =>
              have enm : n = m := by
                have h1 := ho.2 n hn
                have h2 := hle (m : Int) (List.mem_map.mpr ⟨m, ho.1, rfl⟩)
                omega
              subst enm
              exact ⟨_, _, rfl, rfl, hN _ _ ⟨⟨some (.ref D1), by rw [due, hs]; rfl⟩, s6⟩⟩
      rintro σ1 H6 ⟨⟨o8', rfl⟩, s6⟩
      have b6 := b5.same s6
      have s46 := s5.trans s6
      have nmem : ∀ t, t < len i → nmT ts len i t ∈ ps.map (·.1) := fun t ht => by
        obtain ⟨p, hp, e, _⟩ := D.has i t hi ht
        exact List.mem_map.mpr ⟨p, hp, e⟩
      have hw5 := s46 _ _ e3
      have wlen : (((List.range (len i)).map (nmT ts len i)).map V.str).length = len i := by rw [List.length_map, List.length_map, List.length_range]
      have l3 := KK.h3 i hi
      have getn : ∀ {j : Nat} {v : V}, (((List.range (len i)).map (nmT ts len i)).map V.str)[j]? = some v → v = .str (nmT ts len i j) ∧ j < len i := fun {j v} h => by
        have hj := (List.getElem?_eq_some_iff.mp h).1
        rw [wlen] at hj
        rw [List.getElem?_map, List.getElem?_map, List.getElem?_range hj] at h
        exact ⟨(Option.some.inj h).symm, hj⟩
      have getd : ∀ {j : Nat} {v : V}, ((List.replicate (len i) (dueR ct sh i o)).map vN)[j]? = some v → v = vN (dueR ct sh i o) := fun {j v} h => by
        obtain ⟨d, hd, rfl⟩ := List.mem_map.mp (List.mem_of_getElem? h)
        rw [(List.mem_replicate.mp hd).2]
      -- what the program says of them
      refine ⟨_, rfl, w', rfl, ⟨_, SqL.of hw5⟩, fun D2 n2 => lc_to (xs := ((List.range (len i)).map (nmT ts len i)).map V.str) ((List.replicate (len i) (dueR ct sh i o)).map vN) (by rw [wlen, List.length_map, List.length_replicate]) walk_list n2 (by rw [wlen]; omega) (fun H' s' => SqL.of (s' _ _ hw5)) (fun _ => rfl) (fun j v y hv hy H7 s7 R' kR => ?_) fun H7 s7 hD2 => ?_⟩
      · obtain ⟨rfl, hj⟩ := getn hv
        obtain rfl := getd hy
        refine ⟨_, rfl, _, rfl, irr ⟨x, ps, ms, _, rfl, (nr.ext (s4.trans s46)).ext s7, po, mo.ln, nmem j hj, fun H8 s8 => ?_⟩⟩
        rw [D.due La.ct La.sh hi hj ho]
        exact kR H8 s8
      have hsh : Shw (.list ((List.replicate (len i) (dueR ct sh i o)).map dO)) 60 20000 := shw_N' (fun o' ho' m e => by
        rw [(List.mem_replicate.mp ho').2] at e
        exact La.due_le KK hi ho m e) (by rw [List.length_replicate]; omega)
      have rp : ∀ {D : Addr} {H' : Hp} {Q' : VK}, H' D = some (.lst ((List.replicate (len i) (dueR ct sh i o)).map vN)) → Q' (.str (PyData.list ((List.replicate (len i) (dueR ct sh i o)).map dO)).shown) H' → rRepr K [.ref D] H' Q' := fun e q => rRepr_of (.lst (SqL.of e) (dps_N _)) hsh (by decide) q
      refine rp hD2 ⟨_, rfl, w', rfl, ⟨_, SqL.of (s7 _ _ hw5)⟩, fun D3 n3 => lc_to (xs := ((List.range (len i)).map (nmT ts len i)).map V.str) ((List.replicate (len i) (dueR ct sh i o)).map vN) (by rw [wlen, List.length_map, List.length_replicate]) walk_list n3 (by rw [wlen]; omega) (fun H' s' => SqL.of (s' _ _ (s7 _ _ hw5))) (fun _ => rfl) (fun j v y hv hy H8 s8 R' kR => ?_) fun H8 s8 hD3 => ?_⟩
      · obtain rfl := getd hy
        exact ⟨_, rfl, kR H8 (Same.refl _)⟩
      refine rp hD3 ⟨rfl, _, rfl, ?_⟩
      rw [decide_eq_true rfl]
      exact iteF ⟨_, _, _, _, _, _, _, _, _, _, rfl, s4.trans (s46.trans (s7.trans s8))⟩
    · rintro σ H4 ⟨o4, o5, o6, o7, o8, o9, o10, o11, o12, o13, rfl, s4⟩
      have b4 := b3.same s4
      obtain ⟨r, w', e1, e2, e3⟩ := road_at hu b4 (show 0 < R by omega)
      have nx := nmT_nm KK.tl KK.tm (show 0 < R by omega) (KK.h0 0 (by omega))
      have wn : atI (((List.range (len 0)).map (nmT ts len 0)).map V.str) 0 = some (V.str (nmT ts len 0 0)) := atI_nat (j := 0) (by rw [List.getElem?_map, List.getElem?_map, List.getElem?_range (KK.h0 0 (by omega))]; rfl)
      revert nx wn
      generalize nmT ts len 0 0 = y
      intro nx wn
      have ly := nm8 nx
      have ep5 : Str.length "pipe " = 5 := by decide +kernel
      have ep4 : Str.length " a b" = 4 := by decide +kernel
      refine ⟨_, rfl, lO, _, _, _, rfl, rfl, SqL.of (b4.at mO), e1, r, _, 0, .ref w', rfl, rfl, SqL.of e2, rfl, w', _, _, _, rfl, rfl, SqL.of e3, wn, _, _, rfl, rfl, ?_, _, _, rfl, rfl, ?_, ?_⟩
      · rw [ep5]; exact szn (by omega)
      · rw [sl_app, ep5, ep4]; exact szn (by omega)
      dsimp only [gName]
      refine ⟨rfl, _, rfl, b4.dip (by omega) (by decide) (by decide) fun z H5 r0' r1' b5 => ?_⟩
      obtain ⟨c, rfl⟩ := Int.eq_ofNat_of_zero_le r0'
      obtain ⟨r5, w5, f1, f2, f3⟩ := road_at hu b5 (show 0 < R by omega)
      have mO5 := b5.at mO
      have ez1 : Str.length " " = 1 := by decide +kernel
      have ez8 : Str.length "\nmeter m" = 8 := by decide +kernel
      refine ⟨c, rfl, by omega, by omega, fun D1 n1 => lc_to (xs := rgL c) (((List.range c).map (tailM y)).map V.str) (by rw [rgL_len, List.length_map, List.length_map, List.length_range]) walk_rgL n1 (by rw [rgL_len]; omega) (fun _ _ => True.intro) (fun _ => rfl) (fun j v yv hv hy H6 s6 R' kR => ?_) fun H6 s6 hD1 => ?_⟩
      · obtain ⟨rfl, hj⟩ := rgL_get hv
        have ey : yv = .str (tailM y j) := by
          rw [List.getElem?_map, List.getElem?_map, List.getElem?_range hj] at hy
          exact (Option.some.inj hy).symm
        have z1 := nS_len (i := j) (by omega)
        have big : ((j : Int)).natAbs.log2 < 1920 := by
          have z := PySem.Flt.log2_lt_of (n := ((j : Int)).natAbs) (k := 200) (by decide) (by omega)
          omega
        refine ⟨_, rfl, _, rfl, big, _, _, rfl, rfl, ?_, _, _, rfl, rfl, ?_, _, rfl, lO, _, _, _, rfl, rfl, SqL.of (s6 _ _ mO5), f1, r5, _, 0, .ref w5, rfl, rfl, SqL.of (s6 _ _ f2), rfl, w5, _, _, _, rfl, rfl, SqL.of (s6 _ _ f3), wn, _, _, rfl, rfl, ?_, ?_⟩
        · exact szn (show Str.length "\nmeter m" + (nS j).length ≤ 1000 by omega)
        · refine szn (show (("\nmeter m" : Str) ++ nS j).length + Str.length " " ≤ 1000 from ?_)
          rw [sl_app]
          omega
        · refine szn (show (("\nmeter m" : Str) ++ nS j ++ " ").length + y.length ≤ 1000 from ?_)
          rw [sl_app, sl_app]
          omega
        · have := kR H6 (Same.refl _)
          rwa [ey] at this
      have ts1 := sum_len (xs := (List.range c).map (tailM y)) (b := 20) fun v hv => by
        obtain ⟨j, hj, rfl⟩ := List.mem_map.mp hv
        have := List.mem_range.mp hj
        exact tail_len nx (by omega)
      rw [List.length_map, List.length_range] at ts1
      have e0 : Str.length "" = 0 := by decide +kernel
      refine ⟨_, D1, (List.range c).map (tailM y), rfl, rfl, .inl (SqL.of hD1), ?_, ?_⟩
      · rw [e0, List.length_map, List.length_range]
        omega
      dsimp only [gName]
      have lt := lone_text y c
      have mo1 := lone_mo nx (c := c) (by omega)
      refine ⟨rfl, _, rfl, _, rfl, _, _, rfl, rfl, ?_, irr ⟨[(y, "a", "b")], msL y c, by rw [← lt], lone_po nx, mo1, fun x2 H7 s7 nr2 => ⟨_, rfl, lO, _, _, _, rfl, rfl, SqL.of (s7 _ _ (s6 _ _ mO5)), f1, r5, _, 0, .ref w5, rfl, rfl, SqL.of (s7 _ _ (s6 _ _ f2)), rfl, w5, _, _, _, rfl, rfl, SqL.of (s7 _ _ (s6 _ _ f3)), wn, irr ⟨x2, _, _, y, rfl, nr2, lone_po nx, mo1.ln, List.mem_singleton.mpr rfl, fun H8 s8 => ⟨rfl, ?_⟩⟩⟩⟩⟩
      · rw [join_len0, sl_app, sl_app, ep5, ep4]
        exact szn (by omega)
      · rw [lone_none (show ("a" : Str) ≠ "b" by decide +kernel)]
        exact k H8 (b1.gr.trans ((((b5.same s6).same s7).same s8).gr))
end
end RV
namespace RV
open PySem L2
theorem all_mk {l : PySem.W.OpenLaw} {w : World} {K : PySem.W.Frag} {h : Heap} {mg : Str → Option Value} {fa : Addr} (X : K.In h) (G : h.Ns mainGlobals mg) (hfa : mg "law" = some (.ref fa))
    {tkA : Tok}
    {tkB : Tok}
    {tkC : Tok}
    {tkF : Tok}
    {tkG : Tok}
    {fIn : Addr}
    {odIn anIn : Option Addr} {slIn : Array (Option Value)} {ocIn kVIn dcIn pmIn cdIn ctIn : Value}
    {fCn : Addr}
    {odCn anCn : Option Addr} {slCn : Array (Option Value)} {ocCn kVCn dcCn pmCn cdCn ctCn : Value}
    {CP : Addr}
    {CM : Addr}
    {fPi : Addr}
    {odPi anPi : Option Addr} {slPi : Array (Option Value)} {ocPi kVPi dcPi pmPi cdPi ctPi : Value}
    {fMi : Addr}
    {odMi anMi : Option Addr} {slMi : Array (Option Value)} {ocMi dcMi pmMi cdMi ctMi : Value} {kDMi : Addr}
    {ppn : Addr}
    {fpn : Addr}
    {rpn : List Value}
    {odpn anpn : Option Addr} {slpn : Array (Option Value)} {ocpn kVpn dcpn pmpn cdpn ctpn : Value}
    {pps : Addr}
    {fps : Addr}
    {rps : List Value}
    {odps anps : Option Addr} {slps : Array (Option Value)} {ocps kVps dcps pmps cdps ctps : Value}
    {ppe : Addr}
    {fpe : Addr}
    {rpe : List Value}
    {odpe anpe : Option Addr} {slpe : Array (Option Value)} {ocpe kVpe dcpe pmpe cdpe ctpe : Value}
    {pmn : Addr}
    {fmn : Addr}
    {rmn : List Value}
    {odmn anmn : Option Addr} {slmn : Array (Option Value)} {ocmn kVmn dcmn pmmn cdmn ctmn : Value}
    {pma : Addr}
    {fma : Addr}
    {rma : List Value}
    {odma anma : Option Addr} {slma : Array (Option Value)} {ocma kVma dcma pmma cdma ctma : Value}
    {pmz : Addr}
    {fmz : Addr}
    {rmz : List Value}
    {odmz anmz : Option Addr} {slmz : Array (Option Value)} {ocmz kVmz dcmz pmmz cdmz ctmz : Value}
    {fPq : Addr}
    {odPq anPq : Option Addr} {slPq : Array (Option Value)} {ocPq kVPq dcPq pmPq cdPq ctPq : Value}
    {fMq : Addr}
    {odMq anMq : Option Addr} {slMq : Array (Option Value)} {ocMq kVMq dcMq pmMq cdMq ctMq : Value}
    {CN : Addr}
    {fIo : Addr}
    {odIo anIo : Option Addr} {slIo : Array (Option Value)} {ocIo kVIo dcIo pmIo cdIo ctIo : Value}
    {fCp : Addr}
    {odCp anCp : Option Addr} {slCp : Array (Option Value)} {ocCp kVCp dcCp pmCp cdCp ctCp : Value}
    {fCm : Addr}
    {odCm anCm : Option Addr} {slCm : Array (Option Value)} {ocCm kVCm dcCm pmCm cdCm ctCm : Value}
    {fPl : Addr}
    {odPl anPl : Option Addr} {slPl : Array (Option Value)} {ocPl kVPl dcPl pmPl cdPl ctPl : Value}
    {fMl : Addr}
    {odMl anMl : Option Addr} {slMl : Array (Option Value)} {ocMl kVMl dcMl pmMl cdMl ctMl : Value}
    {fLs : Addr}
    {odLs anLs : Option Addr} {slLs : Array (Option Value)} {ocLs kVLs dcLs pmLs cdLs ctLs : Value}
    {fNi : Addr}
    {tD : Addr}
    {t0 : Addr}
    {odNi anNi odT : Option Addr} {slNi slT : Array (Option Value)} {ocNi kVNi dcNi pmNi cdNi ctNi : Value} {nT : Nat}
    {pnp : Addr}
    {fnp : Addr}
    {rnp : List Value}
    {odnp annp : Option Addr} {slnp : Array (Option Value)} {ocnp kVnp dcnp pmnp cdnp ctnp : Value}
    {pnm : Addr}
    {fnm : Addr}
    {rnm : List Value}
    {odnm annm : Option Addr} {slnm : Array (Option Value)} {ocnm kVnm dcnm pmnm cdnm ctnm : Value}
    {fNl : Addr}
    {odNl anNl : Option Addr} {slNl : Array (Option Value)} {ocNl kVNl dcNl pmNl cdNl ctNl : Value}
    {fNs : Addr}
    {odNs anNs : Option Addr} {slNs : Array (Option Value)} {ocNs kVNs dcNs pmNs cdNs ctNs : Value}
    {fNq : Addr}
    {odNq anNq : Option Addr} {slNq : Array (Option Value)} {ocNq kVNq dcNq pmNq cdNq ctNq : Value}
    {fRw : Addr}
    {odRw anRw : Option Addr} {slRw : Array (Option Value)} {ocRw kVRw dcRw pmRw cdRw ctRw : Value}
    {fPn : Addr}
    {odPn anPn : Option Addr} {slPn : Array (Option Value)} {ocPn kVPn dcPn pmPn cdPn ctPn : Value}
    {fMn : Addr}
    {odMn anMn : Option Addr} {slMn : Array (Option Value)} {ocMn kVMn dcMn pmMn cdMn ctMn : Value}
    {pNr : Addr}
    {fNr : Addr}
    {rNr : List Value}
    {odNr anNr : Option Addr} {slNr : Array (Option Value)} {ocNr kVNr dcNr pmNr cdNr ctNr : Value}
    {fPp : Addr}
    {odPp anPp : Option Addr} {slPp : Array (Option Value)} {ocPp kVPp dcPp pmPp cdPp ctPp : Value}
    {fKn : Addr}
    {odKn anKn : Option Addr} {slKn : Array (Option Value)} {ocKn kVKn dcKn pmKn cdKn ctKn : Value}
    {fKp : Addr}
    {odKp anKp : Option Addr} {slKp : Array (Option Value)} {ocKp kVKp dcKp pmKp cdKp ctKp : Value}
    {fMa : Addr}
    {odMa anMa : Option Addr} {slMa : Array (Option Value)} {ocMa kVMa dcMa pmMa cdMa ctMa : Value}
    {fSa : Addr}
    {odSa anSa : Option Addr} {slSa : Array (Option Value)} {ocSa kVSa dcSa pmSa cdSa ctSa : Value}
    {fAm : Addr}
    {odAm anAm : Option Addr} {slAm : Array (Option Value)} {ocAm kVAm dcAm pmAm cdAm ctAm : Value}
    {fLk : Addr}
    {odLk anLk : Option Addr} {slLk : Array (Option Value)} {ocLk kVLk dcLk pmLk cdLk ctLk : Value}
    {fLd : Addr}
    {odLd anLd : Option Addr} {slLd : Array (Option Value)} {ocLd kVLd dcLd pmLd cdLd ctLd : Value}
    {fSw : Addr}
    {odSw anSw : Option Addr} {slSw : Array (Option Value)} {ocSw kVSw dcSw pmSw cdSw ctSw : Value}
    {fWb : Addr}
    {odWb anWb : Option Addr} {slWb : Array (Option Value)} {ocWb kVWb dcWb pmWb cdWb ctWb : Value}
    {fSt : Addr}
    {odSt anSt : Option Addr} {slSt : Array (Option Value)} {ocSt kVSt dcSt pmSt cdSt ctSt : Value}
    {fWe : Addr}
    {odWe anWe : Option Addr} {slWe : Array (Option Value)} {ocWe kVWe dcWe pmWe cdWe ctWe : Value}
    {fDi : Addr}
    {odDi anDi : Option Addr} {slDi : Array (Option Value)} {ocDi kVDi dcDi pmDi cdDi ctDi : Value}
    {fNa : Addr}
    {odNa anNa : Option Addr} {slNa : Array (Option Value)} {ocNa kVNa dcNa pmNa cdNa ctNa : Value}
    {fPa : Addr}
    {odPa anPa : Option Addr} {slPa : Array (Option Value)} {ocPa kVPa dcPa pmPa cdPa ctPa : Value}
    {fRi : Addr}
    {odRi anRi : Option Addr} {slRi : Array (Option Value)} {ocRi kVRi dcRi pmRi cdRi ctRi : Value}
    {fLa : Addr}
    {odLa anLa : Option Addr} {slLa : Array (Option Value)} {ocLa kVLa dcLa pmLa cdLa ctLa : Value}
    (b_len : PySem.W.nsIn K mainGlobals "len" = some none)
    (b_int : PySem.W.nsIn K mainGlobals "int" = some none)
    (b_abs : PySem.W.nsIn K mainGlobals "abs" = some none)
    (b_max : PySem.W.nsIn K mainGlobals "max" = some none)
    (b_min : PySem.W.nsIn K mainGlobals "min" = some none)
    (b_all : PySem.W.nsIn K mainGlobals "all" = some none)
    (b_any : PySem.W.nsIn K mainGlobals "any" = some none)
    (b_repr : PySem.W.nsIn K mainGlobals "repr" = some none)
    (b_range : PySem.W.nsIn K mainGlobals "range" = some none)
    (b_divmod : PySem.W.nsIn K mainGlobals "divmod" = some none)
    (b_isinstance : PySem.W.nsIn K mainGlobals "isinstance" = some none)
    (b_str : PySem.W.nsIn K mainGlobals "str" = some none)
    (b_sum : PySem.W.nsIn K mainGlobals "sum" = some none)
    (b_sorted : PySem.W.nsIn K mainGlobals "sorted" = some none)
    (b_set : PySem.W.nsIn K mainGlobals "set" = some none)
    (b_tuple : PySem.W.nsIn K mainGlobals "tuple" = some none)
    (b_enumerate : PySem.W.nsIn K mainGlobals "enumerate" = some none)
    (b_bool : PySem.W.nsIn K mainGlobals "bool" = some none)
    (g__LETTERS : PySem.W.nsIn K mainGlobals "_LETTERS" = some (some (.str "abcdefghijklmnopqrstuvwxyz" tkA)))
    (g__DIGITS : PySem.W.nsIn K mainGlobals "_DIGITS" = some (some (.str "0123456789" tkB)))
    (g__LONGEST_NAME : PySem.W.nsIn K mainGlobals "_LONGEST_NAME" = some (some (.int 8 tkC)))
    (g_MOST_PIPES : PySem.W.nsIn K mainGlobals "MOST_PIPES" = some (some (.int 12 tkF)))
    (g_MOST_METERS : PySem.W.nsIn K mainGlobals "MOST_METERS" = some (some (.int 12 tkG)))
    (aIn : PySem.W.nsIn K mainGlobals "is_name" = some (some (.ref fIn)))
    (lIn : K.lookup fIn = some ⟨ocIn, odIn, .func (PySem.W.fnOf "is_name" "is_name" (defArgs s_is_name) (defBody s_is_name) (defScope s_is_name) .none kVIn dcIn pmIn anIn cdIn ctIn), slIn⟩)
    (cIn : PySem.W.codeIn K cdIn "is_name" = true)
    (kIn : PySem.W.keepIn K (.ref fIn) = true)
    (aCn : PySem.W.nsIn K mainGlobals "_check_names" = some (some (.ref fCn)))
    (lCn : K.lookup fCn = some ⟨ocCn, odCn, .func (PySem.W.fnOf "_check_names" "_check_names" (defArgs s_check_names) (defBody s_check_names) (defScope s_check_names) .none kVCn dcCn pmCn anCn cdCn ctCn), slCn⟩)
    (cCn : PySem.W.codeIn K cdCn "_check_names" = true)
    (kCn : PySem.W.keepIn K (.ref fCn) = true)
    (nP : PySem.W.nsIn K mainGlobals "Pipe" = some (some (.ref CP)))
    (pgP : PySem.W.plainGet K CP Str.empty = true)
    (hdP : PySem.W.hasDictIn K CP = true)
    (poP : PySem.W.plainOver K CP = true)
    (saP : PySem.W.findIn K (.ref CP) "__setattr__" = some (some (.builtin "object.__setattr__")))
    (mkP : PySem.W.makesIn K CP = true)
    (kcP : PySem.W.keepIn K (.ref CP) = true)
    (haP : PySem.W.findIn K (.ref CP) "__class__" = some (some (.builtin "object.__class__")))
    (hmP : PySem.W.mroIn K CP (.type "object") = some true)
    (tyP : PySem.W.typeIn K (.ref CP) = some (.type "type"))
    (suP : PySem.W.subIn K (.ref CP) (.ref CP) = some true)
    (obP : PySem.W.subIn K (.ref CP) (.type "object") = some true)
    (noP0 : PySem.W.findIn K (.ref CP) "_name" = some none)
    (noP1 : PySem.W.findIn K (.ref CP) "_start" = some none)
    (noP2 : PySem.W.findIn K (.ref CP) "_end" = some none)
    (nM : PySem.W.nsIn K mainGlobals "Meter" = some (some (.ref CM)))
    (pgM : PySem.W.plainGet K CM Str.empty = true)
    (hdM : PySem.W.hasDictIn K CM = true)
    (poM : PySem.W.plainOver K CM = true)
    (saM : PySem.W.findIn K (.ref CM) "__setattr__" = some (some (.builtin "object.__setattr__")))
    (mkM : PySem.W.makesIn K CM = true)
    (kcM : PySem.W.keepIn K (.ref CM) = true)
    (haM : PySem.W.findIn K (.ref CM) "__class__" = some (some (.builtin "object.__class__")))
    (hmM : PySem.W.mroIn K CM (.type "object") = some true)
    (tyM : PySem.W.typeIn K (.ref CM) = some (.type "type"))
    (suM : PySem.W.subIn K (.ref CM) (.ref CM) = some true)
    (obM : PySem.W.subIn K (.ref CM) (.type "object") = some true)
    (noM0 : PySem.W.findIn K (.ref CM) "_name" = some none)
    (noM1 : PySem.W.findIn K (.ref CM) "_at" = some none)
    (noM2 : PySem.W.findIn K (.ref CM) "_sealed" = some none)
    (hn : PySem.W.specialIn K (.builtin "object.__class__") "__get__" = some (some (.builtin "getset_descriptor.__get__")))
    (htk : PySem.W.takesIn K (.builtin "object.__class__") = some true)
    (neP : PySem.W.findIn K (.ref CP) "__ne__" = some (some (.builtin "object.__ne__")))
    (neM : PySem.W.findIn K (.ref CM) "__ne__" = some (some (.builtin "object.__ne__")))
    (aPi : PySem.W.findIn K (.ref CP) "__init__" = some (some (.ref fPi)))
    (iPi : PySem.W.isFn K (.ref fPi) = true)
    (lPi : K.lookup fPi = some ⟨ocPi, odPi, .func (PySem.W.fnOf "__init__" "Pipe.__init__" (defArgs s_Pipe___init__) (defBody s_Pipe___init__) (defScope s_Pipe___init__) .none kVPi dcPi pmPi anPi cdPi ctPi), slPi⟩)
    (cPi : PySem.W.codeIn K cdPi "Pipe.__init__" = true)
    (kPi : PySem.W.keepIn K (.ref fPi) = true)
    (aMi : PySem.W.findIn K (.ref CM) "__init__" = some (some (.ref fMi)))
    (iMi : PySem.W.isFn K (.ref fMi) = true)
    (lMi : K.lookup fMi = some ⟨ocMi, odMi, .func (PySem.W.fnOf "__init__" "Meter.__init__" (defArgs s_Meter___init__) (defBody s_Meter___init__) (defScope s_Meter___init__) .none (.ref kDMi) dcMi pmMi anMi cdMi ctMi), slMi⟩)
    (cMi : PySem.W.codeIn K cdMi "Meter.__init__" = true)
    (kMi : PySem.W.keepIn K (.ref fMi) = true)
    (kd : PySem.W.nsIn K kDMi "sealed" = some (some (.bool false)))
    (apn : PySem.W.findIn K (.ref CP) "name" = some (some (.ref ppn)))
    (gpn : PySem.W.specialIn K (.ref ppn) "__get__" = some (some (.builtin "property.__get__")))
    (tpn : PySem.W.takesIn K (.ref ppn) = some true)
    (rpn_ : PySem.W.recIn K ppn "property" = some (.ref fpn :: rpn))
    (lpn : K.lookup fpn = some ⟨ocpn, odpn, .func (PySem.W.fnOf "name" "Pipe.name" (defArgs s_Pipe_name) (defBody s_Pipe_name) (defScope s_Pipe_name) .none kVpn dcpn pmpn anpn cdpn ctpn), slpn⟩)
    (cpn : PySem.W.codeIn K cdpn "Pipe.name" = true)
    (kpn : PySem.W.keepIn K (.ref fpn) = true)
    (aps : PySem.W.findIn K (.ref CP) "start" = some (some (.ref pps)))
    (gps : PySem.W.specialIn K (.ref pps) "__get__" = some (some (.builtin "property.__get__")))
    (tps : PySem.W.takesIn K (.ref pps) = some true)
    (rps_ : PySem.W.recIn K pps "property" = some (.ref fps :: rps))
    (lps : K.lookup fps = some ⟨ocps, odps, .func (PySem.W.fnOf "start" "Pipe.start" (defArgs s_Pipe_start) (defBody s_Pipe_start) (defScope s_Pipe_start) .none kVps dcps pmps anps cdps ctps), slps⟩)
    (cps : PySem.W.codeIn K cdps "Pipe.start" = true)
    (kps : PySem.W.keepIn K (.ref fps) = true)
    (ape : PySem.W.findIn K (.ref CP) "end" = some (some (.ref ppe)))
    (gpe : PySem.W.specialIn K (.ref ppe) "__get__" = some (some (.builtin "property.__get__")))
    (tpe : PySem.W.takesIn K (.ref ppe) = some true)
    (rpe_ : PySem.W.recIn K ppe "property" = some (.ref fpe :: rpe))
    (lpe : K.lookup fpe = some ⟨ocpe, odpe, .func (PySem.W.fnOf "end" "Pipe.end" (defArgs s_Pipe_end) (defBody s_Pipe_end) (defScope s_Pipe_end) .none kVpe dcpe pmpe anpe cdpe ctpe), slpe⟩)
    (cpe : PySem.W.codeIn K cdpe "Pipe.end" = true)
    (kpe : PySem.W.keepIn K (.ref fpe) = true)
    (amn : PySem.W.findIn K (.ref CM) "name" = some (some (.ref pmn)))
    (gmn : PySem.W.specialIn K (.ref pmn) "__get__" = some (some (.builtin "property.__get__")))
    (tmn : PySem.W.takesIn K (.ref pmn) = some true)
    (rmn_ : PySem.W.recIn K pmn "property" = some (.ref fmn :: rmn))
    (lmn : K.lookup fmn = some ⟨ocmn, odmn, .func (PySem.W.fnOf "name" "Meter.name" (defArgs s_Meter_name) (defBody s_Meter_name) (defScope s_Meter_name) .none kVmn dcmn pmmn anmn cdmn ctmn), slmn⟩)
    (cmn : PySem.W.codeIn K cdmn "Meter.name" = true)
    (kmn : PySem.W.keepIn K (.ref fmn) = true)
    (ama : PySem.W.findIn K (.ref CM) "at" = some (some (.ref pma)))
    (gma : PySem.W.specialIn K (.ref pma) "__get__" = some (some (.builtin "property.__get__")))
    (tma : PySem.W.takesIn K (.ref pma) = some true)
    (rma_ : PySem.W.recIn K pma "property" = some (.ref fma :: rma))
    (lma : K.lookup fma = some ⟨ocma, odma, .func (PySem.W.fnOf "at" "Meter.at" (defArgs s_Meter_at) (defBody s_Meter_at) (defScope s_Meter_at) .none kVma dcma pmma anma cdma ctma), slma⟩)
    (cma : PySem.W.codeIn K cdma "Meter.at" = true)
    (kma : PySem.W.keepIn K (.ref fma) = true)
    (amz : PySem.W.findIn K (.ref CM) "sealed" = some (some (.ref pmz)))
    (gmz : PySem.W.specialIn K (.ref pmz) "__get__" = some (some (.builtin "property.__get__")))
    (tmz : PySem.W.takesIn K (.ref pmz) = some true)
    (rmz_ : PySem.W.recIn K pmz "property" = some (.ref fmz :: rmz))
    (lmz : K.lookup fmz = some ⟨ocmz, odmz, .func (PySem.W.fnOf "sealed" "Meter.sealed" (defArgs s_Meter_sealed) (defBody s_Meter_sealed) (defScope s_Meter_sealed) .none kVmz dcmz pmmz anmz cdmz ctmz), slmz⟩)
    (cmz : PySem.W.codeIn K cdmz "Meter.sealed" = true)
    (kmz : PySem.W.keepIn K (.ref fmz) = true)
    (aPq : PySem.W.findIn K (.ref CP) "__eq__" = some (some (.ref fPq)))
    (iPq : PySem.W.isFn K (.ref fPq) = true)
    (lPq : K.lookup fPq = some ⟨ocPq, odPq, .func (PySem.W.fnOf "__eq__" "Pipe.__eq__" (defArgs s_Pipe___eq__) (defBody s_Pipe___eq__) (defScope s_Pipe___eq__) .none kVPq dcPq pmPq anPq cdPq ctPq), slPq⟩)
    (cPq : PySem.W.codeIn K cdPq "Pipe.__eq__" = true)
    (kPq : PySem.W.keepIn K (.ref fPq) = true)
    (fiPq : PySem.W.fnIn K fPq = true)
    (aMq : PySem.W.findIn K (.ref CM) "__eq__" = some (some (.ref fMq)))
    (iMq : PySem.W.isFn K (.ref fMq) = true)
    (lMq : K.lookup fMq = some ⟨ocMq, odMq, .func (PySem.W.fnOf "__eq__" "Meter.__eq__" (defArgs s_Meter___eq__) (defBody s_Meter___eq__) (defScope s_Meter___eq__) .none kVMq dcMq pmMq anMq cdMq ctMq), slMq⟩)
    (cMq : PySem.W.codeIn K cdMq "Meter.__eq__" = true)
    (kMq : PySem.W.keepIn K (.ref fMq) = true)
    (fiMq : PySem.W.fnIn K fMq = true)
    (nN : PySem.W.nsIn K mainGlobals "Net" = some (some (.ref CN)))
    (pgN : PySem.W.plainGet K CN Str.empty = true)
    (hdN : PySem.W.hasDictIn K CN = true)
    (poN : PySem.W.plainOver K CN = true)
    (saN : PySem.W.findIn K (.ref CN) "__setattr__" = some (some (.builtin "object.__setattr__")))
    (mkN : PySem.W.makesIn K CN = true)
    (kcN : PySem.W.keepIn K (.ref CN) = true)
    (haN : PySem.W.findIn K (.ref CN) "__class__" = some (some (.builtin "object.__class__")))
    (hmN : PySem.W.mroIn K CN (.type "object") = some true)
    (tyN : PySem.W.typeIn K (.ref CN) = some (.type "type"))
    (suN : PySem.W.subIn K (.ref CN) (.ref CN) = some true)
    (obN : PySem.W.subIn K (.ref CN) (.type "object") = some true)
    (noN0 : PySem.W.findIn K (.ref CN) "_pipes" = some none)
    (noN1 : PySem.W.findIn K (.ref CN) "_meters" = some none)
    (neN : PySem.W.findIn K (.ref CN) "__ne__" = some (some (.builtin "object.__ne__")))
    (aIo : PySem.W.nsIn K mainGlobals "_index_of" = some (some (.ref fIo)))
    (lIo : K.lookup fIo = some ⟨ocIo, odIo, .func (PySem.W.fnOf "_index_of" "_index_of" (defArgs s_index_of) (defBody s_index_of) (defScope s_index_of) .none kVIo dcIo pmIo anIo cdIo ctIo), slIo⟩)
    (cIo : PySem.W.codeIn K cdIo "_index_of" = true)
    (kIo : PySem.W.keepIn K (.ref fIo) = true)
    (aCp : PySem.W.nsIn K mainGlobals "_check_pipes" = some (some (.ref fCp)))
    (lCp : K.lookup fCp = some ⟨ocCp, odCp, .func (PySem.W.fnOf "_check_pipes" "_check_pipes" (defArgs s_check_pipes) (defBody s_check_pipes) (defScope s_check_pipes) .none kVCp dcCp pmCp anCp cdCp ctCp), slCp⟩)
    (cCp : PySem.W.codeIn K cdCp "_check_pipes" = true)
    (kCp : PySem.W.keepIn K (.ref fCp) = true)
    (aCm : PySem.W.nsIn K mainGlobals "_check_meters" = some (some (.ref fCm)))
    (lCm : K.lookup fCm = some ⟨ocCm, odCm, .func (PySem.W.fnOf "_check_meters" "_check_meters" (defArgs s_check_meters) (defBody s_check_meters) (defScope s_check_meters) .none kVCm dcCm pmCm anCm cdCm ctCm), slCm⟩)
    (cCm : PySem.W.codeIn K cdCm "_check_meters" = true)
    (kCm : PySem.W.keepIn K (.ref fCm) = true)
    (aPl : PySem.W.nsIn K mainGlobals "_pipe_line" = some (some (.ref fPl)))
    (lPl : K.lookup fPl = some ⟨ocPl, odPl, .func (PySem.W.fnOf "_pipe_line" "_pipe_line" (defArgs s_pipe_line) (defBody s_pipe_line) (defScope s_pipe_line) .none kVPl dcPl pmPl anPl cdPl ctPl), slPl⟩)
    (cPl : PySem.W.codeIn K cdPl "_pipe_line" = true)
    (kPl : PySem.W.keepIn K (.ref fPl) = true)
    (aMl : PySem.W.nsIn K mainGlobals "_meter_line" = some (some (.ref fMl)))
    (lMl : K.lookup fMl = some ⟨ocMl, odMl, .func (PySem.W.fnOf "_meter_line" "_meter_line" (defArgs s_meter_line) (defBody s_meter_line) (defScope s_meter_line) .none kVMl dcMl pmMl anMl cdMl ctMl), slMl⟩)
    (cMl : PySem.W.codeIn K cdMl "_meter_line" = true)
    (kMl : PySem.W.keepIn K (.ref fMl) = true)
    (aLs : PySem.W.nsIn K mainGlobals "_lines" = some (some (.ref fLs)))
    (lLs : K.lookup fLs = some ⟨ocLs, odLs, .func (PySem.W.fnOf "_lines" "_lines" (defArgs s_lines) (defBody s_lines) (defScope s_lines) .none kVLs dcLs pmLs anLs cdLs ctLs), slLs⟩)
    (cLs : PySem.W.codeIn K cdLs "_lines" = true)
    (kLs : PySem.W.keepIn K (.ref fLs) = true)
    (aNi : PySem.W.findIn K (.ref CN) "__init__" = some (some (.ref fNi)))
    (iNi : PySem.W.isFn K (.ref fNi) = true)
    (lNi : K.lookup fNi = some ⟨ocNi, odNi, .func (PySem.W.fnOf "__init__" "Net.__init__" (defArgs s_Net___init__) (defBody s_Net___init__) (defScope s_Net___init__) (.ref tD) kVNi dcNi pmNi anNi cdNi ctNi), slNi⟩)
    (cNi : PySem.W.codeIn K cdNi "Net.__init__" = true)
    (kNi : PySem.W.keepIn K (.ref fNi) = true)
    (lT : K.lookup tD = some ⟨.type "tuple", odT, .seq #[.ref t0] nT, slT⟩)
    (anp : PySem.W.findIn K (.ref CN) "pipes" = some (some (.ref pnp)))
    (gnp : PySem.W.specialIn K (.ref pnp) "__get__" = some (some (.builtin "property.__get__")))
    (tnp : PySem.W.takesIn K (.ref pnp) = some true)
    (rnp_ : PySem.W.recIn K pnp "property" = some (.ref fnp :: rnp))
    (lnp : K.lookup fnp = some ⟨ocnp, odnp, .func (PySem.W.fnOf "pipes" "Net.pipes" (defArgs s_Net_pipes) (defBody s_Net_pipes) (defScope s_Net_pipes) .none kVnp dcnp pmnp annp cdnp ctnp), slnp⟩)
    (cnp : PySem.W.codeIn K cdnp "Net.pipes" = true)
    (knp : PySem.W.keepIn K (.ref fnp) = true)
    (anm : PySem.W.findIn K (.ref CN) "meters" = some (some (.ref pnm)))
    (gnm : PySem.W.specialIn K (.ref pnm) "__get__" = some (some (.builtin "property.__get__")))
    (tnm : PySem.W.takesIn K (.ref pnm) = some true)
    (rnm_ : PySem.W.recIn K pnm "property" = some (.ref fnm :: rnm))
    (lnm : K.lookup fnm = some ⟨ocnm, odnm, .func (PySem.W.fnOf "meters" "Net.meters" (defArgs s_Net_meters) (defBody s_Net_meters) (defScope s_Net_meters) .none kVnm dcnm pmnm annm cdnm ctnm), slnm⟩)
    (cnm : PySem.W.codeIn K cdnm "Net.meters" = true)
    (knm : PySem.W.keepIn K (.ref fnm) = true)
    (aNl : PySem.W.findIn K (.ref CN) "__len__" = some (some (.ref fNl)))
    (iNl : PySem.W.isFn K (.ref fNl) = true)
    (lNl : K.lookup fNl = some ⟨ocNl, odNl, .func (PySem.W.fnOf "__len__" "Net.__len__" (defArgs s_Net___len__) (defBody s_Net___len__) (defScope s_Net___len__) .none kVNl dcNl pmNl anNl cdNl ctNl), slNl⟩)
    (cNl : PySem.W.codeIn K cdNl "Net.__len__" = true)
    (kNl : PySem.W.keepIn K (.ref fNl) = true)
    (fiNl : PySem.W.fnIn K fNl = true)
    (aNs : PySem.W.findIn K (.ref CN) "__str__" = some (some (.ref fNs)))
    (iNs : PySem.W.isFn K (.ref fNs) = true)
    (lNs : K.lookup fNs = some ⟨ocNs, odNs, .func (PySem.W.fnOf "__str__" "Net.__str__" (defArgs s_Net___str__) (defBody s_Net___str__) (defScope s_Net___str__) .none kVNs dcNs pmNs anNs cdNs ctNs), slNs⟩)
    (cNs : PySem.W.codeIn K cdNs "Net.__str__" = true)
    (kNs : PySem.W.keepIn K (.ref fNs) = true)
    (fiNs : PySem.W.fnIn K fNs = true)
    (aNq : PySem.W.findIn K (.ref CN) "__eq__" = some (some (.ref fNq)))
    (iNq : PySem.W.isFn K (.ref fNq) = true)
    (lNq : K.lookup fNq = some ⟨ocNq, odNq, .func (PySem.W.fnOf "__eq__" "Net.__eq__" (defArgs s_Net___eq__) (defBody s_Net___eq__) (defScope s_Net___eq__) .none kVNq dcNq pmNq anNq cdNq ctNq), slNq⟩)
    (cNq : PySem.W.codeIn K cdNq "Net.__eq__" = true)
    (kNq : PySem.W.keepIn K (.ref fNq) = true)
    (fiNq : PySem.W.fnIn K fNq = true)
    (aRw : PySem.W.nsIn K mainGlobals "_rows_in" = some (some (.ref fRw)))
    (lRw : K.lookup fRw = some ⟨ocRw, odRw, .func (PySem.W.fnOf "_rows_in" "_rows_in" (defArgs s_rows_in) (defBody s_rows_in) (defScope s_rows_in) .none kVRw dcRw pmRw anRw cdRw ctRw), slRw⟩)
    (cRw : PySem.W.codeIn K cdRw "_rows_in" = true)
    (kRw : PySem.W.keepIn K (.ref fRw) = true)
    (aPn : PySem.W.nsIn K mainGlobals "_pipes_in" = some (some (.ref fPn)))
    (lPn : K.lookup fPn = some ⟨ocPn, odPn, .func (PySem.W.fnOf "_pipes_in" "_pipes_in" (defArgs s_pipes_in) (defBody s_pipes_in) (defScope s_pipes_in) .none kVPn dcPn pmPn anPn cdPn ctPn), slPn⟩)
    (cPn : PySem.W.codeIn K cdPn "_pipes_in" = true)
    (kPn : PySem.W.keepIn K (.ref fPn) = true)
    (aMn : PySem.W.nsIn K mainGlobals "_meters_in" = some (some (.ref fMn)))
    (lMn : K.lookup fMn = some ⟨ocMn, odMn, .func (PySem.W.fnOf "_meters_in" "_meters_in" (defArgs s_meters_in) (defBody s_meters_in) (defScope s_meters_in) .none kVMn dcMn pmMn anMn cdMn ctMn), slMn⟩)
    (cMn : PySem.W.codeIn K cdMn "_meters_in" = true)
    (kMn : PySem.W.keepIn K (.ref fMn) = true)
    (rdN : PySem.W.readsIn K CN (.type "type") = true)
    (gaN : PySem.W.specialIn K (.ref CN) "__getattribute__" = some (some (.builtin "type.__getattribute__")))
    (aNr : PySem.W.findCls K (.ref CN) (.type "type") "read" = some (.get (.builtin "classmethod.__get__") (.ref pNr) .none (.ref CN)))
    (rNr_ : PySem.W.recIn K pNr "classmethod" = some (.ref fNr :: rNr))
    (fiNr : PySem.W.fnIn K fNr = true)
    (lNr : K.lookup fNr = some ⟨ocNr, odNr, .func (PySem.W.fnOf "read" "Net.read" (defArgs s_Net_read) (defBody s_Net_read) (defScope s_Net_read) .none kVNr dcNr pmNr anNr cdNr ctNr), slNr⟩)
    (cNr : PySem.W.codeIn K cdNr "Net.read" = true)
    (kNr : PySem.W.keepIn K (.ref fNr) = true)
    (b_zip : PySem.W.nsIn K mainGlobals "zip" = some none)
    (aPp : PySem.W.findIn K (.ref CN) "pipe" = some (some (.ref fPp)))
    (iPp : PySem.W.isFn K (.ref fPp) = true)
    (lPp : K.lookup fPp = some ⟨ocPp, odPp, .func (PySem.W.fnOf "pipe" "Net.pipe" (defArgs s_Net_pipe) (defBody s_Net_pipe) (defScope s_Net_pipe) .none kVPp dcPp pmPp anPp cdPp ctPp), slPp⟩)
    (cPp : PySem.W.codeIn K cdPp "Net.pipe" = true)
    (kPp : PySem.W.keepIn K (.ref fPp) = true)
    (aKn : PySem.W.nsIn K mainGlobals "check_net" = some (some (.ref fKn)))
    (lKn : K.lookup fKn = some ⟨ocKn, odKn, .func (PySem.W.fnOf "check_net" "check_net" (defArgs s_check_net) (defBody s_check_net) (defScope s_check_net) .none kVKn dcKn pmKn anKn cdKn ctKn), slKn⟩)
    (cKn : PySem.W.codeIn K cdKn "check_net" = true)
    (kKn : PySem.W.keepIn K (.ref fKn) = true)
    (aKp : PySem.W.nsIn K mainGlobals "check_pipe" = some (some (.ref fKp)))
    (lKp : K.lookup fKp = some ⟨ocKp, odKp, .func (PySem.W.fnOf "check_pipe" "check_pipe" (defArgs s_check_pipe) (defBody s_check_pipe) (defScope s_check_pipe) .none kVKp dcKp pmKp anKp cdKp ctKp), slKp⟩)
    (cKp : PySem.W.codeIn K cdKp "check_pipe" = true)
    (kKp : PySem.W.keepIn K (.ref fKp) = true)
    (aMa : PySem.W.nsIn K mainGlobals "meters_at" = some (some (.ref fMa)))
    (lMa : K.lookup fMa = some ⟨ocMa, odMa, .func (PySem.W.fnOf "meters_at" "meters_at" (defArgs s_meters_at) (defBody s_meters_at) (defScope s_meters_at) .none kVMa dcMa pmMa anMa cdMa ctMa), slMa⟩)
    (cMa : PySem.W.codeIn K cdMa "meters_at" = true)
    (kMa : PySem.W.keepIn K (.ref fMa) = true)
    (aSa : PySem.W.nsIn K mainGlobals "sealed_at" = some (some (.ref fSa)))
    (lSa : K.lookup fSa = some ⟨ocSa, odSa, .func (PySem.W.fnOf "sealed_at" "sealed_at" (defArgs s_sealed_at) (defBody s_sealed_at) (defScope s_sealed_at) .none kVSa dcSa pmSa anSa cdSa ctSa), slSa⟩)
    (cSa : PySem.W.codeIn K cdSa "sealed_at" = true)
    (kSa : PySem.W.keepIn K (.ref fSa) = true)
    (aAm : PySem.W.nsIn K mainGlobals "_amounts" = some (some (.ref fAm)))
    (lAm : K.lookup fAm = some ⟨ocAm, odAm, .func (PySem.W.fnOf "_amounts" "_amounts" (defArgs s_amounts) (defBody s_amounts) (defScope s_amounts) .none kVAm dcAm pmAm anAm cdAm ctAm), slAm⟩)
    (cAm : PySem.W.codeIn K cdAm "_amounts" = true)
    (kAm : PySem.W.keepIn K (.ref fAm) = true)
    (aLk : PySem.W.nsIn K mainGlobals "_links" = some (some (.ref fLk)))
    (lLk : K.lookup fLk = some ⟨ocLk, odLk, .func (PySem.W.fnOf "_links" "_links" (defArgs s_links) (defBody s_links) (defScope s_links) .none kVLk dcLk pmLk anLk cdLk ctLk), slLk⟩)
    (cLk : PySem.W.codeIn K cdLk "_links" = true)
    (kLk : PySem.W.keepIn K (.ref fLk) = true)
    (aLd : PySem.W.nsIn K mainGlobals "_lead_on" = some (some (.ref fLd)))
    (lLd : K.lookup fLd = some ⟨ocLd, odLd, .func (PySem.W.fnOf "_lead_on" "_lead_on" (defArgs s_lead_on) (defBody s_lead_on) (defScope s_lead_on) .none kVLd dcLd pmLd anLd cdLd ctLd), slLd⟩)
    (cLd : PySem.W.codeIn K cdLd "_lead_on" = true)
    (kLd : PySem.W.keepIn K (.ref fLd) = true)
    (aSw : PySem.W.nsIn K mainGlobals "shortest_ways" = some (some (.ref fSw)))
    (lSw : K.lookup fSw = some ⟨ocSw, odSw, .func (PySem.W.fnOf "shortest_ways" "shortest_ways" (defArgs s_shortest_ways) (defBody s_shortest_ways) (defScope s_shortest_ways) .none kVSw dcSw pmSw anSw cdSw ctSw), slSw⟩)
    (cSw : PySem.W.codeIn K cdSw "shortest_ways" = true)
    (kSw : PySem.W.keepIn K (.ref fSw) = true)
    (aWb : PySem.W.nsIn K mainGlobals "_way_back" = some (some (.ref fWb)))
    (lWb : K.lookup fWb = some ⟨ocWb, odWb, .func (PySem.W.fnOf "_way_back" "_way_back" (defArgs s_way_back) (defBody s_way_back) (defScope s_way_back) .none kVWb dcWb pmWb anWb cdWb ctWb), slWb⟩)
    (cWb : PySem.W.codeIn K cdWb "_way_back" = true)
    (kWb : PySem.W.keepIn K (.ref fWb) = true)
    (aSt : PySem.W.nsIn K mainGlobals "strength" = some (some (.ref fSt)))
    (lSt : K.lookup fSt = some ⟨ocSt, odSt, .func (PySem.W.fnOf "strength" "strength" (defArgs s_strength) (defBody s_strength) (defScope s_strength) .none kVSt dcSt pmSt anSt cdSt ctSt), slSt⟩)
    (cSt : PySem.W.codeIn K cdSt "strength" = true)
    (kSt : PySem.W.keepIn K (.ref fSt) = true)
    (aWe : PySem.W.nsIn K mainGlobals "_law_well" = some (some (.ref fWe)))
    (lWe : K.lookup fWe = some ⟨ocWe, odWe, .func (PySem.W.fnOf "_law_well" "_law_well" (defArgs s_well) (defBody s_well) (defScope s_well) .none kVWe dcWe pmWe anWe cdWe ctWe), slWe⟩)
    (cWe : PySem.W.codeIn K cdWe "_law_well" = true)
    (kWe : PySem.W.keepIn K (.ref fWe) = true)
    (aDi : PySem.W.nsIn K mainGlobals "_law_dip" = some (some (.ref fDi)))
    (lDi : K.lookup fDi = some ⟨ocDi, odDi, .func (PySem.W.fnOf "_law_dip" "_law_dip" (defArgs s_dip) (defBody s_dip) (defScope s_dip) .none kVDi dcDi pmDi anDi cdDi ctDi), slDi⟩)
    (cDi : PySem.W.codeIn K cdDi "_law_dip" = true)
    (kDi : PySem.W.keepIn K (.ref fDi) = true)
    (aNa : PySem.W.nsIn K mainGlobals "_law_names" = some (some (.ref fNa)))
    (lNa : K.lookup fNa = some ⟨ocNa, odNa, .func (PySem.W.fnOf "_law_names" "_law_names" (defArgs s_names) (defBody s_names) (defScope s_names) .none kVNa dcNa pmNa anNa cdNa ctNa), slNa⟩)
    (cNa : PySem.W.codeIn K cdNa "_law_names" = true)
    (kNa : PySem.W.keepIn K (.ref fNa) = true)
    (aPa : PySem.W.nsIn K mainGlobals "_law_paths" = some (some (.ref fPa)))
    (lPa : K.lookup fPa = some ⟨ocPa, odPa, .func (PySem.W.fnOf "_law_paths" "_law_paths" (defArgs s_paths) (defBody s_paths) (defScope s_paths) .none kVPa dcPa pmPa anPa cdPa ctPa), slPa⟩)
    (cPa : PySem.W.codeIn K cdPa "_law_paths" = true)
    (kPa : PySem.W.keepIn K (.ref fPa) = true)
    (aRi : PySem.W.nsIn K mainGlobals "_law_right" = some (some (.ref fRi)))
    (lRi : K.lookup fRi = some ⟨ocRi, odRi, .func (PySem.W.fnOf "_law_right" "_law_right" (defArgs s_right) (defBody s_right) (defScope s_right) .none kVRi dcRi pmRi anRi cdRi ctRi), slRi⟩)
    (cRi : PySem.W.codeIn K cdRi "_law_right" = true)
    (kRi : PySem.W.keepIn K (.ref fRi) = true)
    (aLa : PySem.W.nsIn K mainGlobals "law" = some (some (.ref fLa)))
    (lLa : K.lookup fLa = some ⟨ocLa, odLa, .func (PySem.W.fnOf "law" "law" (defArgs s_law) (defBody s_law) (defScope s_law) .none kVLa dcLa pmLa anLa cdLa ctLa), slLa⟩)
    (cLa : PySem.W.codeIn K cdLa "law" = true)
    (kLa : PySem.W.keepIn K (.ref fLa) = true)
    : ∃ fd : FuncData, (∀ (s : Shared) (v : Value), BindsTo s fd ⟨[v], []⟩ [("_law_script", v)]) ∧ ∀ base : Heap, K.In base → base.Ns mainGlobals mg → FnG l.prog w K mg base 10 fa fd ["_law_script"] (spLaw K) := by
  have e := hfa.symm.trans (PySem.W.mg_of X G aLa)
  cases e
  have T : Blt mg := ⟨PySem.W.mg_none_of X G b_len, PySem.W.mg_none_of X G b_int, PySem.W.mg_none_of X G b_abs, PySem.W.mg_none_of X G b_max, PySem.W.mg_none_of X G b_min, PySem.W.mg_none_of X G b_all, PySem.W.mg_none_of X G b_any, PySem.W.mg_none_of X G b_repr, PySem.W.mg_none_of X G b_range, PySem.W.mg_none_of X G b_divmod, PySem.W.mg_none_of X G b_isinstance, PySem.W.mg_none_of X G b_str⟩
  have T2 : Blt2 mg := ⟨PySem.W.mg_none_of X G b_sum, PySem.W.mg_none_of X G b_sorted, PySem.W.mg_none_of X G b_set, PySem.W.mg_none_of X G b_tuple, PySem.W.mg_none_of X G b_enumerate, PySem.W.mg_none_of X G b_bool⟩
  have Cs : Cst mg := ⟨⟨_, PySem.W.mg_of X G g__LETTERS, _, rfl⟩, ⟨_, PySem.W.mg_of X G g__DIGITS, _, rfl⟩, ⟨_, PySem.W.mg_of X G g__LONGEST_NAME, _, rfl⟩⟩
  have Cs3 : Cst3 mg := ⟨⟨_, PySem.W.mg_of X G g_MOST_PIPES, _, rfl⟩, ⟨_, PySem.W.mg_of X G g_MOST_METERS, _, rfl⟩⟩
  have FIn := fun_mk (st := s_is_name) lIn cIn kIn
  have bIn : Binds K _ ["value"] [] := FIn.binds (ps := ["value"]) fun _ _ _ _ _ _ us hl => match us, hl with | [_], _ => rfl
  have FCn := fun_mk (st := s_check_names) lCn cCn kCn
  have bCn : Binds K _ ["values"] [] := FCn.binds (ps := ["values"]) fun _ _ _ _ _ _ us hl => match us, hl with | [_], _ => rfl
  have clP : Cls K CP := ⟨pgP, hdP, poP, saP⟩
  have clM : Cls K CM := ⟨pgM, hdM, poM, saM⟩
  have PC : PClass K mg CP := ⟨⟨clP, haP, hn, htk, hmP⟩, PySem.W.mg_of X G nP, noP0, noP1, noP2, kit_self K CP⟩
  have MC : MClass K mg CM := ⟨⟨clM, haM, hn, htk, hmM⟩, PySem.W.mg_of X G nM, noM0, noM1, noM2, kit_self K CM⟩
  have FPi := fun_mk (st := s_Pipe___init__) lPi cPi kPi
  have bPi : Binds K _ ["self", "name", "start", "end"] [] := FPi.binds (ps := ["self", "name", "start", "end"]) fun _ _ _ _ _ _ us hl => match us, hl with | [_, _, _, _], _ => rfl
  have MkP : Mk K CP fPi := ⟨mkP, aPi, iPi, kcP⟩
  have FMi : FunD K "__init__" "Meter.__init__" (defArgs s_Meter___init__) (defBody s_Meter___init__) (defScope s_Meter___init__) [] [("sealed", V.bl false)] fMi _ := ⟨⟨_, _, _, _, _, _, _, _, _, _, rfl, lMi, cMi, .inl ⟨rfl, rfl⟩, .inr ⟨kDMi, rfl, fun q hq => by
    rw [List.mem_singleton.mp hq]
    exact ⟨_, kd, rfl⟩⟩⟩, kMi⟩
  have MkM : Mk K CM fMi := ⟨mkM, aMi, iMi, kcM⟩
  have Fpn := fun_mk (st := s_Pipe_name) lpn cpn kpn
  have bpn : Binds K _ ["self"] [] := Fpn.binds (ps := ["self"]) fun _ _ _ _ _ _ us hl => match us, hl with | [_], _ => rfl
  have Fps := fun_mk (st := s_Pipe_start) lps cps kps
  have bps : Binds K _ ["self"] [] := Fps.binds (ps := ["self"]) fun _ _ _ _ _ _ us hl => match us, hl with | [_], _ => rfl
  have Fpe := fun_mk (st := s_Pipe_end) lpe cpe kpe
  have bpe : Binds K _ ["self"] [] := Fpe.binds (ps := ["self"]) fun _ _ _ _ _ _ us hl => match us, hl with | [_], _ => rfl
  have Fmn := fun_mk (st := s_Meter_name) lmn cmn kmn
  have bmn : Binds K _ ["self"] [] := Fmn.binds (ps := ["self"]) fun _ _ _ _ _ _ us hl => match us, hl with | [_], _ => rfl
  have Fma := fun_mk (st := s_Meter_at) lma cma kma
  have bma : Binds K _ ["self"] [] := Fma.binds (ps := ["self"]) fun _ _ _ _ _ _ us hl => match us, hl with | [_], _ => rfl
  have Fmz := fun_mk (st := s_Meter_sealed) lmz cmz kmz
  have bmz : Binds K _ ["self"] [] := Fmz.binds (ps := ["self"]) fun _ _ _ _ _ _ us hl => match us, hl with | [_], _ => rfl
  have FPq := fun_mk (st := s_Pipe___eq__) lPq cPq kPq
  have bPq : Binds K _ ["self", "other"] [] := FPq.binds (ps := ["self", "other"]) fun _ _ _ _ _ _ us hl => match us, hl with | [_, _], _ => rfl
  have FMq := fun_mk (st := s_Meter___eq__) lMq cMq kMq
  have bMq : Binds K _ ["self", "other"] [] := FMq.binds (ps := ["self", "other"]) fun _ _ _ _ _ _ us hl => match us, hl with | [_, _], _ => rfl
  have clN : Cls K CN := ⟨pgN, hdN, poN, saN⟩
  have NC : NClass K mg CN := ⟨⟨clN, haN, hn, htk, hmN⟩, PySem.W.mg_of X G nN, noN0, noN1, kit_self K CN⟩
  have FIo := fun_mk (st := s_index_of) lIo cIo kIo
  have bIo : Binds K _ ["parts", "name"] [] := FIo.binds (ps := ["parts", "name"]) fun _ _ _ _ _ _ us hl => match us, hl with | [_, _], _ => rfl
  have FCp := fun_mk (st := s_check_pipes) lCp cCp kCp
  have bCp : Binds K _ ["pipes"] [] := FCp.binds (ps := ["pipes"]) fun _ _ _ _ _ _ us hl => match us, hl with | [_], _ => rfl
  have FCm := fun_mk (st := s_check_meters) lCm cCm kCm
  have bCm : Binds K _ ["meters", "pipes"] [] := FCm.binds (ps := ["meters", "pipes"]) fun _ _ _ _ _ _ us hl => match us, hl with | [_, _], _ => rfl
  have FPl := fun_mk (st := s_pipe_line) lPl cPl kPl
  have bPl : Binds K _ ["part"] [] := FPl.binds (ps := ["part"]) fun _ _ _ _ _ _ us hl => match us, hl with | [_], _ => rfl
  have FMl := fun_mk (st := s_meter_line) lMl cMl kMl
  have bMl : Binds K _ ["part"] [] := FMl.binds (ps := ["part"]) fun _ _ _ _ _ _ us hl => match us, hl with | [_], _ => rfl
  have FLs := fun_mk (st := s_lines) lLs cLs kLs
  have bLs : Binds K _ ["pipes", "meters"] [] := FLs.binds (ps := ["pipes", "meters"]) fun _ _ _ _ _ _ us hl => match us, hl with | [_, _], _ => rfl
  have FNi : FunD K "__init__" "Net.__init__" (defArgs s_Net___init__) (defBody s_Net___init__) (defScope s_Net___init__) [.ref t0] [] fNi _ := ⟨⟨_, _, _, _, _, _, _, _, _, _, rfl, lNi, cNi, .inr ⟨by simp, tD, _, [.ref t0], nT, rfl, lT, rfl, .cons rfl .nil⟩, .inl rfl⟩, kNi⟩
  obtain ⟨dsN, vdN, bdN⟩ := chainN FNi
  have MkN : Mk K CN fNi := ⟨mkN, aNi, iNi, kcN⟩
  have Fnp := fun_mk (st := s_Net_pipes) lnp cnp knp
  have bnp : Binds K _ ["self"] [] := Fnp.binds (ps := ["self"]) fun _ _ _ _ _ _ us hl => match us, hl with | [_], _ => rfl
  have Fnm := fun_mk (st := s_Net_meters) lnm cnm knm
  have bnm : Binds K _ ["self"] [] := Fnm.binds (ps := ["self"]) fun _ _ _ _ _ _ us hl => match us, hl with | [_], _ => rfl
  have FNl := fun_mk (st := s_Net___len__) lNl cNl kNl
  have bNl : Binds K _ ["self"] [] := FNl.binds (ps := ["self"]) fun _ _ _ _ _ _ us hl => match us, hl with | [_], _ => rfl
  have FNs := fun_mk (st := s_Net___str__) lNs cNs kNs
  have bNs : Binds K _ ["self"] [] := FNs.binds (ps := ["self"]) fun _ _ _ _ _ _ us hl => match us, hl with | [_], _ => rfl
  have FNq := fun_mk (st := s_Net___eq__) lNq cNq kNq
  have bNq : Binds K _ ["self", "other"] [] := FNq.binds (ps := ["self", "other"]) fun _ _ _ _ _ _ us hl => match us, hl with | [_, _], _ => rfl
  have FRw := fun_mk (st := s_rows_in) lRw cRw kRw
  have bRw : Binds K _ ["text"] [] := FRw.binds (ps := ["text"]) fun _ _ _ _ _ _ us hl => match us, hl with | [_], _ => rfl
  have FPn := fun_mk (st := s_pipes_in) lPn cPn kPn
  have bPn : Binds K _ ["text"] [] := FPn.binds (ps := ["text"]) fun _ _ _ _ _ _ us hl => match us, hl with | [_], _ => rfl
  have FMn := fun_mk (st := s_meters_in) lMn cMn kMn
  have bMn : Binds K _ ["text"] [] := FMn.binds (ps := ["text"]) fun _ _ _ _ _ _ us hl => match us, hl with | [_], _ => rfl
  have RN : ClX.CRead K CN (.type "type") := ⟨rdN, gaN⟩
  have FNr := fun_mk (st := s_Net_read) lNr cNr kNr
  have bNr : Binds K _ ["cls", "text"] [] := FNr.binds (ps := ["cls", "text"]) fun _ _ _ _ _ _ us hl => match us, hl with | [_, _], _ => rfl
  have FPp := fun_mk (st := s_Net_pipe) lPp cPp kPp
  have bPp : Binds K _ ["self", "name"] [] := FPp.binds (ps := ["self", "name"]) fun _ _ _ _ _ _ us hl => match us, hl with | [_, _], _ => rfl
  have FKn := fun_mk (st := s_check_net) lKn cKn kKn
  have bKn : Binds K _ ["net"] [] := FKn.binds (ps := ["net"]) fun _ _ _ _ _ _ us hl => match us, hl with | [_], _ => rfl
  have FKp := fun_mk (st := s_check_pipe) lKp cKp kKp
  have bKp : Binds K _ ["net", "pipe"] [] := FKp.binds (ps := ["net", "pipe"]) fun _ _ _ _ _ _ us hl => match us, hl with | [_, _], _ => rfl
  have FMa := fun_mk (st := s_meters_at) lMa cMa kMa
  have bMa : Binds K _ ["net", "name"] [] := FMa.binds (ps := ["net", "name"]) fun _ _ _ _ _ _ us hl => match us, hl with | [_, _], _ => rfl
  have FSa := fun_mk (st := s_sealed_at) lSa cSa kSa
  have bSa : Binds K _ ["net", "name"] [] := FSa.binds (ps := ["net", "name"]) fun _ _ _ _ _ _ us hl => match us, hl with | [_, _], _ => rfl
  have FAm := fun_mk (st := s_amounts) lAm cAm kAm
  have bAm : Binds K _ ["net", "index", "amount"] [] := FAm.binds (ps := ["net", "index", "amount"]) fun _ _ _ _ _ _ us hl => match us, hl with | [_, _, _], _ => rfl
  have FLk := fun_mk (st := s_links) lLk cLk kLk
  have bLk : Binds K _ ["net", "pipe"] [] := FLk.binds (ps := ["net", "pipe"]) fun _ _ _ _ _ _ us hl => match us, hl with | [_, _], _ => rfl
  have FLd := fun_mk (st := s_lead_on) lLd cLd kLd
  have bLd : Binds K _ ["ways", "start", "end", "many", "amounts"] [] := FLd.binds (ps := ["ways", "start", "end", "many", "amounts"]) fun _ _ _ _ _ _ us hl => match us, hl with | [_, _, _, _, _], _ => rfl
  have FSw := fun_mk (st := s_shortest_ways) lSw cSw kSw
  have bSw : Binds K _ ["net", "pipe"] [] := FSw.binds (ps := ["net", "pipe"]) fun _ _ _ _ _ _ us hl => match us, hl with | [_, _], _ => rfl
  have FWb := fun_mk (st := s_way_back) lWb cWb kWb
  have bWb : Binds K _ ["net", "pipe"] [] := FWb.binds (ps := ["net", "pipe"]) fun _ _ _ _ _ _ us hl => match us, hl with | [_, _], _ => rfl
  have FSt := fun_mk (st := s_strength) lSt cSt kSt
  have bSt : Binds K _ ["net", "pipe"] [] := FSt.binds (ps := ["net", "pipe"]) fun _ _ _ _ _ _ us hl => match us, hl with | [_, _], _ => rfl
  have FWe := fun_mk (st := s_well) lWe cWe kWe
  have bWe : Binds K _ ["_law_script", "_law_k"] [] := FWe.binds (ps := ["_law_script", "_law_k"]) fun _ _ _ _ _ _ us hl => match us, hl with | [_, _], _ => rfl
  have FDi := fun_mk (st := s_dip) lDi cDi kDi
  have bDi : Binds K _ ["_law_well_here", "_law_many"] [] := FDi.binds (ps := ["_law_well_here", "_law_many"]) fun _ _ _ _ _ _ us hl => match us, hl with | [_, _], _ => rfl
  have FNa := fun_mk (st := s_names) lNa cNa kNa
  have bNa : Binds K _ ["_law_well_here", "_law_many"] [] := FNa.binds (ps := ["_law_well_here", "_law_many"]) fun _ _ _ _ _ _ us hl => match us, hl with | [_, _], _ => rfl
  have FPa := fun_mk (st := s_paths) lPa cPa kPa
  have bPa : Binds K _ ["_law_well_here", "_law_roads"] [] := FPa.binds (ps := ["_law_well_here", "_law_roads"]) fun _ _ _ _ _ _ us hl => match us, hl with | [_, _], _ => rfl
  have FRi := fun_mk (st := s_right) lRi cRi kRi
  have bRi : Binds K _ ["_law_well_here"] [] := FRi.binds (ps := ["_law_well_here"]) fun _ _ _ _ _ _ us hl => match us, hl with | [_], _ => rfl
  refine ⟨PySem.W.fnOf "law" "law" (defArgs s_law) (defBody s_law) (defScope s_law) .none kVLa dcLa pmLa anLa cdLa ctLa, fun s v => .of_eq rfl, fun base _ _ => ?_⟩
  have GIn : Fn l.prog w K mg base "is_name" 1 ["value"] (sp_is_name K) := ⟨_, _, PySem.W.mg_of X G aIn, kIn, bIn, ok_is_name FIn T Cs⟩
  have GCn : Fn l.prog w K mg base "_check_names" 2 ["values"] (sp_check K) := ⟨_, _, PySem.W.mg_of X G aCn, kCn, bCn, ok_check_names FCn GIn.irr⟩
  have OPi : FnOk l.prog w K mg base CX0 3 fPi _ ["self", "name", "start", "end"] (sp_Pipe CP) := ok_Pipe_i FPi PC GCn.irr
  have P0 : Mkr l.prog w K mg base "Pipe" CP 3 (sp_Pipe CP) [] := ⟨PC.k, _, _, _, [], MkP, bPi, .nil, OPi⟩
  have OMi : FnOk l.prog w K mg base CX0 3 fMi _ ["self", "name", "at", "sealed"] (sp_Meter CM) := ok_Meter_i FMi MC GCn.irr
  have M2 : MkrK l.prog w K mg base "Meter" CM 3 2 ["sealed"] (sp_Meter CM) gM2 := ⟨MC.k, _, _, _, _, MkM, kbM2 FMi, OMi⟩
  have Gpn : Prp l.prog w K mg base CP "name" 1 (sp_pn CP) := ⟨clP, _, _, _, _, ⟨apn, gpn, tpn, _, rpn_⟩, bpn, ok_Pipe_name Fpn PC⟩
  have Gps : Prp l.prog w K mg base CP "start" 1 (sp_ps CP) := ⟨clP, _, _, _, _, ⟨aps, gps, tps, _, rps_⟩, bps, ok_Pipe_start Fps PC⟩
  have Gpe : Prp l.prog w K mg base CP "end" 1 (sp_pe CP) := ⟨clP, _, _, _, _, ⟨ape, gpe, tpe, _, rpe_⟩, bpe, ok_Pipe_end Fpe PC⟩
  have Gmn : Prp l.prog w K mg base CM "name" 1 (sp_mn CM) := ⟨clM, _, _, _, _, ⟨amn, gmn, tmn, _, rmn_⟩, bmn, ok_Meter_name Fmn MC⟩
  have Gma : Prp l.prog w K mg base CM "at" 1 (sp_ma CM) := ⟨clM, _, _, _, _, ⟨ama, gma, tma, _, rma_⟩, bma, ok_Meter_at Fma MC⟩
  have Gmz : Prp l.prog w K mg base CM "sealed" 1 (sp_mz CM) := ⟨clM, _, _, _, _, ⟨amz, gmz, tmz, _, rmz_⟩, bmz, ok_Meter_sealed Fmz MC⟩
  have GPq : OwnM l.prog w K mg base CP "__eq__" 1 (sp_Peq CP) := ⟨_, _, _, aPq, iPq, fiPq, bPq, ok_Pipe_q FPq PC T⟩
  have GMq : OwnM l.prog w K mg base CM "__eq__" 1 (sp_Meq CM) := ⟨_, _, _, aMq, iMq, fiMq, bMq, ok_Meter_q FMq MC T⟩
  have qP : OwnEq l.prog w K mg base CP 1 (sp_Peq CP) := ⟨⟨_, _, _, aPq, iPq, bPq, ok_Pipe_q FPq PC T⟩, neP, obP⟩
  have qM : OwnEq l.prog w K mg base CM 1 (sp_Meq CM) := ⟨⟨_, _, _, aMq, iMq, bMq, ok_Meter_q FMq MC T⟩, neM, obM⟩
  have GIo : Fn l.prog w K mg base "_index_of" 3 ["parts", "name"] (sp_index K CP) := ⟨_, _, PySem.W.mg_of X G aIo, kIo, bIo, ok_index_of FIo T T2 Gpn.irr⟩
  have GCp : Fn l.prog w K mg base "_check_pipes" 3 ["pipes"] (sp_chkP K CP) := ⟨_, _, PySem.W.mg_of X G aCp, kCp, bCp, ok_check_pipes FCp T T2 Cs3 PC Gpn.irr⟩
  have GCm : Fn l.prog w K mg base "_check_meters" 4 ["meters", "pipes"] (sp_chkM K CP CM) := ⟨_, _, PySem.W.mg_of X G aCm, kCm, bCm, ok_check_meters FCm T T2 Cs3 MC Gmn.irr Gma.irr GIo.irr⟩
  have GPl : Fn l.prog w K mg base "_pipe_line" 3 ["part"] (sp_pline CP) := ⟨_, _, PySem.W.mg_of X G aPl, kPl, bPl, ok_pipe_line FPl Gpn.irr Gps.irr Gpe.irr⟩
  have GMl : Fn l.prog w K mg base "_meter_line" 3 ["part"] (sp_mline CM) := ⟨_, _, PySem.W.mg_of X G aMl, kMl, bMl, ok_meter_line FMl Gmn.irr Gma.irr Gmz.irr⟩
  have GLs : Fn l.prog w K mg base "_lines" 4 ["pipes", "meters"] (sp_lines K CP CM) := ⟨_, _, PySem.W.mg_of X G aLs, kLs, bLs, ok_lines FLs GPl.irr GMl.irr⟩
  have ONi : FnOk l.prog w K mg base CX0 5 fNi _ ["self", "pipes", "meters"] (sp_Net K CN CP CM) := ok_Net_i FNi NC GCp.irr GCm.irr
  have N1 : Mkr l.prog w K mg base "Net" CN 5 (sp_Net K CN CP CM) [] := ⟨NC.k, _, _, _, dsN, MkN, bdN, vdN, ONi⟩
  have Gnp : Prp l.prog w K mg base CN "pipes" 1 (sp_npi CN) := ⟨clN, _, _, _, _, ⟨anp, gnp, tnp, _, rnp_⟩, bnp, ok_Net_p Fnp NC⟩
  have Gnm : Prp l.prog w K mg base CN "meters" 1 (sp_nme CN) := ⟨clN, _, _, _, _, ⟨anm, gnm, tnm, _, rnm_⟩, bnm, ok_Net_m Fnm NC⟩
  have GNl : OwnM l.prog w K mg base CN "__len__" 1 (sp_nlen K CN) := ⟨_, _, _, aNl, iNl, fiNl, bNl, ok_Net_l FNl NC T⟩
  have GNs : OwnM l.prog w K mg base CN "__str__" 5 (sp_nstr K CN CP CM) := ⟨_, _, _, aNs, iNs, fiNs, bNs, ok_Net_s FNs NC GLs.irr⟩
  have GNq : OwnM l.prog w K mg base CN "__eq__" 4 (sp_Neq K CN CP CM) := ⟨_, _, _, aNq, iNq, fiNq, bNq, ok_Net_q FNq NC T qP qM⟩
  have qN : OwnEq l.prog w K mg base CN 4 (sp_Neq K CN CP CM) := ⟨⟨_, _, _, aNq, iNq, bNq, ok_Net_q FNq NC T qP qM⟩, neN, obN⟩
  have GRw : Fn l.prog w K mg base "_rows_in" 1 ["text"] (sp_rows) := ⟨_, _, PySem.W.mg_of X G aRw, kRw, bRw, ok_rows_in (K := K) FRw ⟩
  have GPn : Fn l.prog w K mg base "_pipes_in" 5 ["text"] (sp_pin K CP) := ⟨_, _, PySem.W.mg_of X G aPn, kPn, bPn, ok_pipes_in FPn T T2 GRw.irr P0.irr⟩
  have GMn : Fn l.prog w K mg base "_meters_in" 5 ["text"] (sp_min K CM) := ⟨_, _, PySem.W.mg_of X G aMn, kMn, bMn, ok_meters_in FMn T T2 GRw.irr M2.irr⟩
  have ONr := ok_Net_r (P := l.prog) (w := w) (mg := mg) (base := base) FNr T N1.irr GPn.irr GMn.irr GNs.irr
  have GNr : ClsM l.prog w K mg base CN "read" 8 ["cls", "text"] (sp_nread K CN CP CM) := ⟨.type "type", pNr, fNr, _, RN, ⟨aNr, ⟨_, rNr_⟩, fiNr⟩, bNr, ONr⟩
  have GNk : ClsMK l.prog w K mg base CN "read" 8 ["text"] (sp_nread K CN CP CM) gR := ⟨.type "type", pNr, fNr, _, _, _, RN, ⟨aNr, ⟨_, rNr_⟩, fiNr⟩, kbNR FNr, ONr⟩
  have GPp : Mtd l.prog w K mg base CN "pipe" 4 ["self", "name"] (sp_gpipe K CN CP CM) := ⟨clN, _, _, ⟨aPp, iPp, kPp⟩, bPp, ok_gpipe FPp NC GIo.irr⟩
  have GKn : Fn l.prog w K mg base "check_net" 1 ["net"] (sp_chkn K CN CP CM) := ⟨_, _, PySem.W.mg_of X G aKn, kKn, bKn, ok_chkn FKn T NC⟩
  have GKp : Fn l.prog w K mg base "check_pipe" 5 ["net", "pipe"] (sp_chkp K CN CP CM) := ⟨_, _, PySem.W.mg_of X G aKp, kKp, bKp, ok_chkp FKp GPp.irr⟩
  have GMa : Fn l.prog w K mg base "meters_at" 3 ["net", "name"] (sp_mat K CN CP CM) := ⟨_, _, PySem.W.mg_of X G aMa, kMa, bMa, ok_mat FMa Gnm.irr Gma.irr⟩
  have GSa : Fn l.prog w K mg base "sealed_at" 4 ["net", "name"] (sp_sat K CN CP CM) := ⟨_, _, PySem.W.mg_of X G aSa, kSa, bSa, ok_sat FSa GMa.irr Gmn.irr Gmz.irr⟩
  have GAm : Fn l.prog w K mg base "_amounts" 3 ["net", "index", "amount"] (sp_amt K CN CP CM) := ⟨_, _, PySem.W.mg_of X G aAm, kAm, bAm, ok_amt FAm T T2 Gnp.irr⟩
  have GLk : Fn l.prog w K mg base "_links" 5 ["net", "pipe"] (sp_lnks K CN CP CM) := ⟨_, _, PySem.W.mg_of X G aLk, kLk, bLk, ok_lnks FLk T T2 Gnp.irr Gpn.irr Gps.irr Gpe.irr GSa.irr GMa.irr GAm.irr⟩
  have GLd : Fn l.prog w K mg base "_lead_on" 1 ["ways", "start", "end", "many", "amounts"] (sp_lead) := ⟨_, _, PySem.W.mg_of X G aLd, kLd, bLd, ok_lead FLd (PySem.W.mg_none_of X G b_zip) T2⟩
  have GSw : Fn l.prog w K mg base "shortest_ways" 6 ["net", "pipe"] (sp_ways K CN CP CM) := ⟨_, _, PySem.W.mg_of X G aSw, kSw, bSw, ok_ways FSw GPp.irr Gnp.irr Gpe.irr GAm.irr GLk.irr GLd.irr⟩
  have GWb : Fn l.prog w K mg base "_way_back" 7 ["net", "pipe"] (sp_back K CN CP CM) := ⟨_, _, PySem.W.mg_of X G aWb, kWb, bWb, ok_back FWb GPp.irr Gps.irr GSa.irr GSw.irr⟩
  have GSt : Fn l.prog w K mg base "strength" 8 ["net", "pipe"] (sp_stren K CN CP CM) := ⟨_, _, PySem.W.mg_of X G aSt, kSt, bSt, ok_stren FSt T GKn.irr GKp.irr GWb.irr GMa.irr⟩
  have GWe : Fn l.prog w K mg base "_law_well" 1 ["_law_script", "_law_k"] (sp_well K) := ⟨_, _, PySem.W.mg_of X G aWe, kWe, bWe, ok_well2 FWe T⟩
  have GDi : Fn l.prog w K mg base "_law_dip" 1 ["_law_well_here", "_law_many"] (sp_dip) := ⟨_, _, PySem.W.mg_of X G aDi, kDi, bDi, ok_dip2 FDi T⟩
  have GNa : Fn l.prog w K mg base "_law_names" 2 ["_law_well_here", "_law_many"] (sp_names) := ⟨_, _, PySem.W.mg_of X G aNa, kNa, bNa, ok_names FNa T GDi.irr⟩
  have GPa : Fn l.prog w K mg base "_law_paths" 3 ["_law_well_here", "_law_roads"] (sp_paths) := ⟨_, _, PySem.W.mg_of X G aPa, kPa, bPa, ok_paths FPa T T2 GDi.irr GNa.irr⟩
  have GRi : FnGd l.prog w K mg base "_law_right" 9 ["_law_well_here"] (sp_right24) := ⟨_, _, PySem.W.mg_of X G aRi, kRi, bRi, ok_right24 FRi T NC GDi.irr GPa.irr GSt.irr GNr.irr⟩
  exact ok_law (fun_mk (st := s_law) lLa cLa kLa) T GWe GRi
end RV
open PySem PySem.W PyProof.Rows in
set_option maxRecDepth 100000 in
set_option maxHeartbeats 0 in
theorem PySem.Challenge.cw_ringvotes_k24_known_strengths_holds : PySem.Challenge.rw_ringvotes_k24_known_strengths.Holds := by
  w_on; o_law; k_head; (case hw => w_witness2)
  k_fill
  refine RV.walkGx "_law_script" 10 (l := PySem.Challenge.rw_ringvotes_k24_known_strengths) ⟨rfl, by decide, by decide⟩ rfl rfl (fun w h Y => PySem.W.kIn_of Y) ?F
  case F =>
    intro w mg fa h KX G hmg
    refine' RV.all_mk KX G hmg ?b_len ?b_int ?b_abs ?b_max ?b_min ?b_all ?b_any ?b_repr ?b_range ?b_divmod ?b_isinstance ?b_str ?b_sum ?b_sorted ?b_set ?b_tuple ?b_enumerate ?b_bool ?g__LETTERS ?g__DIGITS ?g__LONGEST_NAME ?g_MOST_PIPES ?g_MOST_METERS ?aIn ?lIn ?cIn ?kIn ?aCn ?lCn ?cCn ?kCn ?nP ?pgP ?hdP ?poP ?saP ?mkP ?kcP ?haP ?hmP ?tyP ?suP ?obP ?noP0 ?noP1 ?noP2 ?nM ?pgM ?hdM ?poM ?saM ?mkM ?kcM ?haM ?hmM ?tyM ?suM ?obM ?noM0 ?noM1 ?noM2 ?hn ?htk ?neP ?neM ?aPi ?iPi ?lPi ?cPi ?kPi ?aMi ?iMi ?lMi ?cMi ?kMi ?kd ?apn ?gpn ?tpn ?rpn_ ?lpn ?cpn ?kpn ?aps ?gps ?tps ?rps_ ?lps ?cps ?kps ?ape ?gpe ?tpe ?rpe_ ?lpe ?cpe ?kpe ?amn ?gmn ?tmn ?rmn_ ?lmn ?cmn ?kmn ?ama ?gma ?tma ?rma_ ?lma ?cma ?kma ?amz ?gmz ?tmz ?rmz_ ?lmz ?cmz ?kmz ?aPq ?iPq ?lPq ?cPq ?kPq ?fiPq ?aMq ?iMq ?lMq ?cMq ?kMq ?fiMq ?nN ?pgN ?hdN ?poN ?saN ?mkN ?kcN ?haN ?hmN ?tyN ?suN ?obN ?noN0 ?noN1 ?neN ?aIo ?lIo ?cIo ?kIo ?aCp ?lCp ?cCp ?kCp ?aCm ?lCm ?cCm ?kCm ?aPl ?lPl ?cPl ?kPl ?aMl ?lMl ?cMl ?kMl ?aLs ?lLs ?cLs ?kLs ?aNi ?iNi ?lNi ?cNi ?kNi ?lT ?anp ?gnp ?tnp ?rnp_ ?lnp ?cnp ?knp ?anm ?gnm ?tnm ?rnm_ ?lnm ?cnm ?knm ?aNl ?iNl ?lNl ?cNl ?kNl ?fiNl ?aNs ?iNs ?lNs ?cNs ?kNs ?fiNs ?aNq ?iNq ?lNq ?cNq ?kNq ?fiNq ?aRw ?lRw ?cRw ?kRw ?aPn ?lPn ?cPn ?kPn ?aMn ?lMn ?cMn ?kMn ?rdN ?gaN ?aNr ?rNr_ ?fiNr ?lNr ?cNr ?kNr ?b_zip ?aPp ?iPp ?lPp ?cPp ?kPp ?aKn ?lKn ?cKn ?kKn ?aKp ?lKp ?cKp ?kKp ?aMa ?lMa ?cMa ?kMa ?aSa ?lSa ?cSa ?kSa ?aAm ?lAm ?cAm ?kAm ?aLk ?lLk ?cLk ?kLk ?aLd ?lLd ?cLd ?kLd ?aSw ?lSw ?cSw ?kSw ?aWb ?lWb ?cWb ?kWb ?aSt ?lSt ?cSt ?kSt ?aWe ?lWe ?cWe ?kWe ?aDi ?lDi ?cDi ?kDi ?aNa ?lNa ?cNa ?kNa ?aPa ?lPa ?cPa ?kPa ?aRi ?lRi ?cRi ?kRi ?aLa ?lLa ?cLa ?kLa
    (case b_len => k_is)
    (case b_int => k_is)
    (case b_abs => k_is)
    (case b_max => k_is)
    (case b_min => k_is)
    (case b_all => k_is)
    (case b_any => k_is)
    (case b_repr => k_is)
    (case b_range => k_is)
    (case b_divmod => k_is)
    (case b_isinstance => k_is)
    (case b_str => k_is)
    (case b_sum => k_is)
    (case b_sorted => k_is)
    (case b_set => k_is)
    (case b_tuple => k_is)
    (case b_enumerate => k_is)
    (case b_bool => k_is)
    (case g__LETTERS => k_is)
    (case g__DIGITS => k_is)
    (case g__LONGEST_NAME => k_is)
    (case g_MOST_PIPES => k_is)
    (case g_MOST_METERS => k_is)
    (case aIn => k_is)
    (case lIn => k_is)
    (case cIn => k_is)
    (case kIn => k_is)
    (case aCn => k_is)
    (case lCn => k_is)
    (case cCn => k_is)
    (case kCn => k_is)
    (case nP => k_is)
    (case pgP => k_is)
    (case hdP => k_is)
    (case poP => k_is)
    (case saP => k_is)
    (case mkP => k_is)
    (case kcP => k_is)
    (case haP => k_is)
    (case hmP => k_is)
    (case tyP => k_is)
    (case suP => k_is)
    (case obP => k_is)
    (case noP0 => k_is)
    (case noP1 => k_is)
    (case noP2 => k_is)
    (case nM => k_is)
    (case pgM => k_is)
    (case hdM => k_is)
    (case poM => k_is)
    (case saM => k_is)
    (case mkM => k_is)
    (case kcM => k_is)
    (case haM => k_is)
    (case hmM => k_is)
    (case tyM => k_is)
    (case suM => k_is)
    (case obM => k_is)
    (case noM0 => k_is)
    (case noM1 => k_is)
    (case noM2 => k_is)
    (case hn => k_is)
    (case htk => k_is)
    (case neP => k_is)
    (case neM => k_is)
    (case aPi => k_is)
    (case iPi => k_is)
    (case lPi => k_is)
    (case cPi => k_is)
    (case kPi => k_is)
    (case aMi => k_is)
    (case iMi => k_is)
    (case lMi => k_is)
    (case cMi => k_is)
    (case kMi => k_is)
    (case kd => k_is)
    (case apn => k_is)
    (case gpn => k_is)
    (case tpn => k_is)
    (case rpn_ => k_is)
    (case lpn => k_is)
    (case cpn => k_is)
    (case kpn => k_is)
    (case aps => k_is)
    (case gps => k_is)
    (case tps => k_is)
    (case rps_ => k_is)
    (case lps => k_is)
    (case cps => k_is)
    (case kps => k_is)
    (case ape => k_is)
    (case gpe => k_is)
    (case tpe => k_is)
    (case rpe_ => k_is)
    (case lpe => k_is)
    (case cpe => k_is)
    (case kpe => k_is)
    (case amn => k_is)
    (case gmn => k_is)
    (case tmn => k_is)
    (case rmn_ => k_is)
    (case lmn => k_is)
    (case cmn => k_is)
    (case kmn => k_is)
    (case ama => k_is)
    (case gma => k_is)
    (case tma => k_is)
    (case rma_ => k_is)
    (case lma => k_is)
    (case cma => k_is)
    (case kma => k_is)
    (case amz => k_is)
    (case gmz => k_is)
    (case tmz => k_is)
    (case rmz_ => k_is)
    (case lmz => k_is)
    (case cmz => k_is)
    (case kmz => k_is)
    (case aPq => k_is)
    (case iPq => k_is)
    (case lPq => k_is)
    (case cPq => k_is)
    (case kPq => k_is)
    (case fiPq => k_is)
    (case aMq => k_is)
    (case iMq => k_is)
    (case lMq => k_is)
    (case cMq => k_is)
    (case kMq => k_is)
    (case fiMq => k_is)
    (case nN => k_is)
    (case pgN => k_is)
    (case hdN => k_is)
    (case poN => k_is)
    (case saN => k_is)
    (case mkN => k_is)
    (case kcN => k_is)
    (case haN => k_is)
    (case hmN => k_is)
    (case tyN => k_is)
    (case suN => k_is)
    (case obN => k_is)
    (case noN0 => k_is)
    (case noN1 => k_is)
    (case neN => k_is)
    (case aIo => k_is)
    (case lIo => k_is)
    (case cIo => k_is)
    (case kIo => k_is)
    (case aCp => k_is)
    (case lCp => k_is)
    (case cCp => k_is)
    (case kCp => k_is)
    (case aCm => k_is)
    (case lCm => k_is)
    (case cCm => k_is)
    (case kCm => k_is)
    (case aPl => k_is)
    (case lPl => k_is)
    (case cPl => k_is)
    (case kPl => k_is)
    (case aMl => k_is)
    (case lMl => k_is)
    (case cMl => k_is)
    (case kMl => k_is)
    (case aLs => k_is)
    (case lLs => k_is)
    (case cLs => k_is)
    (case kLs => k_is)
    (case aNi => k_is)
    (case iNi => k_is)
    (case lNi => k_is)
    (case cNi => k_is)
    (case kNi => k_is)
    (case lT => k_is)
    (case anp => k_is)
    (case gnp => k_is)
    (case tnp => k_is)
    (case rnp_ => k_is)
    (case lnp => k_is)
    (case cnp => k_is)
    (case knp => k_is)
    (case anm => k_is)
    (case gnm => k_is)
    (case tnm => k_is)
    (case rnm_ => k_is)
    (case lnm => k_is)
    (case cnm => k_is)
    (case knm => k_is)
    (case aNl => k_is)
    (case iNl => k_is)
    (case lNl => k_is)
    (case cNl => k_is)
    (case kNl => k_is)
    (case fiNl => k_is)
    (case aNs => k_is)
    (case iNs => k_is)
    (case lNs => k_is)
    (case cNs => k_is)
    (case kNs => k_is)
    (case fiNs => k_is)
    (case aNq => k_is)
    (case iNq => k_is)
    (case lNq => k_is)
    (case cNq => k_is)
    (case kNq => k_is)
    (case fiNq => k_is)
    (case aRw => k_is)
    (case lRw => k_is)
    (case cRw => k_is)
    (case kRw => k_is)
    (case aPn => k_is)
    (case lPn => k_is)
    (case cPn => k_is)
    (case kPn => k_is)
    (case aMn => k_is)
    (case lMn => k_is)
    (case cMn => k_is)
    (case kMn => k_is)
    (case rdN => k_is)
    (case gaN => k_is)
    (case aNr => k_is)
    (case rNr_ => k_is)
    (case fiNr => k_is)
    (case lNr => k_is)
    (case cNr => k_is)
    (case kNr => k_is)
    (case b_zip => k_is)
    (case aPp => k_is)
    (case iPp => k_is)
    (case lPp => k_is)
    (case cPp => k_is)
    (case kPp => k_is)
    (case aKn => k_is)
    (case lKn => k_is)
    (case cKn => k_is)
    (case kKn => k_is)
    (case aKp => k_is)
    (case lKp => k_is)
    (case cKp => k_is)
    (case kKp => k_is)
    (case aMa => k_is)
    (case lMa => k_is)
    (case cMa => k_is)
    (case kMa => k_is)
    (case aSa => k_is)
    (case lSa => k_is)
    (case cSa => k_is)
    (case kSa => k_is)
    (case aAm => k_is)
    (case lAm => k_is)
    (case cAm => k_is)
    (case kAm => k_is)
    (case aLk => k_is)
    (case lLk => k_is)
    (case cLk => k_is)
    (case kLk => k_is)
    (case aLd => k_is)
    (case lLd => k_is)
    (case cLd => k_is)
    (case kLd => k_is)
    (case aSw => k_is)
    (case lSw => k_is)
    (case cSw => k_is)
    (case kSw => k_is)
    (case aWb => k_is)
    (case lWb => k_is)
    (case cWb => k_is)
    (case kWb => k_is)
    (case aSt => k_is)
    (case lSt => k_is)
    (case cSt => k_is)
    (case kSt => k_is)
    (case aWe => k_is)
    (case lWe => k_is)
    (case cWe => k_is)
    (case kWe => k_is)
    (case aDi => k_is)
    (case lDi => k_is)
    (case cDi => k_is)
    (case kDi => k_is)
    (case aNa => k_is)
    (case lNa => k_is)
    (case cNa => k_is)
    (case kNa => k_is)
    (case aPa => k_is)
    (case lPa => k_is)
    (case cPa => k_is)
    (case kPa => k_is)
    (case aRi => k_is)
    (case lRi => k_is)
    (case cRi => k_is)
    (case kRi => k_is)
    (case aLa => k_is)
    (case lLa => k_is)
    (case cLa => k_is)
    (case kLa => k_is)
