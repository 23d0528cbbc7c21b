import PyProof.Rows.All
import Wide.All
import OpenK.AllK
import Wide.FinOn
import HandS.ForMost
import HandS.WideBits
import HandS.Wide
import HandS.IsInst
import HandS.Property
import HandS.MakeKwOnly
import HandS.Defaults
import HandS.OwnEq
import HandS.Steps
import HandS.TupLe
import KE.GoesMore
import HandS.TupSets
import HandS.SetFor
import HandS.Strs
import PyProof.Rows.SortShellAny
import HandS.Words
import HandS.Style
import HandS.WordsDict
import HandS.More
import PyProof.Rows.RegStrFacts
import HandS.RaiseMore
import HandS.Text
import HandS.StrMore
import HandS.FStr
import KE.KCallOwn
import PyProof.EqKinds
import PyProof.Raises
import HandS.ClsMeth
import HandS.CallLocal
import HandS.Walk
import HandS.Iter
import KE.KOpsOwn
import PyProof.TwoTypes
import HandS.TupAny
import HandS.Star
import HandS.Zip
import KE.KTupSum
import HandS.SetBool
import KE.GoesNew
import HandS.DictComp
import HandS.SortRule
import KE.KSortedM
import HandS.DictSubView
import KE.KDictWalk
import HandS.Conv
import KE.OsRun
import PySem.Challenge.RW_ringvotes_k31_whole_votes_outvote
set_option Elab.async false
set_option maxRecDepth 100000
set_option maxHeartbeats 8000000
/-! What every law of this program shares: the well from which it draws, what is known of the heap, the end. -/
namespace RV
open PySem L2

/-! ### what is known of the heap -/
/-- a list of three ints from which numbers are drawn, at a; at most n draws so far -/
def WellAt (H : Hp) (a : Addr) (n : Nat) : Prop :=
  ∃ x y z : Int, H a = some (.lst [.int x, .int y, .int z]) ∧ (0 ≤ x ∧ x < 2147483629) ∧ 0 ≤ y ∧ (0 ≤ z ∧ z ≤ n)
/-- all but the well stands as it stood -/
def Grow (a : Addr) (H H' : Hp) : Prop := ∀ b o, b ≠ a → H b = some o → H' b = some o
theorem Grow.refl (a : Addr) (H : Hp) : Grow a H H := fun _ _ _ h => h
theorem Grow.trans {a : Addr} {H H1 H2 : Hp} (g : Grow a H H1) (k : Grow a H1 H2) : Grow a H H2 := fun b o n h => k b o n (g b o n h)
theorem Grow.new {a p : Addr} {H : Hp} {o : HO} (np : H p = none) : Grow a H (upd H p o) := fun b u _ h => by
  rw [upd_ne (ne_of_none h np)]
  exact h
/-- from the heap H0 on all but the well at a is kept; the well; things that stand elsewhere -/
structure Has (H0 : Hp) (a : Addr) (n : Nat) (L : List (Addr × HO)) (H : Hp) : Prop where
  gr : Grow a H0 H
  well : WellAt H a n
  here : ∀ p ∈ L, p.1 ≠ a ∧ H p.1 = some p.2
section
variable {a p : Addr} {n m : Nat} {L : List (Addr × HO)} {H0 H H' : Hp} {o : HO}
theorem Has.start (w : WellAt H a n) : Has H a n [] H := ⟨Grow.refl a H, w, fun _ hp => nomatch hp⟩
theorem Has.grow (h : Has H0 a n L H) (g : Grow a H H') (w : WellAt H' a m) : Has H0 a m L H' := ⟨h.gr.trans g, w, fun p hp => ⟨(h.here p hp).1, g _ _ (h.here p hp).1 (h.here p hp).2⟩⟩
theorem Has.new (h : Has H0 a n L H) (np : H p = none) : Has H0 a n ((p, o) :: L) (upd H p o) := by
  obtain ⟨g, ⟨x, y, z, e, r⟩, k⟩ := h
  refine ⟨g.trans (Grow.new np), ⟨x, y, z, by rw [upd_ne (ne_of_none e np)]; exact e, r⟩, fun q hq => ?_⟩
  rcases List.mem_cons.mp hq with rfl | hq
  · refine ⟨?_, upd_same⟩
    intro w
    have w' : p = a := w
    rw [w', e] at np
    cases np
  · exact ⟨(k q hq).1, by rw [upd_ne (ne_of_none (k q hq).2 np)]; exact (k q hq).2⟩
theorem Has.at (h : Has H0 a n L H) (hp : (p, o) ∈ L) : H p = some o := (h.here _ hp).2
theorem Has.sub {L' : List (Addr × HO)} (h : Has H0 a n L H) (s : ∀ p ∈ L', p ∈ L) : Has H0 a n L' H := ⟨h.gr, h.well, fun p hp => h.here p (s p hp)⟩
end

/-! ### the end -/
def spLaw (K : PySem.W.Frag) : Sp := fun vs H Q _ => ∃ (a : Addr) (ns : List Int), vs = [.ref a] ∧ SqL K H a (ns.map V.int) ∧ ns.length ≤ 63 ∧ ∀ H', Q (.bl true) H'
end RV
namespace RV
open PySem L2
section
variable {σ : L2.St} {H : Hp} {t : TT} {ta tb : TE} {Q : VK} {b : Bool}
/-- an int on either way: what follows is shown once -/
theorem tif_int (ht : Ans t σ H b) (ha : b = true → ∃ z : Int, Val ta σ H (.int z)) (hb : b = false → ∃ z : Int, Val tb σ H (.int z)) (k : ∀ z : Int, Q (.int z) H) : tIf t ta tb σ H Q := by
  refine ht _ ?_
  cases b with
  | true => exact iteT (let ⟨z, h⟩ := ha rfl; h _ (k z))
  | false => exact iteF (let ⟨z, h⟩ := hb rfl; h _ (k z))
end
/-- a function of the module, as its callers see it -/
def Fn (P : Program) (w : World) (K : PySem.W.Frag) (mg : Str → Option Value) (base : Heap) (x : Str) (k : Nat) (ps : List Str) (sp : Sp) : Prop :=
  ∃ f fd, mg x = some (.ref f) ∧ PySem.W.keepIn K (.ref f) = true ∧ Binds K fd ps [] ∧ FnOk P w K mg base CX0 k f fd ps sp
section
variable {X : Cx} {x : Str} {k : Nat} {ps : List Str} {sp : Sp} {e : Expr} {es : List Expr} {t : TA} {p pos : Pos}
theorem pe_fn (h : Fn X.prog X.w X.K X.mg X.base x k ps sp) (hr : Room k X.A) (ha : PA X (e :: es) t) (hg : Gl X x := by rfl) (hdb : (x == ("__debug__" : Str)) = false := by decide)
    (he : starEach (e :: es) X.env = (false, eval e X.env) :: starEach es X.env := by rfl) (hpl : (backTo pos (starEach es X.env)).any (·.1) = false := by rfl) :
    PE X (.Call (.Name x p) (e :: es) [] pos) (tCall sp [] E0 t) := by
  obtain ⟨f, fd, hm, hk, hb, F⟩ := h
  exact pe_call F hr hg hm hk hb .nil pass0 ha hdb he hpl
/-- a text, an int of the module's top -/
theorem pe_gS {z : Str} (h : ∃ u, X.mg x = some u ∧ RelV (.str z) u) (hg : Gl X x := by rfl) (hd : (x == ("__debug__" : Str)) = false := by decide) : PE X (.Name x pos) (tC (.str z)) := by
  obtain ⟨u, hm, r⟩ := h
  exact pe_glob hg hm r hd
theorem pe_gI {z : Int} (h : ∃ u, X.mg x = some u ∧ RelV (.int z) u) (hg : Gl X x := by rfl) (hd : (x == ("__debug__" : Str)) = false := by decide) : PE X (.Name x pos) (tC (.int z)) := by
  obtain ⟨u, hm, r⟩ := h
  exact pe_glob hg hm r hd
theorem pe_gC {C : Addr} (hm : X.mg x = some (.ref C)) (hg : Gl X x := by rfl) (hd : (x == ("__debug__" : Str)) = false := by decide) : PE X (.Name x pos) (tC (.ref C)) := pe_glob hg hm rfl hd
end
end RV
namespace RV
open PySem L2
/-! the same rules where the written part is a letter (within a comprehension's block) -/
section
variable {X : Cx} {K : PySem.W.Frag}
theorem op_inK (h : X.K = K := by rfl) : OpR X (compareOp .In) (rIn K false) := h ▸ op_in_seq
theorem op_notInK (h : X.K = K := by rfl) : OpR X (compareOp .NotIn) (rIn K true) := h ▸ op_notIn_seq
theorem ix_listK (h : X.K = K := by rfl) : IxR X (rIxL K) := h ▸ ix_list
theorem ix_tupK (h : X.K = K := by rfl) : IxR X (rIxT K) := h ▸ ix_tup
theorem call_isiK (h : X.K = K := by rfl) : CallR X (.builtin "isinstance") (rIsi K) := h ▸ call_isi
def rLenQ (K : PySem.W.Frag) : List V → Hp → VK → Prop := fun xs H Q => ∃ p ys, xs = [.ref p] ∧ (SqL K H p ys ∨ SqT K H p ys) ∧ Q (.int ys.length) H
theorem call_lenK (h : X.K = K := by rfl) : CallR X (.builtin "len") (rLenQ K) := h ▸ call_len_seq
end
end RV
/-! Names: what they are, by their signs. -/
namespace RV
open PySem L2
def lowC (c : Nat) : Bool := decide (97 ≤ c) && decide (c ≤ 122)
def digC (c : Nat) : Bool := decide (48 ≤ c) && decide (c ≤ 57)
def tailC (c : Nat) : Bool := lowC c || digC c
/-- one to eight signs, letters and digits, a letter first -/
def isNm : List Nat → Bool
  | [] => false
  | c :: r => lowC c && r.all tailC && decide (r.length ≤ 7)
def IsNm (x : Str) : Prop := isNm x.cps.toList = true
abbrev cd (x : Str) : List Nat := x.cps.toList
theorem cd_inj {x y : Str} (h : cd x = cd y) : x = y := PyProof.Rows.ext_toList h
theorem cd_app (x y : Str) : cd (x ++ y) = cd x ++ cd y := by
  show (x ++ y).cps.toList = _
  exact Array.toList_append
theorem cd_len (x : Str) : x.length = (cd x).length := by
  show x.cps.size = x.cps.toList.length
  rw [Array.length_toList]
theorem cd_one (c : Nat) : cd ⟨#[c]⟩ = [c] := rfl
theorem isNm_iff {l : List Nat} : isNm l = true ↔ ∃ c r, l = c :: r ∧ lowC c = true ∧ r.all tailC = true ∧ r.length ≤ 7 := by
  cases l with
  | nil => simp [isNm]
  | cons c r =>
    constructor
    · intro h
      simp only [isNm, Bool.and_eq_true, decide_eq_true_eq] at h
      exact ⟨c, r, rfl, h.1.1, h.1.2, h.2⟩
    · rintro ⟨c', r', e, h1, h2, h3⟩
      cases e
      simp [isNm, h1, h2, h3]
theorem isNm_len {l : List Nat} (h : isNm l = true) : 1 ≤ l.length ∧ l.length ≤ 8 := by
  obtain ⟨c, r, rfl, _, _, h3⟩ := isNm_iff.mp h
  simp
  omega
theorem tail_of_low {c : Nat} (h : lowC c = true) : tailC c = true := by simp [tailC, h]
theorem isNm_all {l : List Nat} (h : isNm l = true) : l.all tailC = true := by
  obtain ⟨d, r, rfl, h1, h2, _⟩ := isNm_iff.mp h
  simp only [List.all_cons, tail_of_low h1, h2, Bool.and_self]
def signs : Str := "abcdefghijklmnopqrstuvwxyz0123456789"
theorem cd_signs : cd signs = [97, 98, 99, 100, 101, 102, 103, 104, 105, 106, 107, 108, 109, 110, 111, 112, 113, 114, 115, 116, 117, 118, 119, 120, 121, 122, 48, 49, 50, 51, 52, 53, 54, 55, 56, 57] := by decide +kernel
theorem sign_low : ∀ i : Fin 26, ∃ c, (cd signs)[i.val]? = some c ∧ lowC c = true := by
  rw [cd_signs]
  intro i
  have h : ∀ i : Fin 26, (match ([97, 98, 99, 100, 101, 102, 103, 104, 105, 106, 107, 108, 109, 110, 111, 112, 113, 114, 115, 116, 117, 118, 119, 120, 121, 122, 48, 49, 50, 51, 52, 53, 54, 55, 56, 57] : List Nat)[i.val]? with | some c => lowC c | none => false) = true := by decide
  have hi := h i
  split at hi
  · rename_i c e
    exact ⟨c, e, hi⟩
  · cases hi
theorem sign_tail : ∀ i : Fin 36, ∃ c, (cd signs)[i.val]? = some c ∧ tailC c = true := by
  rw [cd_signs]
  intro i
  have h : ∀ i : Fin 36, (match ([97, 98, 99, 100, 101, 102, 103, 104, 105, 106, 107, 108, 109, 110, 111, 112, 113, 114, 115, 116, 117, 118, 119, 120, 121, 122, 48, 49, 50, 51, 52, 53, 54, 55, 56, 57] : List Nat)[i.val]? with | some c => tailC c | none => false) = true := by decide
  have hi := h i
  split at hi
  · rename_i c e
    exact ⟨c, e, hi⟩
  · cases hi
theorem at_low {r : Int} (h0 : 0 ≤ r) (h : r < 26) : ∃ c, atI (cd signs) r = some c ∧ lowC c = true := by
  obtain ⟨n, rfl⟩ := Int.eq_ofNat_of_zero_le h0
  obtain ⟨c, e, hc⟩ := sign_low ⟨n, by omega⟩
  exact ⟨c, atI_nat e, hc⟩
theorem at_tail {r : Int} (h0 : 0 ≤ r) (h : r < 36) : ∃ c, atI (cd signs) r = some c ∧ tailC c = true := by
  obtain ⟨n, rfl⟩ := Int.eq_ofNat_of_zero_le h0
  obtain ⟨c, e, hc⟩ := sign_tail ⟨n, by omega⟩
  exact ⟨c, atI_nat e, hc⟩
theorem at_of_list {α : Type} {l : List α} {P : α → Prop} (h : ∀ x ∈ l, P x) {r : Int} (h0 : 0 ≤ r) (h1 : r < l.length) : ∃ c, atI l r = some c ∧ P c ∧ c ∈ l := by
  obtain ⟨n, rfl⟩ := Int.eq_ofNat_of_zero_le h0
  have hn : n < l.length := by omega
  exact ⟨l[n], atI_nat (List.getElem?_eq_getElem hn), h _ (List.getElem_mem hn), List.getElem_mem hn⟩
/-! slices of texts -/
theorem inV_str (x : Str) (xs : List Str) : inV (.str x) (xs.map V.str) = decide (x ∈ xs) := by
  induction xs with
  | nil => rfl
  | cons y ys ih =>
    show (eqV (.str y) (.str x) || inV (.str x) (ys.map V.str)) = _
    rw [ih]
    show ((y == x) || decide (x ∈ ys)) = _
    by_cases e : y = x
    · subst e
      simp
    · have e' : ¬ x = y := fun h => e h.symm
      simp [e, e']
/-! walks over any thing that is walked in order -/
theorem lc_it {J : It} {n : Nat} {g : TG} {tt : TT} {te : TE} {vs : List Nat} {σ : L2.St} {H1 : Hp} {D : Addr} {Qd : Hp → Prop} (Pv : Nat → Hp → Prop)
    (hgo : ∀ i H, i < n → Pv i H → J.go i H) (hst : ∀ H, Pv n H → J.stop n H) (h0 : Pv 0 (upd H1 D (.lst [])))
    (hs : ∀ i x H H', i < n → Pv i H → J.yld i H x H' → g x (wipe σ vs) H' fun σ2 H2 => wipe σ2 vs = wipe σ vs ∧ tt σ2 H2 fun b H3 =>
      if b = true then te σ2 H3 fun y H4 => ∃ acc, H4 D = some (.lst acc) ∧ acc.length < sizeLine ∧ Pv (i + 1) (upd H4 D (.lst (acc ++ [y]))) else Pv (i + 1) H3) (hd : ∀ H, Pv n H → Qd H) :
    ∃ W : Nat → Nat → Hp → Prop, (∃ m, W 0 m (upd H1 D (.lst []))) ∧ ∀ i m H, W i m H →
      (J.stop i H ∧ Qd H) ∨ (J.go i H ∧ ∃ Nx : Hp → Prop, (∀ H', Nx H' → ∃ m', m' < m ∧ W (i + 1) m' H') ∧ ∀ x H', J.yld i H x H' → g x (wipe σ vs) H' fun σ2 H2 => wipe σ2 vs = wipe σ vs ∧ tt σ2 H2 fun b H3 =>
        if b = true then te σ2 H3 fun y H4 => ∃ acc, H4 D = some (.lst acc) ∧ acc.length < sizeLine ∧ Nx (upd H4 D (.lst (acc ++ [y]))) else Nx H3) := by
  refine ⟨fun i m H => m = n - i ∧ i ≤ n ∧ Pv i H, ⟨n, by simp, Nat.zero_le _, h0⟩, ?_⟩
  rintro i m H ⟨rfl, hi, p⟩
  by_cases hlt : i < n
  · refine .inr ⟨hgo i H hlt p, Pv (i + 1), fun H' p' => ⟨n - (i + 1), by omega, rfl, hlt, p'⟩, fun x H' y => ?_⟩
    exact hs i x H H' hlt p y
  · have e : i = n := by omega
    subst e
    exact .inl ⟨hst H p, hd H p⟩
theorem lc_str {z : Str} {g : TG} {tt : TT} {te : TE} {vs : List Nat} {σ : L2.St} {H1 : Hp} {D : Addr} {Qd : Hp → Prop} (Pv : Nat → Hp → Prop) (h0 : Pv 0 (upd H1 D (.lst [])))
    (hs : ∀ i c H, (cd z)[i]? = some c → Pv i H → g (.str ⟨#[c]⟩) (wipe σ vs) H fun σ2 H2 => wipe σ2 vs = wipe σ vs ∧ tt σ2 H2 fun b H3 =>
      if b = true then te σ2 H3 fun y H4 => ∃ acc, H4 D = some (.lst acc) ∧ acc.length < sizeLine ∧ Pv (i + 1) (upd H4 D (.lst (acc ++ [y]))) else Pv (i + 1) H3) (hd : ∀ H, Pv (cd z).length H → Qd H) :
    ∃ W : Nat → Nat → Hp → Prop, (∃ m, W 0 m (upd H1 D (.lst []))) ∧ ∀ i m H, W i m H →
      ((Its z).stop i H ∧ Qd H) ∨ ((Its z).go i H ∧ ∃ Nx : Hp → Prop, (∀ H', Nx H' → ∃ m', m' < m ∧ W (i + 1) m' H') ∧ ∀ x H', (Its z).yld i H x H' → g x (wipe σ vs) H' fun σ2 H2 => wipe σ2 vs = wipe σ vs ∧ tt σ2 H2 fun b H3 =>
        if b = true then te σ2 H3 fun y H4 => ∃ acc, H4 D = some (.lst acc) ∧ acc.length < sizeLine ∧ Nx (upd H4 D (.lst (acc ++ [y]))) else Nx H3) :=
  lc_it (J := Its z) (n := (cd z).length) Pv (fun i _ h _ => by
    show i < z.cps.size
    rwa [← Array.length_toList]) (fun _ _ => by
    show z.cps.size ≤ (cd z).length
    rw [← Array.length_toList]
    exact Nat.le_refl _) h0 (fun i x H H' hi p y => by
    obtain ⟨e, c, hc, ex⟩ := y
    subst e ex
    exact hs i c H' (by rw [← hc]; exact Array.getElem?_toList ..) p) hd
end RV
namespace RV
open PySem L2
/-- what follows a statement is shown once, from what the statement leaves -/
theorem seq_of {t R : TS} {D : Ends} {σ : L2.St} {H : Hp} (mid : L2.St → Hp → Prop) (h2 : ∀ σ' H', mid σ' H' → R D σ' H') (h1 : ∀ N : L2.St → Hp → Prop, (∀ σ' H', mid σ' H' → N σ' H') → t { D with nx := N } σ H) : tSeq t R D σ H := h1 (R D) h2
theorem tst_of {tt : TT} {σ : L2.St} {H : Hp} {Q : Bool → Hp → Prop} (mid : Bool → Hp → Prop) (k : ∀ v H', mid v H' → Q v H') (h : ∀ Q' : Bool → Hp → Prop, (∀ v H', mid v H' → Q' v H') → tt σ H Q') : tt σ H Q := h Q k
theorem szn {n : Nat} (h : n ≤ 1000) : n ≤ sizeLine := Nat.le_trans h (by decide)
end RV
/-! Rules for own classes: ==, !=, truth; repr of data. -/
namespace PySem.W
open PySem PySem.Calls PyProof.Rows Builtin
section
variable {prog : Program} {w : World} {A : Around} {E : Value → Shared → Prop} {s : Shared} {K : Frag} {x C L f : Addr} {h₀ : Heap} {m : Str → Option Value} {ox : Obj} {od : Option Obj} {b tb : Value}
/-- the default !=, by the class's own == that gives a bool -/
theorem rv_ne_K {Q : Value → Shared → Prop} (hu : A.units + 1 < cLine) (F : Fr h₀ L s.heap m) (X₀ : K.In h₀) (I : InstAt s.heap x ox C od) (hb : Looks (model prog w) s.heap (typeOf b) tb) (hn : notFirst K C tb = true)
    (hs : findIn K (.ref C) "__eq__" = some (some (.ref f))) (hf : isFn K (.ref f) = true) (hne : findIn K (.ref C) "__ne__" = some (some (.builtin "object.__ne__"))) (hob : subIn K (.ref C) (.type "object") = some true)
    (h : wpAny (model prog w) A.in1 (call (.ref f) [.ref x, b]) (fun v s' => ∃ c, v = .bool c ∧ Q (.bool (!c)) s') E s) : wpAny (model prog w) A (richCompare .NotEq (.ref x) b) Q E s := by
  have X := X₀.keeps F.keep
  have entry : wpAny (model prog w) A.in1 (Builtin.«object.__ne__» ⟨[.ref x, b], []⟩) (fun fin s' => ∃ v, fin = .done (.ret v) ∧ ∃ c, v = .bool (!c) ∧ Q (.bool (!c)) s') E s := by
    unfold Builtin.«object.__ne__»
    refine wpAny_bind (m := slotArgs "__ne__" 1 _) (wpAny_pure ?_)
    refine wpAny_bind (wpAny_cRoomFor (show A.units + 1 < cLine from hu) ?_)
    refine wpAny_bind (m := callSpecialIfBound? (.ref x) (Str.ofString "__eq__") [b]) (ifBound_K X I hs hf (wpAny_mono h (fun v s' hv => ?_) fun _ _ e => e))
    obtain ⟨c, rfl, hq⟩ := hv
    refine wpAny_bind (m := truthy (.bool c)) (wpAny_truthy_bool ?_)
    exact wpAny_pure ⟨_, rfl, c, rfl, hq⟩
  have chk : wpAny (model prog w) A.in1 (checkBuiltinCall "object.__ne__" ⟨[.ref x, b], []⟩) (fun _ s1 => s1 = s) E s := by
    simp only [checkBuiltinCall, PySem.F.cmpKind_ne, PySem.F.cmpSplit_ne]
    refine wpAny_bind ?_
    unfold isInstance
    refine wpAny_bind (I.type.here ?_)
    refine (looks_subIn X hob).here ?_
    have ha : argsOk "object.__ne__" ⟨[.ref x, b], []⟩ := PySem.F.cmpArgs_ne _ _
    cases hsig : Manifest.signature? "object.__ne__" with
    | none => exact wpAny_pure rfl
    | some sig =>
      simp only [argsOk, hsig] at ha
      have h2 : Bind.checkArgs "object.__ne__" sig ⟨[.ref x, b], []⟩ = pure () := ha
      show wpAny _ A.in1 (Bind.checkArgs "object.__ne__" sig ⟨[.ref x, b], []⟩) _ E _
      rw [h2]
      exact wpAny_pure rfl
  have callne : wpAny (model prog w) A (call (.builtin "object.__ne__") [.ref x, b]) (fun v s' => ∃ c, v = .bool (!c) ∧ Q (.bool (!c)) s') E s := by
    refine wpAny_call (codeAny_call_builtin PySem.F.slot_object_ne.plain PySem.F.cmpEntry_ne (wpAny_mono chk (fun _ s1 e => ?_) fun _ _ e => e))
    subst e
    refine wpAny_mono entry (fun fin s' hq => ?_) fun _ _ e => e
    obtain ⟨v, rfl, c, rfl, q⟩ := hq
    exact ⟨c, rfl, q⟩
  have one : wpAny (model prog w) A (tryCompare (.ref x) "__ne__" b) (fun r s' => ∃ v, r = some v ∧ Q v s') E s := by
    unfold tryCompare
    refine wpAny_bind (m := callSpecialIfBound? (.ref x) (Str.ofString "__ne__") [b]) ?_
    simp only [callSpecialIfBound?, bindSpecialIfBound?]
    refine wpAny_holding (wpAny_bind (wpAny_bind (wpAny_bind (I.type.here ((looks_findIn X hne).here ?_)))))
    simp only [PySem.F.slot_object_ne.bind]
    refine wpAny_bind (wpAny_askSetting (wpAny_ite ?_))
    have fin : ∀ R : Option Value → Shared → Prop, (∀ (c : Bool) s', Q (.bool (!c)) s' → R (some (.bool (!c))) s') → wpAny (model prog w) A (call (.builtin "object.__ne__") ([.ref x] ++ [b]) >>= fun v => pure (some v)) R E s := by
      intro R hR
      refine wpAny_bind (wpAny_mono callne (fun v s' hq => ?_) fun _ _ e => e)
      obtain ⟨c, rfl, q⟩ := hq
      exact wpAny_pure (hR c s' q)
    split
    · exact wpAny_bind (wpAny_pure (wpAny_pure (fin _ fun c s' q => wpAny_pure ⟨_, rfl, q⟩)))
    · exact wpAny_tryCatch (wpAny_bind (wpAny_pure (wpAny_pure (fin _ fun c s' q => wpAny_pure ⟨_, rfl, q⟩))))
  unfold richCompare
  simp only [oneThing_ref]
  refine wpAny_holding (wpAny_bind (wpAny_cRoomFor (Nat.lt_of_succ_lt hu) ?_))
  rw [cmpInfo_NotEq]
  dsimp only
  refine wpAny_bind (I.type.here (wpAny_bind (hb.here ?_)))
  split
  · rename_i q
    have e : subIn K tb (.ref C) = some false := by
      rcases Bool.or_eq_true_iff.mp hn with e | e
      · rw [beq_iff_eq.mp e] at q; simp at q
      · exact beq_iff_eq.mp e
    refine wpAny_bind ((looks_subIn X e).here ?_)
    simp only [Bool.false_eq_true, if_false]
    refine wpAny_bind (wpAny_mono one (fun r s' z => ?_) fun _ _ e => e)
    obtain ⟨v, rfl, hq⟩ := z
    exact wpAny_pure hq
  · refine wpAny_bind (wpAny_pure ?_)
    simp only [Bool.false_eq_true, if_false]
    refine wpAny_bind (wpAny_mono one (fun r s' z => ?_) fun _ _ e => e)
    obtain ⟨v, rfl, hq⟩ := z
    exact wpAny_pure hq
end
end PySem.W

namespace RV
open PySem L2
/-- the kind of a value, for a comparison -/
inductive TyL (H : Hp) : V → Value → Prop where
  | non : TyL H .non (.type "NoneType")
  | bl (b : Bool) : TyL H (.bl b) (.type "bool")
  | int (i : Int) : TyL H (.int i) (.type "int")
  | str (x : Str) : TyL H (.str x) (.type "str")
  | lst {a : Addr} {xs : List V} (e : H a = some (.lst xs)) : TyL H (.ref a) (.type "list")
  | tup {a : Addr} {xs : List V} (e : H a = some (.tup xs)) : TyL H (.ref a) (.type "tuple")
  | dK {a : Addr} {kvs : List (Key × V)} (e : H a = some (.dK kvs)) : TyL H (.ref a) (.type "dict")
  | ins {a C dx : Addr} {fs : List (Str × V)} (e : H a = some (.ins C dx fs)) : TyL H (.ref a) (.ref C)
section
variable {X : Cx} {pins : List (Addr × Obj)} {σ : L2.St} {H : Hp} {s : Shared}
/-- the class C has an own == that promises sp, and no own != -/
structure OwnEq (P : Program) (w : World) (K : PySem.W.Frag) (mg : Str → Option Value) (base : Heap) (C : Addr) (k : Nat) (sp : Sp) : Prop where
  fn : ∃ f fd ps, PySem.W.findIn K (.ref C) "__eq__" = some (some (.ref f)) ∧ PySem.W.isFn K (.ref f) = true ∧ Binds K fd ps [] ∧ FnOk P w K mg base CX0 k f fd ps sp
  ne : PySem.W.findIn K (.ref C) "__ne__" = some (some (.builtin "object.__ne__"))
  ob : PySem.W.subIn K (.ref C) (.type "object") = some true
@[irreducible] def rEqO (neg : Bool) (K : PySem.W.Frag) (C : Addr) (sp : Sp) : R2 := fun x y H Q => ∃ a dx fs t, x = .ref a ∧ H a = some (.ins C dx fs) ∧ TyL H y t ∧ PySem.W.notFirst K C t = true ∧
  sp [x, y] H (fun v H' => ∃ b, v = .bl b ∧ Q (.bl (if neg then !b else b)) H') E0
variable {P : Program} {w : World} {K : PySem.W.Frag} {mg : Str → Option Value} {base : Heap} {C : Addr} {k : Nat} {sp : Sp}
/-- an instance of a class without a truth or a length of its own is true -/
def rTrO (C : Addr) : V → Hp → (Bool → Hp → Prop) → Prop := fun x H Q => ∃ a dx fs, x = .ref a ∧ H a = some (.ins C dx fs) ∧ Q true H
/-! ### repr -/
mutual
theorem Dp.noDict {K : PySem.W.Frag} {H : Hp} : ∀ {v : V} {d : PyData}, Dp K H v d → d.hasDict = false
  | _, _, .non => by simp [PyData.hasDict]
  | _, _, .bl _ => by simp [PyData.hasDict]
  | _, _, .int _ => by simp [PyData.hasDict]
  | _, _, .str _ => by simp [PyData.hasDict]
  | _, _, .lst _ h => by simp [PyData.hasDict, DpAll.noDict h]
  | _, _, .tup _ h => by simp [PyData.hasDict, DpAll.noDict h]
theorem DpAll.noDict {K : PySem.W.Frag} {H : Hp} : ∀ {vs : List V} {ds : List PyData}, DpAll K H vs ds → PyData.hasDictAll ds = false
  | _, _, .nil => by simp [PyData.hasDictAll]
  | _, _, .cons h t => by simp [PyData.hasDictAll, Dp.noDict h, DpAll.noDict t]
end
@[irreducible] def rRepr (K : PySem.W.Frag) : List V → Hp → VK → Prop := fun xs H Q => ∃ a d, xs = [.ref a] ∧ Dp K H (.ref a) d ∧ d.showable = true ∧ d.depth ≤ 60 ∧ d.shown.length ≤ sizeLine ∧ Q (.str d.shown) H
theorem call_reprD (hu : X.A.units + 64 < cLine) (hg : X.A.guards = some []) : CallR X (.builtin "repr") (rRepr X.K) := by
  intro pins s σ H xs us Q I r h
  unfold rRepr at h
  obtain ⟨a, d, rfl, hd, hs, hdp, hsz, q⟩ := h
  obtain ⟨as, rd⟩ := Dp.reads I d _ _ hd (rfl : RelV (.ref a) (.ref a))
  have eu : us = [.ref a] := by
    cases r with
    | cons r1 r2 => cases r2; cases r1; rfl
  subst eu
  have nod : d.hasDict = true → sysModules ∉ as := fun hh => by
    rw [Dp.noDict hd] at hh
    cases hh
  refine repr_of_reads' rd hs nod hg (by omega) (fun _ _ e => e) (fun h' u tk hk => ⟨.str d.shown, H, I.kept hk, ⟨u, rfl⟩, q⟩) hsz
end
end RV
/-! Defs that must not run within a repr: as FnOk, but only where no repr is under way. -/
namespace RV
open PySem L2 PyProof.Rows
section
variable {P : Program} {w : World} {K : PySem.W.Frag} {mg : Str → Option Value} {base : Heap}
structure FnG (P : Program) (w : World) (K : PySem.W.Frag) (mg : Str → Option Value) (base : Heap) (k : Nat) (f : Addr) (fd : FuncData) (ps : List Str) (sp : Sp) : Prop where
  len : ∀ vs H Q E, sp vs H Q E → vs.length = ps.length
  run : ∀ (A : Around) (outer : List Env) (s : Shared) (H : Hp) (args : Args) (us : List Value) (vs : List V) (Q : VK) (E : XK), A.guards = some [] → Room k A → Env0 P w K mg base A outer s H → BindsTo s fd args (ps.zip us) → Vals vs us → sp vs H Q E →
    codeAny (model P w) A (.call (.ref f) args) (CR CX0 outer P w H s Q E) s
theorem gFun {x qual : Str} {st : Stmt} {f : Addr} {fd : FuncData} {N ps : List Str} {k : Nat} {sp : Sp} (F : Fun K x qual st f fd) (S : FnScope N ps (defScope st)) (len : ∀ vs H Q E, sp vs H Q E → vs.length = ps.length)
    (hbody : ∀ (cdv : Value) (A : Around) (outer : List Env) (s : Shared) (H : Hp) (vs : List V) (Q : VK) (E : XK), (A.deeper (envOfC qual (defScope st) s.heap.objs.size f cdv)).guards = some [] → Room k (A.deeper (envOfC qual (defScope st) s.heap.objs.size f cdv)) → sp vs H Q E →
      ∃ t, PSs (cxOf CX0 P w K mg base N qual (defScope st) f cdv A outer s H E).nox (defBody st) t ∧ t { nx := fun _ H' => Q .non H', rt := Q } (start N vs) H) : FnG P w K mg base (k + 1) f fd ps sp := by
  refine ⟨len, fun A outer s H args us vs Q E gs hr e0 hb r hsp => ?_⟩


  obtain ⟨oc, od, kV, doc, pm, an, cdv, ct, osl, rfl, lk, hcd⟩ := F.ex
  have hl := len _ _ _ _ hsp
  have KX : K.In s.heap := e0.mod.kin.keeps fun b o e => (e0.bs b o e).1
  have lim := e0.mod.nolimit.keeps fun b o e => (e0.bs b o e).1
  refine codeAny_call_function hr.depth (KX _ _ lk) rfl S.co S.gen rfl (PySem.W.codeRec_of KX hcd) (hb _ _ _ _ ?_)
  refine wpAny_newFunctionEnv_cells S.kind (fun y hy => ?_) fun env he s1 x => ?_
  · have hin : y.1 ∈ ps := by
      obtain ⟨n, v⟩ := y
      exact (List.of_mem_zip hy).1
    exact (S.par _ hin).imp id fun q => ⟨q, PySem.W.cellsFrom_some _ _ _ (.inl q)⟩
  subst he
  refine ⟨lim.keeps x.toInCall.keep, codeAny_func ?_⟩
  obtain ⟨t, ht, hq⟩ := hbody cdv A outer s H vs Q E gs (hr.deeper _) hsp
  have I := inv_start (CX := CX0) (cd := cdv) (E := E) S hr.hd e0 hl r x
  refine wpAny_mono (ht.nox.run [] s1 (start N vs) H _ I hq) (fun fl s' hs => ?_) fun _ _ hs => hs
  match fl, hs with
  | .ret u, ⟨v, _, H', J, rv, q⟩ => exact ⟨v, H', J.os, J.bare, J.base, J.hok, rv, q⟩
  | .next, ⟨_, H', J, q⟩ => exact ⟨V.non, H', J.os, J.bare, J.base, J.hok, rfl, q⟩
  | .brk, ⟨_, _, _, q⟩ => exact q.elim
  | .cont, ⟨_, _, _, q⟩ => exact q.elim
/-- such a function of the module, as its callers see it -/
def FnGd (P : Program) (w : World) (K : PySem.W.Frag) (mg : Str → Option Value) (base : Heap) (x : Str) (k : Nat) (ps : List Str) (sp : Sp) : Prop :=
  ∃ f fd, mg x = some (.ref f) ∧ PySem.W.keepIn K (.ref f) = true ∧ Binds K fd ps [] ∧ FnG P w K mg base k f fd ps sp
end
section
variable {X : Cx} {x : Str} {k : Nat} {ps : List Str} {sp : Sp} {e : Expr} {es : List Expr} {t : TA} {p pos : Pos}
theorem pe_fnG (h : FnGd X.prog X.w X.K X.mg X.base x k ps sp) (gs : X.A.guards = some []) (hr : Room k X.A) (ha : PA X (e :: es) t) (hg : Gl X x := by rfl) (hdb : (x == ("__debug__" : Str)) = false := by decide)
    (he : starEach (e :: es) X.env = (false, eval e X.env) :: starEach es X.env := by rfl) (hpl : (backTo pos (starEach es X.env)).any (·.1) = false := by rfl) :
    PE X (.Call (.Name x p) (e :: es) [] pos) (tCall sp [] E0 t) := by
  obtain ⟨f, fd, hm, hk, hb, F⟩ := h
  refine ⟨fun pins s σ H Q I h => wpAny_Call_Name_kw (ld_glob I hg hm ?_ hdb)⟩
  refine PySem.W.callWith_K (h₀ := X.base) I.ok.mod.kin hk (thn (ha.run pos pins s σ H _ I h) fun us s1 ⟨vs, H1, I1, r, q⟩ => ⟨I1.kIn, ?_⟩) he hpl
  have q' : sp vs H1 Q E0 := by rw [← List.append_nil vs]; exact q
  have hl : us.length = ps.length := r.length ▸ F.len _ _ _ _ q'
  have hbb : BindsTo s1 fd ⟨us, []⟩ (ps.zip us) := by
    have z := hb s1 us I1.kIn (by rw [List.append_nil]; exact hl)
    rwa [List.append_nil] at z
  refine wpAny_call (codeAny_mono (F.run X.A X.stack s1 H1 ⟨us, []⟩ us vs Q E0 gs hr I1.env0 hbb r q') fun res s' hq => ?_)
  match res, hq with
  | .ok (.ret u), hq => exact I1.after hq
  | .ok .next, hq => exact False.elim hq
  | .ok .brk, hq => exact False.elim hq
  | .ok .cont, hq => exact False.elim hq
  | .error e, hq => exact False.elim hq
end
/-- the law's own call: nothing is tracked but the script -/
theorem callG {P : Program} {w : World} {K : PySem.W.Frag} {mg mb : Str → Option Value} {k : Nat} {fa a : Addr} {fd : FuncData} {x : Str} {sp : Sp} {s₁ : Shared} {vs : List Value} {ns : List Int}
    (KX : K.In s₁.heap) (hns : s₁.heap.Ns mainGlobals mg) (hb : s₁.heap.Ns builtinsNs mb) (hbb : ∀ x : Str, x ≠ "__name__" → mb x = bootBuiltins x) (hlim : s₁.heap.NoLimit) (hg : s₁.gens = #[])
    (ha : s₁.heap.get? a = some { cls := .type "list", data := .seq vs.toArray }) (hi : IntsAre vs ns) (hl : ns.length ≤ sizeLine) (hr : Room k callerA)
    (F : ∀ base : Heap, K.In base → base.Ns mainGlobals mg → FnG P w K mg base k fa fd [x] sp) (hbind : ∀ (s : Shared) (u : Value), BindsTo s fd ⟨[u], []⟩ [(x, u)])
    (hsp : ∀ H : Hp, SqL K H a (ns.map V.int) → sp [.ref a] H (fun v _ => v = .bl true) E0) :
    codeAny (model P w) callerA (.call (.ref fa) ⟨[.ref a], []⟩) (fun r s' => r = .ok (.ret (.bool true)) ∧ OldK s₁.heap s'.heap ∧ s'.os = s₁.os ∧ AllBare s'.gens) s₁ := by
  have rv := vals_ints hi
  let scr : Obj := { cls := .type "list", data := .seq vs.toArray }
  -- H tracks at most the script, locked
  have core : ∀ H : Hp, (∀ b u, H b = some u → b = a ∧ u = .frz scr (.lst (ns.map V.int)) ∧ K.lookup a = none) → SqL K H a (ns.map V.int) →
      codeAny (model P w) callerA (.call (.ref fa) ⟨[.ref a], []⟩) (fun r s' => r = .ok (.ret (.bool true)) ∧ OldK s₁.heap s'.heap ∧ s'.os = s₁.os ∧ AllBare s'.gens) s₁ := by
    intro H hO hS
    have hok : HOk P w H s₁.heap := fun b u e => by
      obtain ⟨rfl, rfl, _⟩ := hO b u e
      exact ⟨ha, by rw [List.length_map]; exact hl, vs, _, rv, ha⟩
    have other : ∀ {b : Addr} {o : Obj}, s₁.heap.get? b = some o → o ≠ scr → H b = none := fun {b o} e d => by
      cases q : H b with
      | none => rfl
      | some u =>
        obtain ⟨rfl, _, _⟩ := hO b u q
        rw [ha] at e
        exact absurd (Option.some.inj e).symm d
    have spaces : ∀ {b : Addr} {m : Str → Option Value}, s₁.heap.Ns b m → (hidT s₁.heap H).Ns b m := fun {b m} z => by
      obtain ⟨o, es, ep, e, d, r⟩ := z
      refine ⟨o, es, ep, hidT_get e (other e fun q => ?_), d, r⟩
      subst q
      obtain ⟨_, d'⟩ := d
    have kin : K.In (hidT s₁.heap H) := fun b o e => hidT_get (KX b o e) (by
      cases q : H b with
      | none => rfl
      | some u =>
        obtain ⟨rfl, _, z⟩ := hO b u q
        rw [z] at e
        cases e)
    obtain ⟨mc, l1, l2⟩ := hlim
    have e0 : Env0 P w K mg (hidT s₁.heap H) callerA [] s₁ H :=
      { frames := rfl, mod := ⟨kin, spaces hns, ⟨mb, spaces hb, hbb⟩, ⟨mc, spaces l1, l2⟩⟩, bs := fun _ _ e => of_hidT e, bsz := Nat.le_of_eq (hidT_size _ _), funs := trivial, frf := fun _ hb => (nomatch hb), hok := hok, bare := .of_eq hg }
    refine codeAny_mono ((F _ kin (spaces hns)).run callerA [] s₁ H ⟨[.ref a], []⟩ [.ref a] [.ref a] _ _ rfl hr e0 (hbind s₁ (.ref a)) (.cons rfl .nil) (hsp H hS)) fun res s' z => ?_
    match res, z with
    | .ok (.ret u), ⟨v, H', os, bare, un, hok', rel, ev⟩ =>
      have ev' : v = .bl true := ev
      subst ev'
      have eu : u = Value.bool true := rel
      subst eu
      refine ⟨rfl, OldK.of_keep fun b o e => ?_, os, bare⟩
      cases q : H b with
      | none => exact un.keep b o e q (fun z => nomatch z) (fun z => nomatch z)
      | some u =>
        obtain ⟨rfl, rfl, _⟩ := hO b u q
        have z1 := (hok' b _ (un.frzs b _ _ q)).1
        rw [ha] at e
        rw [← e]
        exact z1
    | .ok .next, z => exact False.elim z
    | .ok .brk, z => exact False.elim z
    | .ok .cont, z => exact False.elim z
    | .error e, z => exact False.elim z
  cases hk : K.lookup a with
  | some o =>
    have e := KX a o hk
    rw [ha] at e
    cases e
    exact core (fun _ => none) (fun _ _ z => nomatch z) (.inr ⟨_, vs.toArray, _, hk, rfl, rfl, rfl, by rw [List.size_toArray, hi.length]; exact hl, by simpa using rv⟩)
  | none =>
    refine core (fun b => if b = a then some (.frz scr (.lst (ns.map V.int))) else none) (fun b u z => ?_) (.inl (.inr ⟨scr, if_pos rfl⟩))
    by_cases hb : b = a
    · rw [if_pos hb] at z
      exact ⟨hb, (Option.some.inj z).symm, hk⟩
    · rw [if_neg hb] at z
      cases z
theorem walkG (k : Nat) {l : PySem.W.OpenLaw} {q : Program} {loose : List Str} {XP : (Str → Option Value) → Heap → Prop} {YP : World → Heap → Prop} {d : DefRec} {K : Params → PySem.W.Frag} (hr : Room k callerA) (hn : l.most = some 63) (hdf : d.params.defaults = [])
    (hY : ∀ (w : World) (h : Heap), YP w h → (K w.params).In h)
    (F : ∀ (w : World) (mg : Str → Option Value) (fa : Addr) (h : Heap), (K w.params).In h → h.Ns mainGlobals mg → mg d.name = some (.ref fa) →
      ∃ fd : FuncData, (∀ (s : Shared) (u : Value), BindsTo s fd ⟨[u], []⟩ [("_law_cells", u)]) ∧ ∀ base : Heap, (K w.params).In base → base.Ns mainGlobals mg → FnG l.prog w (K w.params) mg base k fa fd ["_law_cells"] (spLaw (K w.params))) :
    PySem.W.WalkO q loose XP YP l.row.toRowW d [] (fun f vs => PySem.call f vs) := by
  refine Att.attach_call hn hdf fun w s₀ s₁ mg mb fa o pm cd doc a vs ns G Y ho hd hcd hmg hobj hints hlen hg => ?_
  obtain ⟨fd, hb, hF⟩ := F w mg fa _ (hY w _ Y) G.T.g hmg
  exact callG (hY w _ Y) G.T.g G.T.b G.T.builtins G.T.nolimit hg hobj hints (Nat.le_trans hlen (by decide)) hr hF hb fun H hS => ⟨a, ns, rfl, hS, hlen, fun _ => rfl⟩
end RV
/-! Classes of the text, as their callers see them. -/
namespace RV
open PySem L2 PyProof.Rows
/-- the class x of the module stands at C; C(..) of positional values, the defaults dvs behind them -/
def Mkr (P : Program) (w : World) (K : PySem.W.Frag) (mg : Str → Option Value) (base : Heap) (x : Str) (C : Addr) (k : Nat) (sp : Sp) (dvs : List V) : Prop :=
  mg x = some (.ref C) ∧ ∃ f fd ps ds, Mk K C f ∧ Binds K fd ps ds ∧ Vals dvs ds ∧ FnOk P w K mg base CX0 k f fd ps sp
def MkrK (P : Program) (w : World) (K : PySem.W.Frag) (mg : Str → Option Value) (base : Heap) (x : Str) (C : Addr) (k n : Nat) (ks : List Str) (sp : Sp) (gV : List V → List V → List V) : Prop :=
  mg x = some (.ref C) ∧ ∃ f fd ps g, Mk K C f ∧ KBn K fd ps (n + 1) ks g gV ∧ FnOk P w K mg base CX0 k f fd ps sp
/-- what isinstance asks of a class of the text -/
structure ClsX (K : PySem.W.Frag) (C : Addr) : Prop where
  cl : Cls K C
  ha : PySem.W.findIn K (.ref C) "__class__" = some (some (.builtin "object.__class__"))
  hn : PySem.W.specialIn K (.builtin "object.__class__") "__get__" = some (some (.builtin "getset_descriptor.__get__"))
  htk : PySem.W.takesIn K (.builtin "object.__class__") = some true
  hm : PySem.W.mroIn K C (.type "object") = some true
theorem ClsX.ty {K : PySem.W.Frag} {C a dx : Addr} {H : Hp} {fs : List (Str × V)} (c : ClsX K C) (e : H a = some (.ins C dx fs)) : TyX K H (.ref a) (.ref C) := .base (.ins e c.cl c.ha c.hn c.htk c.hm)
/-- a property -/
def Prp (P : Program) (w : World) (K : PySem.W.Frag) (mg : Str → Option Value) (base : Heap) (C : Addr) (f : Str) (k : Nat) (sp : Sp) : Prop :=
  Cls K C ∧ ∃ p g fd ps, PropOf K C f p g ∧ Binds K fd ps [] ∧ FnOk P w K mg base CX0 k g fd ps sp
section
variable {X : Cx} {x f : Str} {C : Addr} {k n : Nat} {ks : List Str} {sp : Sp} {dvs : List V} {gV : List V → List V → List V} {e : Expr} {es : List Expr} {kws : List Keyword} {t tk : TA} {ta : TE} {p pos : Pos}
theorem pe_mk (h : Mkr X.prog X.w X.K X.mg X.base x C k sp dvs) (hr : Room (k + 1) X.A) (ha : PA X (e :: es) t) (hg : Gl X x := by rfl) (hdb : (x == ("__debug__" : Str)) = false := by decide)
    (he : starEach (e :: es) X.env = (false, eval e X.env) :: starEach es X.env := by rfl) (hpl : (backTo pos (starEach es X.env)).any (·.1) = false := by rfl) : PE X (.Call (.Name x p) (e :: es) [] pos) (tMake C sp dvs E0 t) := by
  obtain ⟨hm, f, fd, ps, ds, M, hb, hd, F⟩ := h
  exact pe_make M F hr hg hm hb hd pass0 ha hdb he hpl
theorem pe_mkK (h : MkrK X.prog X.w X.K X.mg X.base x C k n ks sp gV) (hr : Room (k + 1) X.A) (ha : PA X (e :: es) t) (hkw : PK X kws tk) (hg : Gl X x := by rfl)
    (hall : (backToKw pos (keywordEach kws X.env)).all (·.1.isSome) = true := by rfl) (hks : (backToKw pos (keywordEach kws X.env)).filterMap (·.1) = ks := by rfl) (hdb : (x == ("__debug__" : Str)) = false := by decide)
    (he : starEach (e :: es) X.env = (false, eval e X.env) :: starEach es X.env := by rfl) (hpl : ((backTo pos (starEach (e :: es) X.env)).any (·.1) || (backToKw pos (keywordEach kws X.env)).any (·.1.isNone)) = false := by rfl) :
    PE X (.Call (.Name x p) (e :: es) kws pos) (tMakeK C n ks.length sp gV E0 t tk) := by
  obtain ⟨hm, f, fd, ps, g, M, hb, F⟩ := h
  exact pe_makeK M F hr hg hm hb pass0 ha hkw hall hks hdb he hpl
theorem pe_propN (h : Prp X.prog X.w X.K X.mg X.base C f k sp) (hr : Room (k + 1) X.A) (he : PE X e ta) (hab : attributeBase e f X.env (eval e X.env) = eval e X.env := by rfl) : PE X (.Attribute e f pos) (tProp C sp [] E0 ta) := by
  obtain ⟨c, q, g, fd, ps, hp, hb, F⟩ := h
  exact pe_prop he c hp F hr hb .nil pass0 hab
end
end RV
/-! What is known of the heap, step by step; repr of lists of short things. -/
namespace RV
open PySem L2 PyProof.Rows
/-- the built-in names that the text uses are still the built-ins -/
structure Blt (mg : Str → Option Value) : Prop where
  b_len : mg "len" = none
  b_int : mg "int" = none
  b_abs : mg "abs" = none
  b_max : mg "max" = none
  b_min : mg "min" = none
  b_all : mg "all" = none
  b_any : mg "any" = none
  b_repr : mg "repr" = none
  b_range : mg "range" = none
  b_divmod : mg "divmod" = none
  b_isinstance : mg "isinstance" = none
  b_str : mg "str" = none

/-! ### the well -/
def sp_well (K : PySem.W.Frag) : Sp := fun vs H Q _ => ∃ (c : Addr) (ns : List Int) (k : Nat), vs = [.ref c, .int k] ∧ SqL K H c (ns.map V.int) ∧ ns.length ≤ 63 ∧ k ≤ 100 ∧
  ∀ a H', H a = none → Same H H' → WellAt H' a 0 → Q (.ref a) H'
def sp_dip : Sp := fun vs H Q _ => ∃ (a : Addr) (m : Int) (n : Nat), vs = [.ref a, .int m] ∧ WellAt H a n ∧ n < 1000000 ∧ 0 < m ∧ m ≤ 10 ^ 60 ∧
  ∀ (r : Int) H', 0 ≤ r → r < m → Grow a H H' → WellAt H' a (n + 1) → Q (.int r) H'
theorem WellAt.mono {H : Hp} {a : Addr} {n m : Nat} (w : WellAt H a n) (h : n ≤ m) : WellAt H a m := by
  obtain ⟨x, y, z, e, hx, hy, hz⟩ := w
  exact ⟨x, y, z, e, hx, hy, by omega, by omega⟩
theorem WellAt.new {H : Hp} {a p : Addr} {n : Nat} {o : HO} (w : WellAt H a n) (np : H p = none) : WellAt (upd H p o) a n := by
  obtain ⟨x, y, z, e, hx, hy, hz⟩ := w
  exact ⟨x, y, z, by rw [upd_ne (ne_of_none e np)]; exact e, hx, hy, hz⟩
theorem WellAt.ne {H : Hp} {a p : Addr} {n : Nat} (w : WellAt H a n) (np : H p = none) : a ≠ p := by
  obtain ⟨x, y, z, e, _⟩ := w
  exact ne_of_none e np
def sp_name : Sp := fun vs H Q _ => ∃ (a : Addr) (n : Nat), vs = [.ref a] ∧ WellAt H a n ∧ n < 900000 ∧
  ∀ (x : Str) H', IsNm x → Grow a H H' → WellAt H' a (n + 10) → Q (.str x) H'
def sp_fresh : Sp := fun vs H Q _ => ∃ (a t : Addr) (n : Nat) (xs : List Str), vs = [.ref a, .ref t] ∧ WellAt H a n ∧ n < 800000 ∧ H t = some (.lst (xs.map V.str)) ∧ t ≠ a ∧ (∀ x ∈ xs, IsNm x) ∧ xs.length ≤ 35 ∧
  ∀ (x : Str) H', IsNm x → x ∉ xs → Grow a H H' → WellAt H' a (n + 13) → Q (.str x) H'
/-- the names that differ from x in their last sign alone -/
def cands (x : Str) : List Str := (cd signs).map fun c => cutS x none (some 7) ++ ⟨#[c]⟩
/-- what is_name says of any value whose kind is known -/
def sp_is_name (K : PySem.W.Frag) : Sp := fun vs H Q _ => ∃ v, vs = [v] ∧ ((∃ x : Str, v = .str x ∧ x.length ≤ sizeLine ∧ ∀ H', Same H H' → Q (.bl (isNm (cd x))) H') ∨
  (∃ t, TyX K H v t ∧ PySem.W.kitOne K t (.type "str") = some false ∧ Q (.bl false) H))
structure Cst (mg : Str → Option Value) : Prop where
  c__LETTERS : ∃ u, mg "_LETTERS" = some u ∧ RelV (.str "abcdefghijklmnopqrstuvwxyz") u
  c__DIGITS : ∃ u, mg "_DIGITS" = some u ∧ RelV (.str "0123456789") u
  c__LONGEST_NAME : ∃ u, mg "_LONGEST_NAME" = some u ∧ RelV (.int 8) u
theorem cd_letters : cd "abcdefghijklmnopqrstuvwxyz" = [97, 98, 99, 100, 101, 102, 103, 104, 105, 106, 107, 108, 109, 110, 111, 112, 113, 114, 115, 116, 117, 118, 119, 120, 121, 122] := by decide +kernel
theorem cd_digits : cd "0123456789" = [48, 49, 50, 51, 52, 53, 54, 55, 56, 57] := by decide +kernel
theorem low_in (c : Nat) : decide (c ∈ cd "abcdefghijklmnopqrstuvwxyz") = lowC c := by
  rw [cd_letters]
  simp only [lowC]
  by_cases h : 97 ≤ c ∧ c ≤ 122
  · have : c = 97 ∨ c = 98 ∨ c = 99 ∨ c = 100 ∨ c = 101 ∨ c = 102 ∨ c = 103 ∨ c = 104 ∨ c = 105 ∨ c = 106 ∨ c = 107 ∨ c = 108 ∨ c = 109 ∨ c = 110 ∨ c = 111 ∨ c = 112 ∨ c = 113 ∨ c = 114 ∨ c = 115 ∨ c = 116 ∨ c = 117 ∨ c = 118 ∨ c = 119 ∨ c = 120 ∨ c = 121 ∨ c = 122 := by omega
    rcases this with e | e | e | e | e | e | e | e | e | e | e | e | e | e | e | e | e | e | e | e | e | e | e | e | e | e <;> subst e <;> decide
  · have h1 : (decide (97 ≤ c) && decide (c ≤ 122)) = false := by
      simp only [Bool.and_eq_false_iff, decide_eq_false_iff_not]
      omega
    rw [h1]
    simp only [decide_eq_false_iff_not, List.mem_cons, List.not_mem_nil, or_false]
    omega
theorem tail_in (c : Nat) : decide (c ∈ cd (("abcdefghijklmnopqrstuvwxyz" : Str) ++ ("0123456789" : Str))) = tailC c := by
  rw [cd_app]
  have h2 : decide (c ∈ cd "0123456789") = digC c := by
    rw [cd_digits]
    simp only [digC]
    by_cases h : 48 ≤ c ∧ c ≤ 57
    · have : c = 48 ∨ c = 49 ∨ c = 50 ∨ c = 51 ∨ c = 52 ∨ c = 53 ∨ c = 54 ∨ c = 55 ∨ c = 56 ∨ c = 57 := by omega
      rcases this with e | e | e | e | e | e | e | e | e | e <;> subst e <;> decide
    · have h1 : (decide (48 ≤ c) && decide (c ≤ 57)) = false := by
        simp only [Bool.and_eq_false_iff, decide_eq_false_iff_not]
        omega
      rw [h1]
      simp only [decide_eq_false_iff_not, List.mem_cons, List.not_mem_nil, or_false]
      omega
  rw [tailC, ← low_in, ← h2]
  by_cases a : c ∈ cd "abcdefghijklmnopqrstuvwxyz" <;> by_cases b : c ∈ cd "0123456789" <;> simp [a, b]
/-- a promise that the unifier does not open -/
@[irreducible] def Irr (sp : Sp) : Sp := sp
theorem irr {sp : Sp} {vs : List V} {H : Hp} {Q : VK} {E : XK} (h : sp vs H Q E) : Irr sp vs H Q E := by unfold Irr; exact h
theorem irr_of {sp : Sp} {vs : List V} {H : Hp} {Q : VK} {E : XK} (h : Irr sp vs H Q E) : sp vs H Q E := by unfold Irr at h; exact h
theorem Fn.irr {P : Program} {w : World} {K : PySem.W.Frag} {mg : Str → Option Value} {base : Heap} {x : Str} {k : Nat} {ps : List Str} {sp : Sp} (h : Fn P w K mg base x k ps sp) : Fn P w K mg base x k ps (Irr sp) := by
  obtain ⟨f, fd, a, b, c, F⟩ := h
  exact ⟨f, fd, a, b, c, F.imp fun _ _ _ _ z => irr_of z⟩
theorem Mkr.irr {P : Program} {w : World} {K : PySem.W.Frag} {mg : Str → Option Value} {base : Heap} {x : Str} {C : Addr} {k : Nat} {sp : Sp} {dvs : List V} (h : Mkr P w K mg base x C k sp dvs) : Mkr P w K mg base x C k (Irr sp) dvs := by
  obtain ⟨m, f, fd, ps, ds, a, b, c, F⟩ := h
  exact ⟨m, f, fd, ps, ds, a, b, c, F.imp fun _ _ _ _ z => irr_of z⟩
theorem MkrK.irr {P : Program} {w : World} {K : PySem.W.Frag} {mg : Str → Option Value} {base : Heap} {x : Str} {C : Addr} {k n : Nat} {ks : List Str} {sp : Sp} {gV : List V → List V → List V} (h : MkrK P w K mg base x C k n ks sp gV) : MkrK P w K mg base x C k n ks (Irr sp) gV := by
  obtain ⟨m, f, fd, ps, g, a, b, F⟩ := h
  exact ⟨m, f, fd, ps, g, a, b, F.imp fun _ _ _ _ z => irr_of z⟩
section
variable {a p x : Addr} {n m : Nat} {L : List (Addr × HO)} {H0 H : Hp} {o : HO} {Q : VK} {E : XK}
theorem Has.ne (h : Has H0 a n L H) (np : H p = none) : p ≠ a := (h.well.ne np).symm
theorem Has.free (h : Has H0 a n L H) (np : H p = none) : ∀ q ∈ L, q.1 ≠ p := fun q hq => ne_of_none (h.here q hq).2 np
theorem Has.none0 (h : Has H0 a n L H) (np : H p = none) : H0 p = none := by
  cases e : H0 p with
  | none => rfl
  | some o =>
    rw [h.gr p o (h.ne np) e] at np
    cases np
/-- a thing that is not among them changes -/
theorem Has.put (h : Has H0 a n L H) (h0 : H0 p = none) (hp : ∀ q ∈ L, q.1 ≠ p) (pa : p ≠ a) : Has H0 a n L (upd H p o) := by
  obtain ⟨g, ⟨x, y, z, e, r⟩, k⟩ := h
  refine ⟨fun b u hb eb => ?_, ⟨x, y, z, by rw [upd_ne pa.symm]; exact e, r⟩, fun q hq => ⟨(k q hq).1, by rw [upd_ne (hp q hq)]; exact (k q hq).2⟩⟩
  rw [upd_ne (ne_of_none eb h0)]
  exact g b u hb eb
theorem Has.same (h : Has H0 a n L H) {H' : Hp} (g : Same H H') : Has H0 a n L H' := by
  obtain ⟨g0, ⟨x, y, z, e, r⟩, k⟩ := h
  exact ⟨fun b u hb eb => g _ _ (g0 b u hb eb), ⟨x, y, z, g _ _ e, r⟩, fun q hq => ⟨(k q hq).1, g _ _ (k q hq).2⟩⟩
theorem dip_step {q : Int} (h : Has H0 a n L H) (hn : n < 1000000) (h0 : 0 < q) (h1 : q ≤ 10 ^ 60) (k : ∀ (r : Int) H', 0 ≤ r → r < q → Has H0 a (n + 1) L H' → Q (.int r) H') : Irr sp_dip [.ref a, .int q] H Q E :=
  irr ⟨a, q, n, rfl, h.well, hn, h0, h1, fun r H' r0 r1 g w => k r H' r0 r1 (h.grow g w)⟩
end
/-! ### short data -/
structure Short (d : PyData) : Prop where
  sh : d.showable = true
  dp : d.depth = 0
  ln : d.shown.length ≤ 100
end RV
/-! for i, x in enumerate(t), t a tuple. -/
namespace PySem
open AutoSeq1 (wpAny_loadPart')
set_option maxHeartbeats 4000000 in
theorem rv_meets_enum_tuple (l : Addr) (items : Array Value) (n : Nat) (dct : Option Addr) (sl : Array (Option Value)) :
    Meets (Builtin.«enumerate.__new__» ⟨[.type "enumerate", .ref l], []⟩) (fun _ R s => s.heap.get? l = some { cls := .type "tuple", dict := dct, data := .seq items n, slots := sl } ∧
      R (.ok (.ret (.ref (s.heap.push { cls := .type "tuple_iterator", data := .fields #[.ref l, .int 0 0] }).objs.size)))
        { s with heap := (s.heap.push { cls := .type "tuple_iterator", data := .fields #[.ref l, .int 0 0] }).push { cls := .type "enumerate", data := .fields #[.none, .bool false, .ref s.heap.objs.size, rawInt 0, .none, .none] } }) :=
  .of_wp fun prog w A R s h => by
    obtain ⟨hp, g, d, tk, os⟩ := s
    obtain ⟨hl, h⟩ := h
    have q := sub_enumerate
    have hT : Heap.IsTuple (Shared.heap ⟨hp, g, d, tk, os⟩) l items := ⟨_, hl, rfl, n, rfl⟩
    wp_walk using wpAny_loadPart' hl
    refine wpAny_stack_any fun st => wpAny_pure ?_
    split
    · rename_i c _ _ _ _ _
      cases (c == Value.type "enumerate") <;> (wp_walk using wpAny_loadPart' hl, wpAny_pyIter_tuple hT; exact ⟨_, rfl, h⟩)
    · wp_walk using wpAny_loadPart' hl, wpAny_pyIter_tuple hT
      exact ⟨_, rfl, h⟩
section
variable {prog : Program} {w : World} {A : Around} {E : Value → Shared → Prop} {s : Shared}
theorem rv_call_enum_tuple {l : Addr} {items : Array Value} {Q : Value → Shared → Prop} (hT : s.heap.IsTuple l items)
    (h : ∀ h', IsEnum h' (s.heap.objs.size + 1) s.heap.objs.size 0 .none → h'.IsTupleIter s.heap.objs.size l 0 → h'.objs.size = s.heap.objs.size + 2 → (∀ b o, s.heap.get? b = some o → h'.get? b = some o) → Q (.ref (s.heap.objs.size + 1)) { s with heap := h' }) :
    wpAny (model prog w) A (call (.type "enumerate") [.ref l]) Q E s := by
  obtain ⟨⟨c, dct, dt, sl⟩, hl, hc, n, hd⟩ := hT
  obtain rfl : c = .type "tuple" := hc
  obtain rfl : dt = .seq items n := hd
  refine callType_new F.called_enumerate (by decide) (F.typeCall_enumerate_1 _) (F.newCall_enumerate_1 _) (fun obj => F.args_object_init_2 obj _) F.entry_enumerate_new (rv_meets_enum_tuple l items n dct sl) ⟨hl, ?_⟩
  let h1 := s.heap.push { cls := .type "tuple_iterator", data := .fields #[.ref l, .int 0 0] }
  have z1 : h1.objs.size = s.heap.objs.size + 1 := Heap.size_push ..
  show _ ∧ _
  rw [show (s.heap.push { cls := .type "tuple_iterator", data := .fields #[.ref l, .int 0 0] }).objs.size = s.heap.objs.size + 1 from z1]
  have he : IsEnum (h1.push { cls := .type "enumerate", data := .fields #[.none, .bool false, .ref s.heap.objs.size, rawInt 0, .none, .none] }) (s.heap.objs.size + 1) s.heap.objs.size 0 .none := by
    have t := Heap.get?_push_size h1 (o := { cls := .type "enumerate", data := .fields #[.none, .bool false, .ref s.heap.objs.size, rawInt 0, .none, .none] }) rfl
    rw [z1] at t
    exact t
  exact ⟨⟨_, he, rfl⟩, h _ he ⟨_, Heap.get?_push_of_some _ (Heap.get?_push_size _ rfl), rfl, rfl⟩ (by rw [Heap.size_push, z1]) fun b o x => Heap.get?_push_of_some _ (Heap.get?_push_of_some _ x)⟩
end
end PySem
namespace RV
open PySem L2 PyProof.Rows
/-- the tuple at a, each item in a new pair with its number -/
def Iet (K : PySem.W.Frag) (a : Addr) : It :=
  ⟨fun i H => ∃ (xs : List V) (x : V), SqT K H a xs ∧ xs[i]? = some x, fun i H v H' => ∃ T x, v = .ref T ∧ H T = none ∧ H' = upd H T (.tup [.int (i : Nat), x]) ∧ ∀ xs, SqT K H a xs → xs[i]? = some x, fun i H => ∃ xs : List V, SqT K H a xs ∧ xs.length = i⟩
theorem turn_enumT {P : Program} {w : World} {K : PySem.W.Frag} {elts : List Expr} {kk : Nat} {tpos : Pos} (a e it : Addr) :
    Turn P w K (.Tuple elts kk tpos) (Iet K a) [e, it] e (fun i h => (∃ old, IsEnum h e it ((i : Nat) : Int) old) ∧ h.IsTupleIter it a i ∧ e ≠ it) where
  mem := List.Mem.head _
  obj := fun i h st b hb => by
    obtain ⟨⟨old, he⟩, ⟨o, ho, hc, hd⟩, _⟩ := st
    rcases (by simpa using hb : b = e ∨ b = it) with rfl | rfl
    · exact ⟨_, he, fun v q => nomatch q⟩
    · exact ⟨o, ho, fun v q => by rw [hd] at q; cases q⟩
  keep := fun i h h' st k => by
    obtain ⟨⟨old, he⟩, hi, hne⟩ := st
    exact ⟨⟨old, k e (List.Mem.head _) _ he⟩, hi.at fun o q => k it (.tail _ (.head _)) o q, hne⟩
  item := by
    intro X hP hw hK hc i pins s σ H E I hf st hg
    subst hP hw hK
    obtain ⟨⟨old, he⟩, hit, hne⟩ := st
    obtain ⟨xs, x, hq, hx⟩ := hg
    obtain ⟨its, rv, p, hz⟩ := I.tuple hq
    obtain ⟨u, hu, ru⟩ := rv.get hx
    have hel : e < s.heap.objs.size := Heap.lt_size he
    have hil : it < s.heap.objs.size := by obtain ⟨_, q, _⟩ := hit; exact Heap.lt_size q
    have pt : s.heap.IsTuple a its.toArray := p
    have ait : a ≠ it := fun z => by
      obtain ⟨o, ho, hc, _⟩ := hit
      obtain ⟨o', ho', hc', _⟩ := pt
      rw [z, ho] at ho'
      cases ho'
      rw [hc] at hc'
      injection hc' with q
      exact absurd q (by decide)
    have ae : a ≠ e := fun z => by
      obtain ⟨o', ho', hc', _⟩ := pt
      rw [z, he] at ho'
      cases ho'
      injection hc' with q
      exact absurd q (by decide)
    have lt : i < its.toArray.size := by
      have := (List.getElem?_eq_some_iff.mp hu).1
      simpa using this
    refine wpAny_pyNext_enum_itemD (Draws.tuple (A := X.A.in1) (I.ok.hd hc) it a ait its.toArray) he ⟨hit, pt⟩ lt hne (by simp [hne, ae.symm]) fun y h' tk hy ho hst hT hsz hk => ?_
    have ey : y = u := by
      have e1 : its.toArray[i]? = some u := by simpa using hu
      rw [e1] at hy
      exact (Option.some.inj hy).symm
    subst ey
    refine ⟨_, rfl, wpAny_letOwnedTupleGo_enum (s := { s with heap := h', toks := tk + 1 }) ho fun h'' he' sb => ?_⟩
    have hT2 : h''.get? s.heap.objs.size = some { cls := .type "tuple", data := .seq #[.int i tk, y] } := (sb.2 _ (Nat.ne_of_gt hel)).trans hT
    have new : ObjOk X.prog X.w (upd H s.heap.objs.size (.tup [.int (i : Nat), x])) h'' s.heap.objs.size (.tup [.int (i : Nat), x]) :=
      ⟨by show 2 ≤ sizeLine; decide, [.int i tk, y], .cons ⟨_, rfl⟩ (.cons ru .nil), ⟨_, hT2, rfl, _, rfl⟩⟩
    have I1 : Inv X pins σ (upd H s.heap.objs.size (.tup [.int (i : Nat), x])) { s with heap := h'', toks := tk + 1 } :=
      I.turnedNew (ch := [e, it]) (fun b ob hb q => (sb.2 b (fun z => hb (by simp [z]))).trans (hk b ob (fun z => hb (by simp [z])) (fun z => hb (by simp [z])) q)) hf (Nat.le_refl _) new
    refine ⟨.ref s.heap.objs.size, _, I1, rfl, ⟨_, x, rfl, I.hok.fresh (Nat.le_refl _), rfl, fun ys hy => by rw [I.tuple_inj hy hq]; exact hx⟩, ⟨⟨y, ?_⟩, hst.1.at fun o q => (sb.2 it (Ne.symm hne)).trans q, hne⟩, fun b hb => ?_⟩
    · rw [show ((i + 1 : Nat) : Int) = (i : Int) + 1 by omega]
      exact he'
    · have hb' : b < s.heap.objs.size := by
        rcases (by simpa using hb : b = e ∨ b = it) with rfl | rfl
        · exact hel
        · exact hil
      rw [upd_ne (Nat.ne_of_lt hb')]
      exact (hf b hb).1
  done := by
    intro X hP hw hK hc i pins s σ H E I hf st hg
    subst hP hw hK
    obtain ⟨⟨old, he⟩, hit, hne⟩ := st
    obtain ⟨xs, hq, hx⟩ := hg
    obtain ⟨its, rv, p, hz⟩ := I.tuple hq
    obtain ⟨f0, f1, f2, f3, f4, f5⟩ := hf it (by simp)
    have pt : s.heap.IsTuple a its.toArray := p
    have ait : a ≠ it := fun z => by
      obtain ⟨o, ho, hc, _⟩ := hit
      obtain ⟨o', ho', hc', _⟩ := pt
      rw [z, ho] at ho'
      cases ho'
      rw [hc] at hc'
      injection hc' with q
      exact absurd q (by decide)
    have en : i = its.toArray.size := by
      rw [List.size_toArray, ← rv.length]
      exact hx.symm
    subst en
    exact wpAny_pyNext_enum_endD (Draws.tuple (A := X.A.in1) (I.ok.hd hc) it a ait its.toArray) he ⟨hit, pt⟩ fun h' eb => ⟨rfl, I.turned (t' := s.toks) (fun b o hb q => eb b o hb q) f0 f1 f3 f4 f5⟩
  self := fun A i s Q E st h => let ⟨⟨_, he⟩, _⟩ := st; wpAny_pyIter_enum he h
def iEnumT (K : PySem.W.Frag) (ta : TA) : TI := fun σ H R => ta σ H fun vs H1 => ∃ a xs, vs = [.ref a] ∧ SqT K H1 a xs ∧ R (Iet K a) H1
theorem pi_enumT {X : Cx} {e : Expr} {ta : TA} {p pos tpos : Pos} {elts : List Expr} {kk : Nat} (hg : Gl X "enumerate") (hm : X.mg "enumerate" = none) (ha : PA X [e] ta) (hs : starEach [e] X.env = [(false, eval e X.env)] := by rfl) :
    PI X (.Tuple elts kk tpos) (.Call (.Name "enumerate" p) [e] [] pos) (iEnumT X.K ta) := by
  refine ⟨fun pins s σ H R I h => ?_⟩
  refine Call_ (ld_blt I hg hm boot_enumerate (PyProof.Rows.callWith_type1 (thn (ha.run pos pins s σ H _ I h) fun us s1 ⟨vs, H1, I1, r1, q1⟩ => ?_) hs rfl))
  obtain ⟨a, xs, ex, hq, q⟩ := q1
  subst ex
  have eu : us = [.ref a] := by
    cases r1 with
    | cons r2 r3 => cases r3; cases r2; rfl
  subst eu
  obtain ⟨its, rv, p', hz⟩ := I1.tuple hq
  refine rv_call_enum_tuple (show s1.heap.IsTuple a its.toArray from p') fun h' he hit hsz hk => wpAny_pyIter_enum he ?_
  have I2 : Inv X pins σ H1 { s1 with heap := h' } := I1.kept (t' := s1.toks) hk
  refine ⟨s1.heap.objs.size + 1, [s1.heap.objs.size + 1, s1.heap.objs.size], _, _, H1, rfl, I2, turn_enumT a (s1.heap.objs.size + 1) s1.heap.objs.size, ⟨⟨.none, he⟩, hit, Nat.succ_ne_self _⟩, fun b hb => ?_, q⟩
  have hle : s1.heap.objs.size ≤ b := by
    rcases (by simpa using hb : b = s1.heap.objs.size + 1 ∨ b = s1.heap.objs.size) with rfl | rfl
    · exact Nat.le_succ _
    · exact Nat.le_refl _
  exact I1.fpOk hle (I1.hok.fresh hle)
/-- a loop over the numbered items of a tuple that stands still -/
theorem for_enumT {K : PySem.W.Frag} {a : Addr} {xs : List V} {g : TG} {tb : TS} {D : Ends} {σ : L2.St} {H : Hp} (Pv : Nat → L2.St → Hp → Prop) (h0 : Pv 0 σ H) (hl : ∀ i σ H, i ≤ xs.length → Pv i σ H → SqT K H a xs)
    (hs : ∀ i x σ H T, xs[i]? = some x → Pv i σ H → H T = none → g (.ref T) σ (upd H T (.tup [.int (i : Nat), x])) fun σ2 H2 => tb { D with nx := Pv (i + 1), ct := Pv (i + 1), bk := D.nx } σ2 H2) (hd : ∀ σ H, Pv xs.length σ H → D.nx σ H) :
    ∃ W : Nat → Nat → L2.St → Hp → Prop, (∃ m, W 0 m σ H) ∧ ∀ i m σ H, W i m σ H →
      ((Iet K a).stop i H ∧ D.nx σ H) ∨ ((Iet K a).go i H ∧ ∃ N : L2.St → Hp → Prop, (∀ σ' H', N σ' H' → ∃ m', m' < m ∧ W (i + 1) m' σ' H') ∧ ∀ x H', (Iet K a).yld i H x H' → g x σ H' fun σ2 H2 => tb { D with nx := N, ct := N, bk := D.nx } σ2 H2) := by
  refine ⟨fun i m σ H => m = xs.length - i ∧ i ≤ xs.length ∧ Pv i σ H, ⟨xs.length, by simp, Nat.zero_le _, h0⟩, ?_⟩
  rintro i m σ H ⟨rfl, hi, p⟩
  have q := hl i σ H hi p
  by_cases hlt : i < xs.length
  · refine .inr ⟨⟨xs, xs[i], q, List.getElem?_eq_getElem hlt⟩, Pv (i + 1), fun σ' H' p' => ⟨xs.length - (i + 1), by omega, rfl, hlt, p'⟩, fun x H' y => ?_⟩
    obtain ⟨T, y, rfl, hT, rfl, hy⟩ := y
    exact hs i y σ H T (hy xs q) p hT
  · have e : i = xs.length := by omega
    subst e
    exact .inl ⟨⟨xs, q, rfl⟩, hd σ H p⟩
end RV
set_option linter.all false
/-! Sets of keys of one kind that can be walked and sorted: set(list of texts), sorted(set of texts). -/
namespace RV
open PySem L2 PySem.Spec PyProof.Rows
section
variable {P : Program} {w : World} {κ : Type} [DecidableEq κ] {knd : KeyKind P w κ}
/-- no two of them are the same key -/
def Apart (knd : KeyKind P w κ) (l : List (Int × Value)) : Prop := l.Pairwise fun e f => ∀ k, ¬ (knd.is k e.2 = true ∧ knd.is k f.2 = true)
/-- a set at a with the members S, n of them, whose table rises -/
def SetX (knd : KeyKind P w κ) (h : Heap) (a : Addr) (S : κ → Bool) (n : Nat) : Prop :=
  ∃ o es ep t, (h.get? a = some o ∧ o.ExactSet ∧ o.data = .set es ep t) ∧ (ElemsOf knd es.toList ∧ Apart knd es.toList ∧ ∀ k, S k = true ↔ ∃ e ∈ es.toList, knd.is k e.2 = true) ∧
    es.size < scanBound ∧ t.fits es.size = true ∧ es.size = n ∧ Ris t.place.toList ∧ (w.params.followText "set-order" = true ∨ t.led = true)
variable {A : Around} {E : Value → Shared → Prop} {s : Shared} {a : Addr}
end
end RV
set_option linter.all false
/-! set(list of texts), sorted(set of texts). -/
namespace RV
open PySem L2 PySem.Spec PyProof.Rows
section
variable {P : Program} {w : World} {A : Around} {E : Value → Shared → Prop} {s : Shared}
abbrev SetS (P : Program) (w : World) (h : Heap) (a : Addr) (S : Str → Bool) (n : Nat) : Prop := SetX (PySem.strKind P w) h a S n
abbrev emptySet (w : World) : Obj := { cls := .type "set", dict := none, data := .set #[] 0 (.fresh 0 0 (!w.params.followText "set-order")) }
set_option maxHeartbeats 8000000 in
end
end RV
set_option linter.all false
/-! the rules: set(list of texts), sorted(set of texts) -/
namespace RV
open PySem L2 PySem.Spec PyProof.Rows
section
variable {P : Program} {w : World} {A : Around} {E : Value → Shared → Prop} {s : Shared}
end
/-- a set of texts in the ledger -/
def SetT (P : Program) (w : World) (a : Addr) (S : Str → Bool) (n : Nat) : HO := .ext fun h => SetS P w h a S n
section
variable {X : Cx}
def rSetS (K : PySem.W.Frag) (P : Program) (w : World) : List V → Hp → VK → Prop := fun vs H Q => ∃ (l : Addr) (xs : List Str), vs = [V.ref l] ∧ SqL K H l (xs.map V.str) ∧ xs.length < 4000 ∧
  ∀ a n, H a = none → n ≤ xs.length → Q (.ref a) (upd H a (SetT P w a (fun x => decide (x ∈ xs)) n))
def rSortS (P : Program) (w : World) : List V → Hp → VK → Prop := fun vs H Q => ∃ (a : Addr) (S : Str → Bool) (n : Nat), vs = [V.ref a] ∧ H a = some (SetT P w a S n) ∧
  ∀ (xs : List Str) (p : Addr), sortedS xs = true → xs.Nodup → (∀ k, k ∈ xs ↔ S k = true) → xs.length = n → H p = none → Q (.ref p) (upd H p (.lst (xs.map V.str)))
end
end RV
/-! promises of the laws about sums; pairs of a name and an integer -/
namespace RV
open PySem L2
structure Blt2 (mg : Str → Option Value) : Prop where
  b_sum : mg "sum" = none
  b_sorted : mg "sorted" = none
  b_set : mg "set" = none
  b_tuple : mg "tuple" = none
  b_enumerate : mg "enumerate" = none
  b_bool : mg "bool" = none
def big : Int := 10 ^ 30
def sp_number : Sp := fun vs H Q _ => ∃ (a : Addr) (n : Nat), vs = [.ref a] ∧ WellAt H a n ∧ n < 900000 ∧
  ∀ (z : Int) H', -big < z → z < big → Grow a H H' → WellAt H' a (n + 5) → Q (.int z) H'
theorem pg_tupK {X : Cx} {K : PySem.W.Frag} {es : List Expr} {k : Nat} {t : TGs} {n : Nat} {pos : Pos} (hc : X.calm = true) (h : PGs X es t)
    (hn : (assignEach es X.env).length = n := by rfl) (hst : (assignEach es X.env).findIdx? (·.1) = none := by rfl) (hK : X.K = K := by rfl) : PG X (.Tuple es k pos) (gTup K n t) := hK ▸ pg_tup hc h hn hst
/-! ### lists of pairs of a text and an integer, each at its address -/
abbrev TP := Addr × Str × Int
def vP (us : List TP) : List V := us.map fun u => .ref u.1
def prs (us : List TP) : List (Str × Int) := us.map (·.2)
def oP (q : Str × Int) : HO := .tup [.str q.1, .int q.2]
def lP (us : List TP) : List (Addr × HO) := us.map fun u => (u.1, oP u.2)
def TPs (K : PySem.W.Frag) (H : Hp) (us : List TP) : Prop := ∀ u ∈ us, SqT K H u.1 [.str u.2.1, .int u.2.2]
theorem TPs.ext {K : PySem.W.Frag} {H H' : Hp} {us : List TP} (h : TPs K H us) (e : Same H H') : TPs K H' us := fun u hu => (h u hu).ext e
theorem vP_app (us vs : List TP) : vP (us ++ vs) = vP us ++ vP vs := List.map_append
theorem prs_app (us vs : List TP) : prs (us ++ vs) = prs us ++ prs vs := List.map_append
theorem lP_app (us vs : List TP) : lP (us ++ vs) = lP us ++ lP vs := List.map_append
theorem vP_len (us : List TP) : (vP us).length = us.length := List.length_map _
theorem prs_len (us : List TP) : (prs us).length = us.length := List.length_map _
abbrev gPr (K : PySem.W.Frag) (i j : Nat) : TG := gTup K 2 (gCons (gName i) (gCons (gName j) gNil))
theorem gPr_at {K : PySem.W.Frag} {i j : Nat} {u : TP} {σ : L2.St} {H : Hp} {R : L2.St → Hp → Prop} (ht : SqT K H u.1 [.str u.2.1, .int u.2.2]) (h : R ((σ.set i (some (.str u.2.1))).set j (some (.int u.2.2))) H) : gPr K i j (.ref u.1) σ H R :=
  ⟨u.1, _, rfl, ht, rfl, _, _, rfl, _, _, rfl, ⟨rfl, h⟩⟩
/-! ### how great they are -/
def tot (qs : List (Str × Int)) : Nat := (qs.map fun q => q.2.natAbs).sum
theorem sum_le (p : Str × Int → Bool) : ∀ qs : List (Str × Int), (((qs.filter p).map (fun q : Str × Int => q.2)).sum).natAbs ≤ tot qs
  | [] => Nat.le_refl 0
  | q :: qs => by
    have ih := sum_le p qs
    have e : tot (q :: qs) = q.2.natAbs + tot qs := rfl
    by_cases h : p q = true
    · rw [List.filter_cons_of_pos h, List.map_cons, List.sum_cons]
      omega
    · rw [List.filter_cons_of_neg h]
      omega
end RV
/-! drawn pairs -/
namespace RV
open PySem L2
structure Pairs (us : List TP) (m : Nat) : Prop where
  nm : ∀ q ∈ prs us, IsNm q.1
  gr : (tot (prs us) : Int) ≤ big * 2 ^ m
  ln : us.length ≤ m
/-- drawn pairs; at most ten -/
def sp_pairs : Sp := fun vs H Q _ => ∃ (a : Addr) (n m : Nat), vs = [.ref a, .int m] ∧ WellAt H a n ∧ n < 700000 ∧ m ≤ 20 ∧
  ∀ (us : List TP) (l : Addr) H', Pairs us m → (∀ p ∈ (l, HO.lst (vP us)) :: lP us, p.1 ≠ a ∧ H' p.1 = some p.2) → H l = none → Grow a H H' → WellAt H' a (n + 1000) → Q (.ref l) H'
end RV
namespace RV
open PySem L2
/-- a thing of the ledger changes -/
theorem Has.reset {H0 H : Hp} {a p : Addr} {n : Nat} {o o' : HO} {L : List (Addr × HO)} (h : Has H0 a n ((p, o) :: L) H) (h0 : H0 p = none) (hp : ∀ q ∈ L, q.1 ≠ p) : Has H0 a n ((p, o') :: L) (upd H p o') := by
  have pa : p ≠ a := (h.here (p, o) List.mem_cons_self).1
  have h1 := (h.sub (L' := L) fun q hq => List.mem_cons_of_mem _ hq).put (o := o') h0 hp pa
  refine ⟨h1.gr, h1.well, fun q hq => ?_⟩
  rcases List.mem_cons.mp hq with rfl | hq
  · exact ⟨pa, upd_same⟩
  · exact h1.here q hq
theorem Has.apart {H0 H : Hp} {a : Addr} {n : Nat} {L : List (Addr × HO)} (h : Has H0 a n L H) {p q : Addr} {o o' : HO} (hp : (p, o) ∈ L) (hq : (q, o') ∈ L) (d : o ≠ o') : p ≠ q := fun e => by
  have h1 := h.at hp
  have h2 := h.at hq
  rw [e, h2] at h1
  exact d (Option.some.inj h1).symm
end RV
/-! the order of texts; sums as ascending pairs; things made by a function that keeps all that stood -/
namespace RV
open PySem L2
open PySem.Spec (ltCps)
open PyProof.Rows (sortedS risingS)
theorem lt_irr : ∀ a : List Nat, ltCps a a = false
  | [] => rfl
  | c :: r => by simp [ltCps, lt_irr r]
theorem lt_tr : ∀ {a b c : List Nat}, ltCps a b = true → ltCps b c = true → ltCps a c = true
  | [], [], _, h, _ => by simp [ltCps] at h
  | [], _ :: _, [], _, h => by simp [ltCps] at h
  | [], _ :: _, _ :: _, _, _ => rfl
  | _ :: _, [], _, h, _ => by simp [ltCps] at h
  | _ :: _, _ :: _, [], _, h => by simp [ltCps] at h
  | x :: a, y :: b, z :: c, h, k => by
    simp only [ltCps, Bool.or_eq_true, decide_eq_true_eq, Bool.and_eq_true, beq_iff_eq] at h k ⊢
    rcases h with h | ⟨h, h'⟩ <;> rcases k with k | ⟨k, k'⟩
    · exact .inl (by omega)
    · exact .inl (by omega)
    · exact .inl (by omega)
    · exact .inr ⟨by omega, lt_tr h' k'⟩
theorem lt_tri : ∀ {a b : List Nat}, ltCps a b = false → ltCps b a = false → a = b
  | [], [], _, _ => rfl
  | [], _ :: _, h, _ => by simp [ltCps] at h
  | _ :: _, [], _, h => by simp [ltCps] at h
  | x :: a, y :: b, h, k => by
    simp only [ltCps, Bool.or_eq_false_iff, decide_eq_false_iff_not, Bool.and_eq_false_iff, beq_eq_false_iff_ne] at h k
    have e : x = y := by omega
    subst e
    rw [lt_tri (h.2.resolve_left fun z => z rfl) (k.2.resolve_left fun z => z rfl)]
def Lt (a b : Str) : Prop := ltCps (cd a) (cd b) = true
theorem Lt.irr (a : Str) : ¬ Lt a a := fun h => by rw [Lt, lt_irr] at h; cases h
theorem Lt.tr {a b c : Str} (h : Lt a b) (k : Lt b c) : Lt a c := lt_tr h k
theorem asc_of : ∀ {xs : List Str}, sortedS xs = true → xs.Nodup → xs.Pairwise Lt
  | [], _, _ => .nil
  | [x], _, _ => List.pairwise_cons.mpr ⟨fun _ h => (nomatch h), .nil⟩
  | x :: y :: r, h, d => by
    have h' : (!ltCps (cd y) (cd x) && risingS y r) = true := h
    rw [Bool.and_eq_true] at h'
    obtain ⟨d1, d2⟩ := List.nodup_cons.mp d
    have ih := asc_of (xs := y :: r) h'.2 d2
    have lt : Lt x y := by
      cases e : ltCps (cd x) (cd y) with
      | true => exact e
      | false =>
        have e2 : ltCps (cd y) (cd x) = false := by simpa using h'.1
        exact absurd (cd_inj (lt_tri e e2) ▸ List.mem_cons_self) d1
    refine List.pairwise_cons.mpr ⟨fun z hz => ?_, ih⟩
    rcases List.mem_cons.mp hz with rfl | hz
    · exact lt
    · exact lt.tr ((List.pairwise_cons.mp ih).1 z hz)
theorem asc_uniq {α : Type} {R : α → α → Prop} (irr : ∀ a, ¬ R a a) (tr : ∀ {a b c}, R a b → R b c → R a c) : ∀ {l m : List α}, l.Pairwise R → m.Pairwise R → (∀ x, x ∈ l ↔ x ∈ m) → l = m
  | [], [], _, _, _ => rfl
  | [], y :: m, _, _, h => nomatch (h y).2 List.mem_cons_self
  | x :: l, [], _, _, h => nomatch (h x).1 List.mem_cons_self
  | x :: l, y :: m, hl, hm, h => by
    obtain ⟨a1, a2⟩ := List.pairwise_cons.mp hl
    obtain ⟨b1, b2⟩ := List.pairwise_cons.mp hm
    have e : x = y := by
      rcases List.mem_cons.mp ((h x).1 List.mem_cons_self) with e | hx
      · exact e
      rcases List.mem_cons.mp ((h y).2 List.mem_cons_self) with e | hy
      · exact e.symm
      exact absurd (tr (a1 y hy) (b1 x hx)) (irr x)
    subst e
    have : l = m := asc_uniq irr tr a2 b2 fun z => by
      constructor
      · intro hz
        rcases List.mem_cons.mp ((h z).1 (List.mem_cons_of_mem _ hz)) with e | h'
        · exact absurd (e ▸ a1 z hz) (irr x)
        · exact h'
      · intro hz
        rcases List.mem_cons.mp ((h z).2 (List.mem_cons_of_mem _ hz)) with e | h'
        · exact absurd (e ▸ b1 z hz) (irr x)
        · exact h'
    rw [this]
/-! ### the coefficient of a name -/
def co (qs : List (Str × Int)) (x : Str) : Int := ((qs.filter fun q => decide (q.1 = x)).map fun q => q.2).sum
theorem co_nil (x : Str) : co [] x = 0 := rfl
theorem co_cons (q : Str × Int) (qs : List (Str × Int)) (x : Str) : co (q :: qs) x = (if q.1 = x then q.2 else 0) + co qs x := by
  unfold co
  by_cases h : q.1 = x <;> simp [List.filter_cons, h]
theorem co_app (a b : List (Str × Int)) (x : Str) : co (a ++ b) x = co a x + co b x := by
  unfold co
  rw [List.filter_append, List.map_append, List.sum_append]
theorem co_none {qs : List (Str × Int)} {x : Str} (h : ∀ q ∈ qs, q.1 ≠ x) : co qs x = 0 := by
  unfold co
  rw [List.filter_eq_nil_iff.mpr fun q hq => by simpa using h q hq]
  rfl
theorem co_le (qs : List (Str × Int)) (x : Str) : (co qs x).natAbs ≤ tot qs := sum_le (fun q => decide (q.1 = x)) qs
/-- ascending pairs, none with 0 -/
structure Nrm (rs : List (Str × Int)) : Prop where
  asc : (rs.map (·.1)).Pairwise Lt
  no0 : ∀ q ∈ rs, q.2 ≠ 0
theorem co_asc {q : Str × Int} : ∀ {rs : List (Str × Int)}, (rs.map (·.1)).Pairwise Lt → q ∈ rs → co rs q.1 = q.2
  | [], _, hq => nomatch hq
  | r :: rs, ha, hq => by
    rw [List.map_cons, List.pairwise_cons] at ha
    rw [co_cons]
    rcases List.mem_cons.mp hq with e | hq
    · subst e
      rw [if_pos rfl, co_none (fun r hr e => ?_), Int.add_zero]
      have := ha.1 r.1 (List.mem_map.mpr ⟨r, hr, rfl⟩)
      rw [e] at this
      exact Lt.irr _ this
    · rw [if_neg (fun e => ?_), co_asc ha.2 hq, Int.zero_add]
      have := ha.1 q.1 (List.mem_map.mpr ⟨q, hq, rfl⟩)
      rw [e] at this
      exact Lt.irr _ this
theorem Nrm.co {rs : List (Str × Int)} (h : Nrm rs) {q : Str × Int} (hq : q ∈ rs) : co rs q.1 = q.2 := co_asc h.asc hq
theorem Nrm.mem {rs : List (Str × Int)} (h : Nrm rs) (x : Str) : x ∈ rs.map (·.1) ↔ RV.co rs x ≠ 0 := by
  constructor
  · intro hx
    obtain ⟨q, hq, rfl⟩ := List.mem_map.mp hx
    rw [h.co hq]
    exact h.no0 q hq
  · intro hx
    refine Classical.byContradiction fun hn => hx (co_none fun q hq e => hn (List.mem_map.mpr ⟨q, hq, e⟩))
theorem Nrm.uniq {rs ss : List (Str × Int)} (h : Nrm rs) (k : Nrm ss) (e : ∀ x, RV.co rs x = RV.co ss x) : rs = ss := by
  have e1 : rs.map (·.1) = ss.map (·.1) := asc_uniq Lt.irr Lt.tr h.asc k.asc fun x => by rw [h.mem, k.mem, e]
  have back : ∀ {ts : List (Str × Int)}, Nrm ts → ts = (ts.map (·.1)).map fun x => (x, RV.co ts x) := fun {ts} n => by
    rw [List.map_map]
    refine (List.map_id ts).symm.trans (List.map_congr_left fun q hq => ?_)
    show q = (q.1, RV.co ts q.1)
    rw [n.co hq]
  rw [back h, back k, e1]
  exact List.map_congr_left fun x _ => by rw [e]
theorem nrm_of {xs : List Str} {c : Str → Int} (ha : xs.Pairwise Lt) : Nrm ((xs.map fun x => (x, c x)).filter fun q => !decide (q.2 = 0)) := by
  refine ⟨?_, fun q hq => by simpa using (List.mem_filter.mp hq).2⟩
  refine List.Pairwise.sublist ((List.filter_sublist).map _) ?_
  rw [List.map_map]
  have : xs.map ((fun q : Str × Int => q.1) ∘ fun x => (x, c x)) = xs := (List.map_congr_left fun _ _ => rfl).trans (List.map_id xs)
  rw [this]
  exact ha
theorem nrm_co {xs : List Str} {c : Str → Int} (ha : xs.Pairwise Lt) (hc : ∀ x, x ∉ xs → c x = 0) (x : Str) : RV.co ((xs.map fun x => (x, c x)).filter fun q => !decide (q.2 = 0)) x = c x := by
  have n := nrm_of (c := c) ha
  by_cases h : x ∈ xs ∧ c x ≠ 0
  · exact n.co (q := (x, c x)) (List.mem_filter.mpr ⟨List.mem_map.mpr ⟨x, h.1, rfl⟩, by simpa using h.2⟩)
  · have c0 : c x = 0 := by
      by_cases hx : x ∈ xs
      · exact Classical.byContradiction fun k => h ⟨hx, k⟩
      · exact hc x hx
    rw [c0]
    refine co_none fun q hq e => ?_
    obtain ⟨h1, h2⟩ := List.mem_filter.mp hq
    obtain ⟨y, _, rfl⟩ := List.mem_map.mp h1
    have e' : y = x := e
    subst e'
    simp [c0] at h2
/-! ### what a function that keeps all that stood leaves -/
structure Kp (H0 : Hp) (L : List (Addr × HO)) (H : Hp) : Prop where
  sm : Same H0 H
  nw : ∀ p ∈ L, H0 p.1 = none ∧ H p.1 = some p.2
section
variable {H0 H H' : Hp} {L L' : List (Addr × HO)} {p q a : Addr} {o o' : HO} {n : Nat}
theorem Kp.start (H : Hp) : Kp H [] H := ⟨fun _ _ e => e, fun _ h => nomatch h⟩
theorem Kp.next (h : Kp H0 L H) (g : Same H H') : Kp H0 L H' := ⟨fun b o e => g b o (h.sm b o e), fun p hp => ⟨(h.nw p hp).1, g _ _ (h.nw p hp).2⟩⟩
theorem Kp.none0 (h : Kp H0 L H) (np : H p = none) : H0 p = none := by
  cases e : H0 p with
  | none => rfl
  | some o => rw [h.sm p o e] at np; cases np
theorem Kp.new (h : Kp H0 L H) (np : H p = none) : Kp H0 ((p, o) :: L) (upd H p o) := by
  have g : Same H (upd H p o) := fun b u e => by rw [upd_ne (ne_of_none e np)]; exact e
  refine ⟨fun b u e => g b u (h.sm b u e), fun r hr => ?_⟩
  rcases List.mem_cons.mp hr with rfl | hr
  · exact ⟨h.none0 np, upd_same⟩
  · exact ⟨(h.nw r hr).1, g _ _ (h.nw r hr).2⟩
theorem Kp.sub (h : Kp H0 L H) (s : ∀ p ∈ L', p ∈ L) : Kp H0 L' H := ⟨h.sm, fun p hp => h.nw p (s p hp)⟩
theorem Kp.at (h : Kp H0 L H) (hp : (p, o) ∈ L) : H p = some o := (h.nw _ hp).2
theorem Kp.apart (h : Kp H0 L H) (hp : (p, o) ∈ L) (hq : (q, o') ∈ L) (d : o ≠ o') : p ≠ q := fun e => by
  have h1 := h.at hp
  rw [e, h.at hq] at h1
  exact d (Option.some.inj h1).symm
theorem Kp.reset (h : Kp H0 ((p, o) :: L) H) (hp : ∀ q ∈ L, q.1 ≠ p) : Kp H0 ((p, o') :: L) (upd H p o') := by
  have p0 := (h.nw (p, o) List.mem_cons_self).1
  refine ⟨fun b u e => by rw [upd_ne (ne_of_none e p0)]; exact h.sm b u e, fun r hr => ?_⟩
  rcases List.mem_cons.mp hr with rfl | hr
  · exact ⟨p0, upd_same⟩
  · exact ⟨(h.nw r (List.mem_cons_of_mem _ hr)).1, by rw [upd_ne (hp r hr)]; exact (h.nw r (List.mem_cons_of_mem _ hr)).2⟩
end
/-! ### merged -/
def sp_merged (K : PySem.W.Frag) : Sp := fun vs H Q _ => ∃ (l : Addr) (us : List TP), vs = [.ref l] ∧ SqL K H l (vP us) ∧ TPs K H us ∧ us.length ≤ 120 ∧
  ∀ (ds : List TP) (m : Addr) H', Nrm (prs ds) → (∀ x, co (prs ds) x = co (prs us) x) → (∀ q ∈ prs ds, q.1 ∈ (prs us).map (·.1)) → ds.length ≤ us.length → Kp H ((m, .lst (vP ds)) :: lP ds) H' → Q (.ref m) H'
end RV
/-! numbers, terms, what a sum makes of its terms -/
namespace RV
open PySem L2
theorem tyx_tup {K : PySem.W.Frag} {H : Hp} {a : Addr} {xs : List V} (h : SqT K H a xs) : TyX K H (.ref a) (.type "tuple") := by
  rcases h with (h | ⟨o, h⟩) | ⟨o, its, n, h, hc, _⟩
  · exact .base (.tup h)
  · exact .fTuple h
  · exact .kTuple h hc
def sp_is_number (K : PySem.W.Frag) : Sp := fun vs H Q _ => ∃ v, vs = [v] ∧ ((∃ z : Int, v = .int z ∧ Q (.bl true) H) ∨ (∃ b : Bool, v = .bl b ∧ Q (.bl false) H) ∨
  (∃ t, TyX K H v t ∧ PySem.W.kitOne K t (.type "int") = some false ∧ Q (.bl false) H))
/-- a pair of a name and an integer -/
def sp_is_term (K : PySem.W.Frag) : Sp := fun vs H Q _ => ∃ (t : Addr) (x : Str) (z : Int), vs = [.ref t] ∧ SqT K H t [.str x, .int z] ∧ IsNm x ∧ ∀ H', Same H H' → Q (.bl true) H'
/-- a tuple of such pairs -/
def sp_check_terms (K : PySem.W.Frag) : Sp := fun vs H Q _ => ∃ (t : Addr) (us : List TP), vs = [.ref t] ∧ SqT K H t (vP us) ∧ TPs K H us ∧ (∀ q ∈ prs us, IsNm q.1) ∧ us.length ≤ 120 ∧ ∀ H', Same H H' → Q .non H'
/-- at most 120, with at most 60 different names -/
def Few (qs : List (Str × Int)) : Prop := qs.length ≤ 120 ∧ ∃ pool : List Str, pool.length ≤ 60 ∧ ∀ q ∈ qs, q.1 ∈ pool
theorem Few.of {qs : List (Str × Int)} (h : qs.length ≤ 60) : Few qs := ⟨Nat.le_trans h (by decide), qs.map (·.1), by rw [List.length_map]; exact h, fun q hq => List.mem_map.mpr ⟨q, hq, rfl⟩⟩
theorem nodup_len : ∀ {xs ys : List Str}, xs.Nodup → (∀ x ∈ xs, x ∈ ys) → xs.length ≤ ys.length
  | [], _, _, _ => Nat.zero_le _
  | x :: xs, ys, h, s => by
    rw [List.nodup_cons] at h
    have hx := s x List.mem_cons_self
    have := nodup_len (ys := ys.erase x) h.2 fun y hy => (List.mem_erase_of_ne (fun e => h.1 (by rw [← e]; exact hy))).mpr (s y (List.mem_cons_of_mem _ hy))
    rw [List.length_erase_of_mem hx] at this
    have := List.length_pos_of_mem hx
    rw [List.length_cons]
    omega
def sp_collected (K : PySem.W.Frag) : Sp := fun vs H Q _ => ∃ (t : Addr) (us : List TP), vs = [.ref t] ∧ SqT K H t (vP us) ∧ TPs K H us ∧ Few (prs us) ∧
  ∀ (ds : List TP) (m : Addr) H', Nrm (prs ds) → (∀ x, co (prs ds) x = co (prs us) x) → (∀ q ∈ prs ds, q.1 ∈ (prs us).map (·.1)) → ds.length ≤ us.length → Kp H ((m, .tup (vP ds)) :: lP ds) H' → Q (.ref m) H'
end RV
/-! a dict that counts -/
namespace RV
open PySem L2
structure Dct (kvs : List (Key × V)) (qs : List (Str × Int)) (ks : List Str) : Prop where
  keys : kvs.map (·.1) = ks.map Sum.inr
  nd : ks.Nodup
  mem : ∀ x, x ∈ ks ↔ x ∈ qs.map (·.1)
  val : ∀ x, valV kvs (.inr x) = if x ∈ ks then some (.int (co qs x)) else none
  ln : ks.length ≤ qs.length
theorem Dct.nil : Dct [] [] [] := ⟨rfl, .nil, fun _ => Iff.rfl, fun _ => rfl, Nat.le_refl _⟩
theorem putK_keys {κ : Type} [DecidableEq κ] {kvs : List (κ × V)} {k : κ} {v : V} (h : (valV kvs k).isSome = true) : (putK kvs k v).map (·.1) = kvs.map (·.1) := by
  unfold putK
  rw [valV_any, if_pos h, List.map_map]
  refine List.map_congr_left fun kv _ => ?_
  show (if kv.1 = k then (kv.1, v) else kv).1 = kv.1
  split <;> rfl
theorem Dct.get {kvs : List (Key × V)} {qs : List (Str × Int)} {ks : List Str} (h : Dct kvs qs ks) (x : Str) : (valV kvs (.inr x)).getD (.int 0) = .int (co qs x) := by
  rw [h.val]
  split
  · rfl
  · rename_i hn
    rw [co_none fun q hq e => hn ((h.mem x).2 (List.mem_map.mpr ⟨q, hq, e⟩))]
    rfl
theorem Dct.put {kvs : List (Key × V)} {qs : List (Str × Int)} {ks : List Str} (h : Dct kvs qs ks) (x : Str) (z : Int) : ∃ ks', Dct (putK kvs (.inr x) (.int (co qs x + z))) (qs ++ [(x, z)]) ks' := by
  have cx : ∀ y, co (qs ++ [(x, z)]) y = co qs y + if x = y then z else 0 := fun y => by
    rw [co_app, co_cons, co_nil, Int.add_zero]
  by_cases hx : x ∈ ks
  · have hs : valV kvs (.inr x) = some (.int (co qs x)) := by rw [h.val, if_pos hx]
    refine ⟨ks, ⟨by rw [putK_keys (by rw [hs]; rfl)]; exact h.keys, h.nd, fun y => ?_, fun y => ?_, by rw [List.length_append]; exact Nat.le_succ_of_le h.ln⟩⟩
    · rw [h.mem, List.map_append, List.mem_append]
      refine ⟨.inl, fun z => z.elim id fun e => ?_⟩
      rw [List.mem_singleton.mp e]
      exact (h.mem x).1 hx
    · rw [valV_put, h.val, cx]
      by_cases e : y = x
      · subst e
        simp [hx]
      · have e' : ¬ x = y := fun z => e z.symm
        simp [e, e']
  · have hs : valV kvs (.inr x) = none := by rw [h.val, if_neg hx]
    refine ⟨ks ++ [x], ⟨?_, ?_, fun y => ?_, fun y => ?_, by rw [List.length_append, List.length_append]; exact Nat.succ_le_succ h.ln⟩⟩
    · rw [putK_new _ hs, List.map_append, List.map_append, h.keys]
      rfl
    · rw [List.nodup_append]
      refine ⟨h.nd, by simp, fun a ha b hb e => ?_⟩
      rw [List.mem_singleton.mp hb] at e
      exact hx (e ▸ ha)
    · rw [List.mem_append, h.mem, List.map_append, List.mem_append]
      rfl
    · rw [valV_put, h.val, cx]
      by_cases e : y = x
      · subst e
        simp
      · have e' : ¬ x = y := fun z => e z.symm
        simp [e, e']
end RV
/-! what an own class says of len, x in o, o[x], truth -/
namespace RV
open PySem L2 PyProof.Rows
/-- the class C has an own method m that promises sp -/
def OwnM (P : Program) (w : World) (K : PySem.W.Frag) (mg : Str → Option Value) (base : Heap) (C : Addr) (m : String) (k : Nat) (sp : Sp) : Prop :=
  ∃ f fd ps, PySem.W.findIn K (.ref C) m = some (some (.ref f)) ∧ PySem.W.isFn K (.ref f) = true ∧ PySem.W.fnIn K f = true ∧ Binds K fd ps [] ∧ FnOk P w K mg base CX0 k f fd ps sp
section
variable {X : Cx} {pins : List (Addr × Obj)} {σ : L2.St} {H : Hp} {s : Shared} {C : Addr} {k : Nat} {sp : Sp}
theorem call_owns {A : Around} {f : Addr} {fd : FuncData} {ps : List Str} {Q : VK} {xs : List V} {us : List Value} (F : FnOk X.prog X.w X.K X.mg X.base CX0 k f fd ps sp) (hb : Binds X.K fd ps []) (hr : Room k A) (hf : A.frames = X.A.frames)
    (I : Inv X pins σ H s) (rx : Vals xs us) (hsp : sp xs H Q E0) : wpAny (model X.prog X.w) A (call (.ref f) us) (EP X pins σ Q) X.xe s := by
  have e0 : Env0 X.prog X.w X.K X.mg X.base A X.stack s H := by
    have e := I.env0
    exact ⟨by rw [hf]; exact e.frames, e.mod, e.bs, e.bsz, e.funs, e.frf, e.hok, e.bare⟩
  have hl := F.len _ _ _ _ hsp
  refine wpAny_call (codeAny_mono (F.run A X.stack s H ⟨us, []⟩ us xs _ E0 hr e0 (by
    have := hb s us I.kIn (by rw [List.append_nil, ← rx.length]; exact hl)
    simpa using this) rx hsp) fun r s' hq => ?_)
  cases r with
  | error e => exact (hq : False).elim
  | ok fl =>
    cases fl with
    | ret w => exact I.after hq
    | next => exact False.elim hq
    | brk => exact False.elim hq
    | cont => exact False.elim hq
def rLenO (C : Addr) (sp : Sp) : List V → Hp → VK → Prop := fun xs H Q => ∃ a dx fs, xs = [.ref a] ∧ H a = some (.ins C dx fs) ∧ sp [.ref a] H (fun v H' => ∃ n : Nat, v = .int n ∧ n < 100000 ∧ Q (.int n) H') E0
def rInO (neg : Bool) (C : Addr) (sp : Sp) : R2 := fun x y H Q => ∃ a dx fs, y = .ref a ∧ H a = some (.ins C dx fs) ∧ sp [.ref a, x] H (fun v H' => ∃ b, v = .bl b ∧ Q (.bl (if neg then !b else b)) H') E0
theorem op_notInO (h : OwnM X.prog X.w X.K X.mg X.base C "__contains__" k sp) (hr : Room k X.A) : OpR X (compareOp .NotIn) (rInO true C sp) := by
  intro pins s σ H x y v u Q I rx ry hq
  obtain ⟨a, dx, fs, rfl, ha, hsp⟩ := hq
  obtain ⟨f, fd, ps, hs, hf, _, hb, F⟩ := h
  have ry' := ry
  cases ry
  obtain ⟨mA, J, _⟩ := ins_get I.hok ha
  obtain ⟨od, J, _⟩ := J.look
  obtain ⟨m, hF⟩ := I.fr
  refine PySem.W.notIn_K hF I.ok.mod.kin J hs hf (wpAny_mono (call_owns F hb hr rfl I (.cons ry' (.cons rx .nil)) hsp) (fun r s' z => ?_) fun _ _ x => x)
  obtain ⟨v, H', I', rv, b, rfl, q⟩ := z
  cases rv
  exact wpAny_truthy_bool ⟨.bl (!b), H', I', rfl, q⟩
/-- truth by the class's own __bool__ -/
def rTrM (C : Addr) (sp : Sp) : V → Hp → (Bool → Hp → Prop) → Prop := fun x H Q => ∃ a dx fs, x = .ref a ∧ H a = some (.ins C dx fs) ∧ sp [.ref a] H (fun v H' => ∃ b, v = .bl b ∧ Q b H') E0
def rIxO (C : Addr) (sp : Sp) : R2 := fun x y H Q => ∃ a dx fs, x = .ref a ∧ H a = some (.ins C dx fs) ∧ sp [.ref a, y] H Q E0
end
end RV
/-! sums as they stand in the heap, and what their methods promise -/
namespace RV
open PySem L2
/-- the things of a sum at a whose terms are the tuple at t -/
def lS (C a dx t : Addr) (us : List TP) : List (Addr × HO) := (a, .ins C dx [("_terms", .ref t)]) :: (t, .tup (vP us)) :: lP us
def SumR (C : Addr) (H : Hp) (a : Addr) (qs : List (Str × Int)) : Prop := ∃ dx t us, prs us = qs ∧ ∀ p ∈ lS C a dx t us, H p.1 = some p.2
theorem SumR.ext {C a : Addr} {H H' : Hp} {qs : List (Str × Int)} (h : SumR C H a qs) (g : Same H H') : SumR C H' a qs := by
  obtain ⟨dx, t, us, e, k⟩ := h
  exact ⟨dx, t, us, e, fun p hp => g _ _ (k p hp)⟩
structure SClass (K : PySem.W.Frag) (mg : Str → Option Value) (C : Addr) : Prop where
  x : ClsX K C
  k : mg "Sum" = some (.ref C)
  n1 : NoAttr K C "_terms"
  me : PySem.W.kitOne K (.ref C) (.ref C) = some true
/-- terms that may be given -/
structure Trm (K : PySem.W.Frag) (H : Hp) (t : Addr) (us : List TP) : Prop where
  tp : SqT K H t (vP us)
  ps : TPs K H us
  nm : ∀ q ∈ prs us, IsNm q.1
  ln : us.length ≤ 60
structure TrmF (K : PySem.W.Frag) (H : Hp) (t : Addr) (us : List TP) : Prop where
  tp : SqT K H t (vP us)
  ps : TPs K H us
  nm : ∀ q ∈ prs us, IsNm q.1
  ln : Few (prs us)
theorem Trm.few {K : PySem.W.Frag} {H : Hp} {t : Addr} {us : List TP} (h : Trm K H t us) : TrmF K H t us := ⟨h.tp, h.ps, h.nm, Few.of (by rw [prs_len]; exact h.ln)⟩
/-- what a sum of these terms is -/
structure Mad (qs rs : List (Str × Int)) : Prop where
  nr : Nrm rs
  co : ∀ x, co rs x = co qs x
  nm : ∀ q ∈ rs, q.1 ∈ qs.map (·.1)
  ln : rs.length ≤ qs.length
def sp_Sum (K : PySem.W.Frag) (C : Addr) : Sp := fun vs H Q _ => ∃ (x dx t : Addr) (us : List TP), vs = [.ref x, .ref t] ∧ H x = some (.ins C dx []) ∧ TrmF K H t us ∧
  ∀ (ds : List TP) (m dx' : Addr) H', Mad (prs us) (prs ds) → (∀ b o, b ≠ x → H b = some o → H' b = some o) → (∀ p ∈ (m, HO.tup (vP ds)) :: lP ds, H p.1 = none) → (∀ p ∈ lS C x dx' m ds, H' p.1 = some p.2) → Q .non H'
def sp_len (C : Addr) : Sp := fun vs H Q _ => ∃ (a : Addr) (qs : List (Str × Int)), vs = [.ref a] ∧ SumR C H a qs ∧ Q (.int (qs.length : Nat)) H
def sp_yes : Sp := fun vs H Q _ => ∃ (a : Addr), vs = [.ref a] ∧ Q (.bl true) H
def sp_terms (C : Addr) : Sp := fun vs H Q _ => ∃ (a dx t : Addr) (us : List TP), vs = [.ref a] ∧ (∀ p ∈ lS C a dx t us, H p.1 = some p.2) ∧ Q (.ref t) H
def sp_get (C : Addr) : Sp := fun vs H Q _ => ∃ (a : Addr) (x : Str) (qs : List (Str × Int)), vs = [.ref a, .str x] ∧ IsNm x ∧ SumR C H a qs ∧ Nrm qs ∧ ∀ H', Same H H' → Q (.int (co qs x)) H'
def sp_has (C : Addr) : Sp := fun vs H Q _ => ∃ (a : Addr) (x : Str) (qs : List (Str × Int)), vs = [.ref a, .str x] ∧ IsNm x ∧ SumR C H a qs ∧ Nrm qs ∧ ∀ H', Same H H' → Q (.bl (!decide (co qs x = 0))) H'
end RV
/-! pairs as data -/
namespace RV
open PySem L2
def dq (q : Str × Int) : PyData := .tuple [.str q.1, .int q.2]
def dQ (qs : List (Str × Int)) : PyData := .tuple (qs.map dq)
def sp_eqS (K : PySem.W.Frag) (C : Addr) : Sp := fun vs H Q _ => ∃ (a : Addr) (y : V) (qs : List (Str × Int)), vs = [.ref a, y] ∧ SumR C H a qs ∧ (∀ q ∈ qs, IsNm q.1) ∧
  ((∃ b rs, y = .ref b ∧ SumR C H b rs ∧ (∀ q ∈ rs, IsNm q.1) ∧ Q (.bl (decide (qs = rs))) H) ∨ (∃ t, TyX K H y t ∧ PySem.W.kitOne K t (.ref C) = some false ∧ Q (.bl false) H))
end RV
/-! the same pairs in another order, some in two parts -/
namespace RV
open PySem L2
structure Oth (us vs : List TP) : Prop where
  co : ∀ x, co (prs vs) x = co (prs us) x
  nm : ∀ q ∈ prs vs, q.1 ∈ (prs us).map (·.1)
  ln : vs.length ≤ 2 * us.length
def sp_parted : Sp := fun vs H Q _ => ∃ (a l : Addr) (n : Nat) (us : List TP), vs = [.ref a, .ref l] ∧ WellAt H a n ∧ n < 600000 ∧ us.length ≤ 20 ∧ (∀ p ∈ (l, HO.lst (vP us)) :: lP us, p.1 ≠ a ∧ H p.1 = some p.2) ∧
  ∀ (vs : List TP) (m : Addr) H', Oth us vs → H m = none → Has H a (n + 1000) ((m, .lst (vP vs)) :: lP vs) H' → Q (.ref m) H'
end RV
/-! texts of pairs -/
namespace RV
open PySem L2 PyProof.Rows
theorem log_small {z : Int} (h : z.natAbs ≤ 10 ^ 45) : z.natAbs.log2 < 1920 := by
  have q := PySem.Flt.log2_lt_of (n := z.natAbs) (k := 200) (by decide) (by omega)
  omega
/-- a sum shows these pairs, a list of them -/
def sp_shows (K : PySem.W.Frag) (C : Addr) : Sp := fun vs H Q _ => ∃ (a l : Addr) (ds : List TP), vs = [.ref a, .ref l] ∧ SumR C H a (prs ds) ∧ SqL K H l (vP ds) ∧ TPs K H ds ∧ Nrm (prs ds) ∧ (∀ q ∈ prs ds, IsNm q.1) ∧ tot (prs ds) ≤ 10 ^ 45 ∧ ds.length ≤ 60 ∧
  ∀ H', Same H H' → Q (.bl true) H'
/-- names that are much like a name -/
def nearL (x : Str) : List Str := [cutS x none (some (-1)), cutS (x ++ "a") none (some 8), cutS (x ++ "0") none (some 8), ("z" : Str) ++ cutS x (some 1) none]
end RV
/-! written numbers and terms -/
namespace RV
open PySem L2
structure Cst2 (mg : Str → Option Value) : Prop where
  worth : ∃ u, mg "_PIECE_WORTH" = some u ∧ RelV (.int (10 ^ 64)) u
  piece : ∃ u, mg "_PIECE" = some u ∧ RelV (.int 64) u
def num (z : Int) : Str := Str.ofString (toString z)
/-- a written number of at most 64 digits -/
def sp_written : Sp := fun vs H Q _ => ∃ z : Int, vs = [.int z] ∧ 0 ≤ z ∧ z < 10 ^ 64 ∧ ∀ H', Same H H' → Q (.str (num z)) H'
def ab (z : Int) : Int := if z < 0 then -z else z
/-- a term without its sign -/
def wo (x : Str) (z : Int) : Str := if ab z = 1 then x else ((Str.empty ++ num (ab z)) ++ ("*" : Str)) ++ x
/-- a term that is not the first -/
def fu (q : Str × Int) : Str := (((Str.empty ++ (" " : Str)) ++ (if q.2 < 0 then ("-" : Str) else "+")) ++ (" " : Str)) ++ wo q.1 q.2
def fi (q : Str × Int) : Str := (if q.2 < 0 then ("-" : Str) else "") ++ wo q.1 q.2
def pieces : List (Str × Int) → List Str
  | [] => ["0"]
  | q :: qs => fi q :: qs.map fu
/-- the text of a sum -/
def txt (qs : List (Str × Int)) : Str := Txt.join "" (pieces qs)
theorem sl_app (a b : Str) : (a ++ b).length = a.length + b.length := by rw [cd_len, cd_app, List.length_append, ← cd_len, ← cd_len]
def sp_without : Sp := fun vs H Q _ => ∃ (x : Str) (z : Int), vs = [.str x, .int z] ∧ IsNm x ∧ z.natAbs < 10 ^ 64 ∧ ∀ H', Same H H' → Q (.str (wo x z)) H'
def sp_further : Sp := fun vs H Q _ => ∃ (q : Str × Int), vs = [.str q.1, .int q.2] ∧ IsNm q.1 ∧ q.2.natAbs < 10 ^ 64 ∧ ∀ H', Same H H' → Q (.str (fu q)) H'
def sp_wterms (K : PySem.W.Frag) : Sp := fun vs H Q _ => ∃ (t : Addr) (us : List TP), vs = [.ref t] ∧ SqT K H t (vP us) ∧ TPs K H us ∧ (∀ q ∈ prs us, IsNm q.1 ∧ q.2.natAbs < 10 ^ 64) ∧ us.length ≤ 100 ∧
  ∀ m H', Kp H [(m, .lst ((pieces (prs us)).map V.str))] H' → Q (.ref m) H'
def sp_text (C : Addr) : Sp := fun vs H Q _ => ∃ (a : Addr) (qs : List (Str × Int)), vs = [.ref a] ∧ SumR C H a qs ∧ (∀ q ∈ qs, IsNm q.1 ∧ q.2.natAbs < 10 ^ 64) ∧ qs.length ≤ 100 ∧ ∀ H', Same H H' → Q (.str (txt qs)) H'
/-- [f(x, z) for x, z in t], t a tuple of pairs; f may make things -/
theorem lc_pairsT {K : PySem.W.Frag} {a : Addr} {us : List TP} {i j : Nat} {te : TE} {vs : List Nat} {σ : L2.St} {H1 : Hp} {D : Addr} {Qd : Hp → Prop} (f : Str × Int → V)
    (hl : SqT K H1 a (vP us)) (ht : TPs K H1 us) (nD : H1 D = none) (len : us.length ≤ 1000) (hw : ∀ x y, wipe (((wipe σ vs).set i x).set j y) vs = wipe σ vs)
    (h : ∀ q ∈ prs us, ∀ H2, Same H1 H2 → ∀ R : VK, (∀ H3, Same H2 H3 → R (f q) H3) → te (((wipe σ vs).set i (some (.str q.1))).set j (some (.int q.2))) H2 R)
    (k : ∀ H', Same H1 H' → H' D = some (.lst ((prs us).map f)) → Qd H') :
    ∃ W : Nat → Nat → Hp → Prop, (∃ m, W 0 m (upd H1 D (.lst []))) ∧ ∀ i' m H, W i' m H →
      ((Itt K a).stop i' H ∧ Qd H) ∨ ((Itt K a).go i' H ∧ ∃ Nx : Hp → Prop, (∀ H', Nx H' → ∃ m', m' < m ∧ W (i' + 1) m' H') ∧ ∀ x H', (Itt K a).yld i' H x H' → gPr K i j x (wipe σ vs) H' fun σ2 H2 => wipe σ2 vs = wipe σ vs ∧ tYes σ2 H2 fun b H3 =>
        if b = true then te σ2 H3 fun y H4 => ∃ acc, H4 D = some (.lst acc) ∧ acc.length < sizeLine ∧ Nx (upd H4 D (.lst (acc ++ [y]))) else Nx H3) := by
  refine lc_tup (xs := vP us) (fun i' H => Same H1 H ∧ H D = some (.lst (((prs us).take i').map f))) ⟨fun b o e => by rw [upd_ne (ne_of_none e nD)]; exact e, upd_same⟩ (fun _ H _ z => hl.ext z.1) ?_ ?_
  · rintro i' x H hx ⟨sm, hD⟩
    rw [vP, List.getElem?_map] at hx
    cases hu : us[i']? with
    | none => rw [hu] at hx; cases hx
    | some u =>
      rw [hu] at hx
      obtain rfl : V.ref u.1 = x := Option.some.inj hx
      have hm : u ∈ us := List.mem_of_getElem? hu
      have et : (prs us).take (i' + 1) = (prs us).take i' ++ [u.2] := by
        rw [List.take_add_one, prs, List.getElem?_map, hu]
        rfl
      refine gPr_at ((ht u hm).ext sm) ⟨hw _ _, ?_⟩
      have e0 : ∀ (σ : L2.St) (H : Hp) (R : Bool → Hp → Prop), R true H → tYes σ H R := fun _ _ _ r => r
      refine e0 _ _ _ ?_
      simp only [↓reduceIte]
      refine h u.2 (List.mem_map.mpr ⟨u, hm, rfl⟩) H sm _ fun H3 s3 => ⟨_, s3 _ _ hD, ?_, fun b o e => ?_, ?_⟩
      · have l3 := List.length_take_le' i' (prs us)
        rw [prs_len] at l3
        rw [List.length_map]
        exact Nat.lt_of_le_of_lt l3 (Nat.lt_of_le_of_lt len (by decide))
      · rw [upd_ne (ne_of_none e nD)]
        exact s3 b o (sm b o e)
      · rw [upd_same, et, List.map_append]
        rfl
  · rintro H ⟨sm, hD⟩
    rw [vP_len, ← prs_len, List.take_length] at hD
    exact k H sm hD
end RV
/-! str(o) of an own class -/
namespace RV
open PySem L2 PyProof.Rows
section
variable {X : Cx} {C : Addr} {k : Nat} {sp : Sp}
def rStrO (C : Addr) (sp : Sp) : List V → Hp → VK → Prop := fun xs H Q => ∃ a dx fs, xs = [.ref a] ∧ H a = some (.ins C dx fs) ∧ sp [.ref a] H (fun v H' => ∃ y : Str, v = .str y ∧ Q (.str y) H') E0
theorem call_strO (h : OwnM X.prog X.w X.K X.mg X.base C "__str__" k sp) (hr : Room (k + 2) X.A) : CallR X (.type "str") (rStrO C sp) := by
  intro pins s σ H xs us Q I rx hq
  obtain ⟨a, dx, fs, rfl, ha, hsp⟩ := hq
  obtain ⟨f, fd, ps, hs, hf, _, hb, F⟩ := h
  obtain rfl : us = [.ref a] := Vals.ref1 rx
  obtain ⟨mA, J, _⟩ := ins_get I.hok ha
  obtain ⟨od, J, _⟩ := J.look
  refine PySem.W.kso_call (hr.in1.in1.units0) I.kIn J hs hf (wpAny_mono (call_owns (A := X.A.in1.in1) F hb hr.in1.in1 rfl I rx hsp) (fun r s' z => ?_) fun _ _ x => x)
  obtain ⟨v, H', I', rv, y, rfl, q⟩ := z
  obtain ⟨t, rfl⟩ := rv
  exact ⟨.str y, H', I', ⟨_, rfl⟩, q⟩
end
end RV
/-! sums made -/
namespace RV
open PySem L2
theorem sum_make {K : PySem.W.Frag} {C x dx t : Addr} {us : List TP} {H1 : Hp} {Q : VK} {E : XK} (ht : TrmF K H1 t us) (nx : H1 x = none) (nd : H1 dx = none) (_ne : dx ≠ x)
    (k : ∀ (ds : List TP) (m dx' : Addr) H2, Mad (prs us) (prs ds) → Kp H1 (lS C x dx' m ds) H2 → Q (.ref x) H2) :
    Irr (sp_Sum K C) [.ref x, .ref t] (upd (upd H1 dx (.own x)) x (.ins C dx [])) (fun v H2 => v = .non ∧ Q (.ref x) H2) E := by
  have sm : Same H1 (upd (upd H1 dx (.own x)) x (.ins C dx [])) := fun b o e => by
    rw [upd_ne (ne_of_none e nx), upd_ne (ne_of_none e nd)]
    exact e
  refine irr ⟨x, dx, t, us, rfl, upd_same, ⟨ht.tp.ext sm, ht.ps.ext sm, ht.nm, ht.ln⟩, fun ds m dx' H2 md keep new here => ⟨rfl, k ds m dx' H2 md ⟨fun b o e => keep b o (ne_of_none e nx) (sm b o e), fun p hp => ⟨?_, here p hp⟩⟩⟩⟩
  rcases List.mem_cons.mp hp with rfl | hp
  · exact nx
  · have q := new p hp
    have h1 : p.1 ≠ x := fun e => by rw [e, upd_same] at q; cases q
    rw [upd_ne h1] at q
    have h2 : p.1 ≠ dx := fun e => by rw [e, upd_same] at q; cases q
    rwa [upd_ne h2] at q
/-- of two sums of terms with the same coefficients the pairs are the same -/
theorem Mad.same {qs qs' rs rs' : List (Str × Int)} (h : Mad qs rs) (h' : Mad qs' rs') (e : ∀ x, RV.co qs x = RV.co qs' x) : rs = rs' := h.nr.uniq h'.nr fun x => by rw [h.co, h'.co, e]
end RV
/-! an int == an own object: the class's own == answers -/
namespace PySem
open AutoSeq1 (wpAny_loadPart')
set_option maxHeartbeats 4000000 in
theorem rv_int_eq_inst (b : Int) (u : Tok) (l C dx : Addr) :
    Meets (Builtin.«int.__eq__» ⟨[.int b u, .ref l], []⟩) (fun _ R s => s.heap.get? l = some (PySem.W.instObj C dx) ∧ R (.ok (.ret .notImplemented)) s) :=
  .of_wp fun prog w A R s h => by
    obtain ⟨hp, g, d, tk, os⟩ := s
    obtain ⟨hl, h⟩ := h
    unfold PySem.W.instObj at hl
    wp_walk using wpAny_loadPart' hl, wpAny_load hl
    exact ⟨_, rfl, h⟩
end PySem
namespace RV
open PySem L2 PyProof.Rows
section
variable {prog : Program} {w : World} {A : Around} {E : Value → Shared → Prop} {s : Shared} {K : PySem.W.Frag} {x C dx L f : Addr} {h₀ : Heap} {m : Str → Option Value} {od : Option Obj} {i : Int} {t : Tok}
open PySem.W in
end
section
variable {X : Cx} {C : Addr} {k : Nat} {sp : Sp}
/-- i == o -/
def rEqI (C : Addr) (sp : Sp) : R2 := fun x y H Q => ∃ (i : Int) (a dx : Addr) (fs : List (Str × V)), x = .int i ∧ y = .ref a ∧ H a = some (.ins C dx fs) ∧ sp [.ref a, .int i] H (fun v H' => ∃ b, v = .bl b ∧ Q (.bl b) H') E0
end
end RV
namespace RV
open PySem L2
def sp_rightS : Sp := fun vs H Q _ => ∃ (a : Addr) (n : Nat), vs = [.ref a] ∧ WellAt H a n ∧ n < 500000 ∧ ∀ H', Grow a H H' → WellAt H' a (n + 3000) → Q (.bl true) H'
def gS (vs zs : List V) : List V := match vs, zs with
  | [x], [t] => [x, t]
  | _, _ => []
/-- what sums and other values are to each other -/
structure SKinds (K : PySem.W.Frag) (C : Addr) : Prop where
  sI : PySem.W.subIn K (.ref C) (.type "int") = some false
  nS : PySem.W.notFirst K C (.ref C) = true
  nT : PySem.W.notFirst K C (.type "tuple") = true
  nX : PySem.W.notFirst K C (.type "str") = true
  nN : PySem.W.notFirst K C (.type "NoneType") = true
  kT : PySem.W.kitOne K (.type "tuple") (.ref C) = some false
  kX : PySem.W.kitOne K (.type "str") (.ref C) = some false
  kN : PySem.W.kitOne K (.type "NoneType") (.ref C) = some false
  kI : PySem.W.kitOne K (.type "int") (.ref C) = some false
section
variable {K : PySem.W.Frag} {C a : Addr} {H : Hp} {Q : VK} {neg : Bool} {qs rs : List (Str × Int)} {y : V} {t : Value}
end
end RV
/-! a ledger in parts; steps of the sums' own methods over it -/
namespace RV
open PySem L2
abbrev lT (l : Addr) (us : List TP) : List (Addr × HO) := (l, .lst (vP us)) :: lP us
/-- pairs that a sum shows -/
structure Due (qs : List (Str × Int)) : Prop where
  nr : Nrm qs
  nm : ∀ q ∈ qs, IsNm q.1
  tt : tot qs ≤ 10 ^ 45
  ln : qs.length ≤ 60
section
variable {K : PySem.W.Frag} {C a l x dx m t : Addr} {n n' : Nat} {L L' L2 : List (Addr × HO)} {H0 H H' : Hp} {us ds : List TP} {Q : VK} {E : XK}
theorem Sum_kp {R : Hp → Prop} (ht : Trm K H t us) (nx : H x = none) (nd : H dx = none) (ne : dx ≠ x)
    (k : ∀ (ds : List TP) (m dx' : Addr) H2, Mad (prs us) (prs ds) → Kp H (lS C x dx' m ds) H2 → R H2) :
    Irr (sp_Sum K C) [.ref x, .ref t] (upd (upd H dx (.own x)) x (.ins C dx [])) (fun v H2 => v = .non ∧ R H2) E := sum_make (Q := fun _ => R) ht.few nx nd ne k
end
theorem OwnM.irr {P : Program} {w : World} {K : PySem.W.Frag} {mg : Str → Option Value} {base : Heap} {C : Addr} {m : String} {k : Nat} {sp : Sp} (h : OwnM P w K mg base C m k sp) : OwnM P w K mg base C m k (Irr sp) := by
  obtain ⟨f, fd, ps, a, b, c, d, F⟩ := h
  exact ⟨f, fd, ps, a, b, c, d, F.imp fun _ _ _ _ z => irr_of z⟩
theorem Prp.irr {P : Program} {w : World} {K : PySem.W.Frag} {mg : Str → Option Value} {base : Heap} {C : Addr} {m : Str} {k : Nat} {sp : Sp} (h : Prp P w K mg base C m k sp) : Prp P w K mg base C m k (Irr sp) := by
  obtain ⟨c, p, g, fd, ps, a, b, F⟩ := h
  exact ⟨c, p, g, fd, ps, a, b, F.imp fun _ _ _ _ z => irr_of z⟩
theorem kit_self (K : PySem.W.Frag) (C : Addr) : PySem.W.kitOne K (.ref C) (.ref C) = some true := by
  unfold PySem.W.kitOne
  rw [if_pos (by simp)]
end RV
/-! rpartition; xs[i::2]; a class in a slot, called; class methods -/
namespace RV
open PySem L2 PyProof.Rows Builtin TL
section
variable {X : Cx} {pins : List (Addr × Obj)} {σ : L2.St} {H : Hp} {s : Shared}
end
/-! ### every other item of a list -/
def step2 {α : Type} (i : Nat) (xs : List α) : List α := (sliceRange (min i xs.length : Nat) xs.length 2).filterMap (xs[·]?)
def tSl2 (K : PySem.W.Frag) (i : Nat) (te : TE) : TE := fun σ H Q => te σ H fun x H1 => ∃ a xs, x = .ref a ∧ SqL K H1 a xs ∧ ∀ p, H1 p = none → Q (.ref p) (upd H1 p (.lst (step2 i xs)))
/-! ### a class in a slot -/
theorem pe_mkL {X : Cx} {C : Addr} {k i : Nat} {sp : Sp} {dvs : List V} {x y : Str} {p pos : Pos} {e : Expr} {es : List Expr} {t : TA} (h : Mkr X.prog X.w X.K X.mg X.base y C k sp dvs) (hr : Room (k + 1) X.A) (hN : X.N[i]? = some x) (hv : Vis X.env.scope x) (ha : PA X (e :: es) t)
    (hdb : (x == ("__debug__" : Str)) = false := by decide) (hcd : (x == ("__classdict__" : Str)) = false := by decide)
    (he : starEach (e :: es) X.env = (false, eval e X.env) :: starEach es X.env := by rfl) (hpl : (backTo pos (starEach es X.env)).any (·.1) = false := by rfl) : PE X (.Call (.Name x p) (e :: es) [] pos) (fun σ H Q => σ[i]? = some (some (.ref C)) ∧ tMake C sp dvs E0 t σ H Q) := by
  obtain ⟨_, f, fd, ps, ds, M, hb, hd, F⟩ := h
  refine ⟨fun pins s σ H Q I h => ?_⟩
  obtain ⟨hs, ht⟩ := h
  refine wpAny_Call_Name_kw (thn ((pe_var (pos := p) hN hv hdb hcd).run pins s σ H (fun v H1 => v = .ref C ∧ H1 = H) I ⟨.ref C, hs, rfl, rfl⟩) fun u s1 ⟨v, H1, I1, r1, q1⟩ => ?_)
  obtain ⟨rfl, rfl⟩ := q1
  cases r1
  refine PySem.W.callWith_K (h₀ := X.base) I.ok.mod.kin M.kp (thn (ha.run pos pins s1 σ _ _ I1 ht) fun us s2 ⟨vs, H2, I2, r, q⟩ => ⟨I2.kIn, ?_⟩) he hpl
  exact run_make M F hr hb hd pass0 I2 r q
end RV
/-! class methods; repr of a text; texts of sums, cut again -/
namespace RV
open PySem L2 PyProof.Rows ClX
/-- the class C has a class method m that promises sp -/
def ClsM (P : Program) (w : World) (K : PySem.W.Frag) (mg : Str → Option Value) (base : Heap) (C : Addr) (m : Str) (k : Nat) (ps : List Str) (sp : Sp) : Prop :=
  ∃ mc p g fd, CRead K C mc ∧ CMet K C mc m p g ∧ Binds K fd ps [] ∧ FnOk P w K mg base CX0 k g fd ps sp
/-- .. called by keywords -/
def ClsMK (P : Program) (w : World) (K : PySem.W.Frag) (mg : Str → Option Value) (base : Heap) (C : Addr) (m : Str) (k : Nat) (ks : List Str) (sp : Sp) (gV : List V → List V → List V) : Prop :=
  ∃ mc p g fd ps gg, CRead K C mc ∧ CMet K C mc m p g ∧ KBn K fd ps 1 ks gg gV ∧ FnOk P w K mg base CX0 k g fd ps sp
theorem ClsM.irr {P : Program} {w : World} {K : PySem.W.Frag} {mg : Str → Option Value} {base : Heap} {C : Addr} {m : Str} {k : Nat} {ps : List Str} {sp : Sp} (h : ClsM P w K mg base C m k ps sp) : ClsM P w K mg base C m k ps (Irr sp) := by
  obtain ⟨mc, p, g, fd, a, b, c, F⟩ := h
  exact ⟨mc, p, g, fd, a, b, c, F.imp fun _ _ _ _ z => irr_of z⟩
section
variable {X : Cx} {C : Addr} {k : Nat} {m : Str} {ps ks : List Str} {sp : Sp} {gV : List V → List V → List V} {o e : Expr} {es : List Expr} {kws : List Keyword} {t tk : TA} {ta : TE} {pos apos : Pos} {pl : Sem Bool}
theorem pe_cm (h : ClsM X.prog X.w X.K X.mg X.base C m k ps sp) (hr : Room k X.A) (he : PE X o ta) (ha : PA X (e :: es) t)
    (hst : starEach (e :: es) X.env = (false, eval e X.env) :: starEach es X.env := by rfl) (hpl : (backTo pos (starEach es X.env)).any (·.1) = false := by rfl)
    (ht : eval (.Call (.Attribute o m apos) (e :: es) [] pos) X.env = (do
      let ov ← eval o X.env
      standAt apos.atName
      let (f, first) ← holding [ov] (getMethod ov m pl)
      callWith pos f first (backTo pos (starEach (e :: es) X.env)) (backToKw pos (keywordEach [] X.env))) := by rfl) :
    PE X (.Call (.Attribute o m apos) (e :: es) [] pos) (tCMeth C sp E0 ta t) := by
  obtain ⟨mc, p, g, fd, r, c, hb, F⟩ := h
  exact pe_cmeth he r c ((FnOk.raw F hb .nil).imp fun vs H Q E z => by rw [List.append_nil]; exact z) hr pass0 ha hst hpl ht
def tCMethK (C : Addr) (n : Nat) (sp : Sp) (gV : List V → List V → List V) (ta : TE) (tk : TA) : TE := fun σ H Q => ta σ H fun x H1 => x = .ref C ∧ tk σ H1 fun zs H2 => zs.length = n ∧ sp (gV [.ref C] zs) H2 Q E0
@[irreducible] def rReprS : List V → Hp → VK → Prop := fun xs H Q => ∃ x : Str, xs = [.str x] ∧ (reprText x).length ≤ sizeLine ∧ Q (.str (reprText x)) H
end
end RV
/-! the text of a sum, cut into its words -/
namespace RV
open PySem L2 PyProof.Rows TL
def sgn (q : Str × Int) : Str := if q.2 < 0 then "-" else "+"
def parts (qs : List (Str × Int)) : List Str := qs.flatMap fun q => [sgn q, wo q.1 q.2]
def partsZ (qs : List (Str × Int)) : List Str := if qs = [] then ["+", "0"] else parts qs
def apart (z : Str) : Str := if Txt.startswith z "-" then ("- " : Str) ++ cutS z (some 1) none else ("+ " : Str) ++ z
theorem cd_em : cd Str.empty = [] := by decide +kernel
theorem cd_sp : cd " " = [32] := by decide +kernel
theorem cd_no : cd "" = [] := by decide +kernel
theorem joinL_nil : ∀ l : List (List Nat), joinL [] l = l.flatten
  | [] => rfl
  | [p] => by simp [joinL]
  | p :: q :: r => by
    show p ++ ([] ++ joinL [] (q :: r)) = _
    rw [joinL_nil (q :: r), List.nil_append]
    rfl
/-! the signs of words -/
def okC (c : Nat) : Bool := tailC c || c == 42
/-! a word, cut at its star -/
/-! every other of the words -/
end RV
/-! what reading a text promises -/
namespace RV
open PySem L2 PyProof.Rows TL
def sp_digits : Sp := fun vs H Q _ => ∃ z : Int, vs = [.str (num z)] ∧ 0 ≤ z ∧ Q (.bl true) H
def sp_readnum : Sp := fun vs H Q _ => ∃ z : Int, vs = [.str (num z)] ∧ 0 ≤ z ∧ z < 10 ^ 60 ∧ Q (.int z) H
def sp_apart : Sp := fun vs H Q _ => ∃ z : Str, vs = [.str z] ∧ z.length ≤ 1000000 ∧ Q (.str (apart z)) H
/-- a word of a sum's text -/
def sp_rterm (_K : PySem.W.Frag) : Sp := fun vs H Q _ => (∃ q : Str × Int, vs = [.str (sgn q), .str (wo q.1 q.2)] ∧ IsNm q.1 ∧ q.2.natAbs < 10 ^ 60 ∧ ∀ t H', Kp H [(t, oP q)] H' → Q (.ref t) H') ∨
  (vs = [.str "+", .str "0"] ∧ ∀ H', Same H H' → Q .non H')
def sp_termsin (_K : PySem.W.Frag) : Sp := fun vs H Q _ => ∃ qs : List (Str × Int), vs = [.str (txt qs)] ∧ Due qs ∧ ∀ (us : List TP) (m : Addr) H', prs us = qs → Kp H ((m, .tup (vP us)) :: lP us) H' → Q (.ref m) H'
def sp_read (C : Addr) : Sp := fun vs H Q _ => ∃ qs : List (Str × Int), vs = [.ref C, .str (txt qs)] ∧ Due qs ∧ ∀ (x dx m : Addr) (us : List TP) H', prs us = qs → Kp H (lS C x dx m us) H' → Q (.ref x) H'
theorem Kp.put {H0 H : Hp} {L : List (Addr × HO)} {D : Addr} {o : HO} (h : Kp H0 L H) (h0 : H0 D = none) (hp : ∀ p ∈ L, p.1 ≠ D) : Kp H0 L (upd H D o) :=
  ⟨fun b u e => by rw [upd_ne (ne_of_none e h0)]; exact h.sm b u e, fun p hq => ⟨(h.nw p hq).1, by rw [upd_ne (hp p hq)]; exact (h.nw p hq).2⟩⟩
theorem Kp.off {H0 H : Hp} {us : List TP} {D : Addr} {xs : List V} (h : Kp H0 (lP us) H) (e : H D = some (.lst xs)) : ∀ p ∈ lP us, p.1 ≠ D := fun p hp z => by
  have q := (h.nw p hp).2
  rw [z, e] at q
  obtain ⟨u, _, rfl⟩ := List.mem_map.mp hp
  cases Option.some.inj q
end RV
/-! the text of a sum, term by term -/
namespace RV
open PySem L2 PyProof.Rows TL
/-- the line behind some terms -/
def line (qs : List (Str × Int)) : Str := if qs = [] then "" else txt qs
def sp_sumtext (K : PySem.W.Frag) : Sp := fun vs H Q _ => ∃ (l : Addr) (ds : List TP), vs = [.ref l] ∧ SqL K H l (vP ds) ∧ TPs K H ds ∧ Due (prs ds) ∧ Q (.str (txt (prs ds))) H
end RV
/-! steps over a ledger: sums read, texts shown -/
namespace RV
open PySem L2 PyProof.Rows TL
def gR (vs zs : List V) : List V := match vs, zs with
  | [x], [t] => [x, t]
  | _, _ => []
theorem tot_mul {b : Nat} : ∀ {qs : List (Str × Int)}, (∀ q ∈ qs, q.2.natAbs ≤ b) → tot qs ≤ qs.length * b
  | [], _ => Nat.zero_le _
  | q :: qs, h => by
    have a := h q List.mem_cons_self
    have c := tot_mul fun r hr => h r (List.mem_cons_of_mem q hr)
    have e : tot (q :: qs) = q.2.natAbs + tot qs := rfl
    rw [e, List.length_cons, Nat.succ_mul]
    omega
section
variable {K : PySem.W.Frag} {C a l x : Addr} {n : Nat} {L : List (Addr × HO)} {H0 H : Hp} {us ds : List TP} {Q : VK} {E : XK} {qs : List (Str × Int)}
end
end RV
/-! -o, o + p, o - p, o * n, n * o of own classes -/
namespace PySem
open AutoSeq1 (wpAny_loadPart')
set_option maxHeartbeats 4000000 in
theorem rv_int_mul_inst (b : Int) (u : Tok) (l C dx : Addr) :
    Meets (Builtin.«int.__mul__» ⟨[.int b u, .ref l], []⟩) (fun _ R s => s.heap.get? l = some (PySem.W.instObj C dx) ∧ R (.ok (.ret .notImplemented)) s) :=
  .of_wp fun prog w A R s h => by
    obtain ⟨hp, g, d, tk, os⟩ := s
    obtain ⟨hl, h⟩ := h
    unfold PySem.W.instObj at hl
    wp_walk using wpAny_loadPart' hl, wpAny_load hl
    exact ⟨_, rfl, h⟩
end PySem
namespace PySem.W
open PySem PySem.Calls PyProof.Rows
section
variable {prog : Program} {w : World} {A : Around} {E : Value → Shared → Prop} {s : Shared} {K : Frag} {x C dx L f g : Addr} {h₀ : Heap} {m : Str → Option Value} {od : Option Obj} {i : Int} {t : Tok} {fo ro : Option Value}
theorem rv_mulI {Q : Value → Shared → Prop} (F : Fr h₀ L s.heap m) (X₀ : K.In h₀) (I : InstAt s.heap x (instObj C dx) C od) (hc : selfFirst K C = true)
    (hs : findIn K (.ref C) (PySem.dunder "mul") = some (some (.ref f))) (hr : findIn K (.ref C) (dunderR "mul") = some (some (.ref g))) (hg : isFn K (.ref g) = true)
    (h1 : findIn K (.type "int") (PySem.dunder "mul") = some fo) (h2 : findIn K (.type "int") (dunderR "mul") = some ro) (hsub : subIn K (.ref C) (.type "int") = some false)
    (h : wpAny (model prog w) A (call (.ref g) [.ref x, .int i t]) (CmpBack Q) E s) : wpAny (model prog w) A (binaryOp .Mult (.int i t) (.ref x)) Q E s := by
  have X := X₀.keeps F.keep
  obtain ⟨cd, rest, hcd, hm⟩ := ksp_first hc
  have one := ksp_try X I hr hg h
  have decl : wpAny (model prog w) A (tryMethod (.int i t) (PySem.dunder "mul") (.ref x)) (fun r s' => r = none ∧ s' = s) E s :=
    wpAny_tryMethod_declines (Q := fun r s' => r = none ∧ s' = s) (typeIs_int _ _ _) PySem.F.slot_int_mul (call_meets PySem.F.slot_int_mul (typeIs_int _ _ _) PySem.F.entry_int_mul (PySem.F.args_int_mul_2 _ _) (PySem.rv_int_mul_inst i t x C dx) ⟨I.at_, rfl, rfl, rfl⟩)
  obtain ⟨hh, g', d, tt, os⟩ := s
  have L1 : Looks (model prog w) hh (typeOf (.int i t)) (.type "int") := Looks.of_pure rfl
  have L2 : Looks (model prog w) hh (typeOf (.ref x)) (.ref C) := I.type
  have L3 : Looks (model prog w) hh (fillsNumberSlot (.ref C) "mul") true := fills_K X hcd hm hs
  have L4 : Looks (model prog w) hh (fillsNumberSlot (.type "int") "mul") ((fo.isSome && !isSeqSlot fo) || (ro.isSome && !isSeqSlot ro)) := ksp_fillsT X h1 h2
  have L5 : Looks (model prog w) hh (isSubtype (.ref C) (.type "int")) false := looks_subIn X hsub
  have L7 : Looks (model prog w) hh (numberSlotInPython (.type "int") "mul") false := Looks.of_pure rfl
  generalize ((fo.isSome && !isSeqSlot fo) || (ro.isSome && !isSeqSlot ro)) = left at L4
  have hne : (Value.type "int" == Value.ref C) = false := Bool.eq_false_iff.mpr fun q => by cases beq_iff_eq.mp q
  simp only [binaryOp, show Operator.info .Mult = ("*", "mul") from rfl]
  refine wpAny_holding (wpAny_bind ?_)
  unfold binaryOp1
  refine wpAny_bind (L1.at (wpAny_bind (L2.at (wpAny_bind (L4.at ?_)))))
  simp only [hne, Bool.false_eq_true, if_false]
  cases left with
  | false =>
    ksp_lk
    refine wpAny_mono one (fun r s' hr' => ?_) fun _ _ e => e
    obtain ⟨v, rfl, hq⟩ := hr'
    ksp_lk
    exact hq
  | true =>
    ksp_lk
    refine wpAny_mono decl (fun r s' hd => ?_) fun _ _ e => e
    obtain ⟨rfl, rfl⟩ := hd
    ksp_lk
    refine wpAny_mono one (fun r s' hr' => ?_) fun _ _ e => e
    obtain ⟨v, rfl, hq⟩ := hr'
    ksp_lk
    exact hq
end
end PySem.W
namespace RV
open PySem L2 PyProof.Rows
section
variable {X : Cx} {C : Addr} {k : Nat} {sp : Sp}
@[irreducible] def rBinO (C : Addr) (sp : Sp) : R2 := fun x y H Q => ∃ a b dx fs dy gs, x = .ref a ∧ y = .ref b ∧ H a = some (.ins C dx fs) ∧ H b = some (.ins C dy gs) ∧ sp [.ref a, .ref b] H (fun v H' => ∃ p, v = .ref p ∧ Q (.ref p) H') E0
@[irreducible] def rMulO (C : Addr) (sp : Sp) : R2 := fun x y H Q => ∃ (a : Addr) (i : Int) (dx : Addr) (fs : List (Str × V)), x = .ref a ∧ y = .int i ∧ H a = some (.ins C dx fs) ∧ sp [.ref a, .int i] H (fun v H' => ∃ p, v = .ref p ∧ Q (.ref p) H') E0
@[irreducible] def rMulI (C : Addr) (sp : Sp) : R2 := fun x y H Q => ∃ (a : Addr) (i : Int) (dx : Addr) (fs : List (Str × V)), x = .int i ∧ y = .ref a ∧ H a = some (.ins C dx fs) ∧ sp [.ref a, .int i] H (fun v H' => ∃ p, v = .ref p ∧ Q (.ref p) H') E0
@[irreducible] def rNegO (C : Addr) (sp : Sp) : V → Hp → VK → Prop := fun x H Q => ∃ a dx fs, x = .ref a ∧ H a = some (.ins C dx fs) ∧ sp [.ref a] H Q E0
end
end RV
/-! sums by operators -/
namespace RV
open PySem L2 PyProof.Rows TL
def scl (i : Int) (qs : List (Str × Int)) : List (Str × Int) := qs.map fun q => (q.1, i * q.2)
/-- numbers small enough -/
structure Lit (qs : List (Str × Int)) : Prop where
  nm : ∀ q ∈ qs, IsNm q.1
  sm : ∀ q ∈ qs, q.2.natAbs < 10 ^ 60
  ln : qs.length ≤ 60
section
variable {K : PySem.W.Frag} {a D : Addr} {us : List TP} {i j : Nat} {te : TE} {vs : List Nat} {σ : L2.St} {H1 : Hp} {Qd : Hp → Prop}
end
/-- [(x, n * z) for x, z in xs] -/
def sp_times (K : PySem.W.Frag) : Sp := fun vs H Q _ => ∃ (l : Addr) (us : List TP) (i : Int), vs = [.ref l, .int i] ∧ SqL K H l (vP us) ∧ TPs K H us ∧ (∀ q ∈ prs us, q.2.natAbs < 10 ^ 60) ∧ us.length ≤ 60 ∧ i.natAbs < 10 ^ 60 ∧
  ∀ (ws : List TP) (m : Addr) H', prs ws = scl i (prs us) → Kp H (lT m ws) H' → Q (.ref m) H'
def sp_mulS (C : Addr) : Sp := fun vs H Q _ => ∃ (a : Addr) (qs : List (Str × Int)) (i : Int), vs = [.ref a, .int i] ∧ SumR C H a qs ∧ Lit qs ∧ i.natAbs < 10 ^ 60 ∧
  ∀ (x dx m : Addr) (ds : List TP) H', Mad (scl i qs) (prs ds) → Kp H (lS C x dx m ds) H' → Q (.ref x) H'
def sp_negS (C : Addr) : Sp := fun vs H Q _ => ∃ (a : Addr) (qs : List (Str × Int)), vs = [.ref a] ∧ SumR C H a qs ∧ Lit qs ∧
  ∀ (x dx m : Addr) (ds : List TP) H', Mad (scl (-1) qs) (prs ds) → Kp H (lS C x dx m ds) H' → Q (.ref x) H'
def sp_addS (C : Addr) : Sp := fun vs H Q _ => ∃ (a b : Addr) (qs rs : List (Str × Int)), vs = [.ref a, .ref b] ∧ SumR C H a qs ∧ SumR C H b rs ∧ (∀ q ∈ qs ++ rs, IsNm q.1) ∧ Few (qs ++ rs) ∧
  ∀ (x dx m : Addr) (ds : List TP) H', Mad (qs ++ rs) (prs ds) → Kp H (lS C x dx m ds) H' → Q (.ref x) H'
def sp_subS (C : Addr) : Sp := fun vs H Q _ => ∃ (a b : Addr) (qs rs : List (Str × Int)), vs = [.ref a, .ref b] ∧ SumR C H a qs ∧ SumR C H b rs ∧ (∀ q ∈ qs, IsNm q.1) ∧ Lit rs ∧ Few (qs ++ rs) ∧
  ∀ (x dx m : Addr) (ds : List TP) H', Mad (qs ++ scl (-1) rs) (prs ds) → Kp H (lS C x dx m ds) H' → Q (.ref x) H'
/-- a sum is the one of these pairs -/
def sp_is (K : PySem.W.Frag) (C : Addr) : Sp := fun vs H Q _ => ∃ (x l : Addr) (qs : List (Str × Int)) (us : List TP), vs = [.ref x, .ref l] ∧ SumR C H x qs ∧ Nrm qs ∧ SqL K H l (vP us) ∧ TPs K H us ∧ (∀ q ∈ prs us, IsNm q.1) ∧ us.length ≤ 60 ∧ tot (prs us) ≤ 10 ^ 42 ∧ (∀ y, co qs y = co (prs us) y) ∧
  ∀ H', Same H H' → Q (.bl true) H'
end RV
/-! sums of names -/
namespace RV
open PySem L2 PyProof.Rows ClX
def ones (ns : List Str) : List (Str × Int) := ns.map fun x => (x, 1)
def sp_ofB (K : PySem.W.Frag) (C : Addr) : Sp := fun vs H Q _ => ∃ (p : Addr) (ns : List Str), vs = [.ref C, .ref p] ∧ SqT K H p (ns.map V.str) ∧ (∀ x ∈ ns, IsNm x) ∧ ns.length ≤ 60 ∧
  ∀ (x dx m : Addr) (ds : List TP) H', Mad (ones ns) (prs ds) → Kp H (lS C x dx m ds) H' → Q (.ref x) H'
def sp_of (C : Addr) : Sp := fun vs H Q _ => ∃ ns : List Str, vs = .ref C :: ns.map V.str ∧ (∀ x ∈ ns, IsNm x) ∧ ns.length ≤ 60 ∧
  ∀ (x dx m : Addr) (ds : List TP) H', Mad (ones ns) (prs ds) → Kp H (lS C x dx m ds) H' → Q (.ref x) H'
/-- a class method that takes any number of values -/
def ClsR (P : Program) (w : World) (K : PySem.W.Frag) (mg : Str → Option Value) (base : Heap) (C : Addr) (m : Str) (k : Nat) (sp : Sp) : Prop :=
  ∃ mc p g, CRead K C mc ∧ CMet K C mc m p g ∧ FnR P w K mg base CX0 k g sp
theorem ClsR.irr {P : Program} {w : World} {K : PySem.W.Frag} {mg : Str → Option Value} {base : Heap} {C : Addr} {m : Str} {k : Nat} {sp : Sp} (h : ClsR P w K mg base C m k sp) : ClsR P w K mg base C m k (Irr sp) := by
  obtain ⟨mc, p, g, a, b, F⟩ := h
  exact ⟨mc, p, g, a, b, F.imp fun _ _ _ _ z => irr_of z⟩
theorem pe_cmR {X : Cx} {C : Addr} {k : Nat} {m : Str} {sp : Sp} {o e : Expr} {es : List Expr} {t : TA} {ta : TE} {pos apos : Pos} {pl : Sem Bool} (h : ClsR X.prog X.w X.K X.mg X.base C m k sp) (hr : Room k X.A) (he : PE X o ta) (ha : PA X (e :: es) t)
    (hst : starEach (e :: es) X.env = (false, eval e X.env) :: starEach es X.env := by rfl) (hpl : (backTo pos (starEach es X.env)).any (·.1) = false := by rfl)
    (ht : eval (.Call (.Attribute o m apos) (e :: es) [] pos) X.env = (do
      let ov ← eval o X.env
      standAt apos.atName
      let (f, first) ← holding [ov] (getMethod ov m pl)
      callWith pos f first (backTo pos (starEach (e :: es) X.env)) (backToKw pos (keywordEach [] X.env))) := by rfl) :
    PE X (.Call (.Attribute o m apos) (e :: es) [] pos) (tCMeth C sp E0 ta t) := by
  obtain ⟨mc, p, g, r, c, F⟩ := h
  exact pe_cmeth he r c F hr pass0 ha hst hpl ht
end RV
/-! steps with sums over a heap that only grows -/
namespace RV
open PySem L2 PyProof.Rows TL
/-- pairs of names, so many, so great in all -/
structure Raw (qs : List (Str × Int)) (n b : Nat) : Prop where
  nm : ∀ q ∈ qs, IsNm q.1
  ln : qs.length ≤ n
  tt : tot qs ≤ b
/-- a sum of these pairs, as they were given -/
def Own (C : Addr) (H : Hp) (x : Addr) (qs : List (Str × Int)) : Prop := ∃ rs, SumR C H x rs ∧ Mad qs rs
section
variable {K : PySem.W.Frag} {C a b l x : Addr} {H H' : Hp} {qs rs : List (Str × Int)} {n m c d : Nat} {Q : VK} {E : XK} {us : List TP}
/-- a list of pairs -/
structure Lsp (K : PySem.W.Frag) (H : Hp) (l : Addr) (us : List TP) : Prop where
  hd : H l = some (.lst (vP us))
  ps : TPs K H us
end
def sp_mults : Sp := fun vs H Q _ => ∃ (a : Addr) (n : Nat), vs = [.ref a] ∧ WellAt H a n ∧ n < 800000 ∧ ∀ H', Grow a H H' → WellAt H' a (n + 100) → Q (.bl true) H'
theorem Has.wm {H0 H : Hp} {a : Addr} {n m : Nat} {L : List (Addr × HO)} (h : Has H0 a n L H) (e : n ≤ m) : Has H0 a m L H := ⟨h.gr, h.well.mono e, h.here⟩
end RV
/-! rows of sums beside their models -/
namespace RV
open PySem L2 PyProof.Rows TL
/-! ### data that are equal -/
/-! ### what stands, where a list is changed -/
section
variable {K : PySem.W.Frag} {C t p l x : Addr} {H H' : Hp} {xs ys : List V} {us : List TP} {qs : List (Str × Int)}
theorem SqT.gro (h : SqT K H t xs) (e : H p = some (.lst ys)) (g : Grow p H H') : SqT K H' t xs := by
  rcases h with h | h
  · refine .inl ?_
    rcases h with h | ⟨o, h⟩
    · exact .inl (g _ _ (fun z => by rw [z, e] at h; cases h) h)
    · exact .inr ⟨o, g _ _ (fun z => by rw [z, e] at h; cases h) h⟩
  · exact .inr h
theorem Grow.put {o : HO} : Grow p H (upd H p o) := fun _ _ n e => by rw [upd_ne n]; exact e
end
/-! ### a sum and its model -/
abbrev Rw := Addr × Addr × List TP
structure One (K : PySem.W.Frag) (C : Addr) (H : Hp) (r : Rw) : Prop where
  sr : SumR C H r.1 (prs r.2.2)
  ls : Lsp K H r.2.1 r.2.2
/-- no coefficient of a model is greater -/
def lim : Nat := 3 * 10 ^ 33
structure Fit (pool : List Str) (us : List TP) : Prop where
  nr : Nrm (prs us)
  nm : ∀ q ∈ prs us, IsNm q.1
  pl : ∀ q ∈ prs us, q.1 ∈ pool
  sm : ∀ q ∈ prs us, q.2.natAbs ≤ lim
section
variable {pool pool' : List Str} {us ds : List TP} {K : PySem.W.Frag} {C x : Addr} {H : Hp} {qs rs : List (Str × Int)}
end
/-! ### steps with greater sums -/
section
variable {K : PySem.W.Frag} {C a b : Addr} {H : Hp} {qs rs : List (Str × Int)} {n m c d : Nat} {Q : VK}
end
section
variable {K : PySem.W.Frag} {l D : Addr} {us : List TP} {i j : Nat} {te : TE} {vs : List Nat} {σ : L2.St} {H1 : Hp} {Qd : Hp → Prop}
end
def rTupOf (K : PySem.W.Frag) : List V → Hp → VK → Prop := fun xs H Q => ∃ p ys, xs = [V.ref p] ∧ ((SqL K H p ys ∧ ∀ l, H l = none → Q (.ref l) (upd H l (.tup ys))) ∨ (SqT K H p ys ∧ Q (.ref p) H))
theorem call_tuple_ofK {X : Cx} {K : PySem.W.Frag} (h : X.K = K := by rfl) : CallR X (.type "tuple") (rTupOf K) := h ▸ call_tuple_of
/-! ### promises -/
def vS (rs : List Rw) : List V := rs.map fun r => .ref r.1
def vM (rs : List Rw) : List V := rs.map fun r => .ref r.2.1
section
variable {K : PySem.W.Frag} {a D : Addr} {rs : List Rw} {i : Nat} {te : TE} {vs : List Nat} {σ : L2.St} {H1 : Hp} {Qd : Hp → Prop}
end
/-- the greatest size -/
def sp_much (K : PySem.W.Frag) : Sp := fun vs H Q _ => ∃ (l : Addr) (us : List TP), vs = [.ref l] ∧ Lsp K H l us ∧ us.length ≤ 60 ∧ ∀ (m : Int) H', (∀ q ∈ prs us, (q.2.natAbs : Int) ≤ m) → Same H H' → Q (.int m) H'
def sp_allr (K : PySem.W.Frag) (C : Addr) : Sp := fun vs H Q _ => ∃ (S M : Addr) (rs : List Rw), vs = [.ref S, .ref M] ∧ SqL K H S (vS rs) ∧ SqL K H M (vM rs) ∧ (∀ r ∈ rs, One K C H r ∧ Due (prs r.2.2)) ∧ rs.length ≤ 20 ∧ ∀ H', Same H H' → Q (.bl true) H'
def sp_turn (K : PySem.W.Frag) (C : Addr) : Sp := fun vs H Q _ => ∃ (a S M : Addr) (n : Nat) (rs : List Rw) (pool : List Str), vs = [.ref a, .ref S, .ref M] ∧ WellAt H a n ∧ n < 600000 ∧ S ≠ a ∧ M ≠ a ∧ H S = some (.lst (vS rs)) ∧ H M = some (.lst (vM rs)) ∧ rs.length = 4 ∧
  (∀ r ∈ rs, One K C H r ∧ Fit pool r.2.2 ∧ r.2.1 ≠ a) ∧ pool.length ≤ 57 ∧
  ∀ (p x l : Addr) (us : List TP) (new : List Str) H', H' p = some (.lst [.ref x, .ref l]) → Own C H' x (prs us) → Lsp K H' l us → us.length ≤ 120 → (∀ q ∈ prs us, IsNm q.1 ∧ q.1 ∈ pool ++ new) → new.length ≤ 3 → (∀ y, (co (prs us) y).natAbs ≤ lim) →
    Grow a H H' → WellAt H' a (n + 1010) → Q (.ref p) H'
def sp_row : Sp := fun vs H Q _ => ∃ (a : Addr) (n : Nat), vs = [.ref a] ∧ WellAt H a n ∧ n < 1000 ∧ ∀ H', Grow a H H' → Q (.bl true) H'
end RV
/-! a row: a list of sums and a list of their models, both changed in place; older ones -/
namespace RV
open PySem L2 PyProof.Rows TL
structure RowAt (K : PySem.W.Frag) (C : Addr) (H0 H : Hp) (a : Addr) (n : Nat) (S M : Addr) (rs os : List Rw) (pool : List Str) (L : List (Addr × HO)) : Prop where
  hs : Has H0 a n ((S, .lst (vS rs)) :: (M, .lst (vM rs)) :: L) H
  s0 : H0 S = none
  m0 : H0 M = none
  sm : S ≠ M
  off : ∀ p ∈ L, p.1 ≠ S ∧ p.1 ≠ M
  ln : rs.length = 4
  on : ∀ r ∈ rs ++ os, One K C H r ∧ Fit pool r.2.2 ∧ r.2.1 ≠ a ∧ r.2.1 ≠ S ∧ r.2.1 ≠ M
section
variable {K : PySem.W.Frag} {C : Addr} {H0 H H' : Hp} {a S M p : Addr} {n m : Nat} {rs os os' : List Rw} {pool pool' : List Str} {L L' : List (Addr × HO)} {o : HO}
end
end RV
/-! nets: pipes, meters, nets in the heap; promises of their methods -/
namespace RV
open PySem L2 PyProof.Rows TL
def sp_check (K : PySem.W.Frag) : Sp := fun vs H Q _ => ∃ (t : Addr) (xs : List Str), vs = [.ref t] ∧ SqT K H t (xs.map V.str) ∧ (∀ x ∈ xs, IsNm x) ∧ ∀ H', Same H H' → Q .non H'
theorem k12 : ¬ (("_name" : Str) = "_start") := by decide +kernel
theorem k13 : ¬ (("_name" : Str) = "_end") := by decide +kernel
theorem k23 : ¬ (("_start" : Str) = "_end") := by decide +kernel
theorem k14 : ¬ (("_name" : Str) = "_at") := by decide +kernel
theorem k15 : ¬ (("_name" : Str) = "_sealed") := by decide +kernel
theorem k45 : ¬ (("_at" : Str) = "_sealed") := by decide +kernel
def pipeF (n s e : Str) : List (Str × V) := putF "_end" (.str e) (putF "_start" (.str s) (putF "_name" (.str n) []))
theorem pipeF_n (n s e : Str) : (pipeF n s e).lookup ("_name" : Str) = some (.str n) := by
  unfold pipeF
  rw [lookup_putF, if_neg k13, lookup_putF, if_neg k12, lookup_putF, if_pos rfl]
theorem pipeF_s (n s e : Str) : (pipeF n s e).lookup ("_start" : Str) = some (.str s) := by
  unfold pipeF
  rw [lookup_putF, if_neg k23, lookup_putF, if_pos rfl]
theorem pipeF_e (n s e : Str) : (pipeF n s e).lookup ("_end" : Str) = some (.str e) := by
  unfold pipeF
  rw [lookup_putF, if_pos rfl]
theorem putF_len (f : Str) (v : V) : ∀ fs : List (Str × V), (putF f v fs).length ≤ fs.length + 1
  | [] => Nat.le_refl _
  | (g, x) :: r => by
    show (if g = f then (g, v) :: r else (g, x) :: putF f v r).length ≤ _
    split
    · simp
    · have := putF_len f v r
      simp only [List.length_cons]
      omega
def metF (n a : Str) (z : Bool) : List (Str × V) := putF "_sealed" (.bl z) (putF "_at" (.str a) (putF "_name" (.str n) []))
theorem metF_n (n a : Str) (z : Bool) : (metF n a z).lookup ("_name" : Str) = some (.str n) := by
  unfold metF
  rw [lookup_putF, if_neg k15, lookup_putF, if_neg k14, lookup_putF, if_pos rfl]
theorem metF_a (n a : Str) (z : Bool) : (metF n a z).lookup ("_at" : Str) = some (.str a) := by
  unfold metF
  rw [lookup_putF, if_neg k45, lookup_putF, if_pos rfl]
theorem metF_z (n a : Str) (z : Bool) : (metF n a z).lookup ("_sealed" : Str) = some (.bl z) := by
  unfold metF
  rw [lookup_putF, if_pos rfl]
def sp_Pipe (C : Addr) : Sp := fun vs H Q _ => ∃ (x dx : Addr) (n s e : Str), vs = [.ref x, .str n, .str s, .str e] ∧ H x = some (.ins C dx []) ∧ IsNm n ∧ IsNm s ∧ IsNm e ∧ e ≠ s ∧
  ∀ H', (∀ b o, b ≠ x → H b = some o → H' b = some o) → (∃ dx, H' x = some (.ins C dx (pipeF n s e))) → Q .non H'
def sp_Meter (C : Addr) : Sp := fun vs H Q _ => ∃ (x dx : Addr) (n a : Str) (z : Bool), vs = [.ref x, .str n, .str a, .bl z] ∧ H x = some (.ins C dx []) ∧ IsNm n ∧ IsNm a ∧
  ∀ H', (∀ b o, b ≠ x → H b = some o → H' b = some o) → (∃ dx, H' x = some (.ins C dx (metF n a z))) → Q .non H'
abbrev P3 := Str × Str × Str
abbrev M3 := Str × Str × Bool
def PipeAt (C : Addr) (H : Hp) (p : Addr) (q : P3) : Prop := ∃ dx, H p = some (.ins C dx (pipeF q.1 q.2.1 q.2.2))
def MetAt (C : Addr) (H : Hp) (p : Addr) (q : M3) : Prop := ∃ dx, H p = some (.ins C dx (metF q.1 q.2.1 q.2.2))
theorem PipeAt.ext {C p : Addr} {H H' : Hp} {q : P3} (h : PipeAt C H p q) (s : Same H H') : PipeAt C H' p q := h.imp fun _ e => s _ _ e
theorem MetAt.ext {C p : Addr} {H H' : Hp} {q : M3} (h : MetAt C H p q) (s : Same H H') : MetAt C H' p q := h.imp fun _ e => s _ _ e
theorem PipeAt.gro {C a p : Addr} {H H' : Hp} {q : P3} {ys : List V} (h : PipeAt C H p q) (e : H a = some (.lst ys)) (g : Grow a H H') : PipeAt C H' p q := by
  obtain ⟨dx, z⟩ := h
  exact ⟨dx, g _ _ (fun w => by rw [w, e] at z; cases z) z⟩
theorem MetAt.gro {C a p : Addr} {H H' : Hp} {q : M3} {ys : List V} (h : MetAt C H p q) (e : H a = some (.lst ys)) (g : Grow a H H') : MetAt C H' p q := by
  obtain ⟨dx, z⟩ := h
  exact ⟨dx, g _ _ (fun w => by rw [w, e] at z; cases z) z⟩
/-- a pipe's, a meter's own properties -/
def sp_pn (C : Addr) : Sp := fun vs H Q _ => ∃ (a : Addr) (q : P3), vs = [.ref a] ∧ PipeAt C H a q ∧ Q (.str q.1) H
def sp_ps (C : Addr) : Sp := fun vs H Q _ => ∃ (a : Addr) (q : P3), vs = [.ref a] ∧ PipeAt C H a q ∧ Q (.str q.2.1) H
def sp_pe (C : Addr) : Sp := fun vs H Q _ => ∃ (a : Addr) (q : P3), vs = [.ref a] ∧ PipeAt C H a q ∧ Q (.str q.2.2) H
def sp_mn (C : Addr) : Sp := fun vs H Q _ => ∃ (a : Addr) (q : M3), vs = [.ref a] ∧ MetAt C H a q ∧ Q (.str q.1) H
def sp_ma (C : Addr) : Sp := fun vs H Q _ => ∃ (a : Addr) (q : M3), vs = [.ref a] ∧ MetAt C H a q ∧ Q (.str q.2.1) H
def sp_mz (C : Addr) : Sp := fun vs H Q _ => ∃ (a : Addr) (q : M3), vs = [.ref a] ∧ MetAt C H a q ∧ Q (.bl q.2.2) H
/-- two of a kind are compared -/
def sp_Peq (C : Addr) : Sp := fun vs H Q _ => ∃ (a b : Addr) (q r : P3), vs = [.ref a, .ref b] ∧ PipeAt C H a q ∧ PipeAt C H b r ∧ Q (.bl (decide (q = r))) H
def sp_Meq (C : Addr) : Sp := fun vs H Q _ => ∃ (a b : Addr) (q r : M3), vs = [.ref a, .ref b] ∧ MetAt C H a q ∧ MetAt C H b r ∧ Q (.bl (decide (q = r))) H
structure PClass (K : PySem.W.Frag) (mg : Str → Option Value) (C : Addr) : Prop where
  x : ClsX K C
  k : mg "Pipe" = some (.ref C)
  n1 : NoAttr K C "_name"
  n2 : NoAttr K C "_start"
  n3 : NoAttr K C "_end"
  me : PySem.W.kitOne K (.ref C) (.ref C) = some true
structure MClass (K : PySem.W.Frag) (mg : Str → Option Value) (C : Addr) : Prop where
  x : ClsX K C
  k : mg "Meter" = some (.ref C)
  n1 : NoAttr K C "_name"
  n2 : NoAttr K C "_at"
  n3 : NoAttr K C "_sealed"
  me : PySem.W.kitOne K (.ref C) (.ref C) = some true
structure NClass (K : PySem.W.Frag) (mg : Str → Option Value) (C : Addr) : Prop where
  x : ClsX K C
  k : mg "Net" = some (.ref C)
  n1 : NoAttr K C "_pipes"
  n2 : NoAttr K C "_meters"
  me : PySem.W.kitOne K (.ref C) (.ref C) = some true
section
variable {H : Hp} {R : Hp → Prop} {E : XK} {C x dx : Addr} {n s e : Str} {z : Bool}
theorem Pipe_kp (h1 : IsNm n) (h2 : IsNm s) (h3 : IsNm e) (hne : e ≠ s) (hx : H x = none) (hd : H dx = none) (_ : dx ≠ x) (k : ∀ H', Same H H' → PipeAt C H' x (n, s, e) → R H') :
    Irr (sp_Pipe C) [.ref x, .str n, .str s, .str e] (upd (upd H dx (.own x)) x (.ins C dx [])) (fun v H2 => v = .non ∧ R H2) E :=
  irr ⟨x, dx, n, s, e, rfl, upd_same, h1, h2, h3, hne, fun H' g p => ⟨rfl, k H' (fun b o eb => g b o (ne_of_none eb hx) (by rw [upd_ne (ne_of_none eb hx), upd_ne (ne_of_none eb hd)]; exact eb)) p⟩⟩
theorem Meter_kp (h1 : IsNm n) (h2 : IsNm s) (hx : H x = none) (hd : H dx = none) (_ : dx ≠ x) (k : ∀ H', Same H H' → MetAt C H' x (n, s, z) → R H') :
    Irr (sp_Meter C) [.ref x, .str n, .str s, .bl z] (upd (upd H dx (.own x)) x (.ins C dx [])) (fun v H2 => v = .non ∧ R H2) E :=
  irr ⟨x, dx, n, s, z, rfl, upd_same, h1, h2, fun H' g p => ⟨rfl, k H' (fun b o eb => g b o (ne_of_none eb hx) (by rw [upd_ne (ne_of_none eb hx), upd_ne (ne_of_none eb hd)]; exact eb)) p⟩⟩
end
theorem strs_flat : ∀ xs : List Str, (xs.map V.str).all flatV = true
  | [] => rfl
  | x :: xs => by simp [flatV, strs_flat xs]
/-- a name is not among those in front of it -/
theorem nodup_take {α : Type} {f : α → Str} : ∀ {xs : List α} {i : Nat} {x : α}, (xs.map f).Nodup → xs[i]? = some x → f x ∉ (xs.take i).map f
  | [], _, _, _, h => by simp at h
  | y :: ys, 0, x, _, _ => by simp
  | y :: ys, i + 1, x, nd, h => by
    rw [List.map_cons, List.nodup_cons] at nd
    rw [List.getElem?_cons_succ] at h
    rw [List.take_succ_cons, List.map_cons, List.mem_cons]
    rintro (e | e)
    · exact nd.1 (by rw [← e]; exact List.mem_map.mpr ⟨x, List.mem_of_getElem? h, rfl⟩)
    · exact nodup_take nd.2 h e
/-! ### nets -/
theorem kPM : ¬ (("_pipes" : Str) = "_meters") := by decide +kernel
def netF (tp tm : Addr) : List (Str × V) := putF "_meters" (.ref tm) (putF "_pipes" (.ref tp) [])
theorem netF_p (tp tm : Addr) : (netF tp tm).lookup ("_pipes" : Str) = some (.ref tp) := by
  unfold netF
  rw [lookup_putF, if_neg kPM, lookup_putF, if_pos rfl]
theorem netF_m (tp tm : Addr) : (netF tp tm).lookup ("_meters" : Str) = some (.ref tm) := by
  unfold netF
  rw [lookup_putF, if_pos rfl]
abbrev PU := Addr × P3
abbrev MU := Addr × M3
def rf {α : Type} (us : List (Addr × α)) : List V := us.map fun u => .ref u.1
def sn {α : Type} (us : List (Addr × α)) : List α := us.map (·.2)
theorem rf_len {α : Type} (us : List (Addr × α)) : (rf us).length = us.length := List.length_map _
theorem sn_len {α : Type} (us : List (Addr × α)) : (sn us).length = us.length := List.length_map _
/-- a tuple of pipes, of meters -/
structure Tps (K : PySem.W.Frag) (C : Addr) (H : Hp) (t : Addr) (us : List PU) : Prop where
  t : SqT K H t (rf us)
  o : ∀ u ∈ us, PipeAt C H u.1 u.2
structure Tms (K : PySem.W.Frag) (C : Addr) (H : Hp) (t : Addr) (us : List MU) : Prop where
  t : SqT K H t (rf us)
  o : ∀ u ∈ us, MetAt C H u.1 u.2
theorem Tps.ext {K : PySem.W.Frag} {C t : Addr} {H H' : Hp} {us : List PU} (h : Tps K C H t us) (s : Same H H') : Tps K C H' t us := ⟨h.t.ext s, fun u hu => (h.o u hu).ext s⟩
theorem Tms.ext {K : PySem.W.Frag} {C t : Addr} {H H' : Hp} {us : List MU} (h : Tms K C H t us) (s : Same H H') : Tms K C H' t us := ⟨h.t.ext s, fun u hu => (h.o u hu).ext s⟩
/-- what a net's pipes, a net's meters are -/
structure POk (ps : List P3) : Prop where
  n0 : ps ≠ []
  ln : ps.length ≤ 12
  nm : ∀ p ∈ ps, IsNm p.1 ∧ IsNm p.2.1 ∧ IsNm p.2.2 ∧ p.2.2 ≠ p.2.1
  nd : (ps.map (·.1)).Nodup
structure MOk (ps : List P3) (ms : List M3) : Prop where
  ln : ms.length ≤ 12
  nm : ∀ m ∈ ms, IsNm m.1 ∧ IsNm m.2.1
  nd : (ms.map (·.1)).Nodup
  on : ∀ m ∈ ms, m.2.1 ∈ ps.map (·.1)
/-- a net in the heap -/
structure NetR (K : PySem.W.Frag) (CN CP CM : Addr) (H : Hp) (x : Addr) (ps : List P3) (ms : List M3) : Prop where
  ex : ∃ (dx tp tm : Addr) (pu : List PU) (mu : List MU), H x = some (.ins CN dx (netF tp tm)) ∧ Tps K CP H tp pu ∧ Tms K CM H tm mu ∧ sn pu = ps ∧ sn mu = ms
theorem NetR.ext {K : PySem.W.Frag} {CN CP CM x : Addr} {H H' : Hp} {ps : List P3} {ms : List M3} (h : NetR K CN CP CM H x ps ms) (s : Same H H') : NetR K CN CP CM H' x ps ms := by
  obtain ⟨dx, tp, tm, pu, mu, e, h1, h2, h3⟩ := h.ex
  exact ⟨dx, tp, tm, pu, mu, s _ _ e, h1.ext s, h2.ext s, h3⟩
def sp_index (K : PySem.W.Frag) (CP : Addr) : Sp := fun vs H Q _ => ∃ (t : Addr) (us : List PU) (y : Str), vs = [.ref t, .str y] ∧ Tps K CP H t us ∧ us.length ≤ 12 ∧ y ∈ (sn us).map (·.1) ∧ ∀ (i : Nat) H', ((sn us)[i]?).map (·.1) = some y → Same H H' → Q (.int (i : Nat)) H'
def sp_chkP (K : PySem.W.Frag) (CP : Addr) : Sp := fun vs H Q _ => ∃ (t : Addr) (us : List PU), vs = [.ref t] ∧ Tps K CP H t us ∧ POk (sn us) ∧ ∀ H', Same H H' → Q .non H'
def sp_chkM (K : PySem.W.Frag) (CP CM : Addr) : Sp := fun vs H Q _ => ∃ (t tp : Addr) (us : List MU) (pu : List PU), vs = [.ref t, .ref tp] ∧ Tms K CM H t us ∧ Tps K CP H tp pu ∧ pu.length ≤ 12 ∧ MOk (sn pu) (sn us) ∧ ∀ H', Same H H' → Q .non H'
def sp_Net (K : PySem.W.Frag) (CN CP CM : Addr) : Sp := fun vs H Q _ => ∃ (x dx tp tm : Addr) (pu : List PU) (mu : List MU), vs = [.ref x, .ref tp, .ref tm] ∧ H x = some (.ins CN dx []) ∧ Tps K CP H tp pu ∧ Tms K CM H tm mu ∧ POk (sn pu) ∧ MOk (sn pu) (sn mu) ∧
  ∀ H', (∀ b o, b ≠ x → H b = some o → H' b = some o) → (∃ dx, H' x = some (.ins CN dx (netF tp tm))) → Q .non H'
section
variable {K : PySem.W.Frag} {CN CP CM x dx tp tm : Addr} {H : Hp} {pu : List PU} {mu : List MU} {R : Hp → Prop} {E : XK}
theorem Net_kp (hp : Tps K CP H tp pu) (hm : Tms K CM H tm mu) (po : POk (sn pu)) (mo : MOk (sn pu) (sn mu)) (hx : H x = none) (hd : H dx = none) (_ : dx ≠ x) (k : ∀ H', Same H H' → NetR K CN CP CM H' x (sn pu) (sn mu) → R H') :
    Irr (sp_Net K CN CP CM) [.ref x, .ref tp, .ref tm] (upd (upd H dx (.own x)) x (.ins CN dx [])) (fun v H2 => v = .non ∧ R H2) E := by
  have s : Same H (upd (upd H dx (.own x)) x (.ins CN dx [])) := fun b o eb => by rw [upd_ne (ne_of_none eb hx), upd_ne (ne_of_none eb hd)]; exact eb
  refine irr ⟨x, dx, tp, tm, pu, mu, rfl, upd_same, hp.ext s, hm.ext s, po, mo, fun H' g p => ⟨rfl, ?_⟩⟩
  have s' : Same H H' := fun b o eb => g b o (ne_of_none eb hx) (s b o eb)
  obtain ⟨dx', p⟩ := p
  exact k H' s' ⟨dx', tp, tm, pu, mu, p, hp.ext s', hm.ext s', rfl, rfl⟩
end
end RV
/-! comprehensions: one thing for each item; the items that fit -/
namespace RV
open PySem L2 PyProof.Rows TL
section
variable {α β : Type} {K : PySem.W.Frag} {D : Addr} {xs : List V} {i : Nat} {te : TE} {tt : TT} {vs : List Nat} {σ : L2.St} {H1 : Hp} {Qd : Hp → Prop} {J : It} {GG : Hp → Prop}
/-- [f(x) for x in xs]: each turn gives a value of which something is known -/
theorem lc_new (val : β → V) (Pk : Nat → β → Hp → Prop) (wk : Walk J xs.length GG (YAt xs)) (nD : H1 D = none) (len : xs.length ≤ 1000) (hG : ∀ H', Same H1 H' → GG H') (hw : ∀ x, wipe ((wipe σ vs).set i x) vs = wipe σ vs)
    (ext : ∀ k b H H', Same H H' → Pk k b H → Pk k b H') (put : ∀ k b H acc acc', H D = some (.lst acc) → Pk k b H → Pk k b (upd H D (.lst acc')))
    (h : ∀ k x, xs[k]? = some x → ∀ H2, Same H1 H2 → (∃ acc, H2 D = some (.lst acc)) → ∀ R : VK, (∀ b H3, Same H2 H3 → Pk k b H3 → R (val b) H3) → te ((wipe σ vs).set i (some x)) H2 R)
    (k : ∀ (bs : List β) H', Same H1 H' → bs.length = xs.length → (∀ k b, bs[k]? = some b → Pk k b H') → H' D = some (.lst (bs.map val)) → Qd H') :
    ∃ W : Nat → Nat → Hp → Prop, (∃ m, W 0 m (upd H1 D (.lst []))) ∧ ∀ i' m H, W i' m H →
      (J.stop i' H ∧ Qd H) ∨ (J.go i' H ∧ ∃ Nx : Hp → Prop, (∀ H', Nx H' → ∃ m', m' < m ∧ W (i' + 1) m' H') ∧ ∀ x H', J.yld i' H x H' → gName i x (wipe σ vs) H' fun σ2 H2 => wipe σ2 vs = wipe σ vs ∧ tYes σ2 H2 fun b H3 =>
        if b = true then te σ2 H3 fun y H4 => ∃ acc, H4 D = some (.lst acc) ∧ acc.length < sizeLine ∧ Nx (upd H4 D (.lst (acc ++ [y]))) else Nx H3) := by
  refine L2.lc_it wk (fun i' H' => ∃ bs : List β, bs.length = i' ∧ Same H1 H' ∧ H' D = some (.lst (bs.map val)) ∧ ∀ k b, bs[k]? = some b → Pk k b H')
    ⟨[], rfl, fun b o e => (upd_ne (ne_of_none e nD)).trans e, upd_same, fun k b e => by simp at e⟩ (fun i' H' _ z => ?_) (fun i' x Ha Hb hi hv y => ?_) (fun H' hv => ?_)
  · obtain ⟨_, _, s, _⟩ := z
    exact hG _ s
  · obtain ⟨bs, hb, s, eD, hp⟩ := hv
    obtain ⟨rfl, hx⟩ := y
    have e0 : ∀ (σ : L2.St) (H : Hp) (R : Bool → Hp → Prop), R true H → tYes σ H R := fun _ _ _ r => r
    refine ⟨hw _, e0 _ _ _ ?_⟩
    simp only [↓reduceIte]
    refine h i' x hx Hb s ⟨_, eD⟩ _ fun b H3 s3 pb => ?_
    have eD3 := s3 _ _ eD
    refine ⟨_, eD3, ?_, bs ++ [b], by rw [List.length_append, hb]; rfl, fun c o e => ?_, by rw [upd_same, List.map_append]; rfl, fun k c e => ?_⟩
    · rw [List.length_map, hb]
      exact Nat.lt_of_lt_of_le (show i' < 1001 by omega) (by decide)
    · rw [upd_ne (ne_of_none e nD)]
      exact s3 _ _ (s _ _ e)
    · refine put _ _ _ _ _ eD3 ?_
      rw [List.getElem?_append] at e
      split at e
      · exact ext _ _ _ _ s3 (hp k c e)
      · rename_i hk
        have : k - bs.length = 0 := by
          have := (List.getElem?_eq_some_iff.mp e).1
          simp at this
          omega
        rw [this] at e
        obtain rfl : b = c := Option.some.inj e
        rw [show k = i' by omega]
        exact pb
  · obtain ⟨bs, hb, s, eD, hp⟩ := hv
    exact k bs H' s hb hp eD
/-- [f(x) for x in xs]: plain values -/
theorem lc_to (ys : List V) (hl : ys.length = xs.length) (wk : Walk J xs.length GG (YAt xs)) (nD : H1 D = none) (len : xs.length ≤ 1000) (hG : ∀ H', Same H1 H' → GG H') (hw : ∀ x, wipe ((wipe σ vs).set i x) vs = wipe σ vs)
    (h : ∀ (k : Nat) (x y : V), xs[k]? = some x → ys[k]? = some y → ∀ H2, Same H1 H2 → ∀ R : VK, (∀ H3, Same H2 H3 → R y H3) → te ((wipe σ vs).set i (some x)) H2 R)
    (k : ∀ H', Same H1 H' → H' D = some (.lst ys) → Qd H') :
    ∃ W : Nat → Nat → Hp → Prop, (∃ m, W 0 m (upd H1 D (.lst []))) ∧ ∀ i' m H, W i' m H →
      (J.stop i' H ∧ Qd H) ∨ (J.go i' H ∧ ∃ Nx : Hp → Prop, (∀ H', Nx H' → ∃ m', m' < m ∧ W (i' + 1) m' H') ∧ ∀ x H', J.yld i' H x H' → gName i x (wipe σ vs) H' fun σ2 H2 => wipe σ2 vs = wipe σ vs ∧ tYes σ2 H2 fun b H3 =>
        if b = true then te σ2 H3 fun y H4 => ∃ acc, H4 D = some (.lst acc) ∧ acc.length < sizeLine ∧ Nx (upd H4 D (.lst (acc ++ [y]))) else Nx H3) := by
  refine lc_new (β := V) id (fun (k : Nat) (b : V) (_ : Hp) => (ys[k]? : Option V) = some b) wk nD len hG hw (fun _ _ _ _ _ e => e) (fun _ _ _ _ _ _ e => e) (fun k x hx H2 s2 _ R r => ?_) fun bs H' s' bl bp eD => ?_
  · have hk := (List.getElem?_eq_some_iff.mp hx).1
    have e : ys[k]? = some (ys[k]'(by omega)) := List.getElem?_eq_getElem _
    exact h k x _ hx e H2 s2 R fun H3 s3 => r _ H3 s3 e
  · refine k H' s' ?_
    rw [eD, List.map_id]
    congr 2
    refine List.ext_getElem? fun j => ?_
    cases e : bs[j]? with
    | some b => rw [bp j b e]
    | none => rw [List.getElem?_eq_none_iff] at e; rw [List.getElem?_eq_none (by omega)]
/-- [x for x in xs if p(x)] over things at addresses -/
theorem lc_keep {us : List (Addr × α)} (p : Addr × α → Bool) (wk : Walk J (rf us).length GG (YAt (rf us))) (nD : H1 D = none) (len : us.length ≤ 1000) (hG : ∀ H', Same H1 H' → GG H') (hw : ∀ x, wipe ((wipe σ vs).set i x) vs = wipe σ vs)
    (ht : ∀ u ∈ us, ∀ H2, Same H1 H2 → ∀ R : Bool → Hp → Prop, (∀ H3, Same H2 H3 → R (p u) H3) → tt ((wipe σ vs).set i (some (.ref u.1))) H2 R)
    (he : ∀ u ∈ us, ∀ H2, ∀ R : VK, R (.ref u.1) H2 → te ((wipe σ vs).set i (some (.ref u.1))) H2 R)
    (k : ∀ H', Same H1 H' → H' D = some (.lst (rf (us.filter p))) → Qd H') :
    ∃ W : Nat → Nat → Hp → Prop, (∃ m, W 0 m (upd H1 D (.lst []))) ∧ ∀ i' m H, W i' m H →
      (J.stop i' H ∧ Qd H) ∨ (J.go i' H ∧ ∃ Nx : Hp → Prop, (∀ H', Nx H' → ∃ m', m' < m ∧ W (i' + 1) m' H') ∧ ∀ x H', J.yld i' H x H' → gName i x (wipe σ vs) H' fun σ2 H2 => wipe σ2 vs = wipe σ vs ∧ tt σ2 H2 fun b H3 =>
        if b = true then te σ2 H3 fun y H4 => ∃ acc, H4 D = some (.lst acc) ∧ acc.length < sizeLine ∧ Nx (upd H4 D (.lst (acc ++ [y]))) else Nx H3) := by
  refine L2.lc_it wk (fun i' H' => Same H1 H' ∧ H' D = some (.lst (rf ((us.take i').filter p))))
    ⟨fun b o e => (upd_ne (ne_of_none e nD)).trans e, upd_same⟩ (fun i' H' _ z => hG _ z.1) (fun i' x Ha Hb hi hv y => ?_) (fun H' hv => ?_)
  · obtain ⟨s, eD⟩ := hv
    obtain ⟨rfl, hx⟩ := y
    rw [rf, List.getElem?_map] at hx
    cases hu : us[i']? with
    | none => rw [hu] at hx; cases hx
    | some u =>
      rw [hu] at hx
      obtain rfl : V.ref u.1 = x := Option.some.inj hx
      have hm := List.mem_of_getElem? hu
      have et : us.take (i' + 1) = us.take i' ++ [u] := by rw [List.take_add_one, hu]; rfl
      refine ⟨hw _, ht u hm Hb s _ fun H3 s3 => ?_⟩
      have eD3 := s3 _ _ eD
      cases hp : p u with
      | false =>
        refine iteF ⟨fun b o e => s3 b o (s b o e), ?_⟩
        rw [eD3, et, List.filter_append, List.filter_cons_of_neg (by rw [hp]; decide), List.filter_nil, List.append_nil]
      | true =>
        refine iteT (he u hm H3 _ ⟨_, eD3, ?_, fun b o e => ?_, ?_⟩)
        · rw [rf_len]
          have l1 := List.length_filter_le p (us.take i')
          have l3 := List.length_take_le' i' us
          exact Nat.lt_of_le_of_lt (Nat.le_trans l1 (Nat.le_trans l3 len)) (by decide)
        · rw [upd_ne (ne_of_none e nD)]
          exact s3 _ _ (s _ _ e)
        · rw [upd_same, et, List.filter_append, List.filter_cons_of_pos hp, List.filter_nil, rf, rf, List.map_append]
          rfl
  · obtain ⟨s, eD⟩ := hv
    rw [rf_len, List.take_length] at eD
    exact k H' s eD
end
/-! ### the lines of a net -/
def pline (q : P3) : Str := Str.empty ++ "pipe " ++ q.1 ++ " " ++ q.2.1 ++ " " ++ q.2.2
def mseal (z : Bool) : Str := if z then " sealed" else ""
def mline (q : M3) : Str := Str.empty ++ "meter " ++ q.1 ++ " " ++ q.2.1 ++ mseal q.2.2
def netL (ps : List P3) (ms : List M3) : List Str := ps.map pline ++ ms.map mline
def netT (ps : List P3) (ms : List M3) : Str := Txt.join "\n" (netL ps ms)
def sp_pline (CP : Addr) : Sp := fun vs H Q _ => ∃ (a : Addr) (q : P3), vs = [.ref a] ∧ PipeAt CP H a q ∧ IsNm q.1 ∧ IsNm q.2.1 ∧ IsNm q.2.2 ∧ Q (.str (pline q)) H
def sp_mline (CM : Addr) : Sp := fun vs H Q _ => ∃ (a : Addr) (q : M3), vs = [.ref a] ∧ MetAt CM H a q ∧ IsNm q.1 ∧ IsNm q.2.1 ∧ Q (.str (mline q)) H
/-- names that a text is made of -/
def PNm (ps : List P3) : Prop := ∀ p ∈ ps, IsNm p.1 ∧ IsNm p.2.1 ∧ IsNm p.2.2
def MNm (ms : List M3) : Prop := ∀ p ∈ ms, IsNm p.1 ∧ IsNm p.2.1
def sp_lines (K : PySem.W.Frag) (CP CM : Addr) : Sp := fun vs H Q _ => ∃ (tp tm : Addr) (pu : List PU) (mu : List MU), vs = [.ref tp, .ref tm] ∧ Tps K CP H tp pu ∧ Tms K CM H tm mu ∧ PNm (sn pu) ∧ MNm (sn mu) ∧ pu.length ≤ 20 ∧ mu.length ≤ 20 ∧
  ∀ l H', Kp H [(l, .lst ((netL (sn pu) (sn mu)).map V.str))] H' → Q (.ref l) H'
def sp_nstr (K : PySem.W.Frag) (CN CP CM : Addr) : Sp := fun vs H Q _ => ∃ (x : Addr) (ps : List P3) (ms : List M3), vs = [.ref x] ∧ NetR K CN CP CM H x ps ms ∧ PNm ps ∧ MNm ms ∧ ps.length ≤ 20 ∧ ms.length ≤ 20 ∧ ∀ H', Same H H' → Q (.str (netT ps ms)) H'
theorem nm8 {x : Str} (h : IsNm x) : 1 ≤ x.length ∧ x.length ≤ 8 := by rw [cd_len]; exact isNm_len h
end RV
set_option linter.all false
/-! == of tuples of own objects: all equal, or one of them empty -/
namespace GQ
open PySem PySem.SeqAt
open AutoSeq1 (wpAny_loadPart')
open MeetsSeq MeetsSeq2 MeetsSeq3 SeqRoads2
section
variable {prog : Program} {w : World} {A : Around} {R : Result → Shared → Prop}
theorem rv_tuple_eq0 (l b : Addr) (items items2 : Array Value) (n n2 : Nat) (dd dd2 : Option Addr) (sl sl2 : Array (Option Value)) (h0 : items.size = 0 ∨ items2.size = 0) (hne : items.size ≠ items2.size)
    {s : Shared} (fin : R (.ok (.ret (.bool false))) s) (hl1 : s.heap.get? l = some { cls := .type "tuple", dict := dd, data := .seq items n, slots := sl }) (hb1 : s.heap.get? b = some { cls := .type "tuple", dict := dd2, data := .seq items2 n2, slots := sl2 }) :
    wpAny (model prog w) A.in1 (Builtin.«tuple.__eq__» ⟨[.ref l, .ref b], []⟩) (FinOf prog w A R) (fun e s' => R (.error e) s') s := by
  have f2 := AutoSeq1.sub_tuple_tuple
  have hZ : items.toList.zip items2.toList = [] := by
    rcases h0 with h | h
    · rw [show items = #[] from Array.eq_empty_of_size_eq_zero h]
      rfl
    · rw [show items2 = #[] from Array.eq_empty_of_size_eq_zero h]
      simp
  have hs : ∃ t, t = s := ⟨s, rfl⟩
  obtain ⟨t, ht⟩ := hs
  obtain ⟨hp, g, d, tk, os⟩ := s
  wp_walk using wpAny_loadPart' hl1, wpAny_loadPart' hb1, wpAny_forIn_list _ (fun rest b s' => b.1 = none ∧ rest = [] ∧ s' = t) _
  case turn =>
    rintro ⟨y, x⟩ rest b s' ⟨_, hz, _⟩
    cases hz
  case fin =>
    rintro ⟨b1, b2⟩ s' ⟨hb', _, hs'⟩
    simp only at hb'
    subst hb'
    subst hs'
    subst ht
    wp_walk
    have e : (items.size == items2.size) = false := by simpa using hne
    simp only [Builtin.Tuple.tupleCompareSizes]
    show R (.ok (.ret (.bool (items.size == items2.size)))) _
    rw [e]
    exact fin
  case h =>
    exact ⟨rfl, hZ, ht.symm⟩
end
section
variable {prog : Program} {w : World} {A : Around} {E : Value → Shared → Prop} {s : Shared}
theorem rv_rc_tup0 {l b : Addr} {items items2 : Array Value} {Q : Value → Shared → Prop} (h0 : items.size = 0 ∨ items2.size = 0) (hne : items.size ≠ items2.size) (hu : A.units < cLine)
    (hl : s.heap.IsTuple l items) (hb : s.heap.IsTuple b items2) (fin : Q (.bool false) s) : wpAny (model prog w) A (richCompare .Eq (.ref l) (.ref b)) Q E s := by
  obtain ⟨⟨cls, dd, data, sl⟩, ho, hc, n, hd⟩ := id hl
  obtain ⟨⟨cls2, dd2, data2, sl2⟩, ho2, hc2, n2, hd2⟩ := id hb
  simp only at hc hd hc2 hd2
  subst hc hd hc2 hd2
  refine wpAny_richCompare_same_room (op := .Eq) ⟨_, ho, rfl⟩ ⟨_, ho2, rfl⟩ F.slot_tuple_eq (call_here F.slot_tuple_eq ⟨_, ho, rfl⟩ F.entry_tuple_eq (F.args_tuple_eq_2 _ _) ?_) hu
  exact rv_tuple_eq0 (R := wants (fun v s' => v ≠ .notImplemented ∧ Q v s') E) l b items items2 n n2 dd dd2 sl sl2 h0 hne ⟨(fun x => nomatch x), fin⟩ ho ho2
end
end GQ
namespace RV
open PySem L2 PyProof.Rows
def rEqTup (K : PySem.W.Frag) (D : Eqv) : R2 := fun x y H Q => (DTup K D x y H ∧ ∀ H', Ext H H' → Q (.bl true) H') ∨
  (∃ a b xs ys, x = .ref a ∧ y = .ref b ∧ SqT K H a xs ∧ SqT K H b ys ∧ (xs.length = 0 ∨ ys.length = 0) ∧ xs.length ≠ ys.length ∧ Q (.bl false) H)
theorem op_eqTup {X : Cx} {n : Nat} {D : Eqv} (h : RcG X n (DTup X.K D)) (hr : Room n X.A) : OpR X (compareOp .Eq) (rEqTup X.K D) := by
  intro pins s σ H x y v u Q I rx ry hq
  rcases hq with hq | hq
  · exact op_eqG h hr pins s σ H x y v u Q I rx ry hq
  · obtain ⟨a, b, xs, ys, rfl, rfl, ha, hb, h0, hne, q⟩ := hq
    cases rx
    cases ry
    obtain ⟨its, r, e, z⟩ := I.tuple ha
    obtain ⟨its2, r2, e2, z2⟩ := I.tuple hb
    show wpAny (model X.prog X.w) X.A (richCompare .Eq (.ref a) (.ref b)) (EP X pins σ Q) X.xe s
    refine GQ.rv_rc_tup0 (items := its.toArray) (items2 := its2.toArray) ?_ ?_ hr.units0 e e2 ⟨.bl false, H, I, rfl, q⟩
    · rw [List.size_toArray, List.size_toArray, ← r.length, ← r2.length]
      exact h0
    · rw [List.size_toArray, List.size_toArray, ← r.length, ← r2.length]
      exact hne
/-- two of a kind that are equal -/
def SmP (C : Addr) : Addr → Addr → Hp → Prop := fun a b H => ∃ q, PipeAt C H a q ∧ PipeAt C H b q
def SmM (C : Addr) : Addr → Addr → Hp → Prop := fun a b H => ∃ q, MetAt C H a q ∧ MetAt C H b q
theorem rc_pipes {X : Cx} {C : Addr} (h : OwnEq X.prog X.w X.K X.mg X.base C 1 (sp_Peq C)) : RcG X 2 (DTup X.K (DIns C (SmP C))) := by
  obtain ⟨f, fd, ps, a, b, c, F⟩ := h.fn
  refine rcG_tup (mon_ins fun a b H H' e z => ?_) (eqG_ins (CX := CX0) (E := E0) (F.imp fun vs H Q E z => ?_) a b c pass0)
  · obtain ⟨q, h1, h2⟩ := z
    exact ⟨q, h1.ext e, h2.ext e⟩
  · obtain ⟨a, b, rfl, ⟨q, h1, h2⟩, k⟩ := z
    exact ⟨a, b, q, q, rfl, h1, h2, by rw [decide_eq_true rfl]; exact k H Ext.rfl'⟩
theorem rc_meters {X : Cx} {C : Addr} (h : OwnEq X.prog X.w X.K X.mg X.base C 1 (sp_Meq C)) : RcG X 2 (DTup X.K (DIns C (SmM C))) := by
  obtain ⟨f, fd, ps, a, b, c, F⟩ := h.fn
  refine rcG_tup (mon_ins fun a b H H' e z => ?_) (eqG_ins (CX := CX0) (E := E0) (F.imp fun vs H Q E z => ?_) a b c pass0)
  · obtain ⟨q, h1, h2⟩ := z
    exact ⟨q, h1.ext e, h2.ext e⟩
  · obtain ⟨a, b, rfl, ⟨q, h1, h2⟩, k⟩ := z
    exact ⟨a, b, q, q, rfl, h1, h2, by rw [decide_eq_true rfl]; exact k H Ext.rfl'⟩
/-- two nets with the same pipes: their meters the same, or one of them has none -/
def sp_Neq (K : PySem.W.Frag) (CN CP CM : Addr) : Sp := fun vs H Q _ => ∃ (a b : Addr) (ps : List P3) (ms ms' : List M3), vs = [.ref a, .ref b] ∧ NetR K CN CP CM H a ps ms ∧ NetR K CN CP CM H b ps ms' ∧ (ms = ms' ∨ ms = [] ∨ ms' = []) ∧ ∀ H', Same H H' → Q (.bl (decide (ms = ms'))) H'
theorem dtup_of {α : Type} {K : PySem.W.Frag} {C a b : Addr} {H : Hp} {R : Addr → Addr → Hp → Prop} {us vs : List (Addr × α)} (ha : SqT K H a (rf us)) (hb : SqT K H b (rf vs)) (e : sn us = sn vs)
    (hi : ∀ (i : Nat) (u v : Addr × α), us[i]? = some u → vs[i]? = some v → u.2 = v.2 → DIns C R (.ref u.1) (.ref v.1) H) : DTup K (DIns C R) (.ref a) (.ref b) H := by
  refine ⟨a, b, _, _, rfl, rfl, ha, hb, ?_, fun i x y hx hy => ?_⟩
  · rw [rf_len, rf_len, ← sn_len, e, sn_len]
  · rw [rf, List.getElem?_map] at hx hy
    cases hu : us[i]? with
    | none => rw [hu] at hx; cases hx
    | some u =>
      cases hv : vs[i]? with
      | none => rw [hv] at hy; cases hy
      | some v =>
        rw [hu] at hx
        rw [hv] at hy
        obtain rfl : V.ref u.1 = x := Option.some.inj hx
        obtain rfl : V.ref v.1 = y := Option.some.inj hy
        refine hi i u v hu hv ?_
        have h1 : (sn us)[i]? = some u.2 := by rw [sn, List.getElem?_map, hu]; rfl
        have h2 : (sn vs)[i]? = some v.2 := by rw [sn, List.getElem?_map, hv]; rfl
        rw [e, h2] at h1
        exact (Option.some.inj h1).symm
end RV
/-! a net's text, cut into rows -/
namespace RV
open PySem L2 PyProof.Rows TL
theorem pline_len {q : P3} (h1 : IsNm q.1) (h2 : IsNm q.2.1) (h3 : IsNm q.2.2) : (pline q).length ≤ 40 := by
  have l1 := nm8 h1
  have l2 := nm8 h2
  have l3 := nm8 h3
  have e1 : Str.length " " = 1 := by decide +kernel
  have e2 : Str.length Str.empty = 0 := by decide +kernel
  have e3 : Str.length "pipe " = 5 := by decide +kernel
  unfold pline
  rw [sl_app, sl_app, sl_app, sl_app, sl_app, sl_app, e1, e2, e3]
  omega
theorem mline_len {q : M3} (h1 : IsNm q.1) (h2 : IsNm q.2.1) : (mline q).length ≤ 40 := by
  have l1 := nm8 h1
  have l2 := nm8 h2
  have e1 : Str.length " " = 1 := by decide +kernel
  have e2 : Str.length Str.empty = 0 := by decide +kernel
  have e3 : Str.length "meter " = 6 := by decide +kernel
  have e4 : (mseal q.2.2).length ≤ 7 := by
    cases q.2.2
    · show Str.length "" ≤ 7
      decide +kernel
    · show Str.length " sealed" ≤ 7
      decide +kernel
  unfold mline
  rw [sl_app, sl_app, sl_app, sl_app, sl_app, e1, e2, e3]
  omega
theorem netL_sum {ps : List P3} {ms : List M3} (hp : PNm ps) (hm : MNm ms) : ((netL ps ms).map (·.length)).sum ≤ 40 * (ps.length + ms.length) := by
  have h : ∀ xs : List Str, (∀ x ∈ xs, x.length ≤ 40) → (xs.map (·.length)).sum ≤ 40 * xs.length := by
    intro xs
    induction xs with
    | nil => intro _; exact Nat.le_refl _
    | cons x xs ih =>
      intro h
      have a := h x List.mem_cons_self
      have b := ih fun y hy => h y (List.mem_cons_of_mem _ hy)
      simp only [List.map_cons, List.sum_cons, List.length_cons]
      omega
  have := h (netL ps ms) fun x hx => by
    rcases List.mem_append.mp hx with hx | hx
    · obtain ⟨q, hq, rfl⟩ := List.mem_map.mp hx
      exact pline_len (hp q hq).1 (hp q hq).2.1 (hp q hq).2.2
    · obtain ⟨q, hq, rfl⟩ := List.mem_map.mp hx
      exact mline_len (hm q hq).1 (hm q hq).2
  rw [netL, List.length_append, List.length_map, List.length_map] at this
  exact this
def prow (q : P3) : List Str := ["pipe", q.1, q.2.1, q.2.2]
def mrow (q : M3) : List Str := if q.2.2 then ["meter", q.1, q.2.1, "sealed"] else ["meter", q.1, q.2.1]
def rowsL (ps : List P3) (ms : List M3) : List (List Str) := ps.map prow ++ ms.map mrow
theorem nm_no {x : Str} (h : IsNm x) {c : Nat} (hc : tailC c = false) : c ∉ cd x := fun z => by
  have := List.all_eq_true.mp (isNm_all h) c z
  rw [hc] at this
  cases this
theorem cd_pipe : cd "pipe" = [112, 105, 112, 101] := by decide +kernel
theorem cd_pipe1 : cd "pipe " = [112, 105, 112, 101, 32] := by decide +kernel
theorem cd_meter : cd "meter" = [109, 101, 116, 101, 114] := by decide +kernel
theorem cd_meter1 : cd "meter " = [109, 101, 116, 101, 114, 32] := by decide +kernel
theorem cd_sealed : cd "sealed" = [115, 101, 97, 108, 101, 100] := by decide +kernel
theorem cd_sealed1 : cd " sealed" = [32, 115, 101, 97, 108, 101, 100] := by decide +kernel
theorem cd_nl : cd "\n" = [10] := by decide +kernel
theorem pline_cd (q : P3) : cd (pline q) = [112, 105, 112, 101, 32] ++ (cd q.1 ++ (32 :: (cd q.2.1 ++ (32 :: cd q.2.2)))) := by
  unfold pline
  repeat rw [cd_app]
  rw [cd_em, cd_pipe1, cd_sp]
  simp
theorem mline_cd (q : M3) : cd (mline q) = [109, 101, 116, 101, 114, 32] ++ (cd q.1 ++ (32 :: (cd q.2.1 ++ (if q.2.2 then [32, 115, 101, 97, 108, 101, 100] else [])))) := by
  unfold mline
  repeat rw [cd_app]
  rw [cd_em, cd_meter1, cd_sp]
  cases q.2.2
  · rw [show mseal false = "" from rfl, cd_no]
    simp
  · rw [show mseal true = " sealed" from rfl, cd_sealed1]
    simp
theorem pline_join (q : P3) : pline q = Txt.join " " (prow q) := cd_inj (by
  rw [pline_cd, join_eq, prow]
  show _ = tl _
  rw [tl_join]
  show _ = joinL (cd " ") [cd "pipe", cd q.1, cd q.2.1, cd q.2.2]
  rw [cd_sp, cd_pipe]
  simp [joinL])
theorem mline_join (q : M3) : mline q = Txt.join " " (mrow q) := cd_inj (by
  rw [mline_cd, join_eq, mrow]
  show _ = tl _
  rw [tl_join]
  cases q.2.2
  · show _ = joinL (cd " ") [cd "meter", cd q.1, cd q.2.1]
    rw [cd_sp, cd_meter]
    simp [joinL]
  · show _ = joinL (cd " ") [cd "meter", cd q.1, cd q.2.1, cd "sealed"]
    rw [cd_sp, cd_meter, cd_sealed]
    simp [joinL])
theorem split_pline {q : P3} (h1 : IsNm q.1) (h2 : IsNm q.2.1) (h3 : IsNm q.2.2) : Txt.split (pline q) " " = prow q := by
  rw [pline_join]
  refine split_join (s := 32) (S := []) cd_sp (by decide +kernel) (by simp [prow]) fun p hp => ?_
  simp only [prow, List.mem_cons, List.not_mem_nil, or_false] at hp
  rcases hp with rfl | rfl | rfl | rfl
  · decide +kernel
  · exact nm_no h1 (by decide)
  · exact nm_no h2 (by decide)
  · exact nm_no h3 (by decide)
theorem split_mline {q : M3} (h1 : IsNm q.1) (h2 : IsNm q.2.1) : Txt.split (mline q) " " = mrow q := by
  rw [mline_join]
  refine split_join (s := 32) (S := []) cd_sp (by decide +kernel) (by unfold mrow; split <;> simp) fun p hp => ?_
  unfold mrow at hp
  split at hp
  · simp only [List.mem_cons, List.not_mem_nil, or_false] at hp
    rcases hp with rfl | rfl | rfl | rfl
    · decide +kernel
    · exact nm_no h1 (by decide)
    · exact nm_no h2 (by decide)
    · decide +kernel
  · simp only [List.mem_cons, List.not_mem_nil, or_false] at hp
    rcases hp with rfl | rfl | rfl
    · decide +kernel
    · exact nm_no h1 (by decide)
    · exact nm_no h2 (by decide)
theorem split_netT {ps : List P3} {ms : List M3} (h0 : ps ≠ []) (hp : PNm ps) (hm : MNm ms) : Txt.split (netT ps ms) "\n" = netL ps ms := by
  refine split_join (s := 10) (S := []) cd_nl (by decide +kernel) (fun e => h0 (List.map_eq_nil_iff.mp (List.append_eq_nil_iff.mp e).1)) fun p hpp => ?_
  have n10 : ∀ {x : Str}, IsNm x → 10 ∉ cd x := fun h => nm_no h (by decide)
  rcases List.mem_append.mp hpp with h | h
  · obtain ⟨q, hq, rfl⟩ := List.mem_map.mp h
    show 10 ∉ cd (pline q)
    rw [pline_cd]
    have := n10 (hp q hq).1
    have := n10 (hp q hq).2.1
    have := n10 (hp q hq).2.2
    simp [*]
  · obtain ⟨q, hq, rfl⟩ := List.mem_map.mp h
    show 10 ∉ cd (mline q)
    rw [mline_cd]
    have := n10 (hm q hq).1
    have := n10 (hm q hq).2
    cases q.2.2 <;> simp [*]
theorem netT_len {ps : List P3} {ms : List M3} (hp : PNm ps) (hm : MNm ms) (pl : ps.length ≤ 20) (ml : ms.length ≤ 20) : (netT ps ms).length ≤ 5000 := by
  have h1 := netL_sum hp hm
  have e : ∀ xs : List Str, (Txt.join "\n" xs).length ≤ (xs.map (·.length)).sum + xs.length := by
    intro xs
    rw [join_eq, len_tl, tl_join, show tl "\n" = [10] from cd_nl]
    induction xs with
    | nil => simp [joinL]
    | cons x xs ih =>
      cases xs with
      | nil => simp [joinL, len_tl]
      | cons y ys =>
        show (tl x ++ ([10] ++ joinL [10] ((y :: ys).map tl))).length ≤ _
        rw [List.length_append, List.length_append]
        simp only [List.map_cons, List.sum_cons, List.length_cons, List.length_nil] at ih ⊢
        rw [← len_tl]
        omega
  have h2 : (netL ps ms).length = ps.length + ms.length := by rw [netL, List.length_append, List.length_map, List.length_map]
  have := e (netL ps ms)
  unfold netT
  omega
/-- lists of words, each at its address -/
abbrev RU := Addr × List Str
structure Rws (H : Hp) (l : Addr) (us : List RU) : Prop where
  l : H l = some (.lst (rf us))
  o : ∀ u ∈ us, H u.1 = some (.lst (u.2.map V.str))
structure TOk (ps : List P3) (ms : List M3) : Prop where
  n0 : ps ≠ []
  pn : PNm ps
  mn : MNm ms
  pl : ps.length ≤ 20
  ml : ms.length ≤ 20
def sp_rows : Sp := fun vs H Q _ => ∃ (ps : List P3) (ms : List M3), vs = [.str (netT ps ms)] ∧ TOk ps ms ∧ ∀ (l : Addr) (us : List RU) H', Same H H' → Rws H' l us → sn us = rowsL ps ms → Q (.ref l) H'
def sp_pin (K : PySem.W.Frag) (CP : Addr) : Sp := fun vs H Q _ => ∃ (ps : List P3) (ms : List M3), vs = [.str (netT ps ms)] ∧ TOk ps ms ∧ POk ps ∧ ∀ (t : Addr) (us : List PU) H', Same H H' → Tps K CP H' t us → sn us = ps → Q (.ref t) H'
def sp_min (K : PySem.W.Frag) (CM : Addr) : Sp := fun vs H Q _ => ∃ (ps : List P3) (ms : List M3), vs = [.str (netT ps ms)] ∧ TOk ps ms ∧ ∀ (t : Addr) (us : List MU) H', Same H H' → Tms K CM H' t us → sn us = ms → Q (.ref t) H'
def sp_nread (K : PySem.W.Frag) (CN CP CM : Addr) : Sp := fun vs H Q _ => ∃ (ps : List P3) (ms : List M3), vs = [.ref CN, .str (netT ps ms)] ∧ POk ps ∧ MOk ps ms ∧ ∀ (x : Addr) H', Same H H' → NetR K CN CP CM H' x ps ms → Q (.ref x) H'
theorem POk.pn {ps : List P3} (h : POk ps) : PNm ps := fun p hp => ⟨(h.nm p hp).1, (h.nm p hp).2.1, (h.nm p hp).2.2.1⟩
theorem MOk.mn {ps : List P3} {ms : List M3} (h : MOk ps ms) : MNm ms := h.nm
theorem TOk.of {ps : List P3} {ms : List M3} (h : POk ps) (k : MOk ps ms) : TOk ps ms := ⟨h.n0, h.pn, k.mn, Nat.le_trans h.ln (by decide), Nat.le_trans k.ln (by decide)⟩
/-- the rows of the pipes, of the meters -/
def isP (r : List Str) : Bool := decide (r[0]? = some ("pipe" : Str))
def isM (r : List Str) : Bool := decide (r[0]? = some ("meter" : Str))
theorem p_ne_m : ¬ (("pipe" : Str) = "meter") := by decide +kernel
theorem isP_p (q : P3) : isP (prow q) = true := decide_eq_true rfl
theorem isM_p (q : P3) : isM (prow q) = false := decide_eq_false fun h => p_ne_m (Option.some.inj h)
theorem isP_m (q : M3) : isP (mrow q) = false := by
  unfold isP mrow
  split
  · exact decide_eq_false fun h => p_ne_m (Option.some.inj h).symm
  · exact decide_eq_false fun h => p_ne_m (Option.some.inj h).symm
theorem isM_m (q : M3) : isM (mrow q) = true := by
  unfold isM mrow
  split
  · exact decide_eq_true rfl
  · exact decide_eq_true rfl
theorem rows_p (ps : List P3) (ms : List M3) : (rowsL ps ms).filter isP = ps.map prow := by
  rw [rowsL, List.filter_append, List.filter_eq_self.mpr, List.filter_eq_nil_iff.mpr, List.append_nil]
  · intro r hr
    obtain ⟨q, _, rfl⟩ := List.mem_map.mp hr
    rw [isP_m]
    decide
  · intro r hr
    obtain ⟨q, _, rfl⟩ := List.mem_map.mp hr
    exact isP_p q
theorem rows_m (ps : List P3) (ms : List M3) : (rowsL ps ms).filter isM = ms.map mrow := by
  rw [rowsL, List.filter_append, List.filter_eq_nil_iff.mpr, List.filter_eq_self.mpr, List.nil_append]
  · intro r hr
    obtain ⟨q, _, rfl⟩ := List.mem_map.mp hr
    exact isM_m q
  · intro r hr
    obtain ⟨q, _, rfl⟩ := List.mem_map.mp hr
    rw [isM_p]
    decide
theorem sn_filter {α : Type} (f : α → Bool) (us : List (Addr × α)) : sn (us.filter fun u => f u.2) = (sn us).filter f := by
  rw [sn, sn, List.filter_map]
  rfl
theorem sn_get {α : Type} {us : List (Addr × α)} {i : Nat} {u : Addr × α} (h : us[i]? = some u) : (sn us)[i]? = some u.2 := by rw [sn, List.getElem?_map, h]; rfl
theorem rf_get {α : Type} {us : List (Addr × α)} {i : Nat} {x : V} (h : (rf us)[i]? = some x) : ∃ u, us[i]? = some u ∧ x = .ref u.1 := by
  rw [rf, List.getElem?_map] at h
  cases e : us[i]? with
  | none => rw [e] at h; cases h
  | some u => rw [e] at h; exact ⟨u, rfl, (Option.some.inj h).symm⟩
def gM2 (vs zs : List V) : List V := match vs, zs with
  | [x, n, a], [z] => [x, n, a, z]
  | _, _ => []
end RV
/-! nets as a law lays them: rows of pipes, rows of meters -/
namespace RV
open PySem L2 PyProof.Rows TL
section
variable {X : Cx} {K : PySem.W.Frag} {o e : Expr} {to te : TE}
end
def oY (q : P3) : HO := .tup [.str q.1, .str q.2.1, .str q.2.2]
def oZ (q : M3) : HO := .tup [.str q.1, .str q.2.1, .bl q.2.2]
structure Lay (H : Hp) (l : Addr) (us : List PU) : Prop where
  l : H l = some (.lst (rf us))
  o : ∀ u ∈ us, H u.1 = some (oY u.2)
structure Fts (H : Hp) (l : Addr) (us : List MU) : Prop where
  l : H l = some (.lst (rf us))
  o : ∀ u ∈ us, H u.1 = some (oZ u.2)
def lY (us : List PU) : List (Addr × HO) := us.map fun u => (u.1, oY u.2)
def lZ (us : List MU) : List (Addr × HO) := us.map fun u => (u.1, oZ u.2)
/-- rows of pipes -/
structure LOk (ps : List P3) : Prop where
  nm : ∀ p ∈ ps, IsNm p.1 ∧ IsNm p.2.1 ∧ IsNm p.2.2 ∧ p.2.2 ≠ p.2.1
  nd : (ps.map (·.1)).Nodup
/-- laid(well, lo, hi) -/
def sp_laid : Sp := fun vs H Q _ => ∃ (a : Addr) (n lo hi : Nat), vs = [.ref a, .int lo, .int hi] ∧ WellAt H a n ∧ n < 600000 ∧ lo ≤ hi ∧ hi ≤ 12 ∧
  ∀ (l : Addr) (us : List PU) H', H l = none → l ≠ a → Grow a H H' → WellAt H' a (n + 1000) → Lay H' l us → LOk (sn us) → lo ≤ us.length → us.length ≤ hi → Q (.ref l) H'
/-- fits(well, laid, most) -/
def sp_fits : Sp := fun vs H Q _ => ∃ (a t : Addr) (n hi : Nat) (us : List PU), vs = [.ref a, .ref t, .int hi] ∧ WellAt H a n ∧ n < 600000 ∧ t ≠ a ∧ Lay H t us ∧ LOk (sn us) ∧ 1 ≤ us.length ∧ us.length ≤ 12 ∧ hi ≤ 12 ∧
  ∀ (l : Addr) (ms : List MU) H', H l = none → l ≠ a → Grow a H H' → WellAt H' a (n + 1000) → Fts H' l ms → MOk (sn us) (sn ms) → ms.length ≤ hi → Q (.ref l) H'
/-- net(laid, fits) -/
def sp_lnet (K : PySem.W.Frag) (CN CP CM : Addr) : Sp := fun vs H Q _ => ∃ (l m : Addr) (us : List PU) (ms : List MU), vs = [.ref l, .ref m] ∧ Lay H l us ∧ Fts H m ms ∧ POk (sn us) ∧ MOk (sn us) (sn ms) ∧
  ∀ (x : Addr) H', Same H H' → NetR K CN CP CM H' x (sn us) (sn ms) → Q (.ref x) H'
/-- net_text(laid, fits) -/
def sp_ltext : Sp := fun vs H Q _ => ∃ (l m : Addr) (us : List PU) (ms : List MU), vs = [.ref l, .ref m] ∧ Lay H l us ∧ Fts H m ms ∧ TOk (sn us) (sn ms) ∧ ∀ H', Same H H' → Q (.str (netT (sn us) (sn ms))) H'
/-- is(net, laid, fits): it is the one -/
def sp_isN (K : PySem.W.Frag) (CN CP CM : Addr) : Sp := fun vs H Q _ => ∃ (x l m : Addr) (us : List PU) (ms : List MU), vs = [.ref x, .ref l, .ref m] ∧ NetR K CN CP CM H x (sn us) (sn ms) ∧ Lay H l us ∧ Fts H m ms ∧ POk (sn us) ∧ MOk (sn us) (sn ms) ∧
  ∀ H', Same H H' → Q (.bl true) H'
theorem Has.add {H0 H : Hp} {a p : Addr} {n : Nat} {L : List (Addr × HO)} {o : HO} (h : Has H0 a n L H) (n0 : p ≠ a) (e : H p = some o) : Has H0 a n ((p, o) :: L) H :=
  ⟨h.gr, h.well, fun q hq => by
    rcases List.mem_cons.mp hq with rfl | hq
    · exact ⟨n0, e⟩
    · exact h.here q hq⟩
theorem mline_app (q : M3) : ("meter " : Str) ++ q.1 ++ " " ++ q.2.1 ++ mseal q.2.2 = mline q := cd_inj (by
  unfold mline
  repeat rw [cd_app]
  rw [cd_em, List.nil_append])
theorem nodup_snoc {α : Type} {xs : List α} {x : α} (h : xs.Nodup) (hx : x ∉ xs) : (xs ++ [x]).Nodup := by
  rw [List.nodup_append]
  exact ⟨h, by simp, fun a ha b hb e => hx (by rw [List.mem_singleton.mp hb] at e; rw [← e]; exact ha)⟩
theorem nodup_get {α : Type} {xs : List α} (h : xs.Nodup) {i j : Nat} {hi : i < xs.length} {hj : j < xs.length} (e : xs[i] = xs[j]) : i = j := by
  have p := List.pairwise_iff_getElem.mp h
  rcases Nat.lt_trichotomy i j with z | z | z
  · exact absurd e (p i j hi hj z)
  · exact z
  · exact absurd e.symm (p j i hj hi z)
/-- another place -/
theorem step_ne {n i j : Nat} (hi : i < n) (hj : j + 1 < n) : (i + (1 + j)) % n ≠ i := by
  intro h
  rcases Nat.lt_or_ge (i + (1 + j)) n with z | z
  · rw [Nat.mod_eq_of_lt z] at h
    omega
  · rw [Nat.mod_eq_sub_mod z, Nat.mod_eq_of_lt (by omega)] at h
    omega
end RV
/-! nested data that can be shown -/
namespace RV
open PySem L2 PyProof.Rows TL
structure Shw (d : PyData) (n k : Nat) : Prop where
  ok : d.showable = true
  dp : d.depth ≤ n
  ln : d.shown.length ≤ k
theorem shw_all {n k : Nat} : ∀ {ds : List PyData}, (∀ d ∈ ds, Shw d n k) → PyData.showableAll ds = true ∧ PyData.depthAll ds ≤ n ∧ ((PyData.shownAll ds).map (·.length)).sum ≤ k * ds.length ∧ (PyData.shownAll ds).length = ds.length
  | [], _ => by simp [PyData.showableAll, PyData.depthAll, PyData.shownAll]
  | d :: ds, h => by
    obtain ⟨a1, a2, a3⟩ := h d List.mem_cons_self
    obtain ⟨b1, b2, b3, b4⟩ := shw_all fun e he => h e (List.mem_cons_of_mem _ he)
    refine ⟨by simp [PyData.showableAll, a1, b1], ?_, ?_, by simp [PyData.shownAll, b4]⟩
    · simp only [PyData.depthAll]
      omega
    · simp only [PyData.shownAll, List.map_cons, List.sum_cons, List.length_cons]
      rw [Nat.mul_succ]
      omega
theorem shw_tuple {n k : Nat} {ds : List PyData} (h : ∀ d ∈ ds, Shw d n k) : Shw (.tuple ds) (n + 1) ((k + 2) * ds.length + 3) := by
  obtain ⟨a1, a2, a3, a4⟩ := shw_all h
  refine ⟨by simp only [PyData.showable, a1], by simp only [PyData.depth]; omega, ?_⟩
  have e : (PyData.tuple ds).shown = tupleText (PyData.shownAll ds) := by simp only [PyData.shown]
  rw [e]
  have := tupleText_len_le (PyData.shownAll ds)
  rw [Nat.add_mul]
  omega
theorem Shw.mono {d : PyData} {n k m j : Nat} (h : Shw d n k) (a : n ≤ m) (b : k ≤ j) : Shw d m j := ⟨h.ok, Nat.le_trans h.dp a, Nat.le_trans h.ln b⟩
theorem rRepr_of {K : PySem.W.Frag} {a : Addr} {d : PyData} {H : Hp} {Q : VK} {k : Nat} (hd : Dp K H (.ref a) d) (h : Shw d 60 k) (hk : k ≤ 1000000) (q : Q (.str d.shown) H) : rRepr K [.ref a] H Q := by
  unfold rRepr
  exact ⟨a, d, rfl, hd, h.ok, h.dp, Nat.le_trans h.ln (Nat.le_trans hk (by decide)), q⟩
/-! ### rows of pipes and meters as data -/
def dY (q : P3) : PyData := .tuple [.str q.1, .str q.2.1, .str q.2.2]
def dZ (q : M3) : PyData := .tuple [.str q.1, .str q.2.1, .bool q.2.2]
def dN (ps : List P3) (ms : List M3) : PyData := .list [.list (ps.map dY), .list (ms.map dZ)]
end RV
/-! a net's text is plain; nets compared -/
namespace RV
open PySem L2 PyProof.Rows TL
/-- the law's row -/
def sp_rightN : Sp := fun vs H Q _ => ∃ (a : Addr) (n : Nat), vs = [.ref a] ∧ WellAt H a n ∧ n < 500000 ∧ ∀ H', Grow a H H' → WellAt H' a (n + 3000) → Q (.bl true) H'
end RV
/-! names of the laws over scripts -/
namespace RV
open PySem L2 PyProof.Rows TL
section
variable {D : Addr} {xs : List V} {i : Nat} {te : TE} {tt : TT} {vs : List Nat} {σ : L2.St} {H1 : Hp} {Qd : Hp → Prop} {J : It} {GG : Hp → Prop}
/-- [x for x in xs if p(x)]: the test makes no thing -/
theorem lc_keepV (p : V → Bool) (wk : Walk J xs.length GG (YAt xs)) (nD : H1 D = none) (len : xs.length ≤ 1000) (hG : ∀ H', Same H1 H' → GG H') (hw : ∀ x, wipe ((wipe σ vs).set i x) vs = wipe σ vs)
    (ht : ∀ x ∈ xs, ∀ H2, Same H1 H2 → ∀ R : Bool → Hp → Prop, R (p x) H2 → tt ((wipe σ vs).set i (some x)) H2 R)
    (he : ∀ x ∈ xs, ∀ H2, ∀ R : VK, R x H2 → te ((wipe σ vs).set i (some x)) H2 R)
    (k : ∀ H', Same H1 H' → H' D = some (.lst (xs.filter p)) → Qd H') :
    ∃ W : Nat → Nat → Hp → Prop, (∃ m, W 0 m (upd H1 D (.lst []))) ∧ ∀ i' m H, W i' m H →
      (J.stop i' H ∧ Qd H) ∨ (J.go i' H ∧ ∃ Nx : Hp → Prop, (∀ H', Nx H' → ∃ m', m' < m ∧ W (i' + 1) m' H') ∧ ∀ x H', J.yld i' H x H' → gName i x (wipe σ vs) H' fun σ2 H2 => wipe σ2 vs = wipe σ vs ∧ tt σ2 H2 fun b H3 =>
        if b = true then te σ2 H3 fun y H4 => ∃ acc, H4 D = some (.lst acc) ∧ acc.length < sizeLine ∧ Nx (upd H4 D (.lst (acc ++ [y]))) else Nx H3) := by
  refine L2.lc_it wk (fun i' H' => Same H1 H' ∧ H' D = some (.lst ((xs.take i').filter p)))
    ⟨fun b o e => (upd_ne (ne_of_none e nD)).trans e, upd_same⟩ (fun i' H' _ z => hG _ z.1) (fun i' x Ha Hb hi hv y => ?_) (fun H' hv => ?_)
  · obtain ⟨s, eD⟩ := hv
    obtain ⟨rfl, hx⟩ := y
    have hm := List.mem_of_getElem? hx
    have et : xs.take (i' + 1) = xs.take i' ++ [x] := by rw [List.take_add_one, hx]; rfl
    refine ⟨hw _, ht x hm Hb s _ ?_⟩
    cases hp : p x with
    | false =>
      refine iteF ⟨s, ?_⟩
      rw [eD, et, List.filter_append, List.filter_cons_of_neg (by rw [hp]; decide), List.filter_nil, List.append_nil]
    | true =>
      refine iteT (he x hm Hb _ ⟨_, eD, ?_, fun b o e => ?_, ?_⟩)
      · have l1 := List.length_filter_le p (xs.take i')
        have l3 := List.length_take_le' i' xs
        exact Nat.lt_of_le_of_lt (Nat.le_trans l1 (Nat.le_trans l3 len)) (by decide)
      · rw [upd_ne (ne_of_none e nD)]
        exact s _ _ e
      · rw [upd_same, et, List.filter_append, List.filter_cons_of_pos hp, List.filter_nil]
  · obtain ⟨s, eD⟩ := hv
    rw [List.take_length] at eD
    exact k H' s eD
end
/-- the spare names -/
def zn (j : Nat) : Str := ("z" : Str) ++ num (j : Int)
theorem zn_nm {j : Nat} (h : j < 16) : IsNm (zn j) := by
  have : ∀ i : Fin 16, isNm (cd (zn i.val)) = true := by decide +kernel
  exact this ⟨j, h⟩
theorem zn_inj {i j : Nat} (hi : i < 16) (hj : j < 16) (e : zn i = zn j) : i = j := by
  have : ∀ i j : Fin 16, zn i.val = zn j.val → i.val = j.val := by decide +kernel
  exact this ⟨i, hi⟩ ⟨j, hj⟩ e
theorem zn_free {xs : List Str} {m : Nat} (hm : m ≤ 16) (h : xs.length < m) : ∃ j, j < m ∧ zn j ∉ xs := by
  by_cases e : ∃ j, j < m ∧ zn j ∉ xs
  · exact e
  · have all : ∀ j, j < m → zn j ∈ xs := fun j hj => by
      by_cases z : zn j ∈ xs
      · exact z
      · exact absurd ⟨j, hj, z⟩ e
    have nd : ((List.range m).map zn).Nodup := by
      rw [List.Nodup, List.pairwise_map]
      refine List.Pairwise.imp_of_mem ?_ List.nodup_range
      intro a b ha hb hne h
      exact hne (zn_inj (by have := List.mem_range.mp ha; omega) (by have := List.mem_range.mp hb; omega) h)
    have := nodup_len nd fun x hx => by
      obtain ⟨j, hj, rfl⟩ := List.mem_map.mp hx
      exact all j (List.mem_range.mp hj)
    rw [List.length_map, List.length_range] at this
    omega
/-- a letter and further signs -/
theorem isNm_join {c : Nat} {cs : List Nat} (h : lowC c = true) (hc : ∀ x ∈ cs, tailC x = true) (hl : cs.length ≤ 7) : IsNm ((⟨#[c]⟩ : Str) ++ Txt.join "" (cs.map fun x => (⟨#[x]⟩ : Str))) := by
  refine isNm_iff.mpr ⟨c, cs, ?_, h, List.all_eq_true.mpr hc, hl⟩
  show cd _ = c :: cs
  rw [cd_app, cd_one, join_eq]
  show [c] ++ tl _ = _
  rw [tl_join, show tl "" = [] from cd_no, joinL_nil, List.map_map]
  have : ∀ cs : List Nat, (cs.map (tl ∘ fun x => (⟨#[x]⟩ : Str))).flatten = cs := by
    intro cs
    induction cs with
    | nil => rfl
    | cons x cs ih => rw [List.map_cons, List.flatten_cons, ih]; rfl
  rw [this]
  rfl
def words2 : List Str := ["pipe", "meter", "sealed", "go", "if", "vote", "tell", "doubt", "a", "b"]
theorem words2_nm : ∀ x ∈ words2, IsNm x := by
  have : ∀ x ∈ words2, isNm (cd x) = true := by decide +kernel
  exact this
/-- names(well, m) -/
def sp_names : Sp := fun vs H Q _ => ∃ (a : Addr) (n m : Nat), vs = [.ref a, .int m] ∧ WellAt H a n ∧ n < 600000 ∧ m ≤ 12 ∧
  ∀ (l : Addr) (xs : List Str) H', H l = none → l ≠ a → Grow a H H' → WellAt H' a (n + 200) → H' l = some (.lst (xs.map V.str)) → xs.length = m → xs.Nodup → (∀ x ∈ xs, IsNm x) → Q (.ref l) H'
end RV
/-! models of nets, as the laws over scripts draw them -/
namespace RV
open PySem L2 PyProof.Rows TL
abbrev Q3 := Str × Nat × Nat
abbrev G3 := Str × Nat × Bool
def oQ (q : Q3) : HO := .tup [.str q.1, .int (q.2.1 : Int), .int (q.2.2 : Int)]
def oG (q : G3) : HO := .tup [.str q.1, .int (q.2.1 : Int), .bl q.2.2]
/-- places, pipes between them by index, gauges at pipes by index -/
structure Mod where
  pl : List Str
  qs : List Q3
  gs : List G3
structure MdOk (M : Mod) (most more : Nat) : Prop where
  p2 : 2 ≤ M.pl.length
  p4 : M.pl.length ≤ 4
  pn : ∀ x ∈ M.pl, IsNm x
  pd : M.pl.Nodup
  q2 : 2 ≤ M.qs.length
  qm : M.qs.length ≤ most
  qn : ∀ q ∈ M.qs, IsNm q.1 ∧ q.2.1 < M.pl.length ∧ q.2.2 < M.pl.length ∧ q.2.1 ≠ q.2.2
  qd : (M.qs.map (·.1)).Nodup
  gm : M.gs.length ≤ more
  gn : ∀ g ∈ M.gs, IsNm g.1 ∧ g.2.1 < M.qs.length
  gd : (M.gs.map (·.1)).Nodup
abbrev QU := Addr × Q3
abbrev GU := Addr × G3
/-- what a model is in the heap -/
def lM (l lp lq lg : Addr) (pl : List Str) (pu : List QU) (gu : List GU) : List (Addr × HO) :=
  (l, .lst [.ref lp, .ref lq, .ref lg]) :: (lp, .lst (pl.map V.str)) :: (lq, .lst (rf pu)) :: (lg, .lst (rf gu)) :: (pu.map (fun u => (u.1, oQ u.2)) ++ gu.map fun u => (u.1, oG u.2))
def sp_model : Sp := fun vs H Q _ => ∃ (a : Addr) (n most more : Nat), vs = [.ref a, .int most, .int more] ∧ WellAt H a n ∧ n < 500000 ∧ 2 ≤ most ∧ most ≤ 12 ∧ more ≤ 12 ∧
  ∀ (l lp lq lg : Addr) (pl : List Str) (pu : List QU) (gu : List GU) H', Has H a (n + 2000) (lM l lp lq lg pl pu gu) H' → MdOk ⟨pl, sn pu, sn gu⟩ most more → Q (.ref l) H'
/-- the model at l -/
structure MdAt (H : Hp) (l : Addr) (M : Mod) : Prop where
  ex : ∃ (lp lq lg : Addr) (pu : List QU) (gu : List GU), sn pu = M.qs ∧ sn gu = M.gs ∧ ∀ p ∈ lM l lp lq lg M.pl pu gu, H p.1 = some p.2
theorem MdAt.ext {H H' : Hp} {l : Addr} {M : Mod} (h : MdAt H l M) (s : Same H H') : MdAt H' l M := by
  obtain ⟨lp, lq, lg, pu, gu, e1, e2, k⟩ := h.ex
  exact ⟨lp, lq, lg, pu, gu, e1, e2, fun p hp => s _ _ (k p hp)⟩
def Mod.ps (M : Mod) : List P3 := M.qs.map fun q => (q.1, M.pl.getD q.2.1 "", M.pl.getD q.2.2 "")
def Mod.ms (M : Mod) : List M3 := M.gs.map fun g => (g.1, (M.qs.getD g.2.1 ("", 0, 0)).1, g.2.2)
theorem getD_lt {α : Type} {xs : List α} {i : Nat} {d : α} (h : i < xs.length) : xs.getD i d = xs[i] := by simp [List.getD, h]
theorem Mod.names (M : Mod) : M.ps.map (·.1) = M.qs.map (·.1) := by rw [Mod.ps, List.map_map]; rfl
section
variable {M : Mod} {most more : Nat}
theorem MdOk.po (h : MdOk M most more) (m12 : most ≤ 12) : POk M.ps := by
  refine ⟨fun e => ?_, by rw [Mod.ps, List.length_map]; exact Nat.le_trans h.qm m12, fun p hp => ?_, by rw [Mod.names]; exact h.qd⟩
  · have e2 := congrArg List.length e
    rw [Mod.ps, List.length_map, List.length_nil] at e2
    have := h.q2
    omega
  · obtain ⟨q, hq, rfl⟩ := List.mem_map.mp hp
    obtain ⟨n1, n2, n3, n4⟩ := h.qn q hq
    dsimp only
    rw [getD_lt n2, getD_lt n3]
    exact ⟨n1, h.pn _ (List.getElem_mem n2), h.pn _ (List.getElem_mem n3), fun e => n4 (nodup_get h.pd e).symm⟩
theorem MdOk.mo (h : MdOk M most more) (o12 : more ≤ 12) : MOk M.ps M.ms := by
  refine ⟨by rw [Mod.ms, List.length_map]; exact Nat.le_trans h.gm o12, fun p hp => ?_, ?_, fun p hp => ?_⟩
  · obtain ⟨g, hg, rfl⟩ := List.mem_map.mp hp
    obtain ⟨n1, n2⟩ := h.gn g hg
    dsimp only
    rw [getD_lt n2]
    exact ⟨n1, (h.qn _ (List.getElem_mem n2)).1⟩
  · rw [Mod.ms, List.map_map]
    exact h.gd
  · obtain ⟨g, hg, rfl⟩ := List.mem_map.mp hp
    obtain ⟨n1, n2⟩ := h.gn g hg
    dsimp only
    rw [getD_lt n2, Mod.names]
    exact List.mem_map.mpr ⟨_, List.getElem_mem n2, rfl⟩
end
def sp_mtext : Sp := fun vs H Q _ => ∃ (l : Addr) (M : Mod) (most more : Nat), vs = [.ref l] ∧ MdAt H l M ∧ MdOk M most more ∧ most ≤ 12 ∧ more ≤ 12 ∧ ∀ H', Same H H' → Q (.str (netT M.ps M.ms)) H'
theorem pline_app2 (n s e : Str) : ("pipe " : Str) ++ n ++ " " ++ s ++ " " ++ e = pline (n, s, e) := cd_inj (by
  rw [pline_cd]
  repeat rw [cd_app]
  rw [cd_pipe1, cd_sp]
  simp)
end RV
/-! ways through a net: walks, flows of -1, 0 and 1, and the least count of meters on a ring -/
namespace RV
/-! ### sums over the first n indexes -/
def sm : Nat → (Nat → Int) → Int
  | 0, _ => 0
  | n + 1, g => sm n g + g n
theorem sm_congr {n : Nat} {f g : Nat → Int} (h : ∀ k, k < n → f k = g k) : sm n f = sm n g := by
  induction n with
  | zero => rfl
  | succ n ih => simp only [sm, ih (fun k hk => h k (by omega)), h n (by omega)]
theorem sm_zero (n : Nat) : sm n (fun _ => 0) = 0 := by
  induction n with
  | zero => rfl
  | succ n ih => simp only [sm, ih]; rfl
def dl {α : Type} [DecidableEq α] (u x : α) : Int := if u = x then 1 else 0
section
set_option linter.unusedSectionVars false
variable {α : Type} [DecidableEq α]
variable (n : Nat) (st en : Nat → α) (w : Nat → Nat) (ok : Nat → Prop)
/-- what stays at a place -/
def dv (f : Nat → Int) (x : α) : Int := sm n fun k => f k * (dl (en k) x - dl (st k) x)
/-- a walk from u, its last step first -/
inductive Wk (u : α) : α → List (Nat × Bool) → Prop
  | nil : Wk u u []
  | fwd {i l} : Wk u (st i) l → ok i → Wk u (en i) ((i, true) :: l)
  | bwd {i l} : Wk u (en i) l → ok i → Wk u (st i) ((i, false) :: l)
inductive Sw (u : α) : α → List (Nat × Bool) → List α → Prop
  | nil : Sw u u [] [u]
  | fwd {i l vs} : Sw u (st i) l vs → ok i → en i ∉ vs → Sw u (en i) ((i, true) :: l) (en i :: vs)
  | bwd {i l vs} : Sw u (en i) l vs → ok i → st i ∉ vs → Sw u (st i) ((i, false) :: l) (st i :: vs)
def wl (l : List (Nat × Bool)) : Nat := (l.map fun q => w q.1).sum
def sg (b : Bool) : Int := if b then 1 else -1
def fl (l : List (Nat × Bool)) (k : Nat) : Int := (l.map fun q => if q.1 = k then sg q.2 else 0).sum
variable {n st en w ok} {u v : α} {l : List (Nat × Bool)} {vs : List α}
theorem Sw.mem (h : Sw st en ok u v l vs) : v ∈ vs := by cases h <;> exact List.mem_cons_self
theorem Sw.pre (h : Sw st en ok u v l vs) : ∀ y ∈ vs, ∃ l' vs', Sw st en ok u y l' vs' ∧ wl w l' ≤ wl w l := by
  induction h with
  | nil =>
    intro y hy
    obtain rfl := List.mem_singleton.mp hy
    exact ⟨_, _, .nil, Nat.le_refl _⟩
  | @fwd i l vs h o z ih =>
    intro y hy
    rcases List.mem_cons.mp hy with rfl | hy
    · exact ⟨_, _, .fwd h o z, Nat.le_refl _⟩
    · obtain ⟨l', vs', h1, h2⟩ := ih y hy
      exact ⟨l', vs', h1, Nat.le_trans h2 (by simp [wl])⟩
  | @bwd i l vs h o z ih =>
    intro y hy
    rcases List.mem_cons.mp hy with rfl | hy
    · exact ⟨_, _, .bwd h o z, Nat.le_refl _⟩
    · obtain ⟨l', vs', h1, h2⟩ := ih y hy
      exact ⟨l', vs', h1, Nat.le_trans h2 (by simp [wl])⟩
theorem wl_cons (q : Nat × Bool) (l : List (Nat × Bool)) : wl w (q :: l) = w q.1 + wl w l := by simp [wl]
/-- without loops -/
theorem Wk.simple (h : Wk st en ok u v l) : ∃ l' vs', Sw st en ok u v l' vs' ∧ wl w l' ≤ wl w l := by
  induction h with
  | nil => exact ⟨_, _, .nil, Nat.le_refl _⟩
  | @fwd i l h o ih =>
    obtain ⟨l', vs', h1, h2⟩ := ih
    by_cases z : en i ∈ vs'
    · obtain ⟨l2, vs2, h3, h4⟩ := h1.pre (w := w) _ z
      exact ⟨l2, vs2, h3, by rw [wl_cons]; omega⟩
    · exact ⟨_, _, .fwd h1 o z, by rw [wl_cons, wl_cons]; omega⟩
  | @bwd i l h o ih =>
    obtain ⟨l', vs', h1, h2⟩ := ih
    by_cases z : st i ∈ vs'
    · obtain ⟨l2, vs2, h3, h4⟩ := h1.pre (w := w) _ z
      exact ⟨l2, vs2, h3, by rw [wl_cons]; omega⟩
    · exact ⟨_, _, .bwd h1 o z, by rw [wl_cons, wl_cons]; omega⟩
theorem Sw.ends (h : Sw st en ok u v l vs) : ∀ q ∈ l, ok q.1 ∧ st q.1 ∈ vs ∧ en q.1 ∈ vs := by
  induction h with
  | nil => exact fun q hq => absurd hq List.not_mem_nil
  | @fwd i l vs h o z ih =>
    intro q hq
    rcases List.mem_cons.mp hq with rfl | hq
    · exact ⟨o, List.mem_cons_of_mem _ h.mem, List.mem_cons_self⟩
    · obtain ⟨a, b, c⟩ := ih q hq
      exact ⟨a, List.mem_cons_of_mem _ b, List.mem_cons_of_mem _ c⟩
  | @bwd i l vs h o z ih =>
    intro q hq
    rcases List.mem_cons.mp hq with rfl | hq
    · exact ⟨o, List.mem_cons_self, List.mem_cons_of_mem _ h.mem⟩
    · obtain ⟨a, b, c⟩ := ih q hq
      exact ⟨a, List.mem_cons_of_mem _ b, List.mem_cons_of_mem _ c⟩
theorem Sw.wk (h : Sw st en ok u v l vs) : Wk st en ok u v l := by
  induction h with
  | nil => exact .nil
  | fwd _ o _ ih => exact .fwd ih o
  | bwd _ o _ ih => exact .bwd ih o
/-- a ring: flows of -1, 0 and 1 that are 1 at the pipe -/
structure Ring (n : Nat) (st en : Nat → α) (shut : Nat → Prop) (p : Nat) (f : Nat → Int) : Prop where
  r : ∀ k, k < n → f k = 0 ∨ f k = 1 ∨ f k = -1
  kept : ∀ x, RV.dv n st en f x = 0
  one : f p = 1
  sl : ∀ k, k < n → shut k → f k = 0
def cnt (n : Nat) (w : Nat → Nat) (f : Nat → Int) : Int := sm n fun k => if f k ≠ 0 then (w k : Int) else 0
abbrev okp (n : Nat) (shut : Nat → Prop) (p k : Nat) : Prop := k < n ∧ k ≠ p ∧ ¬ shut k
variable {shut : Nat → Prop} {p : Nat}
/-! ### the places that pipes of a ring reach -/
/-! ### the shortest ways, round by round -/
abbrev Dist (α : Type) := α → Option Nat
/-- on by a link: from, to, meters -/
def ld (g : Dist α) (e : α × α × Nat) : Dist α := match g e.1 with
  | none => g
  | some d => match g e.2.1 with
    | none => fun x => if x = e.2.1 then some (d + e.2.2) else g x
    | some d' => if d + e.2.2 < d' then fun x => if x = e.2.1 then some (d + e.2.2) else g x else g
def Le (g g' : Dist α) : Prop := ∀ x d, g x = some d → ∃ d', g' x = some d' ∧ d' ≤ d
theorem Le.refl (g : Dist α) : Le g g := fun _ d h => ⟨d, h, Nat.le_refl _⟩
theorem Le.trans {a b c : Dist α} (h : Le a b) (h' : Le b c) : Le a c := fun x d e => by
  obtain ⟨d1, e1, l1⟩ := h x d e
  obtain ⟨d2, e2, l2⟩ := h' x d1 e1
  exact ⟨d2, e2, Nat.le_trans l2 l1⟩
theorem ld_cases (g : Dist α) (e : α × α × Nat) : ld g e = g ∧ (∀ d, g e.1 = some d → ∃ d', g e.2.1 = some d' ∧ d' ≤ d + e.2.2) ∨
    ∃ d, g e.1 = some d ∧ (∀ d', g e.2.1 = some d' → d + e.2.2 < d') ∧ ld g e = fun x => if x = e.2.1 then some (d + e.2.2) else g x := by
  unfold ld
  cases h : g e.1 with
  | none => exact Or.inl ⟨rfl, fun d z => absurd z (by simp)⟩
  | some d =>
    dsimp only
    cases h' : g e.2.1 with
    | none => exact Or.inr ⟨d, rfl, fun d' z => absurd z (by simp), rfl⟩
    | some d' =>
      dsimp only
      by_cases c : d + e.2.2 < d'
      · rw [if_pos c]
        exact Or.inr ⟨d, rfl, fun d2 z => Option.some.inj z ▸ c, rfl⟩
      · rw [if_neg c]
        exact Or.inl ⟨rfl, fun d2 z => ⟨d', rfl, Option.some.inj z ▸ Nat.le_of_not_lt c⟩⟩
theorem ld_le (g : Dist α) (e : α × α × Nat) : Le g (ld g e) := by
  rcases ld_cases g e with ⟨h, _⟩ | ⟨d1, h1, h2, h⟩
  · rw [h]
    exact Le.refl g
  · rw [h]
    intro x d hx
    by_cases z : x = e.2.1
    · subst z
      exact ⟨_, if_pos rfl, Nat.le_of_lt (h2 d hx)⟩
    · exact ⟨d, (if_neg z).trans hx, Nat.le_refl _⟩
theorem ld_hit {g : Dist α} {e : α × α × Nat} {d : Nat} (h : g e.1 = some d) : ∃ d', ld g e e.2.1 = some d' ∧ d' ≤ d + e.2.2 := by
  rcases ld_cases g e with ⟨h', q⟩ | ⟨d1, h1, h2, h'⟩
  · rw [h']
    exact q d h
  · rw [h']
    rw [h] at h1
    obtain rfl := Option.some.inj h1
    exact ⟨_, if_pos rfl, Nat.le_refl _⟩
theorem ld_inv {g : Dist α} {e : α × α × Nat} {P : α → Nat → Prop} (h : ∀ x d, g x = some d → P x d) (hs : ∀ d, g e.1 = some d → P e.1 d → P e.2.1 (d + e.2.2)) : ∀ x d, ld g e x = some d → P x d := by
  rcases ld_cases g e with ⟨h', q⟩ | ⟨d1, h1, h2, h'⟩
  · rw [h']
    exact h
  · rw [h']
    intro x d z
    by_cases q : x = e.2.1
    · dsimp only at z
      rw [if_pos q] at z
      obtain rfl := Option.some.inj z
      rw [q]
      exact hs d1 h1 (h _ _ h1)
    · dsimp only at z
      rw [if_neg q] at z
      exact h x d z
def turn (L : List (α × α × Nat)) (g : Dist α) : Dist α := L.foldl ld g
def turns (L : List (α × α × Nat)) : Nat → Dist α → Dist α
  | 0, g => g
  | k + 1, g => turn L (turns L k g)
theorem turn_le (L : List (α × α × Nat)) : ∀ g : Dist α, Le g (turn L g) := by
  induction L with
  | nil => exact fun g => Le.refl g
  | cons e L ih => exact fun g => (ld_le g e).trans (ih _)
theorem turn_hit (L : List (α × α × Nat)) : ∀ (g : Dist α) (e : α × α × Nat), e ∈ L → ∀ d, g e.1 = some d → ∃ d', turn L g e.2.1 = some d' ∧ d' ≤ d + e.2.2 := by
  induction L with
  | nil => exact fun g e he => absurd he List.not_mem_nil
  | cons e0 L ih =>
    intro g e he d h
    rcases List.mem_cons.mp he with rfl | he
    · obtain ⟨d1, h1, l1⟩ := ld_hit h
      obtain ⟨d2, h2, l2⟩ := turn_le L _ _ _ h1
      exact ⟨d2, h2, Nat.le_trans l2 l1⟩
    · obtain ⟨d1, h1, l1⟩ := ld_le g e0 _ _ h
      obtain ⟨d2, h2, l2⟩ := ih (ld g e0) e he d1 h1
      exact ⟨d2, h2, by omega⟩
theorem turn_inv {L : List (α × α × Nat)} {P : α → Nat → Prop} (hs : ∀ e ∈ L, ∀ d, P e.1 d → P e.2.1 (d + e.2.2)) : ∀ g : Dist α, (∀ x d, g x = some d → P x d) → ∀ x d, turn L g x = some d → P x d := by
  induction L with
  | nil => exact fun g h => h
  | cons e L ih => exact fun g h => ih (fun e' he' => hs e' (List.mem_cons_of_mem _ he')) _ (ld_inv h fun d _ => hs e List.mem_cons_self d)
def g0 (u : α) : Dist α := fun x => if x = u then some 0 else none
/-- the links of a net's pipes -/
structure Links (L : List (α × α × Nat)) (st en : Nat → α) (w : Nat → Nat) (ok : Nat → Prop) : Prop where
  of : ∀ e ∈ L, ∃ i, ok i ∧ e.2.2 = w i ∧ (e.1 = st i ∧ e.2.1 = en i ∨ e.1 = en i ∧ e.2.1 = st i)
  f : ∀ i, ok i → (st i, en i, w i) ∈ L
  b : ∀ i, ok i → (en i, st i, w i) ∈ L
variable {L : List (α × α × Nat)}
theorem turns_wk (hL : Links L st en w ok) (k : Nat) : ∀ x d, turns L k (g0 u) x = some d → ∃ l, Wk st en ok u x l ∧ wl w l = d := by
  have hs : ∀ e ∈ L, ∀ d, (∃ l, Wk st en ok u e.1 l ∧ wl w l = d) → ∃ l, Wk st en ok u e.2.1 l ∧ wl w l = d + e.2.2 := by
    rintro e he d ⟨l, h1, h2⟩
    obtain ⟨i, o, ew, z⟩ := hL.of e he
    rcases z with ⟨a, b⟩ | ⟨a, b⟩
    · rw [a] at h1
      exact ⟨(i, true) :: l, b ▸ .fwd h1 o, by rw [wl_cons, h2, ew]; exact Nat.add_comm _ _⟩
    · rw [a] at h1
      exact ⟨(i, false) :: l, b ▸ .bwd h1 o, by rw [wl_cons, h2, ew]; exact Nat.add_comm _ _⟩
  induction k with
  | zero =>
    intro x d h
    rw [turns, g0] at h
    by_cases z : x = u
    · subst z
      rw [if_pos rfl] at h
      exact ⟨[], .nil, (Option.some.inj h)⟩
    · rw [if_neg z] at h
      exact absurd h (by simp)
  | succ k ih => exact turn_inv hs _ ih
theorem turns_reach (hL : Links L st en w ok) (h : Wk st en ok u v l) : ∀ k, l.length ≤ k → ∃ d, turns L k (g0 u) v = some d ∧ d ≤ wl w l := by
  induction h with
  | nil =>
    intro k _
    induction k with
    | zero => exact ⟨0, if_pos rfl, Nat.le_refl _⟩
    | succ k ih =>
      obtain ⟨d, h1, h2⟩ := ih (Nat.zero_le _)
      obtain ⟨d', h3, h4⟩ := turn_le L _ _ _ h1
      exact ⟨d', h3, Nat.le_trans h4 h2⟩
  | @fwd i l h o ih =>
    intro k hk
    obtain ⟨k, rfl⟩ : ∃ j, k = j + 1 := ⟨k - 1, by simp at hk; omega⟩
    obtain ⟨d, h1, h2⟩ := ih k (by simp at hk; omega)
    obtain ⟨d', h3, h4⟩ := turn_hit L _ _ (hL.f i o) d h1
    exact ⟨d', h3, by rw [wl_cons]; dsimp only at h4 ⊢; omega⟩
  | @bwd i l h o ih =>
    intro k hk
    obtain ⟨k, rfl⟩ : ∃ j, k = j + 1 := ⟨k - 1, by simp at hk; omega⟩
    obtain ⟨d, h1, h2⟩ := ih k (by simp at hk; omega)
    obtain ⟨d', h3, h4⟩ := turn_hit L _ _ (hL.b i o) d h1
    exact ⟨d', h3, by rw [wl_cons]; dsimp only at h4 ⊢; omega⟩
end
end RV
/-! own methods; promises of ways and strengths -/
namespace RV
open PySem L2 PyProof.Rows TL
def Mtd (P : Program) (w : World) (K : PySem.W.Frag) (mg : Str → Option Value) (base : Heap) (C : Addr) (m : Str) (k : Nat) (ps : List Str) (sp : Sp) : Prop :=
  Cls K C ∧ ∃ f fd, Meth K C m f ∧ Binds K fd ps [] ∧ FnOk P w K mg base CX0 k f fd ps sp
theorem Mtd.irr {P : Program} {w : World} {K : PySem.W.Frag} {mg : Str → Option Value} {base : Heap} {C : Addr} {m : Str} {k : Nat} {ps : List Str} {sp : Sp} (h : Mtd P w K mg base C m k ps sp) : Mtd P w K mg base C m k ps (Irr sp) := by
  obtain ⟨c, f, fd, a, b, F⟩ := h
  exact ⟨c, f, fd, a, b, F.imp fun _ _ _ _ z => irr_of z⟩
section
variable {X : Cx} {C : Addr} {m : Str} {k : Nat} {ps : List Str} {sp : Sp} {o e : Expr} {es : List Expr} {t : TA} {ta : TE} {pos apos : Pos} {pl : Sem Bool}
theorem pe_mtd (h : Mtd X.prog X.w X.K X.mg X.base C m k ps sp) (hr : Room k X.A) (he : PE X o ta) (ha : PA X (e :: es) t)
    (hst : starEach (e :: es) X.env = (false, eval e X.env) :: starEach es X.env := by rfl) (hpl : (backTo pos (starEach es X.env)).any (·.1) = false := by rfl)
    (ht : eval (.Call (.Attribute o m apos) (e :: es) [] pos) X.env = (do
      let ov ← eval o X.env
      standAt apos.atName
      let (f, first) ← holding [ov] (getMethod ov m pl)
      callWith pos f first (backTo pos (starEach (e :: es) X.env)) (backToKw pos (keywordEach [] X.env))) := by rfl) :
    PE X (.Call (.Attribute o m apos) (e :: es) [] pos) (tMeth C m sp [] E0 ta t) := by
  obtain ⟨c, f, fd, hm, hb, F⟩ := h
  exact pe_meth he c hm F hr hb .nil pass0 ha hst hpl ht
end
theorem decV (a b : Str) : decide (V.str a = V.str b) = decide (a = b) := by simp
section
variable {α : Type} {K : PySem.W.Frag} {D : Addr} {i : Nat} {te : TE} {tt : TT} {vs : List Nat} {σ : L2.St} {H1 : Hp} {Qd : Hp → Prop} {J : It} {GG : Hp → Prop}
/-- [f(x) for x in xs if p(x)] over things at addresses -/
theorem lc_keepF {us : List (Addr × α)} (p : Addr × α → Bool) (val : Addr × α → V) (wk : Walk J (rf us).length GG (YAt (rf us))) (nD : H1 D = none) (len : us.length ≤ 1000) (hG : ∀ H', Same H1 H' → GG H') (hw : ∀ x, wipe ((wipe σ vs).set i x) vs = wipe σ vs)
    (ht : ∀ u ∈ us, ∀ H2, Same H1 H2 → ∀ R : Bool → Hp → Prop, (∀ H3, Same H2 H3 → R (p u) H3) → tt ((wipe σ vs).set i (some (.ref u.1))) H2 R)
    (he : ∀ u ∈ us, ∀ H2, Same H1 H2 → ∀ R : VK, R (val u) H2 → te ((wipe σ vs).set i (some (.ref u.1))) H2 R)
    (k : ∀ H', Same H1 H' → H' D = some (.lst ((us.filter p).map val)) → Qd H') :
    ∃ W : Nat → Nat → Hp → Prop, (∃ m, W 0 m (upd H1 D (.lst []))) ∧ ∀ i' m H, W i' m H →
      (J.stop i' H ∧ Qd H) ∨ (J.go i' H ∧ ∃ Nx : Hp → Prop, (∀ H', Nx H' → ∃ m', m' < m ∧ W (i' + 1) m' H') ∧ ∀ x H', J.yld i' H x H' → gName i x (wipe σ vs) H' fun σ2 H2 => wipe σ2 vs = wipe σ vs ∧ tt σ2 H2 fun b H3 =>
        if b = true then te σ2 H3 fun y H4 => ∃ acc, H4 D = some (.lst acc) ∧ acc.length < sizeLine ∧ Nx (upd H4 D (.lst (acc ++ [y]))) else Nx H3) := by
  refine L2.lc_it wk (fun i' H' => Same H1 H' ∧ H' D = some (.lst (((us.take i').filter p).map val)))
    ⟨fun b o e => (upd_ne (ne_of_none e nD)).trans e, upd_same⟩ (fun i' H' _ z => hG _ z.1) (fun i' x Ha Hb hi hv y => ?_) (fun H' hv => ?_)
  · obtain ⟨s, eD⟩ := hv
    obtain ⟨rfl, hx⟩ := y
    rw [rf, List.getElem?_map] at hx
    cases hu : us[i']? with
    | none => rw [hu] at hx; cases hx
    | some u =>
      rw [hu] at hx
      obtain rfl : V.ref u.1 = x := Option.some.inj hx
      have hm := List.mem_of_getElem? hu
      have et : us.take (i' + 1) = us.take i' ++ [u] := by rw [List.take_add_one, hu]; rfl
      refine ⟨hw _, ht u hm Hb s _ fun H3 s3 => ?_⟩
      have eD3 := s3 _ _ eD
      have sH : Same H1 H3 := fun b o e => s3 b o (s b o e)
      cases hp : p u with
      | false =>
        refine iteF ⟨sH, ?_⟩
        rw [eD3, et, List.filter_append, List.filter_cons_of_neg (by rw [hp]; decide), List.filter_nil, List.append_nil]
      | true =>
        refine iteT (he u hm H3 sH _ ⟨_, eD3, ?_, fun b o e => ?_, ?_⟩)
        · rw [List.length_map]
          have l1 := List.length_filter_le p (us.take i')
          have l3 := List.length_take_le' i' us
          exact Nat.lt_of_le_of_lt (Nat.le_trans l1 (Nat.le_trans l3 len)) (by decide)
        · rw [upd_ne (ne_of_none e nD)]
          exact sH _ _ e
        · rw [upd_same, et, List.filter_append, List.filter_cons_of_pos hp, List.filter_nil, List.map_append]
          rfl
  · obtain ⟨s, eD⟩ := hv
    rw [rf_len, List.take_length] at eD
    exact k H' s eD
end
def rgL (n : Nat) : List V := (List.range n).map fun i => V.int (i : Nat)
theorem rgL_len (n : Nat) : (rgL n).length = n := by rw [rgL, List.length_map, List.length_range]
theorem rgL_get {n k : Nat} {x : V} (h : (rgL n)[k]? = some x) : x = .int (k : Nat) ∧ k < n := by
  have hk := (List.getElem?_eq_some_iff.mp h).1
  rw [rgL_len] at hk
  rw [rgL, List.getElem?_map, List.getElem?_range hk] at h
  exact ⟨(Option.some.inj h).symm, hk⟩
theorem walk_rgL {n : Nat} : Walk (Itr 0 n) (rgL n).length (fun _ => True) (YAt (rgL n)) := by
  rw [rgL_len]
  refine walk_range.mono (fun _ _ => True.intro) fun i H x H' hi _ y => ⟨y.1, ?_⟩
  rw [y.2, rgL, List.getElem?_map, List.getElem?_range hi]
  simp
/-! ### the meters of a pipe -/
def onP (ms : List M3) (y : Str) : List M3 := ms.filter fun m => decide (m.2.1 = y)
def wtP (ms : List M3) (y : Str) : Nat := (onP ms y).length
def seP (ms : List M3) (y : Str) : List M3 := (onP ms y).filter fun m => m.2.2
/-- amount at this index, 0 elsewhere -/
def un (n : Nat) (o : Option Nat) (c : Int) : List Int := (List.range n).map fun j => if o = some j then c else 0
def vN : Option Nat → V
  | none => .non
  | some k => .int (k : Nat)
/-- a link: from, to, meters, flow -/
abbrev L4 := Str × Str × Nat × List Int
def lks (n : Nat) (ms : List M3) (y : Str) (i : Nat) (p : P3) : List L4 :=
  if p.1 ≠ y ∧ seP ms p.1 = [] then [(p.2.1, p.2.2, wtP ms p.1, un n (some i) 1), (p.2.2, p.2.1, wtP ms p.1, un n (some i) (-1))] else []
def lkF (n : Nat) (ms : List M3) (y : Str) : Nat → List P3 → List L4
  | _, [] => []
  | i, p :: ps => lks n ms y i p ++ lkF n ms y (i + 1) ps
theorem lkF_app (n : Nat) (ms : List M3) (y : Str) (p : P3) : ∀ (s : Nat) (as : List P3), lkF n ms y s (as ++ [p]) = lkF n ms y s as ++ lks n ms y (s + as.length) p
  | s, [] => by simp [lkF]
  | s, a :: as => by
    rw [List.cons_append, lkF, lkF, lkF_app n ms y p (s + 1) as, List.append_assoc, List.length_cons, show s + 1 + as.length = s + (as.length + 1) by omega]
theorem lkF_take {n : Nat} {ms : List M3} {y : Str} {ps : List P3} {i : Nat} {p : P3} (h : ps[i]? = some p) : lkF n ms y 0 (ps.take (i + 1)) = lkF n ms y 0 (ps.take i) ++ lks n ms y i p := by
  have hi := (List.getElem?_eq_some_iff.mp h).1
  rw [List.take_add_one, h]
  show lkF n ms y 0 (ps.take i ++ [p]) = _
  rw [lkF_app, List.length_take, Nat.min_eq_left (by omega), Nat.zero_add]
theorem lks_len (n : Nat) (ms : List M3) (y : Str) (i : Nat) (p : P3) : (lks n ms y i p).length ≤ 2 := by
  unfold lks
  split
  · exact Nat.le_refl _
  · exact Nat.zero_le _
theorem lkF_len (n : Nat) (ms : List M3) (y : Str) : ∀ (s : Nat) (as : List P3), (lkF n ms y s as).length ≤ 2 * as.length
  | s, [] => Nat.le_refl _
  | s, a :: as => by
    rw [lkF, List.length_append, List.length_cons]
    have h1 := lks_len n ms y s a
    have h2 := lkF_len n ms y (s + 1) as
    omega
def lkA (ps : List P3) (ms : List M3) (y : Str) : List L4 := lkF ps.length ms y 0 ps
def lk3 (l : L4) : Str × Str × Nat := (l.1, l.2.1, l.2.2.1)
def LkAt (H : Hp) (a : Addr) (l : L4) : Prop := ∃ t, H a = some (.tup [.str l.1, .str l.2.1, .int (l.2.2.1 : Nat), .ref t]) ∧ H t = some (.tup (l.2.2.2.map V.int))
theorem LkAt.ext {H H' : Hp} {a : Addr} {l : L4} (h : LkAt H a l) (s : Same H H') : LkAt H' a l := by
  obtain ⟨t, h1, h2⟩ := h
  exact ⟨t, s _ _ h1, s _ _ h2⟩
theorem LkAt.put {H : Hp} {a l : Addr} {q : L4} {xs ys : List V} (h : LkAt H a q) (e : H l = some (.lst xs)) : LkAt (upd H l (.lst ys)) a q := by
  obtain ⟨t, h1, h2⟩ := h
  refine ⟨t, (upd_ne fun z => ?_).trans h1, (upd_ne fun z => ?_).trans h2⟩
  · rw [z, e] at h1; cases h1
  · rw [z, e] at h2; cases h2
/-- a dict of ways -/
structure DW (n : Nat) (Z : Str → Nat → List Int → Prop) (H : Hp) (kvs : List (Key × V)) (g : Dist Str) : Prop where
  z : ∀ x, g x = none → valV kvs (.inr x) = none
  s : ∀ x d, g x = some d → ∃ (e t : Addr) (fs : List Int), valV kvs (.inr x) = some (.ref e) ∧ H e = some (.tup [.int (d : Nat), .ref t]) ∧ H t = some (.tup (fs.map V.int)) ∧ fs.length = n ∧ Z x d fs
  k : ∀ q ∈ kvs, ∃ x, q.1 = .inr x
/-- what holds of every way that is found -/
structure ZOk (ps : List P3) (ms : List M3) (y : Str) (Z : Dist Str → Str → Nat → List Int → Prop) : Prop where
  st : ∀ (i : Nat) (q : P3), ps[i]? = some q → q.1 = y → Z (g0 q.2.2) q.2.2 0 (un ps.length none 0)
  ke : ∀ l ∈ lkA ps ms y, ∀ g x d fs, Z g x d fs → Z (ld g (lk3 l)) x d fs
  ne : ∀ l ∈ lkA ps ms y, ∀ g d fs, fs.length = ps.length → g l.1 = some d → Z g l.1 d fs → (g l.2.1 = none ∨ ∃ d', g l.2.1 = some d' ∧ d + l.2.2.1 < d') → Z (ld g (lk3 l)) l.2.1 (d + l.2.2.1) (List.zipWith (· + ·) fs l.2.2.2)
theorem ZOk.triv (ps : List P3) (ms : List M3) (y : Str) : ZOk ps ms y fun _ _ _ _ => True := ⟨fun _ _ _ _ => trivial, fun _ _ _ _ _ _ _ => trivial, fun _ _ _ _ _ _ _ _ _ => trivial⟩
def strP (ps : List P3) (ms : List M3) (y : Str) : Option Nat :=
  match ps.find? fun p => decide (p.1 = y) with
  | none => none
  | some q => if seP ms y = [] then (turns ((lkA ps ms y).map lk3) ps.length (g0 q.2.2) q.2.1).map (· + wtP ms y) else none
section
variable (K : PySem.W.Frag) (CN CP CM : Addr)
def sp_gpipe : Sp := fun vs H Q _ => ∃ (x : Addr) (ps : List P3) (ms : List M3) (y : Str), vs = [.ref x, .str y] ∧ NetR K CN CP CM H x ps ms ∧ ps.length ≤ 12 ∧ y ∈ ps.map (·.1) ∧
  ∀ (a : Addr) (i : Nat) (q : P3) H', ps[i]? = some q → q.1 = y → Same H H' → PipeAt CP H' a q → Q (.ref a) H'
def sp_chkn : Sp := fun vs H Q _ => ∃ (x : Addr) (ps : List P3) (ms : List M3), vs = [.ref x] ∧ NetR K CN CP CM H x ps ms ∧ Q .non H
def sp_chkp : Sp := fun vs H Q _ => ∃ (x : Addr) (ps : List P3) (ms : List M3) (y : Str), vs = [.ref x, .str y] ∧ NetR K CN CP CM H x ps ms ∧ ps.length ≤ 12 ∧ y ∈ ps.map (·.1) ∧ ∀ H', Same H H' → Q .non H'
def sp_mat : Sp := fun vs H Q _ => ∃ (x : Addr) (ps : List P3) (ms : List M3) (y : Str), vs = [.ref x, .str y] ∧ NetR K CN CP CM H x ps ms ∧ ms.length ≤ 12 ∧
  ∀ (l : Addr) (us : List MU) H', Same H H' → H' l = some (.lst (rf us)) → (∀ u ∈ us, MetAt CM H' u.1 u.2) → sn us = onP ms y → Q (.ref l) H'
def sp_sat : Sp := fun vs H Q _ => ∃ (x : Addr) (ps : List P3) (ms : List M3) (y : Str), vs = [.ref x, .str y] ∧ NetR K CN CP CM H x ps ms ∧ ms.length ≤ 12 ∧
  ∀ (l : Addr) (xs : List V) H', Same H H' → H' l = some (.lst xs) → (xs = [] ↔ seP ms y = []) → Q (.ref l) H'
def sp_amt : Sp := fun vs H Q _ => ∃ (x : Addr) (ps : List P3) (ms : List M3) (o : Option Nat) (c : Int), vs = [.ref x, vN o, .int c] ∧ NetR K CN CP CM H x ps ms ∧ ps.length ≤ 12 ∧
  ∀ (t : Addr) H', Same H H' → H' t = some (.tup ((un ps.length o c).map V.int)) → Q (.ref t) H'
def sp_lnks : Sp := fun vs H Q _ => ∃ (x : Addr) (ps : List P3) (ms : List M3) (y : Str), vs = [.ref x, .str y] ∧ NetR K CN CP CM H x ps ms ∧ ps.length ≤ 12 ∧ ms.length ≤ 12 ∧
  ∀ (l : Addr) (us : List (Addr × L4)) H', Same H H' → H' l = some (.lst (rf us)) → (∀ u ∈ us, LkAt H' u.1 u.2) → sn us = lkA ps ms y → Q (.ref l) H'
def sp_lead : Sp := fun vs H Q _ => ∃ (d t : Addr) (a b : Str) (m n : Nat) (fs : List Int) (kvs : List (Key × V)) (g : Dist Str) (Z Z' : Str → Nat → List Int → Prop), vs = [.ref d, .str a, .str b, .int (m : Nat), .ref t] ∧ H d = some (.dK kvs) ∧ H t = some (.tup (fs.map V.int)) ∧ fs.length = n ∧ n ≤ 12 ∧ kvs.length ≤ 1000 ∧ DW n Z H kvs g ∧ (∀ x d f, Z x d f → Z' x d f) ∧ (∀ d f, f.length = n → g a = some d → Z a d f → (g b = none ∨ ∃ d', g b = some d' ∧ d + m < d') → Z' b (d + m) (List.zipWith (· + ·) f fs)) ∧
  ∀ kvs' H', (∀ b o, b ≠ d → H b = some o → H' b = some o) → H' d = some (.dK kvs') → kvs'.length ≤ kvs.length + 1 → DW n Z' H' kvs' (ld g (a, b, m)) → Q .non H'
def sp_ways : Sp := fun vs H Q _ => ∃ (x : Addr) (ps : List P3) (ms : List M3) (y : Str) (Z : Dist Str → Str → Nat → List Int → Prop), vs = [.ref x, .str y] ∧ NetR K CN CP CM H x ps ms ∧ ps.length ≤ 12 ∧ ms.length ≤ 12 ∧ y ∈ ps.map (·.1) ∧ ZOk ps ms y Z ∧
  ∀ (i : Nat) (q : P3) (d : Addr) (kvs : List (Key × V)) H', ps[i]? = some q → q.1 = y → Same H H' → H' d = some (.dK kvs) → DW ps.length (Z (turns ((lkA ps ms y).map lk3) ps.length (g0 q.2.2))) H' kvs (turns ((lkA ps ms y).map lk3) ps.length (g0 q.2.2)) → kvs.length ≤ 1000 → Q (.ref d) H'
def WayV (n : Nat) (Z : Nat → List Int → Prop) (H : Hp) (v : V) : Option Nat → Prop
  | none => v = .non
  | some d => ∃ (e t : Addr) (fs : List Int), v = .ref e ∧ H e = some (.tup [.int (d : Nat), .ref t]) ∧ H t = some (.tup (fs.map V.int)) ∧ fs.length = n ∧ Z d fs
def sp_back : Sp := fun vs H Q _ => ∃ (x : Addr) (ps : List P3) (ms : List M3) (y : Str) (Z : Dist Str → Str → Nat → List Int → Prop), vs = [.ref x, .str y] ∧ NetR K CN CP CM H x ps ms ∧ ps.length ≤ 12 ∧ ms.length ≤ 12 ∧ y ∈ ps.map (·.1) ∧ ZOk ps ms y Z ∧
  ∀ (i j : Nat) (q r : P3) (v : V) H', ps[i]? = some q → q.1 = y → ps[j]? = some r → r.1 = y → Same H H' → WayV ps.length (Z (turns ((lkA ps ms y).map lk3) ps.length (g0 q.2.2)) r.2.1) H' v (if seP ms y = [] then turns ((lkA ps ms y).map lk3) ps.length (g0 q.2.2) r.2.1 else none) → Q v H'
def sp_stren : Sp := fun vs H Q _ => ∃ (x : Addr) (ps : List P3) (ms : List M3) (y : Str), vs = [.ref x, .str y] ∧ NetR K CN CP CM H x ps ms ∧ POk ps ∧ ms.length ≤ 12 ∧ y ∈ ps.map (·.1) ∧ ∀ H', Same H H' → Q (vN (strP ps ms y)) H'
end
end RV
/-! ways in a dict -/
namespace RV
open PySem L2 PyProof.Rows TL
theorem ld_n {g : Dist Str} {e : Str × Str × Nat} (h : g e.1 = none) : ld g e = g := by
  unfold ld
  rw [h]
theorem ld_p {g : Dist Str} {e : Str × Str × Nat} {d : Nat} (h : g e.1 = some d) (h' : g e.2.1 = none ∨ ∃ d', g e.2.1 = some d' ∧ d + e.2.2 < d') : ld g e = fun x => if x = e.2.1 then some (d + e.2.2) else g x := by
  unfold ld
  rw [h]
  rcases h' with z | ⟨d', z, c⟩
  · simp only [z]
  · simp only [z, if_pos c]
theorem ld_k {g : Dist Str} {e : Str × Str × Nat} {d d' : Nat} (h : g e.1 = some d) (h' : g e.2.1 = some d') (c : ¬ d + e.2.2 < d') : ld g e = g := by
  unfold ld
  rw [h]
  simp only [h', if_neg c]
theorem putK_mem {kvs : List (Key × V)} {k : Key} {v : V} {q : Key × V} (h : q ∈ putK kvs k v) : q = (k, v) ∨ ∃ p ∈ kvs, p.1 = q.1 := by
  unfold putK at h
  split at h
  · obtain ⟨p, hp, rfl⟩ := List.mem_map.mp h
    refine .inr ⟨p, hp, ?_⟩
    split <;> rfl
  · rcases List.mem_append.mp h with h | h
    · exact .inr ⟨q, h, rfl⟩
    · exact .inl (List.mem_singleton.mp h)
theorem DW.keep {n : Nat} {Z : Str → Nat → List Int → Prop} {H H' : Hp} {kvs : List (Key × V)} {g : Dist Str} {dl : Addr} (h : DW n Z H kvs g) (hd : ∃ q, H dl = some (.dK q)) (s : ∀ b o, b ≠ dl → H b = some o → H' b = some o) : DW n Z H' kvs g := by
  obtain ⟨q, hd⟩ := hd
  refine ⟨h.z, fun x d hx => ?_, h.k⟩
  obtain ⟨e, t, fs, h1, h2, h3, h4⟩ := h.s x d hx
  exact ⟨e, t, fs, h1, s _ _ (fun z => by rw [z, hd] at h2; cases h2) h2, s _ _ (fun z => by rw [z, hd] at h3; cases h3) h3, h4⟩
theorem DW.ext {n : Nat} {Z : Str → Nat → List Int → Prop} {H H' : Hp} {kvs : List (Key × V)} {g : Dist Str} (h : DW n Z H kvs g) (s : Same H H') : DW n Z H' kvs g := by
  refine ⟨h.z, fun x d hx => ?_, h.k⟩
  obtain ⟨e, t, fs, h1, h2, h3, h4⟩ := h.s x d hx
  exact ⟨e, t, fs, h1, s _ _ h2, s _ _ h3, h4⟩
theorem DW.imp {n : Nat} {Z Z' : Str → Nat → List Int → Prop} {H : Hp} {kvs : List (Key × V)} {g : Dist Str} (h : DW n Z H kvs g) (i : ∀ x d f, Z x d f → Z' x d f) : DW n Z' H kvs g :=
  ⟨h.z, fun x d hx => by obtain ⟨e, t, fs, h1, h2, h3, h4, h5⟩ := h.s x d hx; exact ⟨e, t, fs, h1, h2, h3, h4, i _ _ _ h5⟩, h.k⟩
theorem DW.put {n c : Nat} {Z : Str → Nat → List Int → Prop} {H : Hp} {kvs : List (Key × V)} {g : Dist Str} {b : Str} {e t : Addr} {fs : List Int} (h : DW n Z H kvs g) (h2 : H e = some (.tup [.int (c : Nat), .ref t])) (h3 : H t = some (.tup (fs.map V.int))) (h4 : fs.length = n) (h5 : Z b c fs) :
    DW n Z H (putK kvs (.inr b) (.ref e)) (fun x => if x = b then some c else g x) := by
  refine ⟨fun x hx => ?_, fun x d hx => ?_, fun q hq => ?_⟩
  · by_cases z : x = b
    · rw [if_pos z] at hx; cases hx
    · rw [if_neg z] at hx
      rw [valV_put, if_neg fun q => z (Sum.inr.inj q), h.z x hx]
  · by_cases z : x = b
    · rw [if_pos z] at hx
      obtain rfl := Option.some.inj hx
      exact ⟨e, t, fs, by rw [valV_put, if_pos (by rw [z])], h2, h3, h4, z ▸ h5⟩
    · rw [if_neg z] at hx
      obtain ⟨e', t', fs', h1, hh⟩ := h.s x d hx
      exact ⟨e', t', fs', by rw [valV_put, if_neg fun q => z (Sum.inr.inj q), h1], hh⟩
  · rcases putK_mem hq with rfl | ⟨p, hp, e⟩
    · exact ⟨b, rfl⟩
    · exact e ▸ h.k p hp
theorem DW.new {n : Nat} {Z : Str → Nat → List Int → Prop} {H : Hp} {b : Str} {e t : Addr} {fs : List Int} (h2 : H e = some (.tup [.int ((0 : Nat) : Int), .ref t])) (h3 : H t = some (.tup (fs.map V.int))) (h4 : fs.length = n) (h5 : Z b 0 fs) : DW n Z H (putK [] (.inr b) (.ref e)) (g0 b) := by
  have h : DW n Z H [] (fun _ => none) := ⟨fun _ _ => rfl, (fun _ _ z => nomatch z), fun _ h => nomatch h⟩
  exact h.put h2 h3 h4 h5
theorem walk_zipT {K : PySem.W.Frag} {a b : Addr} {xs ys : List V} {n : Nat} (hn : n = min xs.length ys.length) : Walk (RZ.ItzT K a b) n (fun H => SqT K H a xs ∧ SqT K H b ys) (YPair (fun i => xs[i]?) (fun i => ys[i]?)) := by
  subst hn
  refine ⟨fun i _ hi q => ?_, fun _ q => ⟨xs, ys, q.1, q.2, by omega⟩, fun i H v H' _ q y => ?_⟩
  · have h1 : i < xs.length := by omega
    have h2 : i < ys.length := by omega
    exact ⟨xs, ys, xs[i], ys[i], q.1, q.2, by simp [h1], by simp [h2]⟩
  · obtain ⟨T, x, z, h1, h2, h3, h4, h5⟩ := y
    exact ⟨T, x, z, h1, h2, h3, h4 xs q.1, h5 ys q.2⟩
end RV
/-! flows of -1, 0 and 1, as the laws over scripts count them -/
namespace RV
open PySem L2 PyProof.Rows TL
theorem ixN_nat {n j : Nat} (hj : j < n) : ixN n (j : Int) = some j := by
  unfold ixN
  rw [if_pos (by omega), if_pos (by omega)]
  simp
def qst (M : Mod) (k : Nat) : Nat := (M.qs.getD k ("", 0, 0)).2.1
def qen (M : Mod) (k : Nat) : Nat := (M.qs.getD k ("", 0, 0)).2.2
def rwf (r : List Int) (k : Nat) : Int := r.getD k 0
/-- what stays at a place after j pipes -/
def stay (M : Mod) (r : List Int) (j x : Nat) : Int := dv j (qst M) (qen M) (rwf r) x
theorem stay_succ (M : Mod) (r : List Int) (j x : Nat) : stay M r (j + 1) x = stay M r j x + rwf r j * (dl (qen M j) x - dl (qst M j) x) := rfl
def keptB (M : Mod) (r : List Int) : Bool := (List.range M.pl.length).all fun x => decide (stay M r M.qs.length x = 0)
def stayL (M : Mod) (r : List Int) (j : Nat) : List V := (List.range M.pl.length).map fun x => .int (stay M r j x)
theorem stayL_len (M : Mod) (r : List Int) (j : Nat) : (stayL M r j).length = M.pl.length := by rw [stayL, List.length_map, List.length_range]
theorem stayL_get {M : Mod} {r : List Int} {j x : Nat} (h : x < M.pl.length) : (stayL M r j)[x]? = some (.int (stay M r j x)) := by
  rw [stayL, List.getElem?_map, List.getElem?_range h]
  rfl
theorem stayL_step {M : Mod} {r : List Int} {j b e : Nat} (eb : qst M j = b) (ee : qen M j = e) (hne : b ≠ e) (hb : b < M.pl.length) (he : e < M.pl.length) :
    ((stayL M r j).set b (.int (stay M r j b - rwf r j))).set e (.int (stay M r j e + rwf r j)) = stayL M r (j + 1) := by
  refine List.ext_getElem? fun x => ?_
  rw [List.getElem?_set, List.getElem?_set, List.length_set, stayL_len]
  by_cases hx : x < M.pl.length
  · rw [stayL_get hx, stayL_get hx, stay_succ, eb, ee]
    by_cases h1 : e = x
    · subst h1
      rw [if_pos rfl, if_pos he, dl, dl, if_pos rfl, if_neg hne]
      congr 2
      omega
    · rw [if_neg h1]
      by_cases h2 : b = x
      · subst h2
        rw [if_pos rfl, if_pos hb, dl, dl, if_pos rfl, if_neg h1]
        congr 2
        omega
      · rw [if_neg h2, dl, dl, if_neg h1, if_neg h2]
        congr 2
        omega
  · rw [if_neg (fun z : e = x => hx (z ▸ he)), if_neg (fun z : b = x => hx (z ▸ hb)), List.getElem?_eq_none (by rw [stayL_len]; omega), List.getElem?_eq_none (by rw [stayL_len]; omega)]
def sp_kept : Sp := fun vs H Q _ => ∃ (l a : Addr) (M : Mod) (most more : Nat) (r : List Int), vs = [.ref l, .ref a] ∧ MdAt H l M ∧ MdOk M most more ∧ most ≤ 12 ∧ H a = some (.lst (r.map V.int)) ∧ r.length = M.qs.length ∧ ∀ H', Same H H' → Q (.bl (keptB M r)) H'
def trit (c : Int) : Prop := c = 0 ∨ c = 1 ∨ c = -1
def sp_flows : Sp := fun vs H Q _ => ∃ (l : Addr) (M : Mod) (more : Nat), vs = [.ref l] ∧ MdAt H l M ∧ MdOk M 5 more ∧
  ∀ (a : Addr) (us : List (Addr × List Int)) H', Same H H' → H' a = some (.lst (rf us)) → (∀ u ∈ us, H' u.1 = some (.lst (u.2.map V.int))) → us.length ≤ 243 → H a = none → (∀ u ∈ us, H u.1 = none) → (∀ r, r ∈ sn us ↔ r.length = M.qs.length ∧ (∀ c ∈ r, trit c) ∧ keptB M r = true) → Q (.ref a) H'
theorem trits {R : List (List Int)} {j : Nat} (h : ∀ r, r ∈ R ↔ r.length = j ∧ ∀ c ∈ r, trit c) (r : List Int) : r ∈ R.map (· ++ [-1]) ++ R.map (· ++ [0]) ++ R.map (· ++ [1]) ↔ r.length = j + 1 ∧ ∀ c ∈ r, trit c := by
  have one : ∀ (c : Int), trit c → r ∈ R.map (· ++ [c]) → r.length = j + 1 ∧ ∀ c ∈ r, trit c := by
    intro c hc hr
    obtain ⟨r0, h0, rfl⟩ := List.mem_map.mp hr
    obtain ⟨a, b⟩ := (h r0).mp h0
    refine ⟨by simp [a], fun d hd => ?_⟩
    rcases List.mem_append.mp hd with hd | hd
    · exact b d hd
    · rw [List.mem_singleton.mp hd]
      exact hc
  constructor
  · intro hr
    rcases List.mem_append.mp hr with hr | hr
    · rcases List.mem_append.mp hr with hr | hr
      · exact one (-1) (Or.inr (Or.inr rfl)) hr
      · exact one 0 (Or.inl rfl) hr
    · exact one 1 (Or.inr (Or.inl rfl)) hr
  · rintro ⟨a, b⟩
    rcases List.eq_nil_or_concat r with rfl | ⟨r0, c, rfl⟩
    · simp at a
    · rw [List.concat_eq_append] at a b ⊢
      have h0 : r0 ∈ R := (h r0).mpr ⟨by simpa using a, fun d hd => b d (List.mem_append_left _ hd)⟩
      rcases b c (List.mem_append_right _ (List.mem_singleton.mpr rfl)) with rfl | rfl | rfl
      · exact List.mem_append_left _ (List.mem_append_right _ (List.mem_map.mpr ⟨r0, h0, rfl⟩))
      · exact List.mem_append_right _ (List.mem_map.mpr ⟨r0, h0, rfl⟩)
      · exact List.mem_append_left _ (List.mem_append_left _ (List.mem_map.mpr ⟨r0, h0, rfl⟩))
abbrev FU := Addr × List Int
def FAt (H : Hp) (us : List FU) : Prop := ∀ u ∈ us, H u.1 = some (.lst (u.2.map V.int))
theorem FAt.ext {H H' : Hp} {us : List FU} (h : FAt H us) (s : Same H H') : FAt H' us := fun u hu => s _ _ (h u hu)
theorem none_back {H H' : Hp} {p : Addr} (s : Same H H') (h : H' p = none) : H p = none := by
  cases e : H p with
  | none => rfl
  | some o => rw [s _ _ e] at h; cases h
theorem upd_none {H : Hp} {L p : Addr} {o : HO} (h : upd H L o p = none) : H p = none ∧ p ≠ L := by
  have hne : p ≠ L := fun e => by rw [e, upd_same] at h; cases h
  rw [upd_ne hne] at h
  exact ⟨h, hne⟩
section
variable {K : PySem.W.Frag} {D : Addr} {i : Nat} {te : TE} {vs : List Nat} {σ : L2.St} {H1 : Hp} {Qd : Hp → Prop} {J : It} {GG : Hp → Prop}
/-- [row + [c] for row in rows] -/
theorem lc_rows (c : Int) {us : List FU} (wk : Walk J (rf us).length GG (YAt (rf us))) (nD : H1 D = none) (len : us.length ≤ 1000) (hG : ∀ H', Same H1 H' → GG H') (hw : ∀ x, wipe ((wipe σ vs).set i x) vs = wipe σ vs)
    (h : ∀ u ∈ us, ∀ H2, Same H1 H2 → ∀ R : VK, (∀ p H3, Same H2 H3 → H2 p = none → H3 p = some (.lst ((u.2 ++ [c]).map V.int)) → R (.ref p) H3) → te ((wipe σ vs).set i (some (.ref u.1))) H2 R)
    (k : ∀ (ws : List FU) H', sn ws = (sn us).map (· ++ [c]) → (∀ u ∈ ws, H1 u.1 = none) → Same H1 H' → FAt H' ws → H' D = some (.lst (rf ws)) → Qd H') :
    ∃ W : Nat → Nat → Hp → Prop, (∃ m, W 0 m (upd H1 D (.lst []))) ∧ ∀ i' m H, W i' m H →
      (J.stop i' H ∧ Qd H) ∨ (J.go i' H ∧ ∃ Nx : Hp → Prop, (∀ H', Nx H' → ∃ m', m' < m ∧ W (i' + 1) m' H') ∧ ∀ x H', J.yld i' H x H' → gName i x (wipe σ vs) H' fun σ2 H2 => wipe σ2 vs = wipe σ vs ∧ tYes σ2 H2 fun b H3 =>
        if b = true then te σ2 H3 fun y H4 => ∃ acc, H4 D = some (.lst acc) ∧ acc.length < sizeLine ∧ Nx (upd H4 D (.lst (acc ++ [y]))) else Nx H3) := by
  refine lc_new (β := FU) (xs := rf us) (fun u => .ref u.1) (fun j b H' => b.1 ≠ D ∧ H' b.1 = some (.lst (b.2.map V.int)) ∧ H1 b.1 = none ∧ ∃ u, us[j]? = some u ∧ b.2 = u.2 ++ [c]) wk nD (by rw [rf_len]; exact len) hG hw
    (fun j b H' H'' s' z => ⟨z.1, s' _ _ z.2.1, z.2.2⟩) (fun j b H' acc acc' e z => ⟨z.1, (upd_ne z.1).trans z.2.1, z.2.2⟩) (fun j x hx H2 s2 hD2 R kR => ?_) fun bs H2 s2 bl bp hD2 => ?_
  · obtain ⟨u, hu, rfl⟩ := rf_get hx
    obtain ⟨acc, hD2⟩ := hD2
    exact h u (List.mem_of_getElem? hu) H2 s2 R fun p H3 s3 np e3 => kR (p, u.2 ++ [c]) H3 s3 ⟨(ne_of_none hD2 np).symm, e3, none_back s2 np, u, hu, rfl⟩
  · refine k bs H2 (List.ext_getElem? fun j => ?_) (fun u hu => ?_) s2 (fun u hu => ?_) hD2
    · cases e : bs[j]? with
      | some b =>
        obtain ⟨_, _, _, u, hu, e2⟩ := bp j b e
        rw [sn_get e, List.getElem?_map, sn_get hu, e2]
        rfl
      | none =>
        rw [List.getElem?_eq_none_iff] at e
        rw [rf_len] at bl
        rw [List.getElem?_eq_none (by rw [sn_len]; omega), List.getElem?_eq_none (by rw [List.length_map, sn_len]; omega)]
    · obtain ⟨j, hj, e⟩ := List.mem_iff_getElem.mp hu
      exact (bp j u (by rw [List.getElem?_eq_getElem hj, e])).2.2.1
    · obtain ⟨j, hj, e⟩ := List.mem_iff_getElem.mp hu
      exact (bp j u (by rw [List.getElem?_eq_getElem hj, e])).2.1
end
end RV
/-! least counts over flows; lists of integers and None as data -/
namespace RV
open PySem L2 PyProof.Rows TL
def cntG (M : Mod) (r : List Int) : Nat := (M.gs.filter fun g => decide (rwf r g.2.1 ≠ 0)).length
def shutG (M : Mod) (r : List Int) : Bool := M.gs.any fun g => g.2.2 && decide (rwf r g.2.1 ≠ 0)
def condG (M : Mod) (p : Nat) (r : List Int) : Bool := decide (rwf r p = 1) && !shutG M r
def IsMin (L : List Nat) : Option Nat → Prop
  | none => L = []
  | some m => m ∈ L ∧ ∀ y ∈ L, m ≤ y
def dO : Option Nat → PyData
  | none => .none
  | some k => .int (k : Nat)
def sp_lstr : Sp := fun vs H Q _ => ∃ (l a : Addr) (M : Mod) (more p : Nat) (us : List FU), vs = [.ref l, .ref a, .int (p : Nat)] ∧ MdAt H l M ∧ MdOk M 5 more ∧ more ≤ 12 ∧ H a = some (.lst (rf us)) ∧ FAt H us ∧ us.length ≤ 243 ∧ p < M.qs.length ∧ (∀ r ∈ sn us, r.length = M.qs.length) ∧
  ∀ (o : Option Nat) H', Same H H' → IsMin (((sn us).filter (condG M p)).map (cntG M)) o → Q (vN o) H'
end RV
/-! the strength by shortest ways is the least count over flows -/
namespace RV
open PySem L2 PyProof.Rows TL
def pN (ps : List P3) (k : Nat) : Str := (ps.getD k ("", "", "")).1
def pS (ps : List P3) (k : Nat) : Str := (ps.getD k ("", "", "")).2.1
def pE (ps : List P3) (k : Nat) : Str := (ps.getD k ("", "", "")).2.2
def shutP (ps : List P3) (ms : List M3) (k : Nat) : Prop := seP ms (pN ps k) ≠ []
theorem mem_lkF {n : Nat} {ms : List M3} {y : Str} {l : L4} : ∀ {s : Nat} {ps : List P3}, l ∈ lkF n ms y s ps ↔ ∃ i p, ps[i]? = some p ∧ l ∈ lks n ms y (s + i) p
  | s, [] => by simp [lkF]
  | s, q :: ps => by
    rw [lkF, List.mem_append, mem_lkF]
    constructor
    · rintro (h | ⟨i, p, h1, h2⟩)
      · exact ⟨0, q, rfl, h⟩
      · exact ⟨i + 1, p, by rw [List.getElem?_cons_succ]; exact h1, by rw [show s + (i + 1) = s + 1 + i by omega]; exact h2⟩
    · rintro ⟨i, p, h1, h2⟩
      cases i with
      | zero =>
        obtain rfl : q = p := by simpa using h1
        exact .inl h2
      | succ i => exact .inr ⟨i, p, by rw [List.getElem?_cons_succ] at h1; exact h1, by rw [show s + 1 + i = s + (i + 1) by omega]; exact h2⟩
theorem pN_at {ps : List P3} {k : Nat} {q : P3} (h : ps[k]? = some q) : pN ps k = q.1 ∧ pS ps k = q.2.1 ∧ pE ps k = q.2.2 := by
  simp [pN, pS, pE, List.getD, h]
theorem pN_inj {ps : List P3} (nd : (ps.map (·.1)).Nodup) {i j : Nat} (hi : i < ps.length) (hj : j < ps.length) (e : pN ps i = pN ps j) : i = j := by
  have h1 := pN_at (List.getElem?_eq_getElem hi)
  have h2 := pN_at (List.getElem?_eq_getElem hj)
  have e3 : (ps.map (·.1))[i]'(by simpa using hi) = (ps.map (·.1))[j]'(by simpa using hj) := by
    rw [List.getElem_map, List.getElem_map, ← h1.1, ← h2.1, e]
  exact nodup_get nd e3
theorem links_of {ps : List P3} {ms : List M3} {p : Nat} (nd : (ps.map (·.1)).Nodup) (hp : p < ps.length) : Links ((lkA ps ms (pN ps p)).map lk3) (pS ps) (pE ps) (fun k => wtP ms (pN ps k)) (okp ps.length (shutP ps ms) p) := by
  have inl : ∀ {i : Nat}, okp ps.length (shutP ps ms) p i → ∀ l ∈ [(pS ps i, pE ps i, wtP ms (pN ps i), un ps.length (some i) 1), (pE ps i, pS ps i, wtP ms (pN ps i), un ps.length (some i) (-1))], l ∈ lkA ps ms (pN ps p) := by
    rintro i ⟨hi, hne, hs⟩ l hl
    have hg := List.getElem?_eq_getElem hi
    obtain ⟨a, b, c⟩ := pN_at hg
    refine mem_lkF.mpr ⟨i, _, hg, ?_⟩
    rw [Nat.zero_add, lks, if_pos ⟨fun e => hne (pN_inj nd hi hp (by rw [a, e])), Decidable.not_not.mp (by rw [← a]; exact hs)⟩, ← a, ← b, ← c]
    exact hl
  refine ⟨fun e he => ?_, fun i o => ?_, fun i o => ?_⟩
  · obtain ⟨l, hl, rfl⟩ := List.mem_map.mp he
    obtain ⟨i, q, hq, hl⟩ := mem_lkF.mp hl
    obtain ⟨a, b, c⟩ := pN_at hq
    rw [Nat.zero_add, lks] at hl
    split at hl
    · rename_i hc
      have hi := (List.getElem?_eq_some_iff.mp hq).1
      refine ⟨i, ⟨hi, fun z => hc.1 (by rw [← a, z]), fun z => z (by rw [a]; exact hc.2)⟩, ?_⟩
      rw [a, b, c]
      rcases List.mem_cons.mp hl with rfl | hl
      · exact ⟨rfl, .inl ⟨rfl, rfl⟩⟩
      · obtain rfl := List.mem_singleton.mp hl
        exact ⟨rfl, .inr ⟨rfl, rfl⟩⟩
    · exact nomatch hl
  · exact List.mem_map.mpr ⟨_, inl o _ List.mem_cons_self, rfl⟩
  · exact List.mem_map.mpr ⟨_, inl o _ (List.mem_cons_of_mem _ List.mem_cons_self), rfl⟩
/-! ### models -/
section
variable {M : Mod} {most more : Nat}
theorem ps_at {k : Nat} (hk : k < M.qs.length) : M.ps[k]? = some ((M.qs.getD k ("", 0, 0)).1, M.pl.getD (qst M k) "", M.pl.getD (qen M k) "") := by
  rw [Mod.ps, List.getElem?_map, List.getElem?_eq_getElem hk, qst, qen, getD_lt hk]
  rfl
theorem ps_len : M.ps.length = M.qs.length := by rw [Mod.ps, List.length_map]
theorem pN_q {k : Nat} (hk : k < M.qs.length) : pN M.ps k = (M.qs.getD k ("", 0, 0)).1 := (pN_at (ps_at hk)).1
theorem dl_pl (ok : MdOk M most more) {i j : Nat} (hi : i < M.pl.length) (hj : j < M.pl.length) : dl (M.pl.getD i "") (M.pl.getD j "") = dl i j := by
  rw [dl, dl, getD_lt hi, getD_lt hj]
  by_cases e : i = j
  · subst e
    simp
  · rw [if_neg (fun z => e (nodup_get ok.pd z)), if_neg e]
theorem dl_out {x : Str} (hx : x ∉ M.pl) {i : Nat} (hi : i < M.pl.length) : dl (M.pl.getD i "") x = 0 := by
  rw [dl, getD_lt hi, if_neg (fun z => hx (by rw [← z]; exact List.getElem_mem hi))]
theorem q_lt (ok : MdOk M most more) {k : Nat} (hk : k < M.qs.length) : qst M k < M.pl.length ∧ qen M k < M.pl.length := by
  obtain ⟨_, a, b, _⟩ := ok.qn _ (List.getElem_mem hk)
  rw [qst, qen, getD_lt hk]
  exact ⟨a, b⟩
theorem dv_pl (ok : MdOk M most more) (f : Nat → Int) {i : Nat} (hi : i < M.pl.length) : dv M.qs.length (pS M.ps) (pE M.ps) f (M.pl.getD i "") = dv M.qs.length (qst M) (qen M) f i := by
  refine sm_congr fun k hk => ?_
  obtain ⟨_, b, c⟩ := pN_at (ps_at hk)
  obtain ⟨a1, a2⟩ := q_lt ok hk
  dsimp only at b c ⊢
  rw [b, c, dl_pl ok a1 hi, dl_pl ok a2 hi]
theorem dv_out (ok : MdOk M most more) (f : Nat → Int) {x : Str} (hx : x ∉ M.pl) : dv M.qs.length (pS M.ps) (pE M.ps) f x = 0 := by
  rw [dv, sm_congr (g := fun _ => 0) (fun k hk => ?_), sm_zero]
  obtain ⟨_, b, c⟩ := pN_at (ps_at hk)
  obtain ⟨a1, a2⟩ := q_lt ok hk
  dsimp only at b c ⊢
  rw [b, c, dl_out hx a1, dl_out hx a2]
  simp
theorem keptB_iff (ok : MdOk M most more) (r : List Int) : keptB M r = true ↔ ∀ x, dv M.qs.length (pS M.ps) (pE M.ps) (rwf r) x = 0 := by
  rw [keptB, List.all_eq_true]
  constructor
  · intro h x
    by_cases hx : x ∈ M.pl
    · obtain ⟨i, hi, e⟩ := List.mem_iff_getElem.mp hx
      have := dv_pl ok (rwf r) hi
      rw [getD_lt hi, e] at this
      rw [this]
      exact of_decide_eq_true (h i (List.mem_range.mpr hi))
    · exact dv_out ok _ hx
  · intro h i hi
    have hi := List.mem_range.mp hi
    exact decide_eq_true (by rw [stay, ← dv_pl ok (rwf r) hi]; exact h _)
abbrev RingM (M : Mod) (p : Nat) (f : Nat → Int) : Prop := Ring M.qs.length (pS M.ps) (pE M.ps) (shutP M.ps M.ms) p f
end
end RV
/-! a def called by keywords alone; lists of counts that are shown -/
namespace RV
open PySem L2 PyProof.Rows TL
def FnKd (P : Program) (w : World) (K : PySem.W.Frag) (mg : Str → Option Value) (base : Heap) (x : Str) (k : Nat) (ks : List Str) (sp : Sp) (gV : List V → List V → List V) : Prop :=
  ∃ f fd ps g, mg x = some (.ref f) ∧ PySem.W.keepIn K (.ref f) = true ∧ KBn K fd ps 0 ks g gV ∧ FnOk P w K mg base CX0 k f fd ps sp
def tCallK0 (n : Nat) (sp : Sp) (gV : List V → List V → List V) (tk : TA) : TE := fun σ H Q => tk σ H fun zs H2 => zs.length = n ∧ sp (gV [] zs) H2 Q E0
section
variable {X : Cx} {k : Nat} {x : Str} {ks : List Str} {sp : Sp} {gV : List V → List V → List V} {kws : List Keyword} {tk : TA} {p pos : Pos}
end
/-- f(pipe=y, net=x) -/
def gPN (vs zs : List V) : List V := match vs, zs with
  | [], [y, x] => [x, y]
  | _, _ => []
def sp_right23 : Sp := fun vs H Q _ => ∃ (a : Addr) (n : Nat), vs = [.ref a] ∧ WellAt H a n ∧ n < 500000 ∧ ∀ H', Grow a H H' → Q (.bl true) H'
/-- what is due for each pipe -/
def dueL (M : Mod) : List (Option Nat) := (List.range M.qs.length).map fun k => strP M.ps M.ms (pN M.ps k)
end RV
/-! the law's own call, whatever its parameter is called -/
namespace RV
open PySem L2 PyProof.Rows
theorem walkGx (x : Str) (k : Nat) {l : PySem.W.OpenLaw} {q : Program} {loose : List Str} {XP : (Str → Option Value) → Heap → Prop} {YP : World → Heap → Prop} {d : DefRec} {K : Params → PySem.W.Frag} (hr : Room k callerA) (hn : l.most = some 63) (hdf : d.params.defaults = [])
    (hY : ∀ (w : World) (h : Heap), YP w h → (K w.params).In h)
    (F : ∀ (w : World) (mg : Str → Option Value) (fa : Addr) (h : Heap), (K w.params).In h → h.Ns mainGlobals mg → mg d.name = some (.ref fa) →
      ∃ fd : FuncData, (∀ (s : Shared) (u : Value), BindsTo s fd ⟨[u], []⟩ [(x, u)]) ∧ ∀ base : Heap, (K w.params).In base → base.Ns mainGlobals mg → FnG l.prog w (K w.params) mg base k fa fd [x] (spLaw (K w.params))) :
    PySem.W.WalkO q loose XP YP l.row.toRowW d [] (fun f vs => PySem.call f vs) := by
  refine Att.attach_call hn hdf fun w s₀ s₁ mg mb fa o pm cd doc a vs ns G Y ho hd hcd hmg hobj hints hlen hg => ?_
  obtain ⟨fd, hb, hF⟩ := F w mg fa _ (hY w _ Y) G.T.g hmg
  exact callG (hY w _ Y) G.T.g G.T.b G.T.builtins G.T.nolimit hg hobj hints (Nat.le_trans hlen (by decide)) hr hF hb fun H hS => ⟨a, ns, rfl, hS, hlen, fun _ => rfl⟩
end RV
/-! sum of a tuple, repr of a truth value; faults, can_tell -/
namespace RV
open PySem L2 PyProof.Rows TL
section
variable {X : Cx}
def rSumT (K : PySem.W.Frag) : List V → Hp → VK → Prop := fun vs H Q => ∃ (a : Addr) (ns : List Int), vs = [V.ref a] ∧ SqT K H a (ns.map V.int) ∧ Q (.int ns.sum) H
def rReprB : List V → Hp → VK → Prop := fun xs H Q => ∃ b, xs = [.bl b] ∧ Q (.str (if b then "True" else "False")) H
end
/-- faults -/
structure Flt (a b c : Int) : Prop where
  h0 : 0 ≤ a
  h1 : a ≤ b
  h2 : b ≤ 3
  h3 : 0 ≤ c
  h4 : c ≤ 3
def sp_isb : Sp := fun vs H Q _ => ∃ c : Int, vs = [.int c] ∧ 0 ≤ c ∧ c ≤ 3 ∧ Q (.bl true) H
def sp_arf (K : PySem.W.Frag) : Sp := fun vs H Q _ => ∃ (t : Addr) (a b c : Int), vs = [.ref t] ∧ SqT K H t [.int a, .int b, .int c] ∧ Flt a b c ∧ ∀ H', Same H H' → Q (.bl true) H'
def sp_chf (K : PySem.W.Frag) : Sp := fun vs H Q _ => ∃ (t : Addr) (a b c : Int), vs = [.ref t] ∧ SqT K H t [.int a, .int b, .int c] ∧ Flt a b c ∧ ∀ H', Same H H' → Q .non H'
def tellB : Option Nat → Int → Bool
  | none, _ => true
  | some m, s => decide (s < (m : Int))
def sp_tell (K : PySem.W.Frag) (CN CP CM : Addr) : Sp := fun vs H Q _ => ∃ (x t : Addr) (ps : List P3) (ms : List M3) (y : Str) (a b c : Int), vs = [.ref x, .str y, .ref t] ∧ NetR K CN CP CM H x ps ms ∧ POk ps ∧ ms.length ≤ 12 ∧ y ∈ ps.map (·.1) ∧ SqT K H t [.int a, .int b, .int c] ∧ Flt a b c ∧
  ∀ H', Same H H' → Q (.bl (tellB (strP ps ms y) (a + b + c))) H'
/-- drawn faults -/
def sp_faults : Sp := fun vs H Q _ => ∃ (w : Addr) (n : Nat), vs = [.ref w, .int 3] ∧ WellAt H w n ∧ n < 900000 ∧
  ∀ (t : Addr) (a b c : Int) H', Grow w H H' → WellAt H' w (n + 5) → H' t = some (.tup [.int a, .int b, .int c]) → t ≠ w → Flt a b c → Q (.ref t) H'
end RV
/-! the flow of a shortest way is one of -1, 0 and 1: a way that is no shorter is not taken, so no way comes to a place twice -/
namespace RV
section
set_option linter.unusedSectionVars false
variable {α : Type} [DecidableEq α] {n : Nat} {st en : Nat → α} {w : Nat → Nat} {ok : Nat → Prop} {u x : α} {g g' : Dist α} {d : Nat} {f : Nat → Int}
/-- a way without loops of this length and flow; each place on it is known by a way that is no longer -/
def GW (st en : Nat → α) (w : Nat → Nat) (ok : Nat → Prop) (u : α) (g : Dist α) (x : α) (d : Nat) (f : Nat → Int) : Prop :=
  ∃ l vs, Sw st en ok u x l vs ∧ wl w l = d ∧ (∀ k, f k = fl l k) ∧ ∀ y ∈ vs, ∃ d', g y = some d' ∧ d' ≤ d
end
end RV
set_option linter.all false
/-! sets of texts written as comprehensions, with any number of clauses: {x for a in .. for b in ..} -/
namespace RV
open PySem L2 PySem.Spec PyProof.Rows
/-- what is run in a turn behind a clause's tests: the next clause, or the member's being put -/
abbrev TB := L2.St → Hp → (Hp → Prop) → Prop
def HasB (X : Cx) (vs : List Nat) (m : Sem PySem.Fin → Sem PySem.Fin) (tb : TB) : Prop := ∀ (pins : List (Addr × Obj)) (s : Shared) (σ : L2.St) (H : Hp) (Q : Hp → Prop) (z : Sem PySem.Fin) (R : PySem.Fin → Shared → Prop), Inv X pins σ H s → tb σ H Q →
  (∀ σ' H' s', Inv X pins σ' H' s' → wipe σ' vs = wipe σ vs → Q H' → wpAny (model X.prog X.w) X.A z R (fun _ _ => False) s') → wpAny (model X.prog X.w) X.A (m z) R (fun _ _ => False) s
/-- how a clause's turn reads -/
def TurnIs (e tg : Expr) (k : Nat) (at0 : Pos) (ifs : List Expr) (acc : Value) (env : Env) (body : Sem PySem.Fin → Sem PySem.Fin) : Prop := ∀ it, compTurn e k it acc env = (do
  standAt at0
  match ← pyNext it with
  | none => pure (.done .next)
  | some v => do
    letOwnedTupleGo tg it v
    assign tg env v
    let ok ← forIn ifs true fun c ok => if ok = true then do let ok ← isTrue c env (eval c env); pure (ForInStep.yield ok) else pure (ForInStep.yield ok)
    if ok = true then body (again (.compLoop e k it acc env)) else again (.compLoop e k it acc env))
/-- all turns of a clause whose iterator J has come -/
def tCl (J : It) (g : TG) (tt : TT) (tb : TB) (vs : List Nat) : TB := fun σ H Q => ∃ W : Nat → Nat → Hp → Prop, (∃ m, W 0 m H) ∧ ∀ i m H, W i m H →
  (J.stop i H ∧ Q H) ∨ (J.go i H ∧ ∃ Nx : Hp → Prop, (∀ H', Nx H' → ∃ m', m' < m ∧ W (i + 1) m' H') ∧ ∀ x H', J.yld i H x H' → g x (wipe σ vs) H' fun σ2 H2 => wipe σ2 vs = wipe σ vs ∧ tt σ2 H2 fun b H3 => if b = true then tb σ2 H3 Nx else Nx H3)
section
variable {X : Cx}
/-- the next clause -/
def tNx (wi : TI) (g : TG) (tt : TT) (tb : TB) (ws : List Nat) : TB := fun σ H Q => wi σ H fun J H1 => tCl J g tt tb ws σ H1 Q
/-- a member is put -/
def tPutS (P : Program) (w : World) (D : Addr) (te : TE) : TB := fun σ H Q => te σ H fun y H1 => ∃ (z : Str) (S : Str → Bool) (n : Nat), y = .str z ∧ H1 D = some (SetT P w D S n) ∧ n + 1 < 4000 ∧ ∀ n', n' ≤ n + 1 → Q (upd H1 D (SetT P w D (fun j => S j || decide (j = z)) n'))
end
end RV
set_option linter.all false
/-! {x for a in .. if .. for b in .. ..}: the whole comprehension -/
namespace RV
open PySem L2 PySem.Spec PyProof.Rows
def BlkOf (X X' : Cx) (scope : Scope) : Prop := ∃ (s : Shared) (H : Hp) (C : Addr) (cl : List (Str × Addr)) (fp : List Addr), X' = X.blk s H scope (compEnvC scope cl C X.env) fp
section
variable {X : Cx}
def tSet (P : Program) (w : World) (wi : TI) (g : TG) (tt : TT) (tb : Addr → TB) (vs : List Nat) : TE := fun σ H Q => wi σ H fun J H1 => ∀ D, H1 D = none → tCl J g tt (tb D) vs σ (upd H1 D (SetT P w D (fun _ => false) 0)) fun H' => Q (.ref D) H'
end
end RV
set_option linter.all false
/-! {x for a in .. for b in ..} with two clauses and with three, the members texts -/
namespace RV
open PySem L2 PySem.Spec PyProof.Rows
section
variable {X : Cx}
end
section
variable {X : Cx} {K : PySem.W.Frag}
theorem pi_listK {tg l : Expr} {tl : TE} (hl : PE X l tl) (h : X.K = K := by rfl) : PI X tg l (iList K tl) := h ▸ pi_list hl
end
/-- everything but the object at d stays -/
def Sb (d : Addr) (H H' : Hp) : Prop := ∀ b o, b ≠ d → H b = some o → H' b = some o
theorem Sb.refl {d : Addr} (H : Hp) : Sb d H H := fun _ _ _ e => e
theorem Sb.same {d : Addr} {A B C : Hp} (s : Same A B) (n : A d = none) (h : Sb d B C) : Same A C := fun b o e => h b o (ne_of_none e n) (s b o e)
/-- places -/
def pls (ps : List P3) : List Str := ps.flatMap fun p => [p.2.1, p.2.2]
def SortP (xs : List Str) (zs : List Str) : Prop := sortedS zs = true ∧ zs.Nodup ∧ ∀ z, z ∈ zs ↔ z ∈ xs
def sp_plc (K : PySem.W.Frag) (CN CP CM : Addr) : Sp := fun vs H Q _ => ∃ (x : Addr) (ps : List P3) (ms : List M3), vs = [.ref x] ∧ NetR K CN CP CM H x ps ms ∧ ps.length ≤ 12 ∧
  ∀ (t : Addr) (zs : List Str) H', Same H H' → H' t = some (.tup (zs.map V.str)) → SortP (pls ps) zs → zs.length ≤ 24 → Q (.ref t) H'
end RV
set_option linter.all false
/-! comprehensions over pairs of two tuples; flows at places -/
namespace RV
open PySem L2 PySem.Spec PyProof.Rows TL
section
variable {K : PySem.W.Frag} {a b : Addr} {xs ys : List V} {D : Addr} {te : TE} {tt : TT} {vs : List Nat} {σ : L2.St} {H1 : Hp} {Qd : Hp → Prop} {i j : Nat}
end
/-- what comes in less what goes out -/
def dvP (ps : List P3) (fs : List Int) (z : Str) : Int := dv ps.length (pS ps) (pE ps) (rwf fs) z
def sumAt (g : Nat → Str) (n : Nat) (fs : List Int) (z : Str) : List Int := ((List.range n).filter fun k => decide (g k = z)).map (rwf fs)
def flwB (ps : List P3) (fs : List Int) : Bool := decide (fs.length = ps.length) && (pls ps).all fun z => decide (dvP ps fs z = 0)
section
variable (K : PySem.W.Frag) (CN CP CM : Addr)
def sp_kat : Sp := fun vs H Q _ => ∃ (x t : Addr) (ps : List P3) (ms : List M3) (fs : List Int) (z : Str), vs = [.ref x, .ref t, .str z] ∧ NetR K CN CP CM H x ps ms ∧ ps.length ≤ 12 ∧ SqT K H t (fs.map V.int) ∧ fs.length = ps.length ∧ ∀ H', Same H H' → Q (.int (dvP ps fs z)) H'
def sp_isf : Sp := fun vs H Q _ => ∃ (x t : Addr) (ps : List P3) (ms : List M3) (fs : List Int), vs = [.ref x, .ref t] ∧ NetR K CN CP CM H x ps ms ∧ ps.length ≤ 12 ∧ SqT K H t (fs.map V.int) ∧ fs.length ≤ 1000 ∧ ∀ H', Same H H' → Q (.bl (flwB ps fs)) H'
/-- a ring through a pipe with so many meters -/
structure RingF (ps : List P3) (ms : List M3) (y : Str) (c : Nat) (fs : List Int) : Prop where
  len : fs.length = ps.length
  ring : ∃ p, p < ps.length ∧ pN ps p = y ∧ Ring ps.length (pS ps) (pE ps) (shutP ps ms) p (rwf fs) ∧ cnt ps.length (fun k => wtP ms (pN ps k)) (rwf fs) = c
def sp_ring : Sp := fun vs H Q _ => ∃ (x : Addr) (ps : List P3) (ms : List M3) (y : Str), vs = [.ref x, .str y] ∧ NetR K CN CP CM H x ps ms ∧ POk ps ∧ ms.length ≤ 12 ∧ y ∈ ps.map (·.1) ∧
  (strP ps ms y = none → ∀ H', Same H H' → Q .non H') ∧ ∀ c (t : Addr) fs H', strP ps ms y = some c → Same H H' → SqT K H' t (fs.map V.int) → RingF ps ms y c fs → Q (.ref t) H'
end
end RV
set_option linter.all false
/-! what the found ways are: rings without loops -/
namespace RV
open PySem L2 PyProof.Rows TL
def ZG (ps : List P3) (ms : List M3) (p : Nat) : Dist Str → Str → Nat → List Int → Prop := fun g x d fs => GW (pS ps) (pE ps) (fun k => wtP ms (pN ps k)) (okp ps.length (shutP ps ms) p) (pE ps p) g x d (rwf fs)
/-- the flow with 1 at a pipe -/
def ringL (ps : List P3) (y : Str) (fs : List Int) : List Int := (List.range ps.length).map fun k => if pN ps k = y then 1 else rwf fs k
end RV
set_option linter.all false
/-! rings of models -/
namespace RV
open PySem L2 PyProof.Rows TL
def sp_rr (K : PySem.W.Frag) (CN CP CM : Addr) : Sp := fun vs H Q _ => ∃ (l x : Addr) (M : Mod) (most more p : Nat), vs = [.ref l, .ref x, .int (p : Nat)] ∧ MdAt H l M ∧ MdOk M most more ∧ most ≤ 12 ∧ more ≤ 12 ∧ NetR K CN CP CM H x M.ps M.ms ∧ p < M.qs.length ∧ ∀ H', Same H H' → Q (.bl true) H'
end RV
set_option linter.all false
/-! for x, y, z in zip(a, b, c): three tuples -/
namespace RV
open PySem L2 PySem.Spec PyProof.Rows TL
/-- the tuples at a, b, c as they stand; the items in new tuples -/
def Itz3 (K : PySem.W.Frag) (a b c : Addr) : It :=
  ⟨fun i H => ∃ (xs ys zs : List V) (x y z : V), SqT K H a xs ∧ SqT K H b ys ∧ SqT K H c zs ∧ xs[i]? = some x ∧ ys[i]? = some y ∧ zs[i]? = some z,
    fun i H v H' => ∃ T x y z, v = .ref T ∧ H T = none ∧ H' = upd H T (.tup [x, y, z]) ∧ (∀ xs, SqT K H a xs → xs[i]? = some x) ∧ (∀ ys, SqT K H b ys → ys[i]? = some y) ∧ ∀ zs, SqT K H c zs → zs[i]? = some z,
    fun i H => ∃ xs ys zs : List V, SqT K H a xs ∧ SqT K H b ys ∧ SqT K H c zs ∧ xs.length = i ∧ ys.length = i ∧ zs.length = i⟩
def iZip3 (K : PySem.W.Frag) (ta : TA) : TI := fun σ H R => ta σ H fun vs H1 => ∃ a b c xs ys zs, vs = [.ref a, .ref b, .ref c] ∧ SqT K H1 a xs ∧ SqT K H1 b ys ∧ SqT K H1 c zs ∧ R (Itz3 K a b c) H1
def YTri (xs ys zs : Nat → Option V) : Nat → Hp → V → Hp → Prop := fun i H v H' => ∃ T x y z, v = .ref T ∧ H T = none ∧ H' = upd H T (.tup [x, y, z]) ∧ xs i = some x ∧ ys i = some y ∧ zs i = some z
end RV
set_option linter.all false
/-! worlds: readings, wrong and silent meters -/
namespace RV
open PySem L2 PySem.Spec PyProof.Rows TL
section
variable {J : It} {n : Nat} {GG : Hp → Prop} {Y : Nat → Hp → V → Hp → Prop} {g : TG} {tt : TT} {tk tv : TE} {vs : List Nat} {σ : L2.St} {H1 : Hp} {D : Addr} {Qd : Hp → Prop}
/-- a dict comprehension over a walk -/
theorem dc_it (wk : Walk J n GG Y) (Pv : Nat → Hp → Prop) (h0 : Pv 0 (upd H1 D (.dK []))) (hG : ∀ i H', i ≤ n → Pv i H' → GG H')
    (hs : ∀ i x Ha Hb, i < n → Pv i Ha → Y i Ha x Hb → g x (wipe σ vs) Hb fun σ2 H2 => wipe σ2 vs = wipe σ vs ∧ tt σ2 H2 fun b H3 =>
      if b = true then tk σ2 H3 fun y H4 => tv σ2 H4 fun z H5 => ∃ kvs k, y = kV k ∧ H5 D = some (.dK kvs) ∧ kvs.length < sizeLine ∧ Pv (i + 1) (upd H5 D (.dK (putK kvs k z))) else Pv (i + 1) H3) (hd : ∀ H', Pv n H' → Qd H') :
    ∃ W : Nat → Nat → Hp → Prop, (∃ m, W 0 m (upd H1 D (.dK []))) ∧ ∀ i m H, W i m H →
      (J.stop i H ∧ Qd H) ∨ (J.go i H ∧ ∃ Nx : Hp → Prop, (∀ H', Nx H' → ∃ m', m' < m ∧ W (i + 1) m' H') ∧ ∀ x H', J.yld i H x H' → g x (wipe σ vs) H' fun σ2 H2 => wipe σ2 vs = wipe σ vs ∧ tt σ2 H2 fun b H3 =>
        if b = true then tk σ2 H3 fun y H4 => tv σ2 H4 fun z H5 => ∃ kvs k, y = kV k ∧ H5 D = some (.dK kvs) ∧ kvs.length < sizeLine ∧ Nx (upd H5 D (.dK (putK kvs k z))) else Nx H3) := by
  refine ⟨fun i m H' => m = n - i ∧ i ≤ n ∧ Pv i H', ⟨n, by simp, Nat.zero_le _, h0⟩, fun i m H' z => ?_⟩
  obtain ⟨rfl, hi, p⟩ := z
  by_cases hlt : i < n
  · exact .inr ⟨wk.goes i H' hlt (hG i H' hi p), Pv (i + 1), fun H'' p' => ⟨n - (i + 1), by omega, rfl, hlt, p'⟩, fun x H'' y => hs i x H' H'' hlt p (wk.yields i H' x H'' hlt (hG i H' hi p) y)⟩
  · obtain rfl : i = n := by omega
    exact .inl ⟨wk.stops H' (hG i H' hi p), hd H' p⟩
end
abbrev gTri (K : PySem.W.Frag) (i j l : Nat) : TG := gTup K 3 (gCons (gName i) (gCons (gName j) (gCons (gName l) gNil)))
section
variable {K : PySem.W.Frag} {a b c : Addr} {xs ys zs : List V} {D : Addr} {te : TE} {tt : TT} {vs : List Nat} {σ : L2.St} {H1 : Hp} {Qd : Hp → Prop} {i j l : Nat}
abbrev s3 (σ : L2.St) (i j l : Nat) (x y z : V) : L2.St := ((σ.set i (some x)).set j (some y)).set l (some z)
end
/-! ### readings -/
def vO : Option Int → V
  | none => .non
  | some c => .int c
def vR (rs : List (Option Int)) : List V := rs.map vO
theorem vO_non (o : Option Int) : decide (vO o = V.non) = o.isNone := by cases o <;> rfl
def mN (ms : List M3) (k : Nat) : Str := (ms.getD k ("", "", false)).1
def mA (ms : List M3) (k : Nat) : Str := (ms.getD k ("", "", false)).2.1
def mZ (ms : List M3) (k : Nat) : Bool := (ms.getD k ("", "", false)).2.2
def rO (rs : List (Option Int)) (k : Nat) : Option Int := rs.getD k none
theorem m_at {ms : List M3} {k : Nat} {q : M3} (h : ms[k]? = some q) : mN ms k = q.1 ∧ mA ms k = q.2.1 ∧ mZ ms k = q.2.2 := by simp [mN, mA, mZ, List.getD, h]
/-- the flow of the pipe of this name -/
def amt (ps : List P3) (fs : List Int) (y : Str) : Int := match ps.findIdx? fun p => decide (p.1 = y) with
  | some k => rwf fs k
  | none => 0
def rdF (ps : List P3) (ms : List M3) (fs : List Int) : List Int := ms.map fun m => amt ps fs m.2.1
structure RdOk (ms : List M3) (rs : List (Option Int)) : Prop where
  len : rs.length = ms.length
  sea : ∀ k, k < ms.length → mZ ms k = true → rO rs k ≠ none
structure WdOk (ps : List P3) (ms : List M3) (fs : List Int) (rs : List (Option Int)) : Prop where
  fl : fs.length = ps.length
  fw : flwB ps fs = true
  rd : RdOk ms rs
  sea : ∀ k, k < ms.length → mZ ms k = true → rO rs k = some (amt ps fs (mA ms k))
def wrB (ps : List P3) (ms : List M3) (fs : List Int) (rs : List (Option Int)) (k : Nat) : Bool := match rO rs k with
  | some v => decide (v ≠ amt ps fs (mA ms k))
  | none => false
def wrN (ps : List P3) (ms : List M3) (fs : List Int) (rs : List (Option Int)) : List Str := ((List.range ms.length).filter (wrB ps ms fs rs)).map (mN ms)
def slN (ms : List M3) (rs : List (Option Int)) : List Str := ((List.range ms.length).filter fun k => (rO rs k).isNone).map (mN ms)
def Asc (xs zs : List Str) : Prop := PyProof.Rows.sortedS zs = true ∧ zs.Perm xs
section
variable (K : PySem.W.Frag) (CN CP CM : Addr)
/-- a pair of a flow and readings -/
def WAt (H : Hp) (a : Addr) (fs : List Int) (rs : List (Option Int)) : Prop := ∃ tf tr, SqT K H a [.ref tf, .ref tr] ∧ SqT K H tf (fs.map V.int) ∧ SqT K H tr (vR rs)
def sp_rof : Sp := fun vs H Q _ => ∃ (x t : Addr) (ps : List P3) (ms : List M3) (fs : List Int), vs = [.ref x, .ref t] ∧ NetR K CN CP CM H x ps ms ∧ POk ps ∧ MOk ps ms ∧ SqT K H t (fs.map V.int) ∧ fs.length = ps.length ∧ flwB ps fs = true ∧
  ∀ (r : Addr) H', Same H H' → H' r = some (.tup ((rdF ps ms fs).map V.int)) → Q (.ref r) H'
def sp_isr : Sp := fun vs H Q _ => ∃ (a : Addr) (m : M3) (o : Option Int), vs = [.ref a, vO o] ∧ MetAt CM H a m ∧ Q (.bl (o.isSome || !m.2.2)) H
def sp_chr : Sp := fun vs H Q _ => ∃ (x t : Addr) (ps : List P3) (ms : List M3) (rs : List (Option Int)), vs = [.ref x, .ref t] ∧ NetR K CN CP CM H x ps ms ∧ ms.length ≤ 12 ∧ SqT K H t (vR rs) ∧ RdOk ms rs ∧ ∀ H', Same H H' → Q .non H'
def sp_are : Sp := fun vs H Q _ => ∃ (x t : Addr) (ps : List P3) (ms : List M3) (rs : List (Option Int)), vs = [.ref x, .ref t] ∧ NetR K CN CP CM H x ps ms ∧ ms.length ≤ 12 ∧ SqT K H t (vR rs) ∧ RdOk ms rs ∧ ∀ H', Same H H' → Q (.bl true) H'
def sp_seal : Sp := fun vs H Q _ => ∃ (x t r : Addr) (ps : List P3) (ms : List M3) (fs : List Int) (rs : List (Option Int)), vs = [.ref x, .ref t, .ref r] ∧ NetR K CN CP CM H x ps ms ∧ POk ps ∧ MOk ps ms ∧ SqT K H t (fs.map V.int) ∧ SqT K H r (vR rs) ∧ WdOk ps ms fs rs ∧ ∀ H', Same H H' → Q (.bl true) H'
def sp_isw : Sp := fun vs H Q _ => ∃ (x a : Addr) (ps : List P3) (ms : List M3) (fs : List Int) (rs : List (Option Int)), vs = [.ref x, .ref a] ∧ NetR K CN CP CM H x ps ms ∧ POk ps ∧ MOk ps ms ∧ WAt K H a fs rs ∧ WdOk ps ms fs rs ∧ ∀ H', Same H H' → Q (.bl true) H'
def sp_chw : Sp := fun vs H Q _ => ∃ (x a : Addr) (ps : List P3) (ms : List M3) (fs : List Int) (rs : List (Option Int)), vs = [.ref x, .ref a] ∧ NetR K CN CP CM H x ps ms ∧ POk ps ∧ MOk ps ms ∧ WAt K H a fs rs ∧ WdOk ps ms fs rs ∧ ∀ H', Same H H' → Q .non H'
def sp_sln : Sp := fun vs H Q _ => ∃ (x t : Addr) (ps : List P3) (ms : List M3) (rs : List (Option Int)), vs = [.ref x, .ref t] ∧ NetR K CN CP CM H x ps ms ∧ ms.length ≤ 12 ∧ SqT K H t (vR rs) ∧ rs.length = ms.length ∧
  ∀ (l : Addr) H', Same H H' → H l = none → H' l = some (.lst ((slN ms rs).map V.str)) → Q (.ref l) H'
def sp_wrm : Sp := fun vs H Q _ => ∃ (x a : Addr) (ps : List P3) (ms : List M3) (fs : List Int) (rs : List (Option Int)), vs = [.ref x, .ref a] ∧ NetR K CN CP CM H x ps ms ∧ POk ps ∧ MOk ps ms ∧ WAt K H a fs rs ∧ WdOk ps ms fs rs ∧
  ∀ (t : Addr) (zs : List Str) H', Same H H' → SqT K H' t (zs.map V.str) → Asc (wrN ps ms fs rs) zs → Q (.ref t) H'
def sp_slm : Sp := fun vs H Q _ => ∃ (x a : Addr) (ps : List P3) (ms : List M3) (fs : List Int) (rs : List (Option Int)), vs = [.ref x, .ref a] ∧ NetR K CN CP CM H x ps ms ∧ POk ps ∧ MOk ps ms ∧ WAt K H a fs rs ∧ WdOk ps ms fs rs ∧
  ∀ (t : Addr) (zs : List Str) H', Same H H' → SqT K H' t (zs.map V.str) → Asc (slN ms rs) zs → Q (.ref t) H'
end
end RV
set_option linter.all false
/-! two worlds with the same readings -/
namespace RV
open PySem L2 PySem.Spec PyProof.Rows TL
/-- what is seen in the world without flow and in the one with a ring -/
def seen (a c : Int) : Int → List Int → List (Option Int)
  | _, [] => []
  | met, v :: vs => if v = 0 then some 0 :: seen a c met vs else (if met < a then some v else if met < a + c then none else some 0) :: seen a c (met + 1) vs
def met (m : Int) : List Int → Int
  | [] => m
  | v :: vs => if v = 0 then met m vs else met (m + 1) vs
def isW1 (o : Option Int) : Bool := match o with
  | some r => decide (r ≠ 0)
  | none => false
def isW2 (q : Int × Option Int) : Bool := match q.2 with
  | some r => decide (r ≠ q.1)
  | none => false
def nz (vs : List Int) : Nat := (vs.filter fun v => decide (v ≠ 0)).length
section
variable (K : PySem.W.Frag) (CN CP CM : Addr)
def sp_seen : Sp := fun vs H Q _ => ∃ (x t f : Addr) (ps : List P3) (ms : List M3) (fs : List Int) (a b c : Int), vs = [.ref x, .ref t, .ref f] ∧ NetR K CN CP CM H x ps ms ∧ POk ps ∧ MOk ps ms ∧ SqT K H t (fs.map V.int) ∧ fs.length = ps.length ∧ flwB ps fs = true ∧ SqT K H f [.int a, .int b, .int c] ∧
  ∀ (r : Addr) H', Same H H' → SqT K H' r (vR (seen a c 0 (rdF ps ms fs))) → Q (.ref r) H'
/-- two worlds with the same readings -/
def MisAt (H : Hp) (t : Addr) (n : Nat) (fs : List Int) (rs : List (Option Int)) : Prop := ∃ u v tf tg tr, SqT K H t [.ref u, .ref v] ∧ SqT K H u [.ref tf, .ref tr] ∧ SqT K H v [.ref tg, .ref tr] ∧ SqT K H tf ((List.replicate n (0 : Int)).map V.int) ∧ SqT K H tg (fs.map V.int) ∧ SqT K H tr (vR rs)
def sp_misl : Sp := fun vs H Q _ => ∃ (x t : Addr) (ps : List P3) (ms : List M3) (y : Str) (a b c : Int), vs = [.ref x, .str y, .ref t] ∧ NetR K CN CP CM H x ps ms ∧ POk ps ∧ MOk ps ms ∧ y ∈ ps.map (·.1) ∧ SqT K H t [.int a, .int b, .int c] ∧ Flt a b c ∧
  (tellB (strP ps ms y) (a + b + c) = true → ∀ H', Same H H' → Q .non H') ∧
  ∀ (n : Nat) (r : Addr) fs H', strP ps ms y = some n → (n : Int) ≤ a + b + c → RingF ps ms y n fs → Same H H' → MisAt K H' r ps.length fs (seen a c 0 (rdF ps ms fs)) → Q (.ref r) H'
end
end RV
set_option linter.all false
/-! lists of indexes; worlds of models -/
namespace RV
open PySem L2 PySem.Spec PyProof.Rows TL
def vI (k : Nat) : V := .int (k : Int)
theorem rgL_eq (n : Nat) : rgL n = (List.range n).map vI := rfl
section
variable {K : PySem.W.Frag} {D : Addr} {te : TE} {tt : TT} {vs : List Nat} {σ : L2.St} {H1 : Hp} {Qd : Hp → Prop} {i : Nat} {J : It} {GG : Hp → Prop}
theorem lc_idx (L : List Nat) (p : Nat → Bool) (val : Nat → V) (wk : Walk J (L.map vI).length GG (YAt (L.map vI))) (nD : H1 D = none) (len : L.length ≤ 1000) (hG : ∀ H', Same H1 H' → GG H') (hw : ∀ x, wipe ((wipe σ vs).set i x) vs = wipe σ vs)
    (ht : ∀ k ∈ L, ∀ H2, Same H1 H2 → ∀ R : Bool → Hp → Prop, (∀ H3, Same H2 H3 → R (p k) H3) → tt ((wipe σ vs).set i (some (vI k))) H2 R)
    (he : ∀ k ∈ L, p k = true → ∀ H2, Same H1 H2 → ∀ R : VK, (∀ H3, Same H2 H3 → R (val k) H3) → te ((wipe σ vs).set i (some (vI k))) H2 R)
    (k : ∀ H', Same H1 H' → H' D = some (.lst ((L.filter p).map val)) → Qd H') :
    ∃ W : Nat → Nat → Hp → Prop, (∃ m, W 0 m (upd H1 D (.lst []))) ∧ ∀ i' m H, W i' m H →
      (J.stop i' H ∧ Qd H) ∨ (J.go i' H ∧ ∃ Nx : Hp → Prop, (∀ H', Nx H' → ∃ m', m' < m ∧ W (i' + 1) m' H') ∧ ∀ x H', J.yld i' H x H' → gName i x (wipe σ vs) H' fun σ2 H2 => wipe σ2 vs = wipe σ vs ∧ tt σ2 H2 fun b H3 =>
        if b = true then te σ2 H3 fun y H4 => ∃ acc, H4 D = some (.lst acc) ∧ acc.length < sizeLine ∧ Nx (upd H4 D (.lst (acc ++ [y]))) else Nx H3) := by
  refine L2.lc_it wk (fun m H' => Same H1 H' ∧ H' D = some (.lst (((L.take m).filter p).map val))) ⟨fun b o e => (upd_ne (ne_of_none e nD)).trans e, upd_same⟩ (fun m H' _ z => hG _ z.1) (fun m x Ha Hb hm hv y => ?_) (fun H' hv => ?_)
  · obtain ⟨s, eD⟩ := hv
    obtain ⟨rfl, hx⟩ := y
    rw [List.getElem?_map] at hx
    cases hu : L[m]? with
    | none => rw [hu] at hx; cases hx
    | some u =>
      rw [hu] at hx
      obtain rfl : vI u = x := Option.some.inj hx
      have hmem := List.mem_of_getElem? hu
      have et : L.take (m + 1) = L.take m ++ [u] := by rw [List.take_add_one, hu]; rfl
      refine ⟨hw _, ht u hmem Hb s _ fun H3 s3 => ?_⟩
      have eD3 := s3 _ _ eD
      have sH : Same H1 H3 := s.trans s3
      cases hp : p u with
      | false =>
        refine iteF ⟨sH, ?_⟩
        rw [eD3, et, List.filter_append, List.filter_cons_of_neg (by rw [hp]; decide), List.filter_nil, List.append_nil]
      | true =>
        refine iteT (he u hmem hp H3 sH _ fun H4 s4 => ⟨_, s4 _ _ eD3, ?_, fun b o e => ?_, ?_⟩)
        · rw [List.length_map]
          have l1 := List.length_filter_le p (L.take m)
          have l2 := List.length_take_le' m L
          exact Nat.lt_of_le_of_lt (Nat.le_trans l1 (Nat.le_trans l2 len)) (by decide)
        · rw [upd_ne (ne_of_none e nD)]
          exact s4 _ _ (sH _ _ e)
        · rw [upd_same, et, List.filter_append, List.filter_cons_of_pos hp, List.filter_nil, List.map_append]
          rfl
  · obtain ⟨s, eD⟩ := hv
    rw [List.length_map, List.take_length] at eD
    exact k H' s eD
end
theorem walk_idx {L : List Nat} {K : PySem.W.Frag} {a : Addr} : Walk (Itl K a) (L.map vI).length (fun H => SqL K H a (L.map vI)) (YAt (L.map vI)) := walk_list
theorem walk_rgi {n : Nat} : Walk (Itr 0 n) ((List.range n).map vI).length (fun _ => True) (YAt ((List.range n).map vI)) := walk_rgL
def sp_lw (K : PySem.W.Frag) : Sp := fun vs H Q _ => ∃ (l a : Addr) (M : Mod) (most more : Nat) (fs : List Int) (rs : List (Option Int)), vs = [.ref l, .ref a] ∧ MdAt H l M ∧ MdOk M most more ∧ most ≤ 12 ∧ more ≤ 12 ∧ WAt K H a fs rs ∧ WdOk M.ps M.ms fs rs ∧ (∀ c ∈ rs, True) ∧
  ∀ (r lw lm : Addr) H', Same H H' → H' r = some (.lst [.ref lw, .ref lm]) → H' lw = some (.lst (((List.range M.ms.length).filter (wrB M.ps M.ms fs rs)).map vI)) → H' lm = some (.lst (((List.range M.ms.length).filter fun k => (rO rs k).isNone).map vI)) → Q (.ref r) H'
end RV
set_option linter.all false
/-! misleading pairs of models -/
namespace RV
open PySem L2 PySem.Spec PyProof.Rows TL
def dI (k : Nat) : PyData := .int (k : Int)
def dR (o : Option Int) : PyData := match o with
  | none => .none
  | some c => .int c
section
variable {K : PySem.W.Frag} {H : Hp}
theorem dp_R : ∀ o : Option Int, Dp K H (vO o) (dR o)
  | none => .non
  | some c => .int c
theorem dps_R : ∀ xs : List (Option Int), DpAll K H (vR xs) (xs.map dR)
  | [] => .nil
  | x :: xs => .cons (dp_R x) (dps_R xs)
end
theorem NetR.gro2 {K : PySem.W.Frag} {CN CP CM : Addr} {a x : Addr} {H H' : Hp} {ps : List P3} {ms : List M3} {ys : List V} (h : NetR K CN CP CM H x ps ms) (e : H a = some (.lst ys)) (g : Grow a H H') : NetR K CN CP CM H' x ps ms := by
  obtain ⟨dx, tp, tm, pu, mu, ex, h1, h2, h3⟩ := h.ex
  exact ⟨dx, tp, tm, pu, mu, g _ _ (fun z => by rw [z, e] at ex; cases ex) ex, ⟨SqT.gro h1.t e g, fun u hu => (h1.o u hu).gro e g⟩, ⟨SqT.gro h2.t e g, fun u hu => (h2.o u hu).gro e g⟩, h3⟩
def sp_flt : Sp := fun vs H Q _ => ∃ (w : Addr) (n : Nat) (m : Int), vs = [.ref w, .int m] ∧ WellAt H w n ∧ n < 900000 ∧ 0 ≤ m ∧ m ≤ 3 ∧
  ∀ (t : Addr) (a b c : Int) H', Grow w H H' → WellAt H' w (n + 5) → H t = none → H' t = some (.tup [.int a, .int b, .int c]) → t ≠ w → Flt a b c → Q (.ref t) H'
def sp_pr (K : PySem.W.Frag) (CN CP CM : Addr) : Sp := fun vs H Q _ => ∃ (l x t : Addr) (M : Mod) (most more p : Nat) (a b c : Int), vs = [.ref l, .ref x, .int (p : Nat), .ref t] ∧ MdAt H l M ∧ MdOk M most more ∧ most ≤ 12 ∧ more ≤ 12 ∧ NetR K CN CP CM H x M.ps M.ms ∧ p < M.qs.length ∧ SqT K H t [.int a, .int b, .int c] ∧ Flt a b c ∧ ∀ H', Same H H' → Q (.bl true) H'
/-! ### the two worlds -/
section
variable {M : Mod} {most more p n : Nat} {fs : List Int} {a b c : Int}
end
end RV
/-! Ways side by side from one place to another: the strength of each pipe. -/
namespace RV
section
variable {α : Type} [DecidableEq α]
/-- how far a road's first t pipes lead -/
def upto (w : Nat → Nat) (kk : Nat → Nat → Nat) (j t : Nat) : Nat := ((List.range t).map fun s => w (kk j s)).sum
/-- R roads from x to y: road j's pipe number t is kk j t and joins the places nd j t and nd j (t + 1) -/
structure Roads (n : Nat) (st en : Nat → α) (R : Nat) (len : Nat → Nat) (kk : Nat → Nat → Nat) (nd : Nat → Nat → α) (x y : α) : Prop where
  pos : ∀ j, j < R → 0 < len j
  fst : ∀ j, j < R → nd j 0 = x
  lst : ∀ j, j < R → nd j (len j) = y
  lt : ∀ j t, j < R → t < len j → kk j t < n
  ends : ∀ j t, j < R → t < len j → (st (kk j t) = nd j t ∧ en (kk j t) = nd j (t + 1)) ∨ (st (kk j t) = nd j (t + 1) ∧ en (kk j t) = nd j t)
  all : ∀ k, k < n → ∃ j t, j < R ∧ t < len j ∧ kk j t = k
  inj : ∀ j t j' t', j < R → t < len j → j' < R → t' < len j' → kk j t = kk j' t' → j = j' ∧ t = t'
  ne : x ≠ y
  dc : ∃ dc : α → Nat × Nat, ∀ j t, j < R → 0 < t → t < len j → dc (nd j t) = (j, t) ∧ nd j t ≠ x ∧ nd j t ≠ y
variable {n : Nat} {st en : Nat → α} {R : Nat} {len : Nat → Nat} {kk : Nat → Nat → Nat} {nd : Nat → Nat → α} {x y u v : α} {ok : Nat → Prop} {w : Nat → Nat} {l : List (Nat × Bool)}
end
end RV
/-! The strength of a pipe in a net of ways side by side. -/
namespace RV
open PySem
section
variable {α : Type} {st en : Nat → α} {ok : Nat → Prop} {u v : α} {l : List (Nat × Bool)}
end
open Classical in
/-- sealed pipes weigh B -/
noncomputable def shW (shut : Nat → Prop) (w : Nat → Nat) (B : Nat) (k : Nat) : Nat := if shut k then B else w k
section
variable {ps : List P3} {ms : List M3} {R : Nat} {len : Nat → Nat} {kk : Nat → Nat → Nat} {nd : Nat → Nat → Str} {x y : Str}
/-- the meters of a road -/
def metR (ps : List P3) (ms : List M3) (kk : Nat → Nat → Nat) (j t : Nat) : Nat := upto (fun k => wtP ms (pN ps k)) kk j t
def OpenR (ps : List P3) (ms : List M3) (len : Nat → Nat) (kk : Nat → Nat → Nat) (j : Nat) : Prop := ∀ t, t < len j → ¬ shutP ps ms (kk j t)
end
end RV
/-! Ways side by side, from pipes in any order. -/
namespace RV
open PySem
/-- where the pipe of this name stands -/
def kkN (ps : List P3) (nm : Nat → Nat → Str) (j t : Nat) : Nat := (ps.map (·.1)).findIdx (fun z => decide (z = nm j t))
/-- the pipes of R roads: road j's pipe t is called nm j t and joins nd j t and nd j (t + 1) -/
structure RoadP (ps : List P3) (R : Nat) (len : Nat → Nat) (nm nd : Nat → Nat → Str) (x y : Str) : Prop where
  pos : ∀ j, j < R → 0 < len j
  fst : ∀ j, j < R → nd j 0 = x
  lst : ∀ j, j < R → nd j (len j) = y
  has : ∀ j t, j < R → t < len j → ∃ p ∈ ps, p.1 = nm j t ∧ ((p.2.1 = nd j t ∧ p.2.2 = nd j (t + 1)) ∨ (p.2.1 = nd j (t + 1) ∧ p.2.2 = nd j t))
  all : ∀ p ∈ ps, ∃ j t, j < R ∧ t < len j ∧ p.1 = nm j t
  un : (ps.map (·.1)).Nodup
  inj : ∀ j t j' t', j < R → t < len j → j' < R → t' < len j' → nm j t = nm j' t' → j = j' ∧ t = t'
  ne : x ≠ y
  dc : ∃ dc : Str → Nat × Nat, ∀ j t, j < R → 0 < t → t < len j → dc (nd j t) = (j, t) ∧ nd j t ≠ x ∧ nd j t ≠ y
section
variable {ps : List P3} {R : Nat} {len : Nat → Nat} {nm nd : Nat → Nat → Str} {x y : Str}
/-- the meters on road j, in all -/
def onR (ms : List M3) (nm : Nat → Nat → Str) (j t : Nat) : Nat := ((List.range t).map fun s => wtP ms (nm j s)).sum
def ShutR (ms : List M3) (len : Nat → Nat) (nm : Nat → Nat → Str) (j : Nat) : Prop := ∃ t, t < len j ∧ seP ms (nm j t) ≠ []
end
end RV
/-! The places of ways side by side: x, y, and s with two figures between them. -/
namespace RV
open PySem
def nS (i : Nat) : Str := (toString (i : Int) : String)
def stopN (j k : Nat) : Str := ("s" : Str) ++ nS j ++ nS k
def nodeN (len : Nat → Nat) (j t : Nat) : Str := if t = 0 then "x" else if t = len j then "y" else stopN j (t - 1)
/-- which place it is -/
def stopD (s : Str) : Nat × Nat := (([(0, 1), (0, 2), (1, 1), (1, 2), (2, 1), (2, 2), (3, 1), (3, 2)] : List (Nat × Nat)).find? fun p => decide (s = stopN p.1 (p.2 - 1))).getD (0, 0)
section
variable {len : Nat → Nat} {R : Nat}
end
end RV
/-! Pipes laid one after another, each put in anywhere. -/
namespace RV
open PySem
/-- the pipes of these places of roads, in any order -/
structure LaidP (ps : List P3) (done : Nat → Nat → Prop) (nm nd : Nat → Nat → Str) : Prop where
  has : ∀ j t, done j t → ∃ p ∈ ps, p.1 = nm j t ∧ ((p.2.1 = nd j t ∧ p.2.2 = nd j (t + 1)) ∨ (p.2.1 = nd j (t + 1) ∧ p.2.2 = nd j t))
  all : ∀ p ∈ ps, ∃ j t, done j t ∧ p.1 = nm j t ∧ ((p.2.1 = nd j t ∧ p.2.2 = nd j (t + 1)) ∨ (p.2.1 = nd j (t + 1) ∧ p.2.2 = nd j t))
  un : (ps.map (·.1)).Nodup
section
variable {ps : List P3} {done : Nat → Nat → Prop} {nm nd : Nat → Nat → Str}
end
end RV
/-! One more meter. -/
namespace RV
open PySem
section
variable {ms : List M3} {nm : Nat → Nat → Str} {R : Nat} {len : Nat → Nat} {J U : Nat} {g : Str} {b : Bool}
end
end RV
/-! The pipes' names by road: so many of a row of names for each road. -/
namespace RV
open PySem
/-- how many pipes the roads before road j have -/
def off (len : Nat → Nat) (j : Nat) : Nat := ((List.range j).map len).sum
/-- the name of road j's pipe t -/
def nmT (ts : List Str) (len : Nat → Nat) (j t : Nat) : Str := ts.getD (off len j + t) ""
section
variable {ts : List Str} {len : Nat → Nat} {R : Nat}
end
end RV
/-! What is due of a pipe's strength. -/
namespace RV
open PySem
/-- the counts of the other roads without a seal -/
def othR (R : Nat) (ct : Nat → Nat) (sh : Nat → Bool) (i : Nat) : List Nat := ((List.range R).filter fun k => decide (k ≠ i) && !sh k).map ct
/-- the strength that is due, the least of the others being o -/
def dueR (ct : Nat → Nat) (sh : Nat → Bool) (i : Nat) (o : Option Nat) : Option Nat := if sh i then none else o.map fun m => ct i + m
end RV
/-! Pipes and meters of roads, laid so far; things that change and things that stand. -/
namespace RV
open PySem L2
/-- the names of which roads are laid -/
structure RoOk (R : Nat) (len : Nat → Nat) (ts gs : List Str) (l0 : Nat) : Prop where
  r0 : 0 < R
  r4 : R ≤ 4
  h0 : ∀ j, j < R → 0 < len j
  h3 : ∀ j, j < R → len j ≤ 3
  tl : ts.length = off len R
  tn : ts.Nodup
  tm : ∀ x ∈ ts, IsNm x
  gl : gs.length = 12
  gd : gs.Nodup
  gm : ∀ x ∈ gs, IsNm x
  l0 : l0 ≤ 12
/-- the pipes of these places, the meters at them, how many meters and whether a seal each road has -/
structure Laid (R : Nat) (len : Nat → Nat) (ts gs : List Str) (l0 : Nat) (done : Nat → Nat → Prop) (ps : List P3) (ms : List M3) (ct : Nat → Nat) (sh : Nat → Bool) : Prop where
  lp : LaidP ps done (nmT ts len) (nodeN len)
  dn : ∀ j t, done j t → j < R ∧ t < len j
  gn : ms.map (·.1) = (List.range ms.length).map fun i => gs.getD (l0 - 1 - i) ""
  ml : ms.length ≤ l0
  mo : ∀ m ∈ ms, ∃ j t, done j t ∧ m.2.1 = nmT ts len j t
  ct : ∀ j, j < R → ct j = onR ms (nmT ts len) j (len j)
  sh : ∀ j, j < R → (sh j = true ↔ ShutR ms len (nmT ts len) j)
section
variable {R : Nat} {len : Nat → Nat} {ts gs : List Str} {l0 : Nat} {done : Nat → Nat → Prop} {ps : List P3} {ms : List M3} {ct : Nat → Nat} {sh : Nat → Bool}
end
/-! ### the heap -/
/-- the things of M change, those of F stand; both are new, or not in M's places -/
structure Bag (H0 : Hp) (a : Addr) (n : Nat) (M F : List (Addr × HO)) (H : Hp) : Prop where
  gr : Grow a H0 H
  well : WellAt H a n
  m : ∀ p ∈ M, H0 p.1 = none ∧ p.1 ≠ a ∧ H p.1 = some p.2
  md : (M.map (·.1)).Nodup
  f : ∀ q ∈ F, q.1 ≠ a ∧ H q.1 = some q.2 ∧ ∀ p ∈ M, q.1 ≠ p.1
section
variable {H0 H H' : Hp} {a p : Addr} {n m : Nat} {M F F' : List (Addr × HO)} {o o' : HO} {Q : VK} {E : XK}
theorem Bag.grow (h : Bag H0 a n M F H) (g : Grow a H H') (w : WellAt H' a m) : Bag H0 a m M F H' :=
  ⟨h.gr.trans g, w, fun p hp => ⟨(h.m p hp).1, (h.m p hp).2.1, g _ _ (h.m p hp).2.1 (h.m p hp).2.2⟩, h.md, fun q hq => ⟨(h.f q hq).1, g _ _ (h.f q hq).1 (h.f q hq).2.1, (h.f q hq).2.2⟩⟩
theorem Bag.same (h : Bag H0 a n M F H) (g : Same H H') : Bag H0 a n M F H' := by
  obtain ⟨x, y, z, e, r⟩ := h.well
  exact h.grow (fun b o _ eb => g b o eb) ⟨x, y, z, g _ _ e, r⟩
theorem Bag.wm (h : Bag H0 a n M F H) (e : n ≤ m) : Bag H0 a m M F H := ⟨h.gr, h.well.mono e, h.m, h.md, h.f⟩
theorem Bag.dip {q : Int} (h : Bag H0 a n M F H) (hn : n < 1000000) (h0 : 0 < q) (h1 : q ≤ 10 ^ 60) (k : ∀ (r : Int) H', 0 ≤ r → r < q → Bag H0 a (n + 1) M F H' → Q (.int r) H') : Irr sp_dip [.ref a, .int q] H Q E :=
  irr ⟨a, q, n, rfl, h.well, hn, h0, h1, fun r H' r0 r1 g w => k r H' r0 r1 (h.grow g w)⟩
theorem Bag.new (h : Bag H0 a n M F H) (np : H p = none) : Bag H0 a n M ((p, o) :: F) (upd H p o) := by
  have h1 := h.grow (m := n) (Grow.new (o := o) np) (h.well.new np)
  refine ⟨h1.gr, h1.well, h1.m, h1.md, fun q hq => ?_⟩
  rcases List.mem_cons.mp hq with rfl | hq
  · exact ⟨(h.well.ne np).symm, upd_same, fun r hr => (ne_of_none (h.m r hr).2.2 np).symm⟩
  · exact h1.f q hq
theorem Bag.sub (h : Bag H0 a n M F H) (s : ∀ p ∈ F', p ∈ F) : Bag H0 a n M F' H := ⟨h.gr, h.well, h.m, h.md, fun q hq => h.f q (s q hq)⟩
theorem Bag.at (h : Bag H0 a n M F H) (hp : (p, o) ∈ F) : H p = some o := (h.f _ hp).2.1
theorem Bag.am (h : Bag H0 a n M F H) (hp : (p, o) ∈ M) : H p = some o := (h.m _ hp).2.2
theorem Bag.put (h : Bag H0 a n M F H) {i : Nat} (hi : M[i]? = some (p, o)) : Bag H0 a n (M.set i (p, o')) F (upd H p o') := by
  have hm := List.mem_of_getElem? hi
  obtain ⟨h0, pa, e⟩ := h.m _ hm
  have efst : (M.set i (p, o')).map (·.1) = M.map (·.1) := by
    rw [List.map_set]
    refine List.ext_getElem? fun k => ?_
    rw [List.getElem?_set]
    split
    · next e =>
      subst e
      rw [List.getElem?_map, hi]
      simp [(List.getElem?_eq_some_iff.mp hi).1]
    · rfl
  refine ⟨fun b u hb eb => ?_, ?_, fun q hq => ?_, by rw [efst]; exact h.md, fun q hq => ?_⟩
  · rw [upd_ne (ne_of_none eb h0)]
    exact h.gr b u hb eb
  · obtain ⟨x, y, z, ew, r⟩ := h.well
    exact ⟨x, y, z, by rw [upd_ne pa.symm]; exact ew, r⟩
  · obtain ⟨k, hk⟩ := List.getElem?_of_mem hq
    rw [List.getElem?_set] at hk
    split at hk
    · split at hk
      · obtain rfl := Option.some.inj hk
        exact ⟨h0, pa, upd_same⟩
      · cases hk
    · next ne =>
      have hq' := List.mem_of_getElem? hk
      obtain ⟨a1, a2, a3⟩ := h.m q hq'
      refine ⟨a1, a2, ?_⟩
      rw [upd_ne]
      · exact a3
      · intro z
        refine ne ((List.getElem?_inj (l := M.map (·.1)) ?_ h.md).mp ?_)
        · rw [List.length_map]
          exact (List.getElem?_eq_some_iff.mp hi).1
        · rw [List.getElem?_map, List.getElem?_map, hi, hk]
          show some p = some q.1
          rw [z]
  · obtain ⟨a1, a2, a3⟩ := h.f q hq
    refine ⟨a1, ?_, fun r hr => ?_⟩
    · rw [upd_ne (a3 _ hm)]
      exact a2
    · have : r.1 ∈ M.map (·.1) := by
        rw [← efst]
        exact List.mem_map.mpr ⟨r, hr, rfl⟩
      obtain ⟨r', hr', e'⟩ := List.mem_map.mp this
      rw [← e']
      exact a3 r' hr'
end
end RV
/-! What is told of roads; lists of ints; places along a road. -/
namespace RV
open PySem L2 TL
abbrev TU := Addr × Addr × List Str × Nat × Bool
def oT (u : TU) : HO := .lst [.ref u.2.1, .int (u.2.2.2.1 : Nat), .bl u.2.2.2.2]
def tolF (us : List TU) : List (Addr × HO) := us.map (fun u => (u.1, oT u)) ++ us.map fun u => (u.2.1, HO.lst (u.2.2.1.map V.str))
/-- what is told of the first k roads -/
def tellL (nm : Nat → Nat → Str) (len : Nat → Nat) (ct : Nat → Nat) (sh : Nat → Bool) (k : Nat) : List (List Str × Nat × Bool) := (List.range k).map fun j => ((List.range (len j)).map (nm j), ct j, sh j)
/-- so many of a row of numbers -/
def lenL (ls : List Nat) (j : Nat) : Nat := ls.getD j 0
section
variable {H0 H H' : Hp} {a p : Addr} {n m : Nat} {M F F' : List (Addr × HO)} {o o' : HO}
theorem Bag.start (w : WellAt H a n) : Bag H a n [] [] H := ⟨Grow.refl a H, w, (fun _ h => nomatch h), .nil, fun _ h => nomatch h⟩
theorem Bag.put0 (h : Bag H0 a n ((p, o) :: M) F H) : Bag H0 a n ((p, o') :: M) F (upd H p o') := h.put (i := 0) rfl
end
/-- a law's roads: told, and the text of the net -/
def sp_paths : Sp := fun vs H Q _ => ∃ (a : Addr) (n R : Nat), vs = [.ref a, .int (R : Int)] ∧ WellAt H a n ∧ n < 500 ∧ 2 ≤ R ∧ R ≤ 4 ∧
  ∀ (l lO : Addr) (us : List TU) (len : Nat → Nat) (ts gs : List Str) (l0 : Nat) (ps : List P3) (ms : List M3) (ct : Nat → Nat) (sh : Nat → Bool) H', RoOk R len ts gs l0 → Laid R len ts gs l0 (fun j t => j < R ∧ t < len j) ps ms ct sh → us.map (·.2.2) = tellL (nmT ts len) len ct sh R →
    Bag H a (n + 2000) [] ((l, .lst [.ref lO, .str (netT ps ms)]) :: (lO, .lst (rf us)) :: tolF us) H' → Q (.ref l) H'
end RV
namespace RV
open PySem L2
def sp_spring (K : PySem.W.Frag) : Sp := fun vs H Q _ => ∃ (c : Addr) (ns : List Int) (k : Nat), vs = [.ref c, .int k] ∧ SqL K H c (ns.map V.int) ∧ ns.length ≤ 63 ∧ k ≤ 100 ∧
  ∀ a H', H a = none → Same H H' → WellAt H' a k → Q (.ref a) H'
end RV
/-! names, sizes of the later laws -/
namespace RV
open PySem L2
def words3 : List Str := ["if", "go", "vote", "tell", "doubt", "pipe", "meter", "sealed"]
end RV
/-! drawn nets of the later laws -/
namespace RV
open PySem L2 TL
structure PlOk (M : Mod) (most more : Nat) : Prop where
  p2 : 2 ≤ M.pl.length
  p5 : M.pl.length ≤ 5
  pn : ∀ x ∈ M.pl, IsNm x
  pd : M.pl.Nodup
  q1 : 1 ≤ M.qs.length
  qm : M.qs.length ≤ most
  qn : ∀ q ∈ M.qs, IsNm q.1 ∧ q.2.1 < M.pl.length ∧ q.2.2 < M.pl.length ∧ q.2.1 ≠ q.2.2
  qd : (M.qs.map (·.1)).Nodup
  gm : M.gs.length ≤ more
  gn : ∀ g ∈ M.gs, IsNm g.1 ∧ g.2.1 < M.qs.length
  gd : (M.gs.map (·.1)).Nodup
section
variable {M : Mod} {most more : Nat}
end
def sp_plan : Sp := fun vs H Q _ => ∃ (a : Addr) (n most more : Nat), vs = [.ref a, .int most, .int more] ∧ WellAt H a n ∧ n < 500000 ∧ 1 ≤ most ∧ most ≤ 12 ∧ more ≤ 12 ∧
  ∀ (l lp lq lg : Addr) (pl : List Str) (pu : List QU) (gu : List GU) H', Bag H a (n + 2000) [] (lM l lp lq lg pl pu gu) H' → PlOk ⟨pl, sn pu, sn gu⟩ most more → Q (.ref l) H'
/-- the text of a drawn net -/
def sp_grid : Sp := fun vs H Q _ => ∃ (l : Addr) (M : Mod) (most more : Nat), vs = [.ref l] ∧ MdAt H l M ∧ PlOk M most more ∧ most ≤ 12 ∧ more ≤ 12 ∧ ∀ H', Same H H' → Q (.str (netT M.ps M.ms)) H'
theorem Bag.addN {H0 H H' : Hp} {a p : Addr} {n m : Nat} {M F : List (Addr × HO)} {o : HO} (h : Bag H0 a n M F H) (np : H p = none) (pa : p ≠ a) (g : Grow a H H') (w : WellAt H' a m) (e : H' p = some o) : Bag H0 a m M ((p, o) :: F) H' := by
  have h1 := h.grow g w
  refine ⟨h1.gr, h1.well, h1.m, h1.md, fun q hq => ?_⟩
  rcases List.mem_cons.mp hq with rfl | hq
  · exact ⟨pa, e, fun r hr z => by
      have := (h.m r hr).2.2
      rw [← z, np] at this
      cases this⟩
  · exact h1.f q hq
end RV
/-! Forests of pipes. -/
namespace RV
section
variable {α : Type} {st en : Nat → α}
/-- pipes of S lead from u to v -/
inductive Cn (st en : Nat → α) (S : Nat → Prop) : α → α → Prop
  | nil {u} : Cn st en S u u
  | fwd {u k} : Cn st en S u (st k) → S k → Cn st en S u (en k)
  | bwd {u k} : Cn st en S u (en k) → S k → Cn st en S u (st k)
variable {S T : Nat → Prop} {u v w : α} {k : Nat}
/-- S without k -/
def dropS (S : Nat → Prop) (k : Nat) : Nat → Prop := fun j => S j ∧ j ≠ k
def addS (S : Nat → Prop) (k : Nat) : Nat → Prop := fun j => S j ∨ j = k
/-- no ring -/
def Fo (st en : Nat → α) (S : Nat → Prop) : Prop := ∀ k, S k → ¬ Cn st en (dropS S k) (st k) (en k)
end
/-! ### weights -/
/-- what the indexes below n with p weigh -/
def wS (fee : Nat → Int) (p : Nat → Bool) : Nat → Int
  | 0 => 0
  | n + 1 => wS fee p n + if p n then fee n else 0
def cS (p : Nat → Bool) : Nat → Nat
  | 0 => 0
  | n + 1 => cS p n + if p n then 1 else 0
section
variable {fee : Nat → Int} {p q : Nat → Bool}
/-- one index changes -/
def setB (p : Nat → Bool) (f : Nat) (b : Bool) : Nat → Bool := fun k => if k = f then b else p k
end
end RV
/-! What pipes reach, round by round; sets of indexes. -/
namespace RV
section
variable {st en : Nat → Nat} {kept keys : List Nat} {k : Nat}
/-- the places reached, one more pipe looked at -/
def stepK (st en : Nat → Nat) (keys : List Nat) (k : Nat) : List Nat :=
  if st k ∈ keys ∧ en k ∉ keys then keys ++ [en k] else if en k ∈ keys ∧ st k ∉ keys then keys ++ [st k] else keys
def roundsK (st en : Nat → Nat) (kept : List Nat) (first : Nat) : Nat → List Nat
  | 0 => [first]
  | r + 1 => kept.foldl (stepK st en) (roundsK st en kept first r)
def closK (st en : Nat → Nat) (kept keys : List Nat) : Prop := ∀ k ∈ kept, (st k ∈ keys ↔ en k ∈ keys)
def inK (st en : Nat → Nat) (kept keys : List Nat) : Nat := (kept.filter fun k => decide (st k ∈ keys) && decide (en k ∈ keys)).length
end
/-! ### sets of so many -/
def setsF (items : List Nat) (size : Nat) : List (List Nat) := items.foldl (fun acc it => acc ++ (acc.filter fun o => decide (o.length < size)).map (· ++ [it])) [[]]
/-- how long they are -/
def lensF : Nat → Nat → List Nat
  | 0, _ => [0]
  | m + 1, size => lensF m size ++ ((lensF m size).filter fun o => decide (o < size)).map (· + 1)
end RV
/-! Things that change and things that stand, without a well; ways in a dict. -/
namespace RV
open PySem L2 TL
structure Cel (H0 : Hp) (M F : List (Addr × HO)) (H : Hp) : Prop where
  sm : Same H0 H
  m : ∀ p ∈ M, H0 p.1 = none ∧ H p.1 = some p.2
  md : (M.map (·.1)).Nodup
  f : ∀ q ∈ F, H q.1 = some q.2 ∧ ∀ p ∈ M, q.1 ≠ p.1
section
variable {H0 H H' : Hp} {p : Addr} {M F F' : List (Addr × HO)} {o o' : HO}
end
/-! ### pipes by index -/
def stQ (qs : List Q3) (k : Nat) : Nat := (qs.getD k ("", 0, 0)).2.1
def enQ (qs : List Q3) (k : Nat) : Nat := (qs.getD k ("", 0, 0)).2.2
/-! ### ways in a dict -/
abbrev SU := Addr × Nat × Int
abbrev WU := Nat × Addr × List SU
def kvW (rs : List WU) : List (Key × V) := rs.map fun r => (.inl (r.1 : Int), .ref r.2.1)
def oS (s : SU) : HO := .tup [.int (s.2.1 : Int), .int s.2.2]
def ledW (rs : List WU) : List (Addr × HO) := rs.flatMap fun r => (r.2.1, HO.lst (rf r.2.2)) :: r.2.2.map fun s => (s.1, oS s)
/-- the ways found so far: their steps are pipes below n, at most t of them -/
structure WaysOk (n t : Nat) (rs : List WU) : Prop where
  st : ∀ r ∈ rs, ∀ s ∈ r.2.2, s.2.1 < n
  ln : ∀ r ∈ rs, r.2.2.length ≤ t
  all : rs.length ≤ t + 1
def sp_path (K : PySem.W.Frag) : Sp := fun vs H Q _ => ∃ (lt lk : Addr) (pu : List QU) (kept : List Nat) (first last : Nat), vs = [.ref lt, .ref lk, .int (first : Int), .int (last : Int)] ∧ SqL K H lt (rf pu) ∧ (∀ u ∈ pu, H u.1 = some (oQ u.2)) ∧ SqL K H lk (kept.map vI) ∧ kept.length ≤ 12 ∧ pu.length ≤ 12 ∧ (∀ k ∈ kept, k < pu.length) ∧
  ∀ H', Same H H' → (¬ Cn (stQ (sn pu)) (enQ (sn pu)) (· ∈ kept) first last → Q .non H') ∧ ∀ (w : Addr) (ss : List SU), Cn (stQ (sn pu)) (enQ (sn pu)) (· ∈ kept) first last → H' w = some (.lst (rf ss)) → (∀ s ∈ ss, H' s.1 = some (oS s) ∧ s.2.1 < pu.length) → ss.length ≤ 200 → Q (.ref w) H'
/-- rings of pipes: none exactly if there are none -/
def sp_rings (K : PySem.W.Frag) : Sp := fun vs H Q _ => ∃ (lt : Addr) (pu : List QU), vs = [.ref lt] ∧ SqL K H lt (rf pu) ∧ (∀ u ∈ pu, H u.1 = some (oQ u.2)) ∧ pu.length ≤ 12 ∧
  ∀ (l : Addr) (xs : List V) H', Same H H' → H l = none → H' l = some (.lst xs) → (xs = [] ↔ Fo (stQ (sn pu)) (enQ (sn pu)) (· < pu.length)) → Q (.ref l) H'
end RV
/-! sorted of a list of at most one thing. -/
namespace RV
open PySem L2 PySem.Spec PyProof.Rows TL
section
variable {q : Program} {w : World} {B : Around} {F : Value → Shared → Prop} {z : Shared}
end
def rSortF (K : PySem.W.Frag) : List V → Hp → VK → Prop := fun vs H Q => ∃ (a : Addr) (xs : List V), vs = [V.ref a] ∧ SqL K H a xs ∧ xs.length ≤ 1 ∧ ∀ p, H p = none → Q (.ref p) (upd H p (.lst xs))
end RV
/-! sets of so many of some indexes -/
namespace RV
open PySem L2 TL
abbrev LU := Addr × List Nat
/-- the rows, as tuples -/
def sp_sets (K : PySem.W.Frag) : Sp := fun vs H Q _ => ∃ (li : Addr) (items : List Nat) (size : Nat), vs = [.ref li, .int (size : Int)] ∧ SqL K H li (items.map vI) ∧ items.Pairwise (· < ·) ∧ items.length ≤ 7 ∧ size ≤ 7 ∧ (∀ k ∈ items, k < 12) ∧
  ∀ (l : Addr) (os : List LU) H', Same H H' → H' l = some (.lst (rf os)) → (∀ u ∈ os, H' u.1 = some (.tup (u.2.map vI))) → (∀ o, o ∈ sn os ↔ o ∈ setsF items size ∧ o.length = size) → Q (.ref l) H'
/-- what is made and stands -/
def ledL (os : List LU) : List (Addr × HO) := os.map fun u => (u.1, HO.lst (u.2.map vI))
end RV
/-! Whether rings without meters are left; the least price. -/
namespace RV
open PySem L2 PyProof.Rows TL
def rNeE (K : PySem.W.Frag) : R2 := fun x y H Q => ∃ a b xs, x = .ref a ∧ y = .ref b ∧ SqL K H a xs ∧ SqL K H b [] ∧ Q (.bl (!xs.isEmpty)) H
section
variable {X : Cx}
theorem op_neE (hu : X.A.units < cLine) : OpR X (compareOp .NotEq) (rNeE X.K) := by
  intro pins s σ H x y v u Q I rx ry h
  obtain ⟨a, b, xs, rfl, rfl, ha, hb, q⟩ := h
  cases rx
  cases ry
  obtain ⟨its, rv, ⟨⟨cls, dd, data, sl⟩, n, ho, hc, hdn, hd⟩, _⟩ := I.list ha
  obtain ⟨its2, rv2, ⟨⟨cls2, dd2, data2, sl2⟩, n2, ho2, hc2, hdn2, hd2⟩, _⟩ := I.list hb
  simp only at hc hd hc2 hd2
  subst hc hd hc2 hd2
  cases rv2
  have hl1 : s.heap.IsList a its.toArray := ⟨_, ho, rfl, _, rfl⟩
  have hl2 : s.heap.IsList b ([] : List Value).toArray := ⟨_, ho2, rfl, _, rfl⟩
  cases rv with
  | nil => exact SeqAt.RcNeAt.lists (e := fun _ => true) hl1 hl2 rfl hu (fun j h1 => absurd h1 (by simp)) _ _ _ _ ⟨.bl false, H, I, rfl, q⟩
  | cons r t => exact SeqAt.RcNeAt.lists_lengths hl1 hl2 (by simp) hu _ _ _ _ ⟨.bl true, H, I, rfl, q⟩
end
section
variable {st en : Nat → Nat} {f : Nat → Nat} {S : Nat → Prop} {u v : Nat}
end
def metL (M : Mod) : List Nat := M.gs.map (·.2.1)
/-- the pipes without meters that are not chosen -/
def leftS (M : Mod) (ch : List Nat) : Nat → Prop := fun k => k < M.qs.length ∧ k ∉ metL M ∧ k ∉ ch
def FoC (M : Mod) (ch : List Nat) : Prop := Fo (stQ M.qs) (enQ M.qs) (leftS M ch)
def leftL (M : Mod) (ch : List Nat) : List Nat := (List.range M.qs.length).filter fun k => !decide (k ∈ metL M) && !decide (k ∈ ch)
def sp_open (K : PySem.W.Frag) : Sp := fun vs H Q _ => ∃ (l c : Addr) (M : Mod) (most more : Nat) (ch : List Nat), vs = [.ref l, .ref c] ∧ MdAt H l M ∧ PlOk M most more ∧ most ≤ 12 ∧ more ≤ 12 ∧ (SqL K H c (ch.map vI) ∨ SqT K H c (ch.map vI)) ∧
  ∀ (b : Bool) H', Same H H' → (b = true ↔ ¬ FoC M ch) → Q (.bl b) H'
end RV
/-! The least price by all sets. -/
namespace RV
open PySem L2 TL
def bareL (M : Mod) : List Nat := (List.range M.qs.length).filter fun k => !decide (k ∈ metL M)
def priceF (fees : List Int) (o : List Nat) : Int := (o.map fun k => fees.getD k 0).sum
/-- sets that were tried: of fewer than z -/
def triedF (M : Mod) (z : Nat) (o : List Nat) : Prop := ∃ s, s < z ∧ o ∈ setsF (bareL M) s ∧ o.length = s
/-- what was found among the tried ones -/
def LeastF (M : Mod) (fees : List Int) (D : List Nat → Prop) (fl : List Int) : Prop :=
  (fl = [] ∧ ∀ o, D o → ¬ FoC M o) ∨ ∃ v, fl = [v] ∧ (∃ o, D o ∧ FoC M o ∧ v = priceF fees o) ∧ ∀ o, D o → FoC M o → v ≤ priceF fees o
section
variable {M : Mod} {fees fl : List Int} {D D' : List Nat → Prop}
end
def sp_least (K : PySem.W.Frag) : Sp := fun vs H Q _ => ∃ (l lf : Addr) (M : Mod) (most more : Nat) (fees : List Int), vs = [.ref l, .ref lf] ∧ MdAt H l M ∧ PlOk M most more ∧ most ≤ 7 ∧ more ≤ 12 ∧ SqL K H lf (fees.map V.int) ∧ fees.length = M.qs.length ∧
  ∀ (v : Int) H', Same H H' → (∃ o, triedF M ((bareL M).length + 1) o ∧ FoC M o ∧ v = priceF fees o) → (∀ o, triedF M ((bareL M).length + 1) o → FoC M o → v ≤ priceF fees o) → Q (.int v) H'
end RV
/-! Pipes parted: those that join, those that close rings. -/
namespace RV
open PySem
section
variable {α β : Type} {st en : Nat → α} {g : α → β} {V : α → Prop} {S : Nat → Prop} {u v : α}
end
/-- marks when one more pipe joins its places -/
def mrg (mk : Str → Str) (a b : Str) : Str → Str := fun z => if mk z = mk a then mk b else mk z
abbrev SpS := (Str → Str) × List Nat × List Nat
def stpI (ps : List P3) (s : SpS) (i : Nat) : SpS :=
  if s.1 (pS ps i) = s.1 (pE ps i) then (s.1, s.2.1, s.2.2 ++ [i]) else (mrg s.1 (pS ps i) (pE ps i), s.2.1 ++ [i], s.2.2)
def splitI (ps : List P3) (I : List Nat) : SpS := I.foldl (stpI ps) (id, [], [])
/-- what parted pipes are -/
structure Parted (ps : List P3) (R : Nat → Nat → Prop) (I : List Nat) (s : SpS) : Prop where
  mem : ∀ i, i ∈ I ↔ i ∈ s.2.1 ∨ i ∈ s.2.2
  jn : ∀ x y, s.1 x = s.1 y ↔ Cn (pS ps) (pE ps) (· ∈ s.2.1) x y
  fo : Fo (pS ps) (pE ps) (· ∈ s.2.1)
  cl : ∀ c ∈ s.2.2, c ∉ s.2.1 ∧ Cn (pS ps) (pE ps) (fun k => k ∈ s.2.1 ∧ R k c) (pS ps c) (pE ps c)
  nd : s.2.2.Nodup
/-- the order of prices: dear ones first, equal ones by index -/
def OrdF (fees : List Int) (L : List Nat) : Prop := L.Perm (List.range fees.length) ∧ L.Pairwise fun i j => fees.getD j 0 < fees.getD i 0 ∨ (fees.getD i 0 = fees.getD j 0 ∧ i < j)
end RV
/-! Promises about prices and parted pipes. -/
namespace RV
open PySem L2 TL
def sp_chkpr (K : PySem.W.Frag) (CN CP CM : Addr) : Sp := fun vs H Q _ => ∃ (x t : Addr) (ps : List P3) (ms : List M3) (fees : List Int), vs = [.ref x, .ref t] ∧ NetR K CN CP CM H x ps ms ∧ SqT K H t (fees.map V.int) ∧ fees.length = ps.length ∧ (∀ f ∈ fees, 0 ≤ f) ∧ ∀ H', Same H H' → Q .non H'
/-- marks of places, as a dict -/
def mkD (zs : List Str) (mk : Str → Str) : List (Key × V) := zs.map fun z => (.inr z, .str (mk z))
def sp_mrgd (CP : Addr) : Sp := fun vs H Q _ => ∃ (d a : Addr) (zs : List Str) (mk : Str → Str) (q : P3), vs = [.ref d, .ref a] ∧ H d = some (.dK (mkD zs mk)) ∧ zs.Nodup ∧ zs.length ≤ 30 ∧ q.2.1 ∈ zs ∧ q.2.2 ∈ zs ∧ PipeAt CP H a q ∧
  ∀ (d' : Addr) H', Same H H' → H' d' = some (.dK (mkD zs (mrg mk q.2.1 q.2.2))) → Q (.ref d') H'
abbrev puD : PU := (0, ("", "", ""))
/-- parted pipes: lists of those that join, of those that close rings -/
def sp_split (K : PySem.W.Frag) (CN CP CM : Addr) : Sp := fun vs H Q _ => ∃ (x lp : Addr) (pu : List PU) (ms : List M3) (I : List Nat), vs = [.ref x, .ref lp] ∧ NetR K CN CP CM H x (sn pu) ms ∧ pu.length ≤ 12 ∧ (∀ u ∈ pu, PipeAt CP H u.1 u.2) ∧ H lp = some (.lst (I.map fun i => .ref (pu.getD i puD).1)) ∧ I.length ≤ 12 ∧ (∀ i ∈ I, i < pu.length) ∧
  ∀ (t lk lc : Addr) H', Same H H' → H' t = some (.tup [.ref lk, .ref lc]) → H' lc = some (.lst ((splitI (sn pu) I).2.2.map fun i => .ref (pu.getD i puD).1)) → Q (.ref t) H'
end RV
/-! A dict made by a comprehension and given to a local name on one line. -/
namespace RV
open PySem L2 TL
section
variable {X : Cx}
end
end RV
/-! Numbered prices in their order. -/
namespace RV
open PySem L2 TL
/-- a pair's two numbers, where they stand -/
def kH (H : Hp) : V → Int × Int
  | .ref a => match H a with
    | some (.tup [.int x, .int y]) => (x, y)
    | _ => (0, 0)
  | _ => (0, 0)
section
variable {K : PySem.W.Frag} {a : Addr}
/-- the i-th numbered thing -/
def YEn (xs : List V) : Nat → Hp → V → Hp → Prop := fun i H v H' => ∃ (T : Addr) (x : V), v = .ref T ∧ H T = none ∧ H' = upd H T (.tup [.int (i : Nat), x]) ∧ xs[i]? = some x
end
open PySem.Spec PyProof.Rows in
/-- names of the cheapest pipes -/
abbrev ascS (ys : List Str) : Prop := sortedS ys = true
/-- pipes parted by their prices -/
def barP (ps : List P3) (ms : List M3) (i : Nat) : Bool := decide (onP ms (pN ps i) = [])
def sp_byp (K : PySem.W.Frag) (CN CP CM : Addr) : Sp := fun vs H Q _ => ∃ (x t : Addr) (ps : List P3) (ms : List M3) (fees : List Int), vs = [.ref x, .ref t] ∧ NetR K CN CP CM H x ps ms ∧ SqT K H t (fees.map V.int) ∧ fees.length = ps.length ∧ ps.length ≤ 12 ∧ ms.length ≤ 12 ∧
  ∀ (tt lk lc : Addr) (pu : List PU) (L : List Nat) H', Same H H' → OrdF fees L → sn pu = ps → (∀ u ∈ pu, PipeAt CP H' u.1 u.2) → H' tt = some (.tup [.ref lk, .ref lc]) → H' lc = some (.lst ((splitI ps (L.filter (barP ps ms))).2.2.map fun i => .ref (pu.getD i puD).1)) → Q (.ref tt) H'
def sp_cheap (K : PySem.W.Frag) (CN CP CM : Addr) : Sp := fun vs H Q _ => ∃ (x t : Addr) (ps : List P3) (ms : List M3) (fees : List Int), vs = [.ref x, .ref t] ∧ NetR K CN CP CM H x ps ms ∧ SqT K H t (fees.map V.int) ∧ fees.length = ps.length ∧ ps.length ≤ 12 ∧ ms.length ≤ 12 ∧ (∀ f ∈ fees, 0 ≤ f) ∧
  ∀ (d : Addr) (L : List Nat) (ys : List Str) H', Same H H' → OrdF fees L → ys.Perm ((splitI ps (L.filter (barP ps ms))).2.2.map (pN ps)) → ascS ys → H' d = some (.tup (ys.map V.str)) → Q (.ref d) H'
end RV
/-! The cheapest pipes: what is left has no ring, each is wanted, none are cheaper. -/
namespace RV
open PySem L2
section
variable {fees : List Int}
end
section
variable {M : Mod} {most more : Nat} {fees : List Int} {L : List Nat}
/-- what the pipes that close rings are -/
structure ToldC (M : Mod) (fees : List Int) (C : List Nat) : Prop where
  lt : ∀ c ∈ C, c < M.qs.length ∧ c ∉ metL M
  nd : C.Nodup
  fo : FoC M C
  ne : ∀ c ∈ C, ∀ D : List Nat, (∀ k, k ∈ D ↔ k ∈ C ∧ k ≠ c) → ¬ FoC M D
  le : ∀ o, triedF M ((bareL M).length + 1) o → FoC M o → priceF fees C ≤ priceF fees o
  ex : ∃ o, triedF M ((bareL M).length + 1) o ∧ FoC M o ∧ priceF fees o = priceF fees C
end
end RV
set_option linter.all false
/-! set(tuple of texts). -/
namespace RV
open PySem L2 PySem.Spec PyProof.Rows
section
variable {P : Program} {w : World} {A : Around} {E : Value → Shared → Prop} {s : Shared}
set_option maxHeartbeats 8000000 in
end
section
variable {X : Cx}
def rSetST (K : PySem.W.Frag) (P : Program) (w : World) : List V → Hp → VK → Prop := fun vs H Q => ∃ (l : Addr) (xs : List Str), vs = [V.ref l] ∧ SqT K H l (xs.map V.str) ∧ xs.length < 4000 ∧
  ∀ a n, H a = none → n ≤ xs.length → Q (.ref a) (upd H a (SetT P w a (fun x => decide (x ∈ xs)) n))
end
end RV
/-! What _law_right looks at. -/
namespace RV
open PySem L2
/-- one told row: names of pipes in order, of the pipes C -/
def ToldR (M : Mod) (fees : List Int) (ys : List Str) : Prop := ∃ C, ToldC M fees C ∧ ys.Perm (C.map (pN M.ps)) ∧ ascS ys
section
variable {M : Mod} {most more : Nat} {fees : List Int} {ys : List Str}
end
end RV
/-! The law's own nets. -/
namespace RV
open PySem L2
def psA : List P3 := [("src", "o", "a"), ("left", "a", "b"), ("right", "a", "c"), ("lout", "b", "o"), ("rout", "c", "o")]
def msB : List M3 := [("m", "src", true)]
def psC : List P3 := [("p", "a", "b")]
def psD : List P3 := [("p", "a", "b"), ("q", "b", "a")]
def msE : List M3 := [("m", "q", false)]
abbrev txA : Str := "pipe src o a\npipe left a b\npipe right a c\npipe lout b o\npipe rout c o"
abbrev txm : Str := "\nmeter m src sealed"
abbrev txC : Str := "pipe p a b"
abbrev txD : Str := "pipe p a b\npipe q b a"
abbrev txE : Str := "pipe p a b\npipe q b a\nmeter m q"
section
variable {L : List Nat} {ys : List Str}
end
/-! ### told rows as data -/
def dT (xs : List Str) : PyData := .tuple (xs.map PyData.str)
def tl5 : PyData := .list [dT [("lout" : Str), ("right" : Str)], dT [("left" : Str)], dT [], dT [("p" : Str)], dT []]
end RV
/-! Flows: sums over pipes, cuts, forests without flow. -/
namespace RV
/-- f 0 + .. + f (n - 1) -/
def sumN (f : Nat → Int) : Nat → Int
  | 0 => 0
  | n + 1 => sumN f n + f n
theorem sumN_congr {f g : Nat → Int} : ∀ {n : Nat}, (∀ k < n, f k = g k) → sumN f n = sumN g n
  | 0, _ => rfl
  | n + 1, h => by rw [sumN, sumN, sumN_congr fun k hk => h k (Nat.lt_succ_of_lt hk), h n (Nat.lt_succ_self n)]
theorem sumN_zero {f : Nat → Int} {n : Nat} (h : ∀ k < n, f k = 0) : sumN f n = 0 := by
  induction n with
  | zero => rfl
  | succ n ih => rw [sumN, ih fun k hk => h k (Nat.lt_succ_of_lt hk), h n (Nat.lt_succ_self n)]; rfl
theorem sumN_add (f g : Nat → Int) : ∀ n, sumN (fun k => f k + g k) n = sumN f n + sumN g n
  | 0 => rfl
  | n + 1 => by rw [sumN, sumN, sumN, sumN_add f g n]; omega
theorem sumN_mul (c : Int) (f : Nat → Int) : ∀ n, sumN (fun k => c * f k) n = c * sumN f n
  | 0 => by simp [sumN]
  | n + 1 => by rw [sumN, sumN, sumN_mul c f n, Int.mul_add]
theorem sumN_one {f : Nat → Int} {j : Nat} : ∀ {n : Nat}, j < n → (∀ k < n, k ≠ j → f k = 0) → sumN f n = f j
  | 0, h, _ => absurd h (Nat.not_lt_zero _)
  | n + 1, h, z => by
    rw [sumN]
    by_cases e : j = n
    · subst e
      rw [sumN_zero fun k hk => z k (Nat.lt_succ_of_lt hk) (Nat.ne_of_lt hk)]
      omega
    · rw [sumN_one (j := j) (by omega) fun k hk ne => z k (Nat.lt_succ_of_lt hk) ne, z n (Nat.lt_succ_self n) fun q => e q.symm]
      omega
/-- 1 where it holds -/
def b2i (b : Bool) : Int := if b then 1 else 0
section
variable {α : Type} {st en : Nat → α}
/-- what leads into A less what leads out of it -/
def cutFl (st en : Nat → α) (x : Nat → Int) (A : α → Bool) (n : Nat) : Int := sumN (fun k => x k * (b2i (A (en k)) - b2i (A (st k)))) n
/-- as much leads into each set of places as leads out of it -/
def CutF (st en : Nat → α) (x : Nat → Int) (n : Nat) : Prop := ∀ A : α → Bool, cutFl st en x A n = 0
theorem cutS_add (x y : Nat → Int) (A : α → Bool) (n : Nat) : cutFl st en (fun k => x k + y k) A n = cutFl st en x A n + cutFl st en y A n := by
  rw [cutFl, cutFl, cutFl, ← sumN_add]
  exact sumN_congr fun k _ => Int.add_mul _ _ _
theorem cutS_mul (c : Int) (x : Nat → Int) (A : α → Bool) (n : Nat) : cutFl st en (fun k => c * x k) A n = c * cutFl st en x A n := by
  rw [cutFl, cutFl, ← sumN_mul]
  exact sumN_congr fun k _ => Int.mul_assoc _ _ _
theorem cutS_congr {x y : Nat → Int} {A : α → Bool} {n : Nat} (h : ∀ k < n, x k = y k) : cutFl st en x A n = cutFl st en y A n := sumN_congr fun k hk => by rw [h k hk]
theorem CutF.add {x y : Nat → Int} {n : Nat} (h : CutF st en x n) (g : CutF st en y n) : CutF st en (fun k => x k + y k) n := fun A => by rw [cutS_add, h A, g A]; rfl
theorem CutF.mul {x : Nat → Int} {n : Nat} (h : CutF st en x n) (c : Int) : CutF st en (fun k => c * x k) n := fun A => by rw [cutS_mul, h A, Int.mul_zero]
theorem CutF.congr {x y : Nat → Int} {n : Nat} (h : CutF st en x n) (e : ∀ k < n, x k = y k) : CutF st en y n := fun A => by rw [← cutS_congr e]; exact h A
/-- places that are kept one by one -/
def BndF [DecidableEq α] (st en : Nat → α) (x : Nat → Int) (n : Nat) : Prop := ∀ v, cutFl st en x (fun u => decide (u = v)) n = 0
theorem cut_union {x : Nat → Int} {A B : α → Bool} {n : Nat} (d : ∀ v, A v = true → B v = false) : cutFl st en x (fun v => A v || B v) n = cutFl st en x A n + cutFl st en x B n := by
  rw [cutFl, cutFl, cutFl, ← sumN_add]
  refine sumN_congr fun k _ => ?_
  rw [← Int.mul_add]
  congr 1
  have e : ∀ v, b2i (A v || B v) = b2i (A v) + b2i (B v) := fun v => by
    cases ha : A v with
    | false => simp [b2i]
    | true => rw [d v ha]; simp [b2i]
  rw [e, e]
  omega
theorem BndF.cut [DecidableEq α] {x : Nat → Int} {n : Nat} (h : BndF st en x n) : ∀ vs : List α, ∀ A : α → Bool, cutFl st en x (fun v => A v && decide (v ∈ vs)) n = 0
  | [], A => sumN_zero fun k _ => by simp [b2i]
  | u :: vs, A => by
    have ih := h.cut vs fun v => A v && !decide (v = u)
    cases a : A u with
    | false =>
      rw [← ih]
      unfold cutFl
      refine sumN_congr fun k _ => ?_
      have e : ∀ v, (A v && decide (v ∈ u :: vs)) = ((A v && !decide (v = u)) && decide (v ∈ vs)) := fun v => by
        by_cases z : v = u
        · subst z
          simp [a]
        · simp [z]
      dsimp only
      rw [e, e]
    | true =>
      have hu := h u
      rw [show (0 : Int) = 0 + 0 from rfl]
      conv => rhs; rw [← hu]
      conv => rhs; arg 2; rw [hu, ← ih]
      rw [← cut_union (A := fun v => decide (v = u)) fun v hv => by simp at hv; simp [hv]]
      unfold cutFl
      refine sumN_congr fun k _ => ?_
      have e : ∀ v, (A v && decide (v ∈ u :: vs)) = (decide (v = u) || ((A v && !decide (v = u)) && decide (v ∈ vs))) := fun v => by
        by_cases z : v = u
        · subst z
          simp [a]
        · simp [z]
      dsimp only
      rw [e, e]
/-- places kept one by one are kept together -/
theorem BndF.cutF [DecidableEq α] {x : Nat → Int} {n : Nat} (h : BndF st en x n) : CutF st en x n := fun A => by
  have c := h.cut ((List.range n).flatMap fun k => [st k, en k]) A
  rw [← c]
  unfold cutFl
  refine sumN_congr fun k hk => ?_
  have m : ∀ v, v = st k ∨ v = en k → v ∈ (List.range n).flatMap fun k => [st k, en k] := fun v hv => List.mem_flatMap.mpr ⟨k, List.mem_range.mpr hk, by rcases hv with rfl | rfl <;> simp⟩
  simp [m _ (.inl rfl), m _ (.inr rfl)]
end
end RV
/-! Whole-number elimination of rows: rows of factors with a number and a scale behind them. -/
namespace RV
/-- a row's entry -/
def ent (r : List Int) (k : Nat) : Int := r.getD k 0
/-- what a row of m factors comes to at x, with scale d for its number -/
def rowV (m : Nat) (r : List Int) (x : Nat → Int) (d : Int) : Int := sumN (fun k => ent r k * x k) m + ent r m * d
/-- one row freed of another one's lead -/
def freeR (mine lead : List Int) (s : Nat) : List Int := (List.range mine.length).map fun k => ent mine k * ent lead s - ent lead k * ent mine s
def redR (done : List (Nat × List Int)) (row : List Int) : List Int := done.foldl (fun mine d => if ent mine d.1 ≠ 0 then freeR mine d.2 d.1 else mine) row
/-- leads: where a row leads it is not 0, and rows behind it are 0 there -/
structure Led (m : Nat) (done : List (Nat × List Int)) : Prop where
  ld : ∀ d ∈ done, d.1 < m ∧ ent d.2 d.1 ≠ 0 ∧ d.2.length = m + 2
  up : done.Pairwise fun d e => ent e.2 d.1 = 0
/-- the leading spot of a row of m factors -/
def spotR (m : Nat) (r : List Int) : Option Nat := (List.range m).find? fun k => ent r k != 0
/-- all rows, one by one: their leading rows, none if they contradict one another -/
def solveR (m : Nat) : List (List Int) → List (Nat × List Int) → Option (List (Nat × List Int))
  | [], done => some done
  | r :: rs, done => match spotR m (redR done r) with
    | some k => solveR m rs (done ++ [(k, redR done r)])
    | none => if ent (redR done r) m ≠ 0 then none else solveR m rs done
end RV
/-! Rings span the flows; flows that have given amounts at some pipes. -/
namespace RV
section
variable {α : Type} {st en : Nat → α}
/-- a ring for each pipe outside of a forest -/
structure RingB (st en : Nat → α) (n : Nat) (cs : List Nat) (rws : List (List Int)) : Prop where
  len : rws.length = cs.length
  wide : ∀ r ∈ rws, r.length = n
  cut : ∀ r ∈ rws, CutF st en (ent r) n
  lt : ∀ c ∈ cs, c < n
  one : ∀ (i j : Nat) (c : Nat) (r : List Int), cs[i]? = some c → rws[j]? = some r → ent r c = if i = j then 1 else 0
  fo : Fo st en fun k => k < n ∧ k ∉ cs
  sm : ∀ r ∈ rws, ∀ k, (ent r k).natAbs ≤ 1
/-- a combination of rows -/
def comb (rws : List (List Int)) (x : Nat → Int) : Nat → Int := fun k => sumN (fun j => x j * ent (rws.getD j []) k) rws.length
end
section
variable {α : Type} [DecidableEq α] {st en : Nat → α}
/-- what is left at a place -/
def leftP (st en : Nat → α) (x : Nat → Int) (n : Nat) (v : α) : Int := cutFl st en x (fun u => decide (u = v)) n
/-- a link: a pipe, its near place, its far place -/
abbrev Lk (α : Type) := Nat × α × α
/-- what a link takes -/
def takeL (st en : Nat → α) (n : Nat) (x : Nat → Int) (l : Lk α) : Int := if st l.1 = l.2.2 then leftP st en x n l.2.2 else -leftP st en x n l.2.2
def putL (st en : Nat → α) (n : Nat) (x : Nat → Int) (l : Lk α) : Nat → Int := fun k => if k = l.1 then takeL st en n x l else x k
structure LkOk (st en : Nat → α) (n : Nat) (free : Nat → Prop) (l : Lk α) : Prop where
  lt : l.1 < n
  fr : free l.1
  ne : l.2.1 ≠ l.2.2
  ends : (st l.1 = l.2.1 ∧ en l.1 = l.2.2) ∨ (st l.1 = l.2.2 ∧ en l.1 = l.2.1)
/-- links behind one another: what lies farther is not met again -/
structure LksOk (st en : Nat → α) (n : Nat) (free : Nat → Prop) (ls : List (Lk α)) : Prop where
  each : ∀ l ∈ ls, LkOk st en n free l
  ord : ls.Pairwise fun l m => m.2.2 ≠ l.2.1 ∧ m.2.2 ≠ l.2.2
/-- from the far ends inwards -/
def runL (st en : Nat → α) (n : Nat) (x : Nat → Int) (ls : List (Lk α)) : Nat → Int := ls.reverse.foldl (putL st en n) x
/-- links to all places but roots, each root alone among what free pipes join -/
structure RootOk (st en : Nat → α) (n : Nat) (free : Nat → Prop) (places : List α) (ls : List (Lk α)) : Prop where
  ok : LksOk st en n free ls
  all : ∀ k < n, st k ∈ places ∧ en k ∈ places
  alone : ∀ v, (∀ l ∈ ls, l.2.2 ≠ v) → ∀ u, u ≠ v → Cn st en (fun k => k < n ∧ free k) v u → ∃ l ∈ ls, l.2.2 = u
/-- a set of places that free pipes do not leave, into which these amounts do not lead as much as out of it -/
def Clash (st en : Nat → α) (n : Nat) (free : Nat → Prop) (x : Nat → Int) : Prop := ∃ A : α → Bool, (∀ k < n, free k → A (st k) = A (en k)) ∧ cutFl st en x A n ≠ 0
end
end RV
/-! Links of a forest, found round by round. -/
namespace RV
section
variable {α : Type} [DecidableEq α] {st en : Nat → α}
abbrev AccR (α : Type) := List α × List (Lk α)
def stpR (st en : Nat → α) (acc : AccR α) (k : Nat) : AccR α :=
  if decide (st k ∈ acc.1) = decide (en k ∈ acc.1) then acc
  else if st k ∈ acc.1 then (acc.1 ++ [en k], acc.2 ++ [(k, st k, en k)]) else (acc.1 ++ [st k], acc.2 ++ [(k, en k, st k)])
def rndR (st en : Nat → α) (I : List Nat) (acc : AccR α) : AccR α := I.foldl (stpR st en) acc
def rndsR (st en : Nat → α) (I : List Nat) (acc : AccR α) : Nat → AccR α
  | 0 => acc
  | t + 1 => rndR st en I (rndsR st en I acc t)
def rootR (st en : Nat → α) (I : List Nat) (acc : AccR α) (p : α) : AccR α := if p ∈ acc.1 then acc else rndsR st en I (acc.1 ++ [p], acc.2) I.length
def rootedR (st en : Nat → α) (I : List Nat) (places : List α) : AccR α := places.foldl (rootR st en I) ([], [])
/-- links put behind, their far places put behind -/
def ExtR (a b : AccR α) : Prop := ∃ ls : List (Lk α), b.2 = a.2 ++ ls ∧ b.1 = a.1 ++ ls.map (fun l => l.2.2) ∧ ∀ l ∈ ls, l.2.2 ∉ a.1
def ClosedR (st en : Nat → α) (I : List Nat) (a : AccR α) : Prop := ∀ k ∈ I, st k ∈ a.1 ↔ en k ∈ a.1
def insR (st en : Nat → α) (I : List Nat) (a : AccR α) : Nat := (I.filter fun k => decide (st k ∈ a.1) && decide (en k ∈ a.1)).length
/-- what has been found is in order -/
structure RI (st en : Nat → α) (n : Nat) (free : Nat → Prop) (a : AccR α) : Prop where
  each : ∀ l ∈ a.2, LkOk st en n free l
  ord : a.2.Pairwise fun l m => m.2.2 ≠ l.2.1 ∧ m.2.2 ≠ l.2.2
  inn : ∀ l ∈ a.2, l.2.1 ∈ a.1 ∧ l.2.2 ∈ a.1
structure MI (st en : Nat → α) (n : Nat) (free : Nat → Prop) (I : List Nat) (a : AccR α) : Prop where
  ri : RI st en n free a
  cl : ClosedR st en I a
  alone : ∀ v ∈ a.1, (∀ l ∈ a.2, l.2.2 ≠ v) → ∀ u, u ≠ v → Cn st en (fun k => k < n ∧ free k) v u → ∃ l ∈ a.2, l.2.2 = u
end
end RV
/-! Links in the heap: promises. -/
namespace RV
open PySem L2 TL
/-- the reached places, in a dict -/
def mkT (rs : List Str) : List (Key × V) := rs.map fun r => (.inr r, .bl true)
abbrev LKU := Addr × Lk Str
def oLk (pu : List PU) (l : Lk Str) : HO := .tup [.ref (pu.getD l.1 puD).1, .str l.2.1, .str l.2.2]
/-- all but two things stand -/
def SB2 (d l : Addr) (H H' : Hp) : Prop := ∀ b o, b ≠ d → b ≠ l → H b = some o → H' b = some o
/-- reached places and links, in the heap -/
structure RchS (H : Hp) (d l : Addr) (pu : List PU) (acc : AccR Str) (H' : Hp) : Prop where
  sb : SB2 d l H H'
  ed : H' d = some (.dK (mkT acc.1))
  el : ∃ lu : List LKU, H' l = some (.lst (rf lu)) ∧ sn lu = acc.2 ∧ ∀ u ∈ lu, H' u.1 = some (oLk pu u.2)
section
variable {H H' H2 : Hp} {d l T : Addr} {pu : List PU} {acc : AccR Str}
end
/-- links found from what is reached -/
def sp_reach (CP : Addr) : Sp := fun vs H Q _ => ∃ (lp d l : Addr) (pu : List PU) (I : List Nat) (acc : AccR Str), vs = [.ref lp, .ref d, .ref l] ∧ H lp = some (.lst (I.map fun i => .ref (pu.getD i puD).1)) ∧ (∀ u ∈ pu, PipeAt CP H u.1 u.2) ∧ I.length ≤ 12 ∧ (∀ i ∈ I, i < pu.length) ∧ lp ≠ l ∧ RchS H d l pu acc H ∧ acc.1.length ≤ 5000 ∧ acc.2.length ≤ 5000 ∧
  ∀ H', RchS H d l pu (rndsR (pS (sn pu)) (pE (sn pu)) I acc I.length) H' → Q .non H'
/-- links of a forest -/
def sp_rooted (K : PySem.W.Frag) (CN CP CM : Addr) : Sp := fun vs H Q _ => ∃ (x lp : Addr) (pu : List PU) (ms : List M3) (I : List Nat), vs = [.ref x, .ref lp] ∧ NetR K CN CP CM H x (sn pu) ms ∧ pu.length ≤ 12 ∧ (∀ u ∈ pu, PipeAt CP H u.1 u.2) ∧ H lp = some (.lst (I.map fun i => .ref (pu.getD i puD).1)) ∧ I.length ≤ 12 ∧ (∀ i ∈ I, i < pu.length) ∧
  ∀ (l : Addr) (lu : List LKU) (zs : List Str) H', Same H H' → H' l = some (.lst (rf lu)) → (∀ u ∈ lu, H' u.1 = some (oLk pu u.2)) → SortP (pls (sn pu)) zs → zs.length ≤ 24 → sn lu = (rootedR (pS (sn pu)) (pE (sn pu)) I zs).2 → Q (.ref l) H'
end RV
/-! Votes: shortest ways stand still after n rounds; places within a distance. -/
namespace RV
open PySem
section
set_option linter.unusedSectionVars false
variable {α : Type} [DecidableEq α] {n : Nat} {st en : Nat → α} {w : Nat → Nat} {ok : Nat → Prop} {u v : α} {l : List (Nat × Bool)} {vs : List α}
theorem Sw.ids (h : Sw st en ok u v l vs) : (l.map (·.1)).Nodup := by
  induction h with
  | nil => exact .nil
  | @fwd i l vs h o z ih =>
    refine List.nodup_cons.mpr ⟨fun hm => ?_, ih⟩
    obtain ⟨q, hq, e⟩ := List.mem_map.mp hm
    exact z ((show q.1 = i from e) ▸ (h.ends q hq).2.2)
  | @bwd i l vs h o z ih =>
    refine List.nodup_cons.mpr ⟨fun hm => ?_, ih⟩
    obtain ⟨q, hq, e⟩ := List.mem_map.mp hm
    exact z ((show q.1 = i from e) ▸ (h.ends q hq).2.1)
theorem nat_few : ∀ (n : Nat) {xs : List Nat}, xs.Nodup → (∀ x ∈ xs, x < n) → xs.length ≤ n
  | 0, xs, _, h => by
    cases xs with
    | nil => exact Nat.le_refl _
    | cons x xs => exact absurd (h x List.mem_cons_self) (Nat.not_lt_zero _)
  | n + 1, xs, nd, h => by
    have := nat_few n (xs := xs.erase n) (nd.erase n) fun x hx => by
      have h1 := h x (List.mem_of_mem_erase hx)
      have h2 : x ≠ n := ((List.Nodup.mem_erase_iff nd).mp hx).1
      omega
    rw [List.length_erase] at this
    split at this <;> omega
theorem Sw.short (h : Sw st en ok u v l vs) (hn : ∀ i, ok i → i < n) : l.length ≤ n := by
  have := nat_few n h.ids fun x hx => by
    obtain ⟨q, hq, rfl⟩ := List.mem_map.mp hx
    exact hn _ (h.ends q hq).1
  rwa [List.length_map] at this
variable {L : List (α × α × Nat)}
theorem turns_on (hL : Links L st en w ok) (hn : ∀ i, ok i → i < n) {l : List (Nat × Bool)} (h : Wk st en ok u v l) : ∃ d, turns L n (g0 u) v = some d ∧ d ≤ wl w l := by
  obtain ⟨l', vs, h1, h2⟩ := h.simple (w := w)
  obtain ⟨d, h3, h4⟩ := turns_reach hL h1.wk n (h1.short hn)
  exact ⟨d, h3, Nat.le_trans h4 h2⟩
theorem turns_fix (hL : Links L st en w ok) (hn : ∀ i, ok i → i < n) {i d : Nat} (o : ok i) :
    (turns L n (g0 u) (st i) = some d → ∃ d', turns L n (g0 u) (en i) = some d' ∧ d' ≤ d + w i) ∧ (turns L n (g0 u) (en i) = some d → ∃ d', turns L n (g0 u) (st i) = some d' ∧ d' ≤ d + w i) := by
  refine ⟨fun h => ?_, fun h => ?_⟩
  · obtain ⟨l, h1, h2⟩ := turns_wk hL n _ _ h
    obtain ⟨d', h3, h4⟩ := turns_on hL hn (Wk.fwd h1 o)
    exact ⟨d', h3, by rw [wl_cons] at h4; dsimp only at h4; omega⟩
  · obtain ⟨l, h1, h2⟩ := turns_wk hL n _ _ h
    obtain ⟨d', h3, h4⟩ := turns_on hL hn (Wk.bwd h1 o)
    exact ⟨d', h3, by rw [wl_cons] at h4; dsimp only at h4; omega⟩
theorem turns_zero (hL : Links L st en w ok) (k : Nat) : turns L k (g0 u) u = some 0 := by
  obtain ⟨d, h1, h2⟩ := turns_reach hL (Wk.nil (st := st) (en := en) (ok := ok) (u := u)) k (Nat.zero_le _)
  rw [h1]
  exact congrArg some (Nat.le_zero.mp h2)
end
section
variable {α : Type} [DecidableEq α]
/-- within this distance -/
def inA (D : α → Option Nat) (c : Nat) (x : α) : Bool := match D x with
  | some e => decide (e ≤ c)
  | none => false
omit [DecidableEq α] in
theorem inA_some {D : α → Option Nat} {c : Nat} {x : α} : inA D c x = true ↔ ∃ e, D x = some e ∧ e ≤ c := by
  unfold inA
  cases D x with
  | none => simp
  | some e => simp
omit [DecidableEq α] in
theorem inA_far {D : α → Option Nat} {c e : Nat} {x : α} (h : D x = some e) : inA D c x = decide (e ≤ c) := by
  unfold inA
  rw [h]
def dsN (D : α → Option Nat) (x : α) : Nat := (D x).getD 0
/-- a link that leads out of the places within a distance: the meter's index -/
theorem cross {D : α → Option Nat} {c w : Nat} {x y : α} (h1 : ∀ d, D x = some d → ∃ d', D y = some d' ∧ d' ≤ d + w) (h2 : ∀ d, D y = some d → ∃ d', D x = some d' ∧ d' ≤ d + w) (h : inA D c x ≠ inA D c y) :
    D x = some (dsN D x) ∧ D y = some (dsN D y) ∧ min (dsN D x) (dsN D y) ≤ c ∧ c < max (dsN D x) (dsN D y) ∧ c - min (dsN D x) (dsN D y) < w := by
  have main : ∃ a b, D x = some a ∧ D y = some b ∧ a ≤ b + w ∧ b ≤ a + w := by
    cases hx : D x with
    | some a =>
      obtain ⟨b, hb, lb⟩ := h1 a hx
      obtain ⟨a', ha', la⟩ := h2 b hb
      rw [hx] at ha'
      obtain rfl := Option.some.inj ha'
      exact ⟨_, b, rfl, hb, la, lb⟩
    | none =>
      cases hy : D y with
      | some b =>
        obtain ⟨a', ha', _⟩ := h2 b hy
        rw [hx] at ha'
        cases ha'
      | none =>
        unfold inA at h
        rw [hx, hy] at h
        exact absurd rfl h
  obtain ⟨a, b, ha, hb, l1, l2⟩ := main
  rw [inA_far ha, inA_far hb] at h
  have da : dsN D x = a := by rw [dsN, ha]; rfl
  have db : dsN D y = b := by rw [dsN, hb]; rfl
  rw [da, db]
  refine ⟨ha, hb, ?_⟩
  by_cases q : a ≤ c
  · rw [decide_eq_true q] at h
    have : ¬ b ≤ c := fun z => h (decide_eq_true z).symm
    omega
  · rw [decide_eq_false q] at h
    have : b ≤ c := Decidable.byContradiction fun z => h (decide_eq_false z).symm
    omega
end
/-! ### potentials -/
section
variable {α : Type} [DecidableEq α] {st en : Nat → α} {n : Nat}
theorem b2i_pick (h : α → Int) : ∀ {vs : List α} {u : α}, vs.Nodup → u ∈ vs → (vs.map fun v => h v * b2i (decide (u = v))).sum = h u
  | [], _, _, hu => nomatch hu
  | v :: vs, u, nd, hu => by
    obtain ⟨nv, nd⟩ := List.nodup_cons.mp nd
    rw [List.map_cons, List.sum_cons]
    rcases List.mem_cons.mp hu with rfl | hu
    · have z : ∀ (ws : List α), u ∉ ws → (ws.map fun v => h v * b2i (decide (u = v))).sum = 0 := by
        intro ws
        induction ws with
        | nil => intro _; rfl
        | cons a ws ih =>
          intro na
          rw [List.map_cons, List.sum_cons, ih fun q => na (List.mem_cons_of_mem _ q), decide_eq_false fun q : u = a => na (q ▸ List.mem_cons_self)]
          simp [b2i]
      rw [z vs nv, decide_eq_true rfl]
      simp [b2i]
    · rw [b2i_pick h nd hu, decide_eq_false fun q : u = v => nv (q ▸ hu)]
      simp [b2i]
theorem sumN_list {β : Type} (f : β → Nat → Int) : ∀ (xs : List β), (xs.map fun x => sumN (f x) n).sum = sumN (fun k => (xs.map fun x => f x k).sum) n
  | [] => (sumN_zero fun _ _ => rfl).symm
  | x :: xs => by rw [List.map_cons, List.sum_cons, sumN_list f xs, ← sumN_add]; rfl
theorem exists_nodup (xs : List α) : ∃ vs : List α, vs.Nodup ∧ ∀ x ∈ xs, x ∈ vs := by
  induction xs with
  | nil => exact ⟨[], .nil, fun _ h => nomatch h⟩
  | cons x xs ih =>
    obtain ⟨vs, nd, h⟩ := ih
    by_cases q : x ∈ vs
    · exact ⟨vs, nd, fun y hy => by
        rcases List.mem_cons.mp hy with rfl | hy
        · exact q
        · exact h y hy⟩
    · exact ⟨x :: vs, List.nodup_cons.mpr ⟨q, nd⟩, fun y hy => by
        rcases List.mem_cons.mp hy with rfl | hy
        · exact List.mem_cons_self
        · exact List.mem_cons_of_mem _ (h y hy)⟩
/-- a potential's differences carry nothing -/
theorem cut_pot {g : Nat → Int} (h : Str → Int) {st en : Nat → Str} (c : CutF st en g n) : sumN (fun k => g k * (h (en k) - h (st k))) n = 0 := by
  obtain ⟨vs, nd, hv⟩ := exists_nodup ((List.range n).flatMap fun k => [st k, en k])
  have e : ∀ k < n, st k ∈ vs ∧ en k ∈ vs := fun k hk => ⟨hv _ (List.mem_flatMap.mpr ⟨k, List.mem_range.mpr hk, by simp⟩), hv _ (List.mem_flatMap.mpr ⟨k, List.mem_range.mpr hk, by simp⟩)⟩
  have z : (vs.map fun v => h v * cutFl st en g (fun u => decide (u = v)) n).sum = 0 := by
    rw [List.map_congr_left (g := fun _ => (0 : Int)) fun v _ => by rw [c, Int.mul_zero]]
    clear hv e nd
    induction vs with
    | nil => rfl
    | cons _ _ ih => rw [List.map_cons, List.sum_cons, ih]; rfl
  rw [List.map_congr_left (g := fun v => sumN (fun k => h v * (g k * (b2i (decide (en k = v)) - b2i (decide (st k = v))))) n) fun v _ => by rw [sumN_mul]; rfl, sumN_list] at z
  rw [← z]
  refine sumN_congr fun k hk => ?_
  rw [List.map_congr_left (g := fun v => g k * (h v * b2i (decide (en k = v)) + (-1) * (h v * b2i (decide (st k = v))))) fun v _ => by rw [Int.mul_sub, Int.mul_sub, Int.mul_add]; simp only [Int.mul_left_comm, Int.neg_mul, Int.one_mul, Int.mul_neg]; omega]
  have add : ∀ (c : Int) (f f' : Str → Int) (ws : List Str), (ws.map fun v => c * (f v + (-1) * f' v)).sum = c * ((ws.map f).sum - (ws.map f').sum) := by
    intro c f f' ws
    induction ws with
    | nil => simp
    | cons a ws ih => rw [List.map_cons, List.sum_cons, ih, List.map_cons, List.sum_cons, List.map_cons, List.sum_cons, ← Int.mul_add]; congr 1; omega
  rw [add, b2i_pick h nd (e k hk).2, b2i_pick h nd (e k hk).1]
end
end RV
/-! Votes: the value of a sum over a flow, by potentials. -/
namespace RV
open PySem
/-- the value of the terms -/
def tsum (v : Str → Int) (T : List (Str × Int)) : Int := (T.map fun t => t.2 * v t.1).sum
theorem sum_zeroL {β : Type} {f : β → Int} : ∀ {xs : List β}, (∀ x ∈ xs, f x = 0) → (xs.map f).sum = 0
  | [], _ => rfl
  | x :: xs, h => by rw [List.map_cons, List.sum_cons, h x List.mem_cons_self, sum_zeroL fun y hy => h y (List.mem_cons_of_mem _ hy)]; rfl
theorem sum_addL {β : Type} (f g : β → Int) : ∀ (xs : List β), (xs.map fun x => f x + g x).sum = (xs.map f).sum + (xs.map g).sum
  | [] => rfl
  | x :: xs => by rw [List.map_cons, List.sum_cons, sum_addL f g xs, List.map_cons, List.sum_cons, List.map_cons, List.sum_cons]; omega
/-- the one of this key -/
theorem sum_pick {β κ : Type} [DecidableEq κ] (key : β → κ) (F : β → Int) : ∀ {xs : List β} {x : β}, (xs.map key).Nodup → x ∈ xs → (xs.map fun z => if key z = key x then F z else 0).sum = F x
  | [], _, _, hx => nomatch hx
  | z :: xs, x, nd, hx => by
    rw [List.map_cons] at nd
    obtain ⟨a, b⟩ := List.nodup_cons.mp nd
    rw [List.map_cons, List.sum_cons]
    rcases List.mem_cons.mp hx with rfl | hx
    · rw [if_pos rfl, sum_zeroL fun y hy => if_neg fun e : key y = key x => a (e ▸ List.mem_map.mpr ⟨y, hy, rfl⟩)]
      omega
    · rw [sum_pick key F b hx, if_neg fun e : key z = key x => a (e ▸ List.mem_map.mpr ⟨x, hx, rfl⟩)]
      omega
theorem sum_none {β κ : Type} [DecidableEq κ] (key : β → κ) (F : β → Int) {xs : List β} {k : κ} (h : k ∉ xs.map key) : (xs.map fun z => if key z = k then F z else 0).sum = 0 :=
  sum_zeroL fun y hy => if_neg fun e : key y = k => h (e ▸ List.mem_map.mpr ⟨y, hy, rfl⟩)
/-- the coefficients of these names -/
theorem co_sum {N : List Str} (nd : N.Nodup) : ∀ (T : List (Str × Int)), (N.map fun x => co T x).sum = (T.map fun t => if t.1 ∈ N then t.2 else 0).sum
  | [] => sum_zeroL fun _ _ => rfl
  | t :: T => by
    rw [List.map_congr_left (g := fun x => (if x = t.1 then t.2 else 0) + co T x) fun x _ => by
      rw [co_cons]
      by_cases e : t.1 = x
      · rw [if_pos e, if_pos e.symm]
      · rw [if_neg e, if_neg fun q => e q.symm], sum_addL, co_sum nd T, List.map_cons, List.sum_cons]
    congr 1
    by_cases h : t.1 ∈ N
    · rw [if_pos h]
      exact sum_pick (fun x => x) (fun _ => t.2) (by rw [List.map_id']; exact nd) h
    · rw [if_neg h]
      exact sum_none (fun x => x) (fun _ => t.2) (by rw [List.map_id']; exact h)
theorem tsum_co (v : Str → Int) {ms : List M3} (nd : (ms.map (·.1)).Nodup) : ∀ {T : List (Str × Int)}, (∀ t ∈ T, t.1 ∈ ms.map (·.1)) → tsum v T = (ms.map fun m => co T m.1 * v m.1).sum
  | [], _ => (sum_zeroL fun m _ => by rw [co_nil, Int.zero_mul]).symm
  | t :: T, h => by
    have ih := tsum_co v nd (T := T) fun q hq => h q (List.mem_cons_of_mem _ hq)
    obtain ⟨m, hm, e⟩ := List.mem_map.mp (h t List.mem_cons_self)
    have e2 : (ms.map fun z => co (t :: T) z.1 * v z.1) = ms.map fun z => (if z.1 = m.1 then t.2 * v z.1 else 0) + co T z.1 * v z.1 := List.map_congr_left fun z _ => by
      rw [co_cons, Int.add_mul]
      congr 1
      by_cases q : t.1 = z.1
      · rw [if_pos q, if_pos (by rw [← q, e])]
      · rw [if_neg q, if_neg (fun r => q (by rw [← e, r])), Int.zero_mul]
    rw [e2, sum_addL, sum_pick (fun z : M3 => z.1) (fun z => t.2 * v z.1) nd hm, e, ← ih]
    rfl
theorem sum_filterM {β : Type} (P : β → Bool) (F : β → Int) (c : Int) : ∀ (xs : List β), ((xs.filter P).map F).sum * c = (xs.map fun x => if P x = true then F x * c else 0).sum
  | [] => Int.zero_mul c
  | x :: xs => by
    rw [List.map_cons, List.sum_cons, ← sum_filterM P F c xs]
    cases h : P x with
    | true => rw [List.filter_cons_of_pos h, List.map_cons, List.sum_cons, Int.add_mul, if_pos rfl]
    | false => rw [List.filter_cons_of_neg (by rw [h]; decide), if_neg (by decide)]; omega
/-- the coefficients of a pipe's meters, less 1 at the pipe, are a potential's differences -/
def potT (ps : List P3) (ms : List M3) (y : Str) (T : List (Str × Int)) : Prop := ∃ h : Str → Int, ∀ k < ps.length, ((onP ms (pN ps k)).map fun m => co T m.1).sum - (if pN ps k = y then 1 else 0) = h (pE ps k) - h (pS ps k)
theorem potT.congr {ps : List P3} {ms : List M3} {y : Str} {T U : List (Str × Int)} (h : potT ps ms y T) (e : ∀ x, co U x = co T x) : potT ps ms y U := by
  obtain ⟨p, hp⟩ := h
  exact ⟨p, fun k hk => by rw [← hp k hk, List.map_congr_left fun m _ => e m.1]⟩
theorem onP_at {ms : List M3} {y : Str} {m : M3} : m ∈ onP ms y ↔ m ∈ ms ∧ m.2.1 = y := by
  rw [onP, List.mem_filter, decide_eq_true_iff]
theorem pot_value {ps : List P3} {ms : List M3} {y : Str} {T : List (Str × Int)} (nd : (ps.map (·.1)).Nodup) (md : (ms.map (·.1)).Nodup) (on : ∀ m ∈ ms, m.2.1 ∈ ps.map (·.1)) (hn : ∀ t ∈ T, t.1 ∈ ms.map (·.1)) (hp : potT ps ms y T) {i : Nat} (hi : i < ps.length) (hy : pN ps i = y) {g : Nat → Int} (c : CutF (pS ps) (pE ps) g ps.length)
    {v : Str → Int} (hv : ∀ m ∈ ms, ∀ k < ps.length, pN ps k = m.2.1 → v m.1 = g k) : tsum v T = g i := by
  obtain ⟨h, hh⟩ := hp
  rw [tsum_co v md hn, List.map_congr_left (g := fun m : M3 => sumN (fun k => if decide (m.2.1 = pN ps k) = true then co T m.1 * g k else 0) ps.length) fun m hm => by
    obtain ⟨q, hq, e⟩ := List.mem_map.mp (on m hm)
    obtain ⟨k, hk, ek⟩ := List.getElem_of_mem hq
    have pk : pN ps k = m.2.1 := by rw [(pN_at (List.getElem?_eq_getElem hk)).1, ek, e]
    rw [sumN_one hk fun j hj ne => if_neg fun z => ne (pN_inj nd hj hk (by rw [← of_decide_eq_true z, pk])), if_pos (decide_eq_true pk.symm), hv m hm k hk pk], sumN_list]
  have e1 : ∀ k < ps.length, (ms.map fun m => if decide (m.2.1 = pN ps k) = true then co T m.1 * g k else 0).sum = g k * (h (pE ps k) - h (pS ps k)) + (if k = i then g k else 0) := fun k hk => by
    rw [← sum_filterM (fun m : M3 => decide (m.2.1 = pN ps k)) (fun m => co T m.1) (g k), ← hh k hk, Int.mul_sub, Int.mul_comm]
    show g k * ((onP ms (pN ps k)).map fun m => co T m.1).sum = _
    by_cases e : k = i
    · subst e
      rw [if_pos hy, if_pos rfl, Int.mul_one]
      omega
    · rw [if_neg fun z => e (pN_inj nd hk hi (z.trans hy.symm)), if_neg e, Int.mul_zero]
      omega
  rw [sumN_congr e1, sumN_add, cut_pot h c, sumN_one hi fun k _ ne => if_neg ne, if_pos rfl]
  omega
/-- the meters' names of a pipe -/
theorem onP_names {ms : List M3} (md : (ms.map (·.1)).Nodup) (y : Str) : ((onP ms y).map (·.1)).Nodup := md.sublist (List.Sublist.map _ List.filter_sublist)
theorem meter_uniq {ms : List M3} (md : (ms.map (·.1)).Nodup) {a b : M3} (ha : a ∈ ms) (hb : b ∈ ms) (e : a.1 = b.1) : a = b := by
  obtain ⟨i, hi, rfl⟩ := List.getElem_of_mem ha
  obtain ⟨j, hj, rfl⟩ := List.getElem_of_mem hb
  have e3 : (ms.map (·.1))[i]'(by rw [List.length_map]; exact hi) = (ms.map (·.1))[j]'(by rw [List.length_map]; exact hj) := by
    rw [List.getElem_map, List.getElem_map, e]
  have q := nodup_get md e3
  subst q
  rfl
theorem co_meters {ms : List M3} (md : (ms.map (·.1)).Nodup) (y : Str) (T : List (Str × Int)) : ((onP ms y).map fun m => co T m.1).sum = (T.map fun t => if t.1 ∈ (onP ms y).map (·.1) then t.2 else 0).sum := by
  rw [← co_sum (onP_names md y), List.map_map]
  rfl
theorem own_pot {ps : List P3} {ms : List M3} (md : (ms.map (·.1)).Nodup) {m : M3} (hm : m ∈ ms) : potT ps ms m.2.1 [(m.1, 1)] := by
  refine ⟨fun _ => 0, fun k hk => ?_⟩
  rw [co_meters md, List.map_cons, List.sum_cons, List.map_nil, List.sum_nil]
  dsimp only
  by_cases e : pN ps k = m.2.1
  · rw [if_pos e, if_pos (List.mem_map.mpr ⟨m, onP_at.mpr ⟨hm, e.symm⟩, rfl⟩)]
    rfl
  · rw [if_neg e, if_neg fun z => ?_]
    · rfl
    · obtain ⟨m2, h2, e2⟩ := List.mem_map.mp z
      obtain ⟨a, b⟩ := onP_at.mp h2
      obtain rfl := meter_uniq md a hm e2
      exact e b.symm
end RV
/-! Votes: layers of a pipe's distances; each is a vote, no open meter twice. -/
namespace RV
open PySem
/-- the distances from the pipe's end -/
def dstP (ps : List P3) (ms : List M3) (y : Str) (q : P3) : Dist Str := turns ((lkA ps ms y).map lk3) ps.length (g0 q.2.2)
/-- the pipe leads out of the places within the distance -/
def crs (D : Dist Str) (c : Nat) (y : Str) (p : P3) : Bool := decide (p.1 ≠ y) && (inA D c p.2.1 != inA D c p.2.2)
def mtrL (ms : List M3) (D : Dist Str) (c : Nat) (p : P3) : Str := match seP ms p.1 with
  | m :: _ => m.1
  | [] => ((onP ms p.1).getD (c - min (dsN D p.2.1) (dsN D p.2.2)) ("", "", false)).1
def layT (ps : List P3) (ms : List M3) (y : Str) (D : Dist Str) (c : Nat) : List (Str × Int) := (ps.filter (crs D c y)).map fun p => (mtrL ms D c p, if inA D c p.2.1 then 1 else -1)
section
variable {ps : List P3} {ms : List M3} {y : Str} {i : Nat}
theorem crs_iff {D : Dist Str} {c : Nat} {p : P3} : crs D c y p = true ↔ p.1 ≠ y ∧ inA D c p.2.1 ≠ inA D c p.2.2 := by
  unfold crs
  rw [Bool.and_eq_true, decide_eq_true_iff, bne_iff_ne]
/-- a link that crosses -/
theorem crs_open (nd : (ps.map (·.1)).Nodup) (hi : i < ps.length) {D : Dist Str} (hD : D = turns ((lkA ps ms (pN ps i)).map lk3) ps.length (g0 (pE ps i))) {c : Nat} {p : P3} (hp : p ∈ ps) (h : crs D c (pN ps i) p = true) (ho : seP ms p.1 = []) :
    D p.2.1 = some (dsN D p.2.1) ∧ D p.2.2 = some (dsN D p.2.2) ∧ min (dsN D p.2.1) (dsN D p.2.2) ≤ c ∧ c < max (dsN D p.2.1) (dsN D p.2.2) ∧ c - min (dsN D p.2.1) (dsN D p.2.2) < (onP ms p.1).length := by
  obtain ⟨ne, hx⟩ := crs_iff.mp h
  obtain ⟨k, hk, rfl⟩ := List.getElem_of_mem hp
  obtain ⟨a, b, d⟩ := pN_at (List.getElem?_eq_getElem hk)
  have o : okp ps.length (shutP ps ms) i k := ⟨hk, fun e => ne (by rw [← a, e]), fun z => z (by rw [a]; exact ho)⟩
  have hL := links_of (ms := ms) nd hi
  have fx := fun {d : Nat} => turns_fix (u := pE ps i) hL (fun _ o => o.1) o (d := d)
  rw [← hD] at fx
  have := cross (D := D) (c := c) (w := wtP ms (pN ps k)) (x := pS ps k) (y := pE ps k) (fun d => fx.1) (fun d => fx.2) (by rw [b, d]; exact hx)
  rw [a, b, d] at this
  exact this
theorem se_sub {m : M3} {x : Str} (h : m ∈ seP ms x) : m ∈ onP ms x ∧ m.2.2 = true := by
  obtain ⟨a, b⟩ := List.mem_filter.mp h
  exact ⟨a, b⟩
/-- the meter of a crossing pipe -/
theorem mtr_on {D : Dist Str} {c : Nat} {p : P3} (h : seP ms p.1 = [] → c - min (dsN D p.2.1) (dsN D p.2.2) < (onP ms p.1).length) : ∃ m ∈ onP ms p.1, m.1 = mtrL ms D c p ∧ (seP ms p.1 ≠ [] → m.2.2 = true) ∧ (seP ms p.1 = [] → (onP ms p.1)[c - min (dsN D p.2.1) (dsN D p.2.2)]? = some m) := by
  unfold mtrL
  cases e : seP ms p.1 with
  | cons m r =>
    obtain ⟨a, b⟩ := se_sub (ms := ms) (x := p.1) (m := m) (by rw [e]; exact List.mem_cons_self)
    exact ⟨m, a, rfl, fun _ => b, fun z => nomatch z⟩
  | nil =>
    have q := h e
    refine ⟨(onP ms p.1)[c - min (dsN D p.2.1) (dsN D p.2.2)], List.getElem_mem q, ?_, fun z => absurd rfl z, fun _ => List.getElem?_eq_getElem q⟩
    dsimp only
    rw [List.getD_eq_getElem?_getD, List.getElem?_eq_getElem q]
    rfl
variable (nd : (ps.map (·.1)).Nodup) (md : (ms.map (·.1)).Nodup)
include nd md
/-- a layer is a vote -/
theorem lay_pot (hi : i < ps.length) {D : Dist Str} {c : Nat} (hm : ∀ p ∈ ps, crs D c (pN ps i) p = true → ∃ m ∈ onP ms p.1, m.1 = mtrL ms D c p) (he : inA D c (pE ps i) = true) (hs : inA D c (pS ps i) = false) : potT ps ms (pN ps i) (layT ps ms (pN ps i) D c) := by
  refine ⟨fun x => - b2i (inA D c x), fun k hk => ?_⟩
  obtain ⟨a, b, d⟩ := pN_at (List.getElem?_eq_getElem hk)
  rw [co_meters md, layT, List.map_map]
  have e1 : ((ps.filter (crs D c (pN ps i))).map ((fun t : Str × Int => if t.1 ∈ (onP ms (pN ps k)).map (·.1) then t.2 else 0) ∘ fun p => (mtrL ms D c p, if inA D c p.2.1 then 1 else -1))) = (ps.filter (crs D c (pN ps i))).map fun p => if p.1 = (ps[k]).1 then (if inA D c p.2.1 then (1 : Int) else -1) else 0 := by
    refine List.map_congr_left fun p hp => ?_
    obtain ⟨h1, h2⟩ := List.mem_filter.mp hp
    obtain ⟨m, hmo, em⟩ := hm p h1 h2
    obtain ⟨m1, m2⟩ := onP_at.mp hmo
    show (if mtrL ms D c p ∈ (onP ms (pN ps k)).map (·.1) then (if inA D c p.2.1 then (1 : Int) else -1) else 0) = _
    by_cases e : p.1 = (ps[k]).1
    · rw [if_pos e, if_pos]
      rw [a, ← e, ← em]
      exact List.mem_map.mpr ⟨m, hmo, rfl⟩
    · rw [if_neg e, if_neg]
      intro z
      obtain ⟨m', hm', em'⟩ := List.mem_map.mp z
      obtain ⟨q1, q2⟩ := onP_at.mp hm'
      obtain rfl := meter_uniq md q1 m1 (em'.trans em.symm)
      exact e (by rw [← m2, q2, a])
  rw [e1]
  have ndf : ((ps.filter (crs D c (pN ps i))).map (·.1)).Nodup := nd.sublist (List.Sublist.map _ List.filter_sublist)
  by_cases hc : crs D c (pN ps i) ps[k] = true
  · rw [sum_pick (fun p : P3 => p.1) (fun p : P3 => if inA D c p.2.1 then (1 : Int) else -1) ndf (List.mem_filter.mpr ⟨List.getElem_mem hk, hc⟩)]
    obtain ⟨ne, hx⟩ := crs_iff.mp hc
    rw [a, if_neg ne, b, d]
    cases e3 : inA D c ps[k].2.1 with
    | true =>
      cases e4 : inA D c ps[k].2.2 with
      | true => rw [e3, e4] at hx; exact absurd rfl hx
      | false => simp [b2i, e3, e4]
    | false =>
      cases e4 : inA D c ps[k].2.2 with
      | true => simp [b2i, e3, e4]
      | false => rw [e3, e4] at hx; exact absurd rfl hx
  · rw [sum_none (fun p : P3 => p.1) (fun p : P3 => if inA D c p.2.1 then (1 : Int) else -1) fun z => ?_]
    · by_cases e : pN ps k = pN ps i
      · obtain rfl := pN_inj nd hk hi e
        rw [if_pos rfl]
        dsimp only
        rw [he, hs]
        rfl
      · rw [if_neg e, b, d]
        have : inA D c ps[k].2.1 = inA D c ps[k].2.2 := Decidable.byContradiction fun q => hc (crs_iff.mpr ⟨by rw [← a]; exact e, q⟩)
        dsimp only
        rw [this]
        omega
    · obtain ⟨p, hp, ep⟩ := List.mem_map.mp z
      obtain ⟨h1, h2⟩ := List.mem_filter.mp hp
      obtain ⟨j, hj, rfl⟩ := List.getElem_of_mem h1
      obtain ⟨a2, _, _⟩ := pN_at (List.getElem?_eq_getElem hj)
      obtain rfl := pN_inj nd hj hk (by rw [a2, a]; exact ep)
      exact hc h2
omit nd md
/-- the votes of a pipe; c: the greatest distance, where its start is not reached -/
def votesF (ps : List P3) (ms : List M3) (i c : Nat) : List (List (Str × Int)) := match seP ms (pN ps i) with
  | m :: _ => [[(m.1, 1)]]
  | [] => match turns ((lkA ps ms (pN ps i)).map lk3) ps.length (g0 (pE ps i)) (pS ps i) with
    | none => [layT ps ms (pN ps i) (turns ((lkA ps ms (pN ps i)).map lk3) ps.length (g0 (pE ps i))) c]
    | some d => ((onP ms (pN ps i)).map fun m => [(m.1, 1)]) ++ (List.range d).map (layT ps ms (pN ps i) (turns ((lkA ps ms (pN ps i)).map lk3) ps.length (g0 (pE ps i))))
/-- only meters with a seal have both names -/
def DjT (ms : List M3) (T U : List (Str × Int)) : Prop := ∀ m ∈ ms, m.1 ∈ T.map (·.1) → m.1 ∈ U.map (·.1) → m.2.2 = true
/-- only meters with a seal -/
def SlT (ms : List M3) (T : List (Str × Int)) : Prop := ∀ m ∈ ms, m.1 ∈ T.map (·.1) → m.2.2 = true
theorem lay_mem {D : Dist Str} {c : Nat} {x : Str} (h : x ∈ (layT ps ms y D c).map (·.1)) : ∃ p ∈ ps, crs D c y p = true ∧ x = mtrL ms D c p := by
  rw [layT, List.map_map] at h
  obtain ⟨p, hp, rfl⟩ := List.mem_map.mp h
  obtain ⟨a, b⟩ := List.mem_filter.mp hp
  exact ⟨p, a, b, rfl⟩
include nd md
theorem votes_at (hi : i < ps.length) {c : Nat} (hc : seP ms (pN ps i) = [] → turns ((lkA ps ms (pN ps i)).map lk3) ps.length (g0 (pE ps i)) (pS ps i) = none → ∀ x e, turns ((lkA ps ms (pN ps i)).map lk3) ps.length (g0 (pE ps i)) x = some e → e ≤ c) :
    (∀ T ∈ votesF ps ms i c, potT ps ms (pN ps i) T ∧ (∀ t ∈ T, t.1 ∈ ms.map (·.1) ∧ (t.2 = 1 ∨ t.2 = -1)) ∧ T.length ≤ ps.length + 1) ∧ (votesF ps ms i c).Pairwise (DjT ms) ∧
    (match strP ps ms (pN ps i) with
    | none => (votesF ps ms i c).length = 1 ∧ ∀ T ∈ votesF ps ms i c, SlT ms T
    | some d => (votesF ps ms i c).length = d) := by
  have hf : ps.find? (fun p => decide (p.1 = pN ps i)) = some ps[i] := by
    obtain ⟨a, _, _⟩ := pN_at (List.getElem?_eq_getElem hi)
    rw [List.find?_eq_some_iff_getElem]
    refine ⟨decide_eq_true a.symm, i, hi, rfl, fun j hj => ?_⟩
    have hj2 : j < ps.length := Nat.lt_trans hj hi
    obtain ⟨a2, _, _⟩ := pN_at (List.getElem?_eq_getElem hj2)
    rw [Bool.not_eq_true', decide_eq_false_iff_not]
    exact fun z => absurd (pN_inj nd hj2 hi (by rw [a2]; exact z)) (Nat.ne_of_lt hj)
  obtain ⟨ia, ib, ic⟩ := pN_at (List.getElem?_eq_getElem hi)
  have es : strP ps ms (pN ps i) = if seP ms (pN ps i) = [] then (turns ((lkA ps ms (pN ps i)).map lk3) ps.length (g0 (pE ps i)) (pS ps i)).map (· + wtP ms (pN ps i)) else none := by
    rw [strP, hf, ib, ic]
  rw [es]
  unfold votesF
  generalize hD : turns ((lkA ps ms (pN ps i)).map lk3) ps.length (g0 (pE ps i)) = D at hc ⊢
  have he : ∀ c', inA D c' (pE ps i) = true := fun c' => inA_some.mpr ⟨0, by rw [← hD]; exact turns_zero (links_of nd hi) _, Nat.zero_le _⟩
  have ownOk : ∀ m ∈ onP ms (pN ps i), potT ps ms (pN ps i) [(m.1, 1)] ∧ (∀ t ∈ [(m.1, (1 : Int))], t.1 ∈ ms.map (·.1) ∧ (t.2 = 1 ∨ t.2 = -1)) ∧ [(m.1, (1 : Int))].length ≤ ps.length + 1 := fun m hm => by
    obtain ⟨a, b⟩ := onP_at.mp hm
    refine ⟨by rw [← b]; exact own_pot md a, fun t ht => ?_, Nat.succ_le_succ (Nat.zero_le _)⟩
    rw [List.mem_singleton.mp ht]
    exact ⟨List.mem_map.mpr ⟨m, a, rfl⟩, .inl rfl⟩
  have layM : ∀ c', ∀ p ∈ ps, crs D c' (pN ps i) p = true → ∃ m ∈ onP ms p.1, m.1 = mtrL ms D c' p ∧ (seP ms p.1 ≠ [] → m.2.2 = true) ∧ (seP ms p.1 = [] → (onP ms p.1)[c' - min (dsN D p.2.1) (dsN D p.2.2)]? = some m) := fun c' p hp h => mtr_on fun o => (crs_open nd hi hD.symm hp h o).2.2.2.2
  have layOk : ∀ c', inA D c' (pS ps i) = false → potT ps ms (pN ps i) (layT ps ms (pN ps i) D c') ∧ (∀ t ∈ layT ps ms (pN ps i) D c', t.1 ∈ ms.map (·.1) ∧ (t.2 = 1 ∨ t.2 = -1)) ∧ (layT ps ms (pN ps i) D c').length ≤ ps.length + 1 := fun c' hs => by
    refine ⟨lay_pot nd md hi (fun p hp h => by obtain ⟨m, a, b, _⟩ := layM c' p hp h; exact ⟨m, a, b⟩) (he c') hs, fun t ht => ?_, ?_⟩
    · obtain ⟨p, hp, rfl⟩ := List.mem_map.mp ht
      obtain ⟨h1, h2⟩ := List.mem_filter.mp hp
      obtain ⟨m, a, b, _⟩ := layM c' p h1 h2
      refine ⟨List.mem_map.mpr ⟨m, (onP_at.mp a).1, b⟩, ?_⟩
      dsimp only
      split
      · exact .inl rfl
      · exact .inr rfl
    · rw [layT, List.length_map]
      exact Nat.le_trans (List.length_filter_le _ _) (Nat.le_succ _)
  cases hse : seP ms (pN ps i) with
  | cons m r =>
    obtain ⟨a, b⟩ := se_sub (ms := ms) (x := pN ps i) (m := m) (by rw [hse]; exact List.mem_cons_self)
    rw [if_neg (by simp)]
    refine ⟨fun T hT => ?_, List.pairwise_singleton _ _, rfl, fun T hT => ?_⟩
    · rw [List.mem_singleton.mp hT]
      exact ownOk m a
    · rw [List.mem_singleton.mp hT]
      intro m2 h2 e
      obtain rfl := meter_uniq md h2 (onP_at.mp a).1 (List.mem_singleton.mp e)
      exact b
  | nil =>
    rw [if_pos rfl]
    dsimp only
    cases hs : D (pS ps i) with
    | none =>
      have nin : ∀ c', inA D c' (pS ps i) = false := fun c' => by unfold inA; rw [hs]
      refine ⟨fun T hT => ?_, List.pairwise_singleton _ _, rfl, fun T hT => ?_⟩
      · rw [List.mem_singleton.mp hT]
        exact layOk c (nin c)
      · rw [List.mem_singleton.mp hT]
        intro m2 h2 e
        obtain ⟨p, hp, hcr, ex⟩ := lay_mem e
        obtain ⟨m, ha, hb, hz, _⟩ := layM c p hp hcr
        obtain rfl := meter_uniq md h2 (onP_at.mp ha).1 (ex.trans hb.symm)
        refine hz fun o => ?_
        obtain ⟨q1, q2, _, q4, _⟩ := crs_open nd hi hD.symm hp hcr o
        have l1 := hc hse hs _ _ q1
        have l2 := hc hse hs _ _ q2
        omega
    | some d =>
      have nin : ∀ c' < d, inA D c' (pS ps i) = false := fun c' hl => by rw [inA_far hs]; exact decide_eq_false (by omega)
      refine ⟨fun T hT => ?_, List.pairwise_append.mpr ⟨?_, ?_, ?_⟩, ?_⟩
      · rcases List.mem_append.mp hT with hT | hT
        · obtain ⟨m, hm, rfl⟩ := List.mem_map.mp hT
          exact ownOk m hm
        · obtain ⟨c', hc', rfl⟩ := List.mem_map.mp hT
          exact layOk c' (nin c' (List.mem_range.mp hc'))
      · have pw : (onP ms (pN ps i)).Pairwise (fun a b => a.1 ≠ b.1) := List.pairwise_map.mp (onP_names md (pN ps i))
        refine List.pairwise_map.mpr (pw.imp fun {a b} ne m hm e1 e2 => ?_)
        exact absurd ((List.mem_singleton.mp e1).symm.trans (List.mem_singleton.mp e2)) ne
      · refine List.pairwise_map.mpr ?_
        have pw : (List.range d).Pairwise (· ≠ ·) := List.nodup_range
        refine pw.imp fun {a b} ne m hm e1 e2 => ?_
        obtain ⟨p, hp, hcr, ex⟩ := lay_mem e1
        obtain ⟨p', hp', hcr', ex'⟩ := lay_mem e2
        obtain ⟨m1, ha, hb, hz, ho⟩ := layM a p hp hcr
        obtain ⟨m2, ha', hb', hz', ho'⟩ := layM b p' hp' hcr'
        obtain rfl := meter_uniq md hm (onP_at.mp ha).1 (ex.trans hb.symm)
        obtain rfl := meter_uniq md hm (onP_at.mp ha').1 (ex'.trans hb'.symm)
        have ep : p.1 = p'.1 := by rw [← (onP_at.mp ha).2, ← (onP_at.mp ha').2]
        obtain ⟨j, hj, rfl⟩ := List.getElem_of_mem hp
        obtain ⟨j', hj', rfl⟩ := List.getElem_of_mem hp'
        obtain ⟨x1, _, _⟩ := pN_at (List.getElem?_eq_getElem hj)
        obtain ⟨x2, _, _⟩ := pN_at (List.getElem?_eq_getElem hj')
        obtain rfl := pN_inj nd hj hj' (by rw [x1, x2]; exact ep)
        by_cases o : seP ms ps[j].1 = []
        · exfalso
          obtain ⟨_, _, q3, _, _⟩ := crs_open nd hi hD.symm hp hcr o
          obtain ⟨_, _, q3', _, _⟩ := crs_open nd hi hD.symm hp' hcr' o
          have g1 := ho o
          have g2 := ho' o
          obtain ⟨l1, y1⟩ := List.getElem?_eq_some_iff.mp g1
          obtain ⟨l2, y2⟩ := List.getElem?_eq_some_iff.mp g2
          have ix : a - min (dsN D ps[j].2.1) (dsN D ps[j].2.2) = b - min (dsN D ps[j].2.1) (dsN D ps[j].2.2) := by
            refine nodup_get (onP_names md ps[j].1) (hi := by rw [List.length_map]; exact l1) (hj := by rw [List.length_map]; exact l2) ?_
            rw [List.getElem_map, List.getElem_map, y1, y2]
          omega
        · exact hz o
      · intro T hT U hU m hm e1 e2
        obtain ⟨m0, h0, rfl⟩ := List.mem_map.mp hT
        obtain ⟨c', hc', rfl⟩ := List.mem_map.mp hU
        obtain ⟨p, hp, hcr, ex⟩ := lay_mem e2
        obtain ⟨m1, ha, hb, _⟩ := layM c' p hp hcr
        obtain rfl := meter_uniq md hm (onP_at.mp ha).1 (ex.trans hb.symm)
        obtain rfl := meter_uniq md hm (onP_at.mp h0).1 (List.mem_singleton.mp e1)
        exact absurd ((onP_at.mp ha).2.symm.trans (onP_at.mp h0).2) (crs_iff.mp hcr).1
      · show _ = d + wtP ms (pN ps i)
        rw [List.length_append, List.length_map, List.length_map, List.length_range, wtP]
        omega
end
end RV
/-! Votes: promises. -/
namespace RV
open PySem L2 TL
/-- a dict of numbers by names -/
def DI (kvs : List (Key × V)) (g : Dist Str) : Prop := ∀ x : Str, valV kvs (.inr x) = (g x).map fun d => V.int (d : Nat)
def sp_wit : Sp := fun vs H Q _ => ∃ (d : Addr) (x : Str) (c : Nat) (kvs : List (Key × V)) (g : Dist Str), vs = [.ref d, .str x, .int (c : Nat)] ∧ H d = some (.dK kvs) ∧ DI kvs g ∧ Q (.bl (inA g c x)) H
section
variable (K : PySem.W.Frag) (CN CP CM CS : Addr)
def sp_satN : Sp := fun vs H Q _ => ∃ (x : Addr) (ps : List P3) (ms : List M3) (y : Str), vs = [.ref x, .str y] ∧ NetR K CN CP CM H x ps ms ∧ ms.length ≤ 12 ∧
  ∀ (l : Addr) H', Same H H' → H' l = some (.lst ((seP ms y).map fun m => V.str m.1)) → Q (.ref l) H'
def sp_mil : Sp := fun vs H Q _ => ∃ (x a d : Addr) (ps : List P3) (ms : List M3) (q : P3) (c : Nat) (kvs : List (Key × V)) (g : Dist Str), vs = [.ref x, .ref a, .ref d, .int (c : Nat)] ∧ NetR K CN CP CM H x ps ms ∧ ms.length ≤ 12 ∧ PipeAt CP H a q ∧ H d = some (.dK kvs) ∧ DI kvs g ∧
  (seP ms q.1 = [] → g q.2.1 = some (dsN g q.2.1) ∧ g q.2.2 = some (dsN g q.2.2) ∧ min (dsN g q.2.1) (dsN g q.2.2) ≤ c ∧ c - min (dsN g q.2.1) (dsN g q.2.2) < (onP ms q.1).length) ∧
  ∀ H', Same H H' → Q (.str (mtrL ms g c q)) H'
/-- a sum with these terms, made anew -/
def SumN (C : Addr) (H H' : Hp) (x : Addr) (T : List (Str × Int)) : Prop := ∃ qs, Mad T qs ∧ SumR C H' x qs ∧ H x = none
def sp_lay : Sp := fun vs H Q _ => ∃ (x d : Addr) (ps : List P3) (ms : List M3) (y : Str) (c : Nat) (kvs : List (Key × V)) (g : Dist Str), vs = [.ref x, .str y, .ref d, .int (c : Nat)] ∧ NetR K CN CP CM H x ps ms ∧ POk ps ∧ MOk ps ms ∧ H d = some (.dK kvs) ∧ DI kvs g ∧
  (∀ p ∈ ps, crs g c y p = true → seP ms p.1 = [] → g p.2.1 = some (dsN g p.2.1) ∧ g p.2.2 = some (dsN g p.2.2) ∧ min (dsN g p.2.1) (dsN g p.2.2) ≤ c ∧ c - min (dsN g p.2.1) (dsN g p.2.2) < (onP ms p.1).length) ∧
  ∀ (a : Addr) (qs : List (Str × Int)) H', Same H H' → Mad (layT ps ms y g c) qs → SumR CS H' a qs → Q (.ref a) H'
end
end RV
namespace RV
open PySem L2 TL
theorem put_sm {H : Hp} {t : Addr} {o : HO} (nt : H t = none) : Same H (upd H t o) ∧ upd H t o t = some o := ⟨fun b u e => (upd_ne (ne_of_none e nt)).trans e, upd_same⟩
end RV
/-! max(d.values()) of a plain dict of whole numbers. -/
namespace RV
open PySem L2 PyProof.Rows TL
section
variable {X : Cx}
/-- e.values() -/
def tDValsK (t : TE) : TE := fun σ H Q => t σ H fun x H1 => ∃ a kvs, x = .ref a ∧ H1 a = some (.dK kvs) ∧ ∀ p, H1 p = none → Q (.ref p) (upd H1 p (viewO "dict_values" p a))
theorem pe_dvalsK {e : Expr} {t : TE} {apos cpos : Pos} (he : PE X e t) (hbase : attributeBase e "values" X.env (eval e X.env) = eval e X.env := by rfl) (hline : (apos.endLine == cpos.line) = true := by rfl) :
    PE X (.Call (.Attribute e "values" apos) [] [] cpos) (tDValsK t) := by
  refine ⟨fun pins s σ H Q I h => ?_⟩
  refine wpAny_Call_method (T := "dict") (id := "dict.values") hbase rfl hline F.plainAttrs_dict F.slot_dict_values F.type_dict_values (thn (he.run pins s σ H _ I h) fun u s1 ⟨x, H1, I1, rx, d, kvs, ex, hd, q⟩ => ?_)
  subst ex
  obtain rfl : u = Value.ref d := rx
  obtain ⟨hl, hs, vs, kv, hm⟩ := dk_of I1.hok hd
  refine ⟨hm.typeIs, hm.mapOf.noDict, ?_⟩
  show wpAny _ _ (callWith cpos (.builtin "dict.values") [.ref d] [] []) _ X.xe s1
  refine method_meetsIn F.slot_dict_values F.entry_dict_values rfl (PySem.evalArgs_none ⟨rfl, hm.typeIs, F.args_dict_values_1 _, _, meets_dict_values (mixKind X.prog X.w) d hs, ⟨vs, hm⟩, ?_⟩)
  exact ⟨.ref s1.heap.objs.size, _, I1.laid (t' := s1.toks) (fun b o q => Heap.get?_push_of_some _ q) (Nat.le_refl _) (viewO_ok (T := "dict_values") (d := d) (Heap.get?_push_size _ rfl)), rfl, q _ (I1.hok.fresh (Nat.le_refl _))⟩
def rMaxK : List V → Hp → VK → Prop := fun xs H Q => ∃ (p a : Addr) (kvs : List (Key × V)) (ns : List Int), xs = [.ref p] ∧ H p = some (viewO "dict_values" p a) ∧ H a = some (.dK kvs) ∧ kvs.map Prod.snd = ns.map V.int ∧ 0 < ns.length ∧ ∀ m, m ∈ ns → (∀ y, y ∈ ns → y ≤ m) → Q (.int m) H
theorem cr_maxK (hc : X.calm = true) : CallR X (.builtin "max") rMaxK := by
  intro pins s σ H xs us Q I rx h
  obtain ⟨p, a, kvs, ns, rfl, hp, hd, hns, hne, q⟩ := h
  rw [Vals.ref1 rx]
  obtain ⟨hl, hs, vs, kv, hm⟩ := dk_of I.hok hd
  obtain ⟨es, ep, hraw, hsz, hat⟩ := hm.raw
  have hv : s.heap.get? p = some (DSub.viewOb "dict_values" a) := (show ObjOk X.prog X.w H s.heap p (viewO "dict_values" p a) from I.hok p _ hp).1
  have hkn : kvs.length = ns.length := by
    have e := congrArg List.length hns
    rw [List.length_map, List.length_map] at e
    exact e
  have hvl : kvs.length = vs.length := Paired.length kv
  have hsz2 : es.size = ns.length := by omega
  have hP : ∀ (i : Nat) (hi : i < es.size), ∃ t, es[i].val = .int (ns.getD i 0) t := fun i hi => by
    have hi2 : i < kvs.length := by omega
    have hi3 : i < ns.length := by omega
    obtain ⟨b, hb, e1, e2⟩ := paired_get kv (List.getElem?_eq_getElem hi2)
    obtain ⟨_, e4⟩ := hat i hi b.1 b.2 hb
    have e2' : kvs[i].2 = V.int ns[i] := by
      have z : (kvs.map Prod.snd)[i]? = (ns.map V.int)[i]? := by rw [hns]
      rw [List.getElem?_map, List.getElem?_map, List.getElem?_eq_getElem hi2, List.getElem?_eq_getElem hi3] at z
      exact Option.some.inj z
    have e3 : ns.getD i 0 = ns[i] := by rw [List.getD_eq_getElem?_getD, List.getElem?_eq_getElem hi3] <;> rfl
    rw [e2'] at e2
    rw [e3, e4]
    exact e2
  refine call_max_walk ?_
  refine wpAny_pyIter_values_raw ⟨_, hv, rfl, rfl⟩ hraw ?_
  obtain ⟨od, hod, hcd, hdd⟩ := id hraw
  have ha : a < s.heap.objs.size := Heap.lt_size hod
  have W := Walks.rawValues (prog := X.prog) (w := X.w) (A := X.A.in1) (show X.A.in1.handled = none from I.ok.hd hc) s.heap.objs.size a (Nat.ne_of_lt ha) es ep
  refine ⟨s.heap.objs.size, [s.heap.objs.size, a], [s.heap.objs.size], es.size, _, _, fun i j => decide (ns.getD i 0 > ns.getD j 0), rfl, W, ⟨⟨_, Heap.get?_push_size _ rfl, rfl, rfl⟩, od, Heap.get?_push_of_some _ hod, hcd, hdd⟩, fun b hb => ?_, by omega, CmpOf.ints_gt (fun i => ns.getD i 0) (fun i v z => ?_), fun v h' tk hv' hk => ?_⟩
  · show b < (s.heap.push _).objs.size
    rw [size_push']
    rcases List.mem_cons.mp hb with z | z
    · rw [z]
      exact Nat.lt_succ_self _
    · rw [List.mem_singleton.mp z]
      exact Nat.lt_succ_of_lt ha
  · obtain ⟨hi, rfl⟩ := z
    exact hP i hi
  · obtain ⟨hi, rfl⟩ := hv'
    obtain ⟨t, ht⟩ := hP _ hi
    rw [ht]
    obtain ⟨m1', m2'⟩ := argBest_gt (fun i => ns.getD i 0) (es.size - 1)
    have m1 : argBest (fun i j => decide (ns.getD i 0 > ns.getD j 0)) (es.size - 1) ≤ es.size - 1 := m1'
    have m2 : ∀ j, j ≤ es.size - 1 → ns.getD j 0 ≤ ns.getD (argBest (fun i j => decide (ns.getD i 0 > ns.getD j 0)) (es.size - 1)) 0 := m2'
    have hk2 : ∀ b o, s.heap.get? b = some o → h'.get? b = some o := fun b o e => hk b o (fun z => by rw [List.mem_singleton.mp z] at e; exact absurd (Heap.lt_size e) (Nat.lt_irrefl _)) (Heap.get?_push_of_some _ e)
    refine ⟨.int _, H, I.kept (t' := tk) hk2, ⟨t, rfl⟩, q _ (PySem.getD_mem (by omega)) fun y hy => ?_⟩
    obtain ⟨j, hj, e⟩ := List.mem_iff_getElem.mp hy
    have z := m2 j (by omega)
    have e3 : ns.getD j 0 = y := by rw [List.getD_eq_getElem?_getD, List.getElem?_eq_getElem hj, ← e] <;> rfl
    rw [e3] at z
    exact z
end
end RV
/-! Votes: promises (votes, sums that are votes). -/
namespace RV
open PySem L2 TL
abbrev VU := Addr × List (Str × Int)
/-- sums of these terms, one by one -/
def MadL (Ts : List (List (Str × Int))) (us : List VU) : Prop := us.length = Ts.length ∧ ∀ (k : Nat) (T : List (Str × Int)) (u : VU), Ts[k]? = some T → us[k]? = some u → Mad T u.2
def dstI (ps : List P3) (ms : List M3) (i : Nat) : Dist Str := turns ((lkA ps ms (pN ps i)).map lk3) ps.length (g0 (pE ps i))
section
variable (K : PySem.W.Frag) (CN CP CM CS : Addr)
def sp_votes : Sp := fun vs H Q _ => ∃ (x : Addr) (ps : List P3) (ms : List M3) (i : Nat), vs = [.ref x, .str (pN ps i)] ∧ NetR K CN CP CM H x ps ms ∧ POk ps ∧ MOk ps ms ∧ i < ps.length ∧
  ∀ (t : Addr) (us : List VU) (c : Nat) H', Same H H' → H' t = some (.tup (rf us)) → (∀ u ∈ us, SumR CS H' u.1 u.2) → MadL (votesF ps ms i c) us → (seP ms (pN ps i) = [] → dstI ps ms i (pS ps i) = none → ∀ x e, dstI ps ms i x = some e → e ≤ c) → Q (.ref t) H'
end
theorem MadL.one {T : List (Str × Int)} {u : VU} (h : Mad T u.2) : MadL [T] [u] := ⟨rfl, fun k T' u' h1 h2 => by
  cases k with
  | zero =>
    obtain rfl := Option.some.inj h1
    obtain rfl := Option.some.inj h2
    exact h
  | succ k => cases h1⟩
theorem MadL.app {Ts Us : List (List (Str × Int))} {a b : List VU} (h : MadL Ts a) (g : MadL Us b) : MadL (Ts ++ Us) (a ++ b) := by
  refine ⟨by rw [List.length_append, List.length_append, h.1, g.1], fun k T u h1 h2 => ?_⟩
  by_cases q : k < Ts.length
  · rw [List.getElem?_append_left q] at h1
    rw [List.getElem?_append_left (by rw [h.1]; exact q)] at h2
    exact h.2 k T u h1 h2
  · rw [List.getElem?_append_right (by omega)] at h1
    rw [List.getElem?_append_right (by rw [h.1]; omega), h.1] at h2
    exact g.2 _ T u h1 h2
theorem valV_no {kvs : List (Key × V)} {k : Key} : valV kvs k = none → ∀ q ∈ kvs, q.1 ≠ k := by
  induction kvs with
  | nil => exact fun _ _ h => nomatch h
  | cons p r ih =>
    intro h q hq e
    by_cases z : p.1 = k
    · rw [valV_pos z] at h
      cases h
    · rw [valV_neg z] at h
      rcases List.mem_cons.mp hq with rfl | hq
      · exact z e
      · exact ih h q hq e
/-- keys and what they lead to -/
theorem dw_key {n : Nat} {Z : Str → Nat → List Int → Prop} {H : Hp} {kvs : List (Key × V)} {g : Dist Str} (h : DW n Z H kvs g) {i : Nat} {kk : Key} {vv : V} (e : kvs[i]? = some (kk, vv)) : ∃ z d, kk = .inr z ∧ g z = some d := by
  obtain ⟨z, ez⟩ := h.k _ (List.mem_of_getElem? e)
  have ez : kk = .inr z := ez
  subst ez
  cases hg : g z with
  | some d => exact ⟨z, d, rfl, hg⟩
  | none => exact absurd rfl (valV_no (h.z z hg) _ (List.mem_of_getElem? e))
end RV
namespace RV
open PySem L2 TL
open Classical in
/-- the first keys' distances -/
def DP (kvs : List (Key × V)) (g : Dist Str) (i : Nat) (kv2 : List (Key × V)) : Prop := (∀ z : Str, valV kv2 (.inr z) = if ∃ j v, j < i ∧ kvs[j]? = some (.inr z, v) then (g z).map fun d => V.int (d : Nat) else none) ∧ ∀ q ∈ kv2, ∃ z d, q = (.inr z, V.int (d : Nat)) ∧ g z = some d
theorem DP.nil {kvs : List (Key × V)} {g : Dist Str} : DP kvs g 0 [] := ⟨fun z => by
  rw [if_neg fun ⟨_, _, h, _⟩ => Nat.not_lt_zero _ h]
  rfl, fun _ h => nomatch h⟩
theorem DP.put {kvs kv2 : List (Key × V)} {g : Dist Str} {i dz : Nat} {z : Str} {vv : V} (h : DP kvs g i kv2) (hk : kvs[i]? = some (.inr z, vv)) (hz : g z = some dz) : DP kvs g (i + 1) (putK kv2 (.inr z) (.int (dz : Nat))) := by
  refine ⟨fun y => ?_, fun q hq => ?_⟩
  · rw [valV_put]
    by_cases e : y = z
    · subst e
      rw [if_pos rfl, if_pos ⟨i, vv, Nat.lt_succ_self i, hk⟩, hz]
      rfl
    · rw [if_neg fun q => e (Sum.inr.inj q), h.1 y]
      by_cases c : ∃ j v, j < i ∧ kvs[j]? = some (.inr y, v)
      · obtain ⟨j, v, a, b⟩ := c
        rw [if_pos ⟨j, v, a, b⟩, if_pos ⟨j, v, Nat.lt_succ_of_lt a, b⟩]
      · rw [if_neg c, if_neg]
        rintro ⟨j, v, a, b⟩
        by_cases q : j = i
        · rw [q, hk] at b
          injection b with b
          injection b with b _
          exact e (Sum.inr.inj b).symm
        · exact c ⟨j, v, by omega, b⟩
  · unfold putK at hq
    split at hq
    · obtain ⟨p, hp, rfl⟩ := List.mem_map.mp hq
      split
      · rename_i e
        exact ⟨z, dz, by rw [e], hz⟩
      · exact h.2 p hp
    · rcases List.mem_append.mp hq with hq | hq
      · exact h.2 q hq
      · exact ⟨z, dz, List.mem_singleton.mp hq, hz⟩
/-- all keys are through -/
theorem DP.all {n : Nat} {Z : Str → Nat → List Int → Prop} {H : Hp} {kvs kv2 : List (Key × V)} {g : Dist Str} (h : DP kvs g kvs.length kv2) (dw : DW n Z H kvs g) : DI kv2 g := fun z => by
  rw [h.1 z]
  by_cases c : ∃ j v, j < kvs.length ∧ kvs[j]? = some (.inr z, v)
  · rw [if_pos c]
  · rw [if_neg c]
    cases hg : g z with
    | none => rfl
    | some d =>
      obtain ⟨e, t, fs, v1, _⟩ := dw.s z d hg
      exfalso
      refine c ?_
      have : ∃ q ∈ kvs, q.1 = .inr z := Decidable.byContradiction fun no => by
        have : valV kvs (.inr z) = none := by
          clear dw h c v1 hg
          induction kvs with
          | nil => rfl
          | cons p r ih =>
            rw [valV_neg fun e => no ⟨p, List.mem_cons_self, e⟩]
            exact ih fun ⟨q, a, b⟩ => no ⟨q, List.mem_cons_of_mem _ a, b⟩
        rw [v1] at this
        cases this
      obtain ⟨q, hq, e⟩ := this
      obtain ⟨j, hj, ej⟩ := List.getElem_of_mem hq
      exact ⟨j, q.2, hj, by rw [List.getElem?_eq_getElem hj, ej, ← e]⟩
end RV
namespace RV
open PySem L2 TL
theorem DP.vals {kvs kv2 : List (Key × V)} {g : Dist Str} (h : DP kvs g kvs.length kv2) (di : DI kv2 g) : ∃ ns : List Nat, kv2.map Prod.snd = (ns.map fun n => ((n : Nat) : Int)).map V.int ∧ (∀ z d, g z = some d → d ∈ ns) ∧ ns.length = kv2.length := by
  have hx : ∀ q ∈ kv2, ∃ d : Nat, q.2 = V.int (d : Nat) := fun q hq => by
    obtain ⟨z, d, rfl, _⟩ := h.2 q hq
    exact ⟨d, rfl⟩
  have key : ∀ (l : List (Key × V)), (∀ q ∈ l, ∃ d : Nat, q.2 = V.int (d : Nat)) → ∃ ns : List Nat, l.map Prod.snd = (ns.map fun n => ((n : Nat) : Int)).map V.int ∧ ns.length = l.length := by
    intro l
    induction l with
    | nil => exact fun _ => ⟨[], rfl, rfl⟩
    | cons p r ih =>
      intro hp
      obtain ⟨ns, e1, e2⟩ := ih fun q hq => hp q (List.mem_cons_of_mem _ hq)
      obtain ⟨d, ed⟩ := hp p List.mem_cons_self
      exact ⟨d :: ns, by rw [List.map_cons, List.map_cons, List.map_cons, e1, ed], by rw [List.length_cons, List.length_cons, e2]⟩
  obtain ⟨ns, e1, e2⟩ := key kv2 hx
  refine ⟨ns, e1, fun z d hz => ?_, e2⟩
  have hv : valV kv2 (.inr z) = some (V.int (d : Nat)) := by
    rw [di z, hz]
    rfl
  have hm : V.int (d : Nat) ∈ kv2.map Prod.snd := by
    clear h di hx e1 e2
    induction kv2 with
    | nil => cases hv
    | cons p r ih =>
      by_cases q : p.1 = .inr z
      · rw [valV_pos q] at hv
        exact List.mem_map.mpr ⟨p, List.mem_cons_self, Option.some.inj hv⟩
      · rw [valV_neg q] at hv
        exact List.mem_cons_of_mem _ (ih hv)
  rw [e1, List.map_map] at hm
  obtain ⟨n, hn, e⟩ := List.mem_map.mp hm
  have e : V.int (n : Nat) = V.int (d : Nat) := e
  injection e with e
  have : n = d := by omega
  rw [← this]
  exact hn
theorem SumR.put {C a D : Addr} {H : Hp} {qs : List (Str × Int)} {acc : List V} {o : HO} (h : SumR C H a qs) (e : H D = some (.lst acc)) : SumR C (upd H D o) a qs := by
  obtain ⟨dx, t, us, e2, k⟩ := h
  refine ⟨dx, t, us, e2, fun p hp => (upd_ne fun z => ?_).trans (k p hp)⟩
  have := k p hp
  rw [z, e] at this
  rcases List.mem_cons.mp hp with rfl | hp
  · cases this
  · rcases List.mem_cons.mp hp with rfl | hp
    · cases this
    · obtain ⟨u, _, rfl⟩ := List.mem_map.mp hp
      cases this
/-- a distance is no greater than all the meters -/
theorem wl_le {w : Nat → Nat} {b : Nat} (hw : ∀ i, w i ≤ b) : ∀ (l : List (Nat × Bool)), wl w l ≤ b * l.length
  | [] => Nat.zero_le _
  | q :: l => by
    have h1 := wl_le hw l
    have h2 := hw q.1
    rw [wl_cons, List.length_cons, Nat.mul_succ]
    omega
theorem dstI_le {ps : List P3} {ms : List M3} (nd : (ps.map (·.1)).Nodup) {i : Nat} (hi : i < ps.length) (p12 : ps.length ≤ 12) (m12 : ms.length ≤ 12) {x : Str} {d : Nat} (h : dstI ps ms i x = some d) : d ≤ 144 := by
  have hL := links_of (ms := ms) nd hi
  obtain ⟨l, h1, _⟩ := turns_wk hL ps.length _ _ h
  obtain ⟨l', vs, h2, _⟩ := h1.simple (w := fun k => wtP ms (pN ps k))
  obtain ⟨d', h3, h4⟩ := turns_reach hL h2.wk ps.length (h2.short fun _ o => o.1)
  have hd : dstI ps ms i x = some d' := h3
  rw [h] at hd
  obtain rfl := Option.some.inj hd
  have hs := h2.short (n := ps.length) fun _ o => o.1
  have := wl_le (w := fun k => wtP ms (pN ps k)) (b := 12) (fun k => Nat.le_trans (List.length_filter_le _ _) m12) l'
  omega
theorem madL_map {β : Type} {f : β → List (Str × Int)} {xs : List β} {us : List VU} (hl : us.length = xs.length) (h : ∀ (k : Nat) (x : β) (u : VU), xs[k]? = some x → us[k]? = some u → Mad (f x) u.2) : MadL (xs.map f) us := ⟨by rw [hl, List.length_map], fun k T u h1 h2 => by
  rw [List.getElem?_map] at h1
  cases e : xs[k]? with
  | none => rw [e] at h1; cases h1
  | some x =>
    rw [e] at h1
    obtain rfl := Option.some.inj h1
    exact h k x u e h2⟩
end RV
/-! is_vote: promises. -/
namespace RV
open PySem L2 TL
section
variable (K : PySem.W.Frag) (CN CP CM CS : Addr)
def sp_indexM : Sp := fun vs H Q _ => ∃ (t : Addr) (us : List MU) (y : Str), vs = [.ref t, .str y] ∧ Tms K CM H t us ∧ us.length ≤ 12 ∧
  (∀ (i : Nat) H', ((sn us)[i]?).map (·.1) = some y → Same H H' → Q (.int (i : Nat)) H') ∧ (y ∉ (sn us).map (·.1) → ∀ H', Same H H' → Q .non H')
def sp_nhas : Sp := fun vs H Q _ => ∃ (x : Addr) (ps : List P3) (ms : List M3) (y : Str), vs = [.ref x, .str y] ∧ NetR K CN CP CM H x ps ms ∧ ms.length ≤ 12 ∧ ∀ H', Same H H' → Q (.bl (decide (y ∈ ms.map (·.1)))) H'
def sp_chkms : Sp := fun vs H Q _ => ∃ (x l : Addr) (ps : List P3) (ms : List M3) (ns : List Str), vs = [.ref x, .ref l] ∧ NetR K CN CP CM H x ps ms ∧ ms.length ≤ 12 ∧ H l = some (.lst (ns.map V.str)) ∧ (∀ y ∈ ns, y ∈ ms.map (·.1)) ∧ ∀ H', Same H H' → Q .non H'
def sp_chkt : Sp := fun vs H Q _ => ∃ (x a : Addr) (ps : List P3) (ms : List M3) (qs : List (Str × Int)), vs = [.ref x, .ref a] ∧ NetR K CN CP CM H x ps ms ∧ ms.length ≤ 12 ∧ SumR CS H a qs ∧ qs.length ≤ 100 ∧ (∀ q ∈ qs, q.1 ∈ ms.map (·.1)) ∧ ∀ H', Same H H' → Q .non H'
def amoF (ps : List P3) (ms : List M3) (qs : List (Str × Int)) : List Int := ps.map fun p => ((onP ms p.1).map fun m => co qs m.1).sum
def sp_amo : Sp := fun vs H Q _ => ∃ (x a : Addr) (ps : List P3) (ms : List M3) (qs : List (Str × Int)), vs = [.ref x, .ref a] ∧ NetR K CN CP CM H x ps ms ∧ POk ps ∧ MOk ps ms ∧ SumR CS H a qs ∧ Nrm qs ∧
  ∀ (t : Addr) H', Same H H' → H' t = some (.tup ((amoF ps ms qs).map V.int)) → Q (.ref t) H'
end
end RV
namespace RV
open PySem L2 TL
end RV
set_option linter.all false
/-! for x, y in zip(a, b): a tuple and a list -/
namespace RV
open PySem L2 PySem.Spec PyProof.Rows TL
/-- the tuple at a and the list at b as they stand; the items in new tuples -/
def Itm (K : PySem.W.Frag) (a b : Addr) : It :=
  ⟨fun i H => ∃ (xs ys : List V) (x y : V), SqT K H a xs ∧ SqL K H b ys ∧ xs[i]? = some x ∧ ys[i]? = some y,
    fun i H v H' => ∃ (T : Addr) (x y : V), v = V.ref T ∧ H T = none ∧ H' = upd H T (HO.tup [x, y]) ∧ (∀ xs, SqT K H a xs → xs[i]? = some x) ∧ ∀ ys, SqL K H b ys → ys[i]? = some y,
    fun i H => ∃ xs ys : List V, SqT K H a xs ∧ SqL K H b ys ∧ xs.length = i ∧ ys.length = i⟩
def iZipm (K : PySem.W.Frag) (ta : TA) : TI := fun σ H R => ta σ H fun vs H1 => ∃ a b xs ys, vs = [.ref a, .ref b] ∧ SqT K H1 a xs ∧ SqL K H1 b ys ∧ R (Itm K a b) H1
end RV
/-! Heights: a potential's differences, found from place to place. -/
namespace RV
open PySem L2 TL
def stH (st en : Nat → Str) (am : Nat → Int) (hv : Str → Option Int) (k : Nat) : Str → Option Int := match hv (st k), hv (en k) with
  | some a, none => fun x => if x = en k then some (a + am k) else hv x
  | none, some b => fun x => if x = st k then some (b - am k) else hv x
  | _, _ => hv
structure HtI (st en : Nat → Str) (n : Nat) (am : Nat → Int) (acc : AccR Str) (hv : Str → Option Int) : Prop where
  dm : ∀ x, hv x = none ↔ x ∉ acc.1
  pt : ∀ p : Str → Int, (∀ k < n, am k = p (en k) - p (st k)) → ∃ c : Str → Int, (∀ k < n, c (st k) = c (en k)) ∧ ∀ x v, hv x = some v → v = p x + c x
section
variable {st en : Nat → Str} {n : Nat} {am : Nat → Int} {acc : AccR Str} {hv : Str → Option Int}
open Classical in
end
/-- a dict of whole numbers by names -/
def HV (kvs : List (Key × V)) (hv : Str → Option Int) : Prop := ∀ x : Str, valV kvs (.inr x) = (hv x).map V.int
def potA (ps : List P3) (am : List Int) : Prop := ∃ p : Str → Int, ∀ k < ps.length, ent am k = p (pE ps k) - p (pS ps k)
section
variable (K : PySem.W.Frag) (CN CP CM CS : Addr)
def sp_sprd : Sp := fun vs H Q _ => ∃ (x t d : Addr) (ps : List P3) (ms : List M3) (am : List Int) (kvs : List (Key × V)) (hv : Str → Option Int) (acc : AccR Str), vs = [.ref x, .ref t, .ref d] ∧ NetR K CN CP CM H x ps ms ∧ ps.length ≤ 12 ∧ H t = some (.lst (am.map V.int)) ∧ am.length = ps.length ∧ H d = some (.dK kvs) ∧ kvs.length ≤ 5000 ∧ HV kvs hv ∧ HtI (pS ps) (pE ps) ps.length (ent am) acc hv ∧
  ∀ (kvs' : List (Key × V)) (hv' : Str → Option Int) H', (∀ b o, b ≠ d → H b = some o → H' b = some o) → H' d = some (.dK kvs') → kvs'.length ≤ kvs.length + 144 → HV kvs' hv' → HtI (pS ps) (pE ps) ps.length (ent am) (rndsR (pS ps) (pE ps) (List.range ps.length) acc ps.length) hv' → Q .non H'
def sp_hgts : Sp := fun vs H Q _ => ∃ (x t : Addr) (ps : List P3) (ms : List M3) (am : List Int), vs = [.ref x, .ref t] ∧ NetR K CN CP CM H x ps ms ∧ ps.length ≤ 12 ∧ H t = some (.lst (am.map V.int)) ∧ am.length = ps.length ∧
  (potA ps am → ∀ (d : Addr) H', Same H H' → Q (.ref d) H') ∧ (¬ potA ps am → ∀ H', Same H H' → Q .non H')
def sp_isv : Sp := fun vs H Q _ => ∃ (x a : Addr) (ps : List P3) (ms : List M3) (y : Str) (qs : List (Str × Int)), vs = [.ref x, .str y, .ref a] ∧ NetR K CN CP CM H x ps ms ∧ POk ps ∧ MOk ps ms ∧ y ∈ ps.map (·.1) ∧ SumR CS H a qs ∧ Nrm qs ∧ qs.length ≤ 100 ∧ (∀ q ∈ qs, q.1 ∈ ms.map (·.1)) ∧
  (potT ps ms y qs → ∀ H', Same H H' → Q (.bl true) H') ∧ (¬ potT ps ms y qs → ∀ H', Same H H' → Q (.bl false) H')
end
end RV
namespace RV
open PySem L2 TL
end RV
namespace RV
open PySem L2 TL
/-- what heights are asked for -/
def rstF (ps : List P3) (ms : List M3) (y : Str) (qs : List (Str × Int)) : List Int := (List.range ps.length).map fun k => ent (amoF ps ms qs) k - (if pN ps k = y then 1 else 0)
end RV
/-! k29: promises of the law. -/
namespace RV
open PySem L2 TL
/-- what a name's meter shows where a row flows -/
def shwG (gs : List G3) (r : List Int) (x : Str) : Int := ent r (gs.getD ((gs.map (·.1)).idxOf x) ("", 0, false)).2.1
section
variable (K : PySem.W.Frag) (CN CP CM CS : Addr)
def sp_sumr : Sp := fun vs H Q _ => ∃ (l a lr : Addr) (i : Nat) (M : Mod) (more : Nat) (qs : List (Str × Int)) (ru : List (Addr × List Int)), vs = [.ref l, .ref a, .ref lr, .int (i : Nat)] ∧ MdAt H l M ∧ MdOk M 5 more ∧ more ≤ 12 ∧ SumR CS H a qs ∧ Nrm qs ∧ qs.length ≤ 100 ∧ (∀ q ∈ qs, q.1 ∈ M.gs.map (·.1) ∧ q.2.natAbs ≤ 1000) ∧ H lr = some (.lst (rf ru)) ∧ (∀ u ∈ ru, H u.1 = some (.lst (u.2.map V.int)) ∧ u.2.length = M.qs.length ∧ (∀ c ∈ u.2, trit c) ∧ tsum (shwG M.gs u.2) qs = ent u.2 i) ∧ i < M.qs.length ∧
  ∀ H', Same H H' → Q (.bl true) H'
end
end RV
/-! The law's rings of a model: pipes that close a ring, and the rows that are 1 at one of them. -/
namespace RV
open PySem L2 TL
theorem cr_anyM {X : Cx} {K : PySem.W.Frag} (hc : X.calm = true) (h : X.K = K := by rfl) : CallR X (.builtin "any") (rAny K) := h ▸ cr_any hc
theorem rgV_nat (n : Nat) : rgV 0 (n : Int) = (List.range n).map vI := by
  unfold rgV
  rw [show ((n : Int) - 0).toNat = n by omega]
  exact List.map_congr_left fun i _ => by show V.int (0 + (i : Int)) = V.int (i : Int); rw [Int.zero_add]
def aQ (M : Mod) (k : Nat) : Nat := (M.qs.getD k ("", 0, 0)).2.1
def bQ (M : Mod) (k : Nat) : Nat := (M.qs.getD k ("", 0, 0)).2.2
/-- marks of the places and pipes that close a ring, after so many pipes -/
def mkC (M : Mod) : Nat → List Nat × List Nat
  | 0 => (List.range M.pl.length, [])
  | k + 1 => ((mkC M k).1.map fun m => if m = (mkC M k).1.getD (bQ M k) 0 then (mkC M k).1.getD (aQ M k) 0 else m,
      if (mkC M k).1.getD (aQ M k) 0 = (mkC M k).1.getD (bQ M k) 0 then (mkC M k).2 ++ [k] else (mkC M k).2)
/-- the pipes that close a ring -/
def chL (M : Mod) : List Nat := (mkC M M.qs.length).2
/-- 1 at one of them, 0 at the others -/
def oneB (L : List Nat) (c : Nat) (r : List Int) : Bool := decide (ent r c = 1) && L.all fun k => decide (k = c) || decide (ent r k = 0)
theorem mkC_len (M : Mod) : ∀ k, (mkC M k).1.length = M.pl.length
  | 0 => List.length_range
  | k + 1 => by rw [mkC, List.length_map, mkC_len M k]
theorem mkC_ch (M : Mod) : ∀ k, (∀ c ∈ (mkC M k).2, c < k) ∧ (mkC M k).2.length ≤ k
  | 0 => ⟨fun _ h => (nomatch h), Nat.le_refl _⟩
  | k + 1 => by
    obtain ⟨a, b⟩ := mkC_ch M k
    rw [mkC]
    split
    · refine ⟨fun c hc => ?_, by rw [List.length_append]; exact Nat.succ_le_succ b⟩
      rcases List.mem_append.mp hc with hc | hc
      · exact Nat.lt_succ_of_lt (a c hc)
      · rw [List.mem_singleton.mp hc]; exact Nat.lt_succ_self k
    · exact ⟨fun c hc => Nat.lt_succ_of_lt (a c hc), Nat.le_succ_of_le b⟩
def sp_ringsM : Sp := fun vs H Q _ => ∃ (l : Addr) (M : Mod) (more : Nat), vs = [.ref l] ∧ MdAt H l M ∧ MdOk M 5 more ∧
  ∀ (a : Addr) (us : List (Addr × List Int)) H', Same H H' → H' a = some (.lst (rf us)) → (∀ u ∈ us, H' u.1 = some (.lst (u.2.map V.int))) → us.length ≤ 1215 → (∀ u ∈ us, H u.1 = none) →
    (∀ r, r ∈ sn us ↔ (r.length = M.qs.length ∧ (∀ c ∈ r, trit c) ∧ keptB M r = true) ∧ ∃ c ∈ chL M, oneB (chL M) c r = true) → Q (.ref a) H'
end RV
/-! A vote over the law's rows. -/
namespace RV
open PySem L2 TL
theorem sm_sumN (g : Nat → Int) : ∀ n, sm n g = sumN g n
  | 0 => rfl
  | n + 1 => by rw [sm, sumN, sm_sumN g n]
theorem kept_cut {M : Mod} {most more : Nat} (ok : MdOk M most more) {r : List Int} (h : keptB M r = true) : CutF (pS M.ps) (pE M.ps) (ent r) M.ps.length := by
  refine BndF.cutF fun v => ?_
  have := (keptB_iff ok r).mp h v
  rw [dv, sm_sumN] at this
  rw [cutFl, ← this, Mod.ps, List.length_map]
  refine sumN_congr fun k _ => ?_
  show ent r k * _ = rwf r k * _
  unfold b2i dl
  simp only [decide_eq_true_iff]
  rfl
end RV
/-! The law's rings span: what agrees with all of them is a potential. -/
namespace RV
open PySem L2 TL
/-- the pipes before k that close no ring -/
def SC (M : Mod) (k : Nat) : Nat → Prop := fun j => j < k ∧ j ∉ (mkC M k).2
def mk1 (M : Mod) (k x : Nat) : Nat := (mkC M k).1.getD x 0
structure MkI (M : Mod) (v : Nat → Int) (k : Nat) : Prop where
  cn : ∀ x y, x < M.pl.length → y < M.pl.length → mk1 M k x = mk1 M k y → Cn (aQ M) (bQ M) (SC M k) x y
  pp : ∃ p : Nat → Int, ∀ j < k, v j = p (bQ M j) - p (aQ M j)
  eq : ∀ j < k, mk1 M k (aQ M j) = mk1 M k (bQ M j)
section
variable {M : Mod} {most more : Nat} {v : Nat → Int} {k : Nat}
end
theorem shw_at {M : Mod} {most more : Nat} (ok : MdOk M most more) (m12 : most ≤ 12) (r : List Int) : ∀ m ∈ M.ms, ∀ k < M.ps.length, pN M.ps k = m.2.1 → shwG M.gs r m.1 = ent r k := by
  intro m hm k hk2 e
  have po := ok.po m12
  have hl : M.ps.length = M.qs.length := by rw [Mod.ps, List.length_map]
  obtain ⟨g, hg, rfl⟩ := List.mem_map.mp hm
  obtain ⟨c, hc, rfl⟩ := List.getElem_of_mem hg
  have gq := (ok.gn _ (List.getElem_mem hc)).2
  have ix : (M.gs.map (·.1)).idxOf (M.gs[c]).1 = c := by
    have := ok.gd.idxOf_getElem c (by rw [List.length_map]; exact hc)
    rwa [List.getElem_map] at this
  show ent r (M.gs.getD ((M.gs.map (·.1)).idxOf (M.gs[c]).1) ("", 0, false)).2.1 = ent r k
  rw [ix, getD_lt hc]
  have e2 : pN M.ps k = pN M.ps (M.gs[c]).2.1 := by
    rw [e, (pN_at (List.getElem?_eq_getElem (show (M.gs[c]).2.1 < M.ps.length by omega))).1]
    show (M.qs.getD (M.gs[c]).2.1 ("", 0, 0)).1 = _
    rw [getD_lt gq]
    simp only [Mod.ps, List.getElem_map]
  rw [pN_inj po.nd hk2 (by omega) e2]
end RV
/-! k30: promises of the law. -/
namespace RV
open PySem L2 TL
def sp_dueL : Sp := fun vs H Q _ => ∃ (l lr lt : Addr) (i : Nat) (M : Mod) (more : Nat) (us : List TP) (ru : List (Addr × List Int)), vs = [.ref l, .ref lr, .ref lt, .int (i : Nat)] ∧ MdAt H l M ∧ MdOk M 5 more ∧ more ≤ 12 ∧ H lt = some (.lst (rf us)) ∧ us.length ≤ 100 ∧ (∀ u ∈ us, H u.1 = some (oP u.2) ∧ u.2.1 ∈ M.gs.map (·.1) ∧ u.2.2.natAbs ≤ 1000) ∧ H lr = some (.lst (rf ru)) ∧ (∀ u ∈ ru, H u.1 = some (.lst (u.2.map V.int)) ∧ u.2.length = M.qs.length ∧ (∀ c ∈ u.2, trit c)) ∧ i < M.qs.length ∧
  ((∀ u ∈ ru, tsum (shwG M.gs u.2) (us.map (·.2)) = ent u.2 i) → ∀ H', Same H H' → Q (.bl true) H') ∧ ((¬ ∀ u ∈ ru, tsum (shwG M.gs u.2) (us.map (·.2)) = ent u.2 i) → ∀ H', Same H H' → Q (.bl false) H')
end RV
/-! Draws beside a model: what is no well stays; comprehensions that draw. -/
namespace RV
open PySem L2 PyProof.Rows TL
def noW : HO → Bool
  | .lst (.int _ :: _) => false
  | _ => true
section
variable {H H' : Hp} {a p l x : Addr} {n : Nat} {o : HO}
theorem WellAt.off (w : WellAt H a n) (e : H p = some o) (h : noW o = true) : p ≠ a := by
  rintro rfl
  obtain ⟨x, y, z, e', _⟩ := w
  rw [e'] at e
  cases e
  cases h
theorem WellAt.keep (w : WellAt H a n) (g : Grow a H H') (e : H p = some o) (h : noW o = true) : H' p = some o := g p o (w.off e h) e
theorem noW_rf {α : Type} : ∀ us : List (Addr × α), noW (.lst (rf us)) = true
  | [] => rfl
  | _ :: _ => rfl
theorem noW_strs : ∀ xs : List Str, noW (.lst (xs.map V.str)) = true
  | [] => rfl
  | _ :: _ => rfl
theorem MdAt.gro {M : Mod} (h : MdAt H l M) (w : WellAt H a n) (g : Grow a H H') : MdAt H' l M := by
  obtain ⟨lp, lq, lg, pu, gu, e1, e2, k⟩ := h
  refine ⟨lp, lq, lg, pu, gu, e1, e2, fun p hp => w.keep g (k p hp) ?_⟩
  rcases List.mem_cons.mp hp with rfl | hp
  · rfl
  rcases List.mem_cons.mp hp with rfl | hp
  · exact noW_strs _
  rcases List.mem_cons.mp hp with rfl | hp
  · exact noW_rf _
  rcases List.mem_cons.mp hp with rfl | hp
  · exact noW_rf _
  rcases List.mem_append.mp hp with hp | hp
  · obtain ⟨u, _, rfl⟩ := List.mem_map.mp hp
    rfl
  · obtain ⟨u, _, rfl⟩ := List.mem_map.mp hp
    rfl
theorem NetR.gro {K : PySem.W.Frag} {CN CP CM : Addr} {ps : List P3} {ms : List M3} (h : NetR K CN CP CM H x ps ms) (w : WellAt H a n) (g : Grow a H H') : NetR K CN CP CM H' x ps ms := by
  obtain ⟨_, _, _, e, _⟩ := w
  exact h.gro2 e g
end
section
variable {β : Type} {a D : Addr} {n : Nat} {xs : List V} {i : Nat} {te : TE} {vs : List Nat} {σ : L2.St} {H1 : Hp} {Qd : Hp → Prop} {J : It} {GG : Hp → Prop}
end
def sp_border : Sp := fun vs H Q _ => ∃ (a l : Addr) (n : Nat) (M : Mod) (more : Nat), vs = [.ref a, .ref l] ∧ WellAt H a n ∧ n < 900000 ∧ MdAt H l M ∧ MdOk M 5 more ∧ more ≤ 12 ∧
  ∀ (b : Addr) (us : List TP) H', Grow a H H' → WellAt H' a (n + 50) → H' b = some (.lst (rf us)) → (∀ u ∈ us, H' u.1 = some (oP u.2) ∧ u.2.1 ∈ M.gs.map (·.1) ∧ u.2.2.natAbs ≤ 3) → us.length ≤ 5 → Q (.ref b) H'
end RV
namespace RV
open PySem L2 PyProof.Rows TL
/-- a test, then one of two ways, then what follows -/
theorem seqif_of {c : TT} {t u r : TS} {D : Ends} {σ : L2.St} {H : Hp} (mid : Bool → Hp → Prop) (k : ∀ v H', mid v H' → if v = true then t { D with nx := r D } σ H' else u { D with nx := r D } σ H') (h : ∀ Q' : Bool → Hp → Prop, (∀ v H', mid v H' → Q' v H') → c σ H Q') : tSeq (tIfS c t u) r D σ H := h _ k
end RV
namespace RV
open PySem L2 PyProof.Rows TL
end RV
/-! k30: what stands while the law draws. -/
namespace RV
open PySem L2 PyProof.Rows TL
/-- the model, the net, the law's rings, the votes' terms -/
structure St30 (K : PySem.W.Frag) (CN CP CM : Addr) (a l x lr kn : Addr) (M : Mod) (ru : List (Addr × List Int)) (ku : List (Addr × List TP)) (H : Hp) : Prop where
  md : MdAt H l M
  nr : NetR K CN CP CM H x M.ps M.ms
  el : H lr = some (.lst (rf ru))
  er : ∀ u ∈ ru, u.1 ≠ a ∧ H u.1 = some (.lst (u.2.map V.int))
  ek : H kn = some (.lst (rf ku))
  eu : ∀ e ∈ ku, H e.1 = some (.lst (rf e.2)) ∧ ∀ u ∈ e.2, H u.1 = some (oP u.2)
section
variable {K : PySem.W.Frag} {CN CP CM : Addr} {a l x lr kn : Addr} {M : Mod} {ru : List (Addr × List Int)} {ku : List (Addr × List TP)} {H H' : Hp} {n : Nat}
theorem WellAt.sm (w : WellAt H a n) (s : Same H H') : WellAt H' a n := by
  obtain ⟨x, y, z, e, r⟩ := w
  exact ⟨x, y, z, s _ _ e, r⟩
end
/-- terms that a law made: a list of pairs of meters' names -/
structure Trm30 (M : Mod) (H : Hp) (tl : Addr) (us : List TP) (N : Nat) : Prop where
  e : H tl = some (.lst (rf us))
  ln : us.length ≤ N
  m : ∀ u ∈ us, H u.1 = some (oP u.2) ∧ u.2.1 ∈ M.gs.map (·.1) ∧ u.2.2.natAbs ≤ 20
/-- is_vote(pipe=.., net=.., total=..) -/
def gPNT (vs zs : List V) : List V := match vs, zs with
  | [], [y, x, t] => [x, y, t]
  | _, _ => []
def gPNT' (vs zs : List Value) : List Value := match vs, zs with
  | [], [y, x, t] => [x, y, t]
  | _, _ => []
end RV
namespace RV
open PySem L2 PyProof.Rows TL
def rLstOf (K : PySem.W.Frag) : List V → Hp → VK → Prop := fun xs H Q => ∃ p ys, xs = [.ref p] ∧ (SqL K H p ys ∨ SqT K H p ys) ∧ ∀ l, H l = none → Q (.ref l) (upd H l (.lst ys))
end RV
namespace RV
open PySem L2 PyProof.Rows TL
theorem votesF_len {ps : List P3} {ms : List M3} (nd : (ps.map (·.1)).Nodup) {i : Nat} (hi : i < ps.length) (p12 : ps.length ≤ 12) (m12 : ms.length ≤ 12) (c : Nat) : (votesF ps ms i c).length ≤ 200 := by
  unfold votesF
  split
  · show 1 ≤ 200; decide
  · split
    · show 1 ≤ 200; decide
    · rename_i d e
      have d144 := dstI_le nd hi p12 m12 (x := pS ps i) (d := d) e
      rw [List.length_append, List.length_map, List.length_map, List.length_range]
      have : (onP ms (pN ps i)).length ≤ ms.length := List.length_filter_le _ _
      omega
end RV
namespace RV
open PySem L2 PyProof.Rows TL
/-- a pipe's row in the model -/
theorem MdAt.pipe {H : Hp} {l : Addr} {M : Mod} {i : Nat} (h : MdAt H l M) (hi : i < M.qs.length) : ∃ (kp kq kg u : Addr) (pv : List QU) (qa qb : Nat), H l = some (.lst [.ref kp, .ref kq, .ref kg]) ∧ H kq = some (.lst (rf pv)) ∧ pv.length = M.qs.length ∧ atI (rf pv) (i : Int) = some (V.ref u) ∧ H u = some (oQ (pN M.ps i, qa, qb)) := by
  obtain ⟨kp, kq, kg, pv, gv, f1, f2, kl⟩ := h
  have pvl : pv.length = M.qs.length := by rw [← f1, sn_len]
  obtain ⟨u, hu⟩ : ∃ u, pv[i]? = some u := ⟨_, List.getElem?_eq_getElem (by omega)⟩
  have hsg := sn_get hu
  rw [f1] at hsg
  have eN : pN M.ps i = u.2.1 := by rw [pN_q hi, List.getD, hsg]; rfl
  refine ⟨kp, kq, kg, u.1, pv, u.2.2.1, u.2.2.2, kl (l, _) List.mem_cons_self, kl (kq, _) (List.mem_cons_of_mem _ (List.mem_cons_of_mem _ List.mem_cons_self)), pvl, atI_nat (by rw [rf, List.getElem?_map, hu]; rfl), ?_⟩
  rw [eN]
  exact kl (u.1, _) (List.mem_cons_of_mem _ (List.mem_cons_of_mem _ (List.mem_cons_of_mem _ (List.mem_cons_of_mem _ (List.mem_append_left _ (List.mem_map.mpr ⟨u, List.mem_of_getElem? hu, rfl⟩))))))
/-- the model's meters -/
theorem MdAt.gau {H : Hp} {l : Addr} {M : Mod} (h : MdAt H l M) : ∃ (kp kq kg : Addr) (gv : List GU), H l = some (.lst [.ref kp, .ref kq, .ref kg]) ∧ H kg = some (.lst (rf gv)) ∧ sn gv = M.gs ∧ gv.length = M.gs.length ∧ ∀ g ∈ gv, H g.1 = some (oG g.2) ∧ g.2.1 ∈ M.gs.map (fun g : G3 => g.1) := by
  obtain ⟨kp, kq, kg, pv, gv, f1, f2, kl⟩ := h
  refine ⟨kp, kq, kg, gv, kl (l, _) List.mem_cons_self, kl (kg, _) (List.mem_cons_of_mem _ (List.mem_cons_of_mem _ (List.mem_cons_of_mem _ List.mem_cons_self))), f2, by rw [← f2, sn_len], fun g hg => ⟨kl (g.1, _) (List.mem_cons_of_mem _ (List.mem_cons_of_mem _ (List.mem_cons_of_mem _ (List.mem_cons_of_mem _ (List.mem_append_right _ (List.mem_map.mpr ⟨g, hg, rfl⟩)))))), ?_⟩⟩
  rw [← f2]
  exact List.mem_map.mpr ⟨g.2, List.mem_map.mpr ⟨g, hg, rfl⟩, rfl⟩
end RV
/-! Values of sums for readings: promises. -/
namespace RV
open PySem L2 TL
/-- what the meter of a name shows -/
def shR (ms : List M3) (rs : List (Option Int)) (x : Str) : Option Int := rO rs ((ms.map (·.1)).idxOf x)
/-- a dict of the readings by names -/
def VR (kvs : List (Key × V)) (ms : List M3) (rs : List (Option Int)) : Prop := ∀ m ∈ ms, valV kvs (.inr m.1) = some (vO (shR ms rs m.1))
/-- the value of a sum -/
def tval (ms : List M3) (rs : List (Option Int)) (qs : List (Str × Int)) : Option Int := if (qs.any fun q => (shR ms rs q.1).isNone) = true then none else some (tsum (fun x => (shR ms rs x).getD 0) qs)
theorem shR_at {ms : List M3} {rs : List (Option Int)} (nd : (ms.map (·.1)).Nodup) {k : Nat} (hk : k < ms.length) : shR ms rs (mN ms k) = rO rs k := by
  have e : mN ms k = (ms.map (·.1))[k]'(by rw [List.length_map]; exact hk) := by rw [mN, getD_lt hk, List.getElem_map]
  rw [shR, e, nd.idxOf_getElem]
section
variable (K : PySem.W.Frag) (CN CP CM CS : Addr)
def sp_byn : Sp := fun vs H Q _ => ∃ (x t : Addr) (ps : List P3) (ms : List M3) (rs : List (Option Int)), vs = [.ref x, .ref t] ∧ NetR K CN CP CM H x ps ms ∧ ms.length ≤ 12 ∧ (ms.map (·.1)).Nodup ∧ SqT K H t (vR rs) ∧ rs.length = ms.length ∧
  ∀ (d : Addr) (kvs : List (Key × V)) H', Same H H' → H' d = some (.dK kvs) → kvs.length ≤ 12 → VR kvs ms rs → Q (.ref d) H'
def sp_vin : Sp := fun vs H Q _ => ∃ (d a : Addr) (kvs : List (Key × V)) (ms : List M3) (rs : List (Option Int)) (qs : List (Str × Int)), vs = [.ref d, .ref a] ∧ H d = some (.dK kvs) ∧ kvs.length ≤ 5000 ∧ VR kvs ms rs ∧ SumR CS H a qs ∧ qs.length ≤ 100 ∧ (∀ q ∈ qs, q.1 ∈ ms.map (·.1) ∧ q.2.natAbs ≤ 10 ^ 20 ∧ ∀ v, shR ms rs q.1 = some v → v.natAbs ≤ 10 ^ 40) ∧
  ∀ H', Same H H' → Q (vO (tval ms rs qs)) H'
def sp_vof : Sp := fun vs H Q _ => ∃ (x a t : Addr) (ps : List P3) (ms : List M3) (rs : List (Option Int)) (qs : List (Str × Int)), vs = [.ref x, .ref a, .ref t] ∧ NetR K CN CP CM H x ps ms ∧ ms.length ≤ 12 ∧ (ms.map (·.1)).Nodup ∧ SqT K H t (vR rs) ∧ RdOk ms rs ∧ SumR CS H a qs ∧ qs.length ≤ 100 ∧ (∀ q ∈ qs, q.1 ∈ ms.map (·.1) ∧ q.2.natAbs ≤ 10 ^ 20 ∧ ∀ v, shR ms rs q.1 = some v → v.natAbs ≤ 10 ^ 40) ∧
  ∀ H', Same H H' → Q (vO (tval ms rs qs)) H'
/-- the values of the votes -/
def sp_tal : Sp := fun vs H Q _ => ∃ (x t : Addr) (ps : List P3) (ms : List M3) (i : Nat) (rs : List (Option Int)), vs = [.ref x, .str (pN ps i), .ref t] ∧ NetR K CN CP CM H x ps ms ∧ POk ps ∧ MOk ps ms ∧ i < ps.length ∧ SqT K H t (vR rs) ∧ RdOk ms rs ∧ (∀ x v, shR ms rs x = some v → v.natAbs ≤ 10 ^ 40) ∧
  ∀ (T : Addr) (us : List (List (Str × Int))) (c : Nat) H', Same H H' → H' T = some (.tup (vR (us.map (tval ms rs)))) → us.length = (votesF ps ms i c).length → (∀ (k : Nat) (T qs : List (Str × Int)), (votesF ps ms i c)[k]? = some T → us[k]? = some qs → Mad T qs) → (seP ms (pN ps i) = [] → dstI ps ms i (pS ps i) = none → ∀ x e, dstI ps ms i x = some e → e ≤ c) → Q (.ref T) H'
end
end RV
/-! k31: promises of the law (numbers, flows, what is shown). -/
namespace RV
open PySem L2 TL
def sp_numW : Sp := fun vs H Q _ => ∃ (a : Addr) (n : Nat), vs = [.ref a] ∧ WellAt H a n ∧ n < 900000 ∧ ∀ (z : Int) H', z.natAbs ≤ 10 ^ 12 → Grow a H H' → WellAt H' a (n + 3) → Q (.int z) H'
def sp_flowM : Sp := fun vs H Q _ => ∃ (a l lr : Addr) (n : Nat) (M : Mod) (more : Nat) (ru : List (Addr × List Int)), vs = [.ref a, .ref l, .ref lr] ∧ WellAt H a n ∧ n < 800000 ∧ MdAt H l M ∧ MdOk M 5 more ∧ more ≤ 12 ∧ H lr = some (.lst (rf ru)) ∧ ru.length ≤ 1215 ∧
  (∀ u ∈ ru, u.1 ≠ a ∧ H u.1 = some (.lst (u.2.map V.int)) ∧ u.2.length = M.qs.length ∧ (∀ c ∈ u.2, trit c) ∧ keptB M u.2 = true) ∧
  ∀ (D : Addr) (fs : List Int) H', Grow a H H' → WellAt H' a (n + 4000) → H' D = some (.lst (fs.map V.int)) → D ≠ a → fs.length = M.qs.length → CutF (pS M.ps) (pE M.ps) (ent fs) M.ps.length → (∀ k, (ent fs k).natAbs ≤ 10 ^ 16) → Q (.ref D) H'
/-- a meter that shows another value than the flow's -/
def badB (M : Mod) (fs : List Int) (rs : List (Option Int)) (k : Nat) : Bool := match rO rs k with
  | some v => decide (v ≠ ent fs (M.gs.getD k ("", 0, false)).2.1)
  | none => false
def badN (M : Mod) (fs : List Int) (rs : List (Option Int)) : Nat := ((List.range M.gs.length).filter (badB M fs rs)).length
def sp_shownM : Sp := fun vs H Q _ => ∃ (a l lf lo : Addr) (n bad mute : Nat) (M : Mod) (more : Nat) (fs os : List Int), vs = [.ref a, .ref l, .ref lf, .ref lo, .int (bad : Nat), .int (mute : Nat)] ∧ WellAt H a n ∧ n < 800000 ∧ bad ≤ 3 ∧ mute ≤ 3 ∧ MdAt H l M ∧ MdOk M 5 more ∧ more ≤ 12 ∧ lf ≠ a ∧ H lf = some (.lst (fs.map V.int)) ∧ lo ≠ a ∧ H lo = some (.lst (os.map V.int)) ∧ fs.length = M.qs.length ∧ os.length = M.qs.length ∧ (∀ k, (ent fs k).natAbs ≤ 10 ^ 16) ∧ (∀ k, (ent os k).natAbs ≤ 10 ^ 16) ∧
  ∀ (D : Addr) (rs : List (Option Int)) H', Grow a H H' → WellAt H' a (n + 100) → H' D = some (.lst (vR rs)) → D ≠ a → rs.length = M.gs.length → (∀ (k : Nat) (g : G3), M.gs[k]? = some g → g.2.2 = true → rO rs k = some (ent fs g.2.1)) → badN M fs rs ≤ bad → (∀ k v, rO rs k = some v → v.natAbs ≤ 10 ^ 16) → Q (.ref D) H'
end RV
namespace RV
open PySem L2 TL
theorem atI_entM {r : List Int} {k : Nat} (h : k < r.length) : atI (r.map V.int) ((k : Nat) : Int) = some (.int (ent r k)) := atI_nat (by
  rw [List.getElem?_map, List.getElem?_eq_getElem h, ent, List.getD, List.getElem?_eq_getElem h]
  rfl)
/-- one row more -/
def addR (fs r : List Int) (z : Int) (n : Nat) : List Int := (List.range n).map fun k => ent fs k + z * ent r k
theorem addR_len (fs r : List Int) (z : Int) (n : Nat) : (addR fs r z n).length = n := by rw [addR, List.length_map, List.length_range]
theorem addR_ent (fs r : List Int) (z : Int) {n k : Nat} (hk : k < n) : ent (addR fs r z n) k = ent fs k + z * ent r k := by
  rw [ent, addR, List.getD, List.getElem?_map, List.getElem?_range hk]
  rfl
theorem ent_big {r : List Int} {k : Nat} (h : r.length ≤ k) : ent r k = 0 := by
  rw [ent, List.getD, List.getElem?_eq_none h]
  rfl
theorem trit_one {c : Int} (h : trit c) : c.natAbs ≤ 1 := by rcases h with h | h | h <;> rw [h] <;> decide
theorem ent_trit {r : List Int} (h : ∀ c ∈ r, trit c) (k : Nat) : (ent r k).natAbs ≤ 1 := by
  by_cases q : k < r.length
  · rw [ent, List.getD, List.getElem?_eq_getElem q]
    exact trit_one (h _ (List.getElem_mem q))
  · rw [ent_big (by omega)]
    decide
end RV
/-! k31: counts that change at one place. -/
namespace RV
open PySem L2 TL
theorem cnt_off {p q : Nat → Bool} {k : Nat} (h : ∀ i, i ≠ k → p i = q i) (z : q k = false) : ∀ n, ((List.range n).filter q).length ≤ ((List.range n).filter p).length
  | 0 => Nat.le_refl _
  | n + 1 => by
    have ih := cnt_off h z n
    rw [List.range_succ, List.filter_append, List.filter_append, List.length_append, List.length_append]
    by_cases e : n = k
    · subst e
      rw [List.filter_cons_of_neg (by rw [z]; decide)]
      simp only [List.filter_nil, List.length_nil]
      omega
    · have : ([n].filter q).length = ([n].filter p).length := by simp only [List.filter_cons, List.filter_nil, h n e]
      omega
theorem cnt_on {p q : Nat → Bool} {k : Nat} (h : ∀ i, i ≠ k → p i = q i) : ∀ n, ((List.range n).filter q).length ≤ ((List.range n).filter p).length + 1 ∧ (n ≤ k → ((List.range n).filter q).length = ((List.range n).filter p).length)
  | 0 => ⟨Nat.zero_le _, fun _ => rfl⟩
  | n + 1 => by
    obtain ⟨i1, i2⟩ := cnt_on h n
    rw [List.range_succ, List.filter_append, List.filter_append, List.length_append, List.length_append]
    have l1 : ([n].filter q).length ≤ 1 := List.length_filter_le _ _
    by_cases e : n = k
    · subst e
      have := i2 (Nat.le_refl _)
      exact ⟨by omega, fun z => by omega⟩
    · have : ([n].filter q).length = ([n].filter p).length := by simp only [List.filter_cons, List.filter_nil, h n e]
      exact ⟨by omega, fun z => by have := i2 (by omega); omega⟩
theorem rO_set {rs : List (Option Int)} {k : Nat} {o : Option Int} (hk : k < rs.length) (i : Nat) : rO (rs.set k o) i = if i = k then o else rO rs i := by
  rw [rO, List.getD, List.getElem?_set]
  by_cases e : k = i
  · subst e
    rw [if_pos rfl, if_pos rfl, if_pos hk]
    rfl
  · rw [if_neg e, if_neg fun z => e z.symm]
    rfl
theorem vR_set (rs : List (Option Int)) (k : Nat) (o : Option Int) : vR (rs.set k o) = (vR rs).set k (vO o) := by rw [vR, vR, List.map_set]
theorem badB_set {M : Mod} {fs : List Int} {rs : List (Option Int)} {k : Nat} {o : Option Int} (hk : k < rs.length) : ∀ i, i ≠ k → badB M fs rs i = badB M fs (rs.set k o) i := fun i ne => by
  rw [badB, badB, rO_set hk, if_neg ne]
theorem badN_non {M : Mod} {fs : List Int} {rs : List (Option Int)} {k : Nat} (hk : k < rs.length) : badN M fs (rs.set k none) ≤ badN M fs rs :=
  cnt_off (badB_set hk) (by rw [badB, rO_set hk, if_pos rfl]) _
theorem badN_int {M : Mod} {fs : List Int} {rs : List (Option Int)} {k : Nat} {o : Option Int} (hk : k < rs.length) : badN M fs (rs.set k o) ≤ badN M fs rs + 1 := (cnt_on (badB_set hk) _).1
end RV
namespace RV
open PySem L2 TL
theorem seqval_of {te : TE} {g : TG} {r : TS} {D : Ends} {σ : L2.St} {H : Hp} (mid : V → Hp → Prop) (k : ∀ v H', mid v H' → g v σ H' (r D)) (h : ∀ Q' : VK, (∀ v H', mid v H' → Q' v H') → te σ H Q') : tSeq (tAsg te g) r D σ H := h _ k
end RV
/-! k31: wrong meters outvoted. -/
namespace RV
open PySem L2 TL
theorem filt_rng (p : Option Int → Bool) : ∀ xs : List (Option Int), (xs.filter p).length = ((List.range xs.length).filter fun k => p (rO xs k)).length
  | [] => rfl
  | x :: xs => by
    rw [List.length_cons, List.range_succ_eq_map, List.filter_cons, List.filter_cons, List.filter_map]
    have e0 : rO (x :: xs) 0 = x := rfl
    have e1 : ((fun k => p (rO (x :: xs) k)) ∘ Nat.succ) = fun k => p (rO xs k) := rfl
    rw [e0, e1]
    split
    · rw [List.length_cons, List.length_cons, List.length_map, filt_rng p xs]
    · rw [List.length_map, filt_rng p xs]
theorem filt_two (xs : List (Option Int)) : xs.length = (xs.filter (·.isSome)).length + (xs.filter (·.isNone)).length := by
  induction xs with
  | nil => rfl
  | cons x xs ih =>
    cases x with
    | none => simp [ih]; omega
    | some v => simp [ih]; omega
/-- votes of which each has a meter of its own among so many -/
theorem pig {ms : List M3} {Ts : List (List (Str × Int))} (dj : Ts.Pairwise (DjT ms)) {W : List Str} (sel : Nat → Bool) (h : ∀ k T, Ts[k]? = some T → sel k = true → ∃ m ∈ ms, m.1 ∈ W ∧ m.1 ∈ T.map (·.1) ∧ m.2.2 = false) : ((List.range Ts.length).filter sel).length ≤ W.length := by
  have h2 : ∀ k : Nat, ∃ x : Str, k < Ts.length → sel k = true → x ∈ W ∧ ∃ m ∈ ms, m.1 = x ∧ m.2.2 = false ∧ ∃ T, Ts[k]? = some T ∧ x ∈ T.map (·.1) := fun k => by
    by_cases q : k < Ts.length ∧ sel k = true
    · obtain ⟨m, a, b, c, d⟩ := h k Ts[k] (List.getElem?_eq_getElem q.1) q.2
      exact ⟨m.1, fun _ _ => ⟨b, m, a, rfl, d, Ts[k], List.getElem?_eq_getElem q.1, c⟩⟩
    · exact ⟨"", fun a b => absurd ⟨a, b⟩ q⟩
  obtain ⟨f, hf⟩ := Classical.axiomOfChoice h2
  have key := nodup_len (xs := ((List.range Ts.length).filter sel).map f) (ys := W) ?_ fun x hx => ?_
  · rw [List.length_map] at key
    exact key
  · rw [List.Nodup, List.pairwise_map]
    refine (List.nodup_range.sublist (List.filter_sublist (p := sel))).imp_of_mem fun {a b} ha hb ne e => ?_
    obtain ⟨a1, a2⟩ := List.mem_filter.mp ha
    obtain ⟨b1, b2⟩ := List.mem_filter.mp hb
    have a1 := List.mem_range.mp a1
    have b1 := List.mem_range.mp b1
    obtain ⟨_, m, hm, m1, m2, T, hT, m3⟩ := hf a a1 a2
    obtain ⟨_, m', hm', m1', m2', T', hT', m3'⟩ := hf b b1 b2
    have sw : ∀ {i j : Nat} {S S' : List (Str × Int)}, i < j → Ts[i]? = some S → Ts[j]? = some S' → DjT ms S S' := fun {i j S S'} lt h1 h2 => by
      have := List.pairwise_iff_getElem.mp dj i j (List.getElem?_eq_some_iff.mp h1).1 (List.getElem?_eq_some_iff.mp h2).1 lt
      rwa [(List.getElem?_eq_some_iff.mp h1).2, (List.getElem?_eq_some_iff.mp h2).2] at this
    rcases Nat.lt_or_gt_of_ne ne with lt | lt
    · have := sw lt hT hT' m hm (by rw [m1]; exact m3) (by rw [m1, e]; exact m3')
      rw [m2] at this
      cases this
    · have := sw lt hT' hT m hm (by rw [m1, e]; exact m3') (by rw [m1]; exact m3)
      rw [m2] at this
      cases this
  · obtain ⟨k, hk, rfl⟩ := List.mem_map.mp hx
    obtain ⟨a, b⟩ := List.mem_filter.mp hk
    exact (hf k (List.mem_range.mp a) b).1
section
variable {M : Mod} {more : Nat} {fs : List Int} {rs : List (Option Int)} {i c : Nat}
theorem msn (M : Mod) : M.ms.map (·.1) = M.gs.map (·.1) := by rw [Mod.ms, List.map_map]; rfl
theorem msl (M : Mod) : M.ms.length = M.gs.length := by rw [Mod.ms, List.length_map]
/-- a meter by its name -/
theorem gs_at (ok : MdOk M 5 more) {x : Str} (hx : x ∈ M.ms.map (·.1)) : ∃ (k : Nat) (g : G3), M.gs[k]? = some g ∧ g.1 = x ∧ mN M.ms k = x ∧ shR M.ms rs x = rO rs k ∧ k < M.ms.length ∧ (x, (M.qs.getD g.2.1 ("", 0, 0)).1, g.2.2) ∈ M.ms := by
  have nd : (M.ms.map (·.1)).Nodup := by rw [msn]; exact ok.gd
  obtain ⟨m, hm, rfl⟩ := List.mem_map.mp hx
  obtain ⟨k, hk, rfl⟩ := List.getElem_of_mem hm
  have hk2 : k < M.gs.length := by rw [← msl]; exact hk
  have e : M.ms[k] = (M.gs[k].1, (M.qs.getD M.gs[k].2.1 ("", 0, 0)).1, M.gs[k].2.2) := by simp only [Mod.ms, List.getElem_map]
  have eN : mN M.ms k = (M.ms[k]).1 := by rw [mN, getD_lt hk]
  refine ⟨k, M.gs[k], List.getElem?_eq_getElem hk2, by rw [e], eN, ?_, hk, ?_⟩
  · rw [← eN, shR_at nd hk]
  · have := List.getElem_mem hk
    rw [e] at this ⊢
    exact this
/-- what a flow shows -/
theorem flow_value (ok : MdOk M 5 more) (o12 : more ≤ 12) (cf : CutF (pS M.ps) (pE M.ps) (ent fs) M.ps.length) (hi : i < M.qs.length) {T : List (Str × Int)} (hn : ∀ t ∈ T, t.1 ∈ M.ms.map (·.1)) (hp : potT M.ps M.ms (pN M.ps i) T) : tsum (shwG M.gs fs) T = ent fs i := by
  have po := ok.po (by decide)
  have mo := ok.mo o12
  exact pot_value po.nd mo.nd mo.on hn hp (by rw [ps_len]; exact hi) rfl cf (shw_at ok (by decide) fs)
theorem tsum_congr {v w : Str → Int} : ∀ {T : List (Str × Int)}, (∀ t ∈ T, v t.1 = w t.1) → tsum v T = tsum w T := fun {T} h => by
  rw [tsum, tsum, List.map_congr_left fun t ht => by rw [h t ht]]
theorem shw_g (ok : MdOk M 5 more) {k : Nat} {g : G3} (e : M.gs[k]? = some g) : shwG M.gs fs g.1 = ent fs g.2.1 := by
  have hk := (List.getElem?_eq_some_iff.mp e).1
  have ix : (M.gs.map (·.1)).idxOf g.1 = k := by
    have := ok.gd.idxOf_getElem k (by rw [List.length_map]; exact hk)
    rw [List.getElem_map, (List.getElem?_eq_some_iff.mp e).2] at this
    exact this
  rw [shwG, ix, List.getD, e]
  rfl
/-- all its meters right: the flow -/
theorem tval_right (ok : MdOk M 5 more) (o12 : more ≤ 12) (cf : CutF (pS M.ps) (pE M.ps) (ent fs) M.ps.length) (hi : i < M.qs.length) {qs : List (Str × Int)} (hn : ∀ t ∈ qs, t.1 ∈ M.ms.map (·.1)) (hp : potT M.ps M.ms (pN M.ps i) qs)
    (hr : ∀ t ∈ qs, shR M.ms rs t.1 = some (shwG M.gs fs t.1)) : tval M.ms rs qs = some (ent fs i) := by
  rw [tval, if_neg]
  · rw [← flow_value ok o12 cf hi hn hp]
    congr 1
    exact tsum_congr fun t ht => by rw [hr t ht]; rfl
  · intro z
    obtain ⟨q, hq, e⟩ := List.any_eq_true.mp z
    rw [hr q hq] at e
    cases e
theorem tval_none {ms : List M3} {qs : List (Str × Int)} (h : tval ms rs qs = none) : ∃ q ∈ qs, shR ms rs q.1 = none := by
  rw [tval] at h
  split at h
  · rename_i z
    obtain ⟨q, hq, e⟩ := List.any_eq_true.mp z
    refine ⟨q, hq, ?_⟩
    cases e2 : shR ms rs q.1 with
    | none => rfl
    | some v => rw [e2] at e; cases e
  · cases h
end
/-- the votes of a pipe that has a strength are the same however great the distance -/
theorem votesF_eq {ps : List P3} {ms : List M3} (nd : (ps.map (·.1)).Nodup) {i : Nat} (hi : i < ps.length) (h : strP ps ms (pN ps i) ≠ none) (c c' : Nat) : votesF ps ms i c = votesF ps ms i c' := by
  have hf : ps.find? (fun p => decide (p.1 = pN ps i)) = some ps[i] := by
    obtain ⟨a, _, _⟩ := pN_at (List.getElem?_eq_getElem hi)
    rw [List.find?_eq_some_iff_getElem]
    refine ⟨decide_eq_true a.symm, i, hi, rfl, fun j hj => ?_⟩
    have hj2 : j < ps.length := Nat.lt_trans hj hi
    obtain ⟨a2, _, _⟩ := pN_at (List.getElem?_eq_getElem hj2)
    rw [Bool.not_eq_true', decide_eq_false_iff_not]
    exact fun z => absurd (pN_inj nd hj2 hi (by rw [a2]; exact z)) (Nat.ne_of_lt hj)
  obtain ⟨ia, ib, ic⟩ := pN_at (List.getElem?_eq_getElem hi)
  have es : strP ps ms (pN ps i) = if seP ms (pN ps i) = [] then (turns ((lkA ps ms (pN ps i)).map lk3) ps.length (g0 (pE ps i)) (pS ps i)).map (· + wtP ms (pN ps i)) else none := by
    rw [strP, hf, ib, ic]
  rw [es] at h
  unfold votesF
  cases hse : seP ms (pN ps i) with
  | cons m r => rfl
  | nil =>
    rw [if_pos hse] at h
    dsimp only
    cases hd : turns ((lkA ps ms (pN ps i)).map lk3) ps.length (g0 (pE ps i)) (pS ps i) with
    | none => rw [hd] at h; exact absurd rfl h
    | some d => rfl
end RV
/-! k31: what a tally is. -/
namespace RV
open PySem L2 TL
/-- the terms of the votes -/
structure VotU (M : Mod) (i c : Nat) (us : List (List (Str × Int))) : Prop where
  len : us.length = (votesF M.ps M.ms i c).length
  mad : ∀ (k : Nat) (T qs : List (Str × Int)), (votesF M.ps M.ms i c)[k]? = some T → us[k]? = some qs → Mad T qs
  hc : seP M.ms (pN M.ps i) = [] → dstI M.ps M.ms i (pS M.ps i) = none → ∀ x e, dstI M.ps M.ms i x = some e → e ≤ c
/-- a world's readings -/
structure Wrld (M : Mod) (fs : List Int) (rs : List (Option Int)) : Prop where
  len : rs.length = M.gs.length
  sea : ∀ (k : Nat) (g : G3), M.gs[k]? = some g → g.2.2 = true → rO rs k = some (ent fs g.2.1)
  cf : CutF (pS M.ps) (pE M.ps) (ent fs) M.ps.length
def valsU (M : Mod) (rs : List (Option Int)) (us : List (List (Str × Int))) : List (Option Int) := us.map (tval M.ms rs)
def wrongB (f : Int) (o : Option Int) : Bool := match o with
  | some v => decide (v ≠ f)
  | none => false
section
variable {M : Mod} {more : Nat} {fs : List Int} {rs : List (Option Int)} {i c : Nat} {us : List (List (Str × Int))}
theorem VotU.at (V : VotU M i c us) (ok : MdOk M 5 more) (o12 : more ≤ 12) (hi : i < M.qs.length) {k : Nat} {T : List (Str × Int)} (hT : (votesF M.ps M.ms i c)[k]? = some T) : ∃ u, us[k]? = some u ∧ rO (valsU M rs us) k = tval M.ms rs u ∧ Mad T u ∧ potT M.ps M.ms (pN M.ps i) u ∧ (∀ q ∈ u, q.1 ∈ M.ms.map (·.1)) ∧ u.length ≤ 13 ∧ ∀ q ∈ u, q.2.natAbs ≤ 13 := by
  have po := ok.po (by decide)
  have mo := ok.mo o12
  obtain ⟨vA, _, _⟩ := votes_at (ps := M.ps) (ms := M.ms) (i := i) po.nd mo.nd (by rw [ps_len]; exact hi) V.hc
  obtain ⟨tp, tn, tl⟩ := vA T (List.mem_of_getElem? hT)
  have hk := (List.getElem?_eq_some_iff.mp hT).1
  obtain ⟨u, hu⟩ : ∃ u, us[k]? = some u := ⟨_, List.getElem?_eq_getElem (by rw [V.len]; exact hk)⟩
  have md := V.mad k T u hT hu
  have pl := po.ln
  have ln := md.ln
  refine ⟨u, hu, by rw [rO, valsU, List.getD, List.getElem?_map, hu]; rfl, md, tp.congr md.co, fun q hq => ?_, by omega, fun q hq => ?_⟩
  · obtain ⟨t2, ht2, e2⟩ := List.mem_map.mp (md.nm q hq)
    rw [← e2]
    exact (tn t2 ht2).1
  · have e1 := md.nr.co hq
    rw [md.co] at e1
    have e2 := co_le T q.1
    have e3 : tot T ≤ T.length * 1 := tot_mul fun q hq => by rcases (tn q hq).2 with e | e <;> rw [e] <;> decide
    rw [← e1]
    omega
theorem VotU.silent (V : VotU M i c us) (W : Wrld M fs rs) (ok : MdOk M 5 more) (o12 : more ≤ 12) (hi : i < M.qs.length) : ((valsU M rs us).filter (·.isNone)).length ≤ (rs.filter (·.isNone)).length := by
  have po := ok.po (by decide)
  have mo := ok.mo o12
  obtain ⟨_, vB, _⟩ := votes_at (ps := M.ps) (ms := M.ms) (i := i) po.nd mo.nd (by rw [ps_len]; exact hi) V.hc
  have key := pig vB (W := slN M.ms rs) (fun k => (rO (valsU M rs us) k).isNone) fun k T hT hs => by
    obtain ⟨u, hu, ev, md, _, hn, _⟩ := V.at (rs := rs) ok o12 hi hT
    rw [ev] at hs
    obtain ⟨q, hq, e⟩ := tval_none (rs := rs) (ms := M.ms) (qs := u) (by
      cases z : tval M.ms rs u with
      | none => rfl
      | some v => rw [z] at hs; cases hs)
    obtain ⟨j, g, hg, g1, mj, sh, jl, mem⟩ := gs_at (rs := rs) ok (hn q hq)
    refine ⟨_, mem, ?_, md.nm q hq, ?_⟩
    · rw [slN]
      refine List.mem_map.mpr ⟨j, List.mem_filter.mpr ⟨List.mem_range.mpr jl, ?_⟩, mj⟩
      rw [← sh, e]
      rfl
    · cases z : g.2.2 with
      | false => rfl
      | true =>
        have := W.sea j g hg z
        rw [← sh, e] at this
        cases this
  rw [filt_rng, filt_rng, W.len, ← msl, show (valsU M rs us).length = (votesF M.ps M.ms i c).length by rw [valsU, List.length_map, V.len]]
  rw [slN, List.length_map] at key
  exact key
theorem VotU.wrong (V : VotU M i c us) (W : Wrld M fs rs) (ok : MdOk M 5 more) (o12 : more ≤ 12) (hi : i < M.qs.length) : ((valsU M rs us).filter (wrongB (ent fs i))).length ≤ badN M fs rs := by
  have po := ok.po (by decide)
  have mo := ok.mo o12
  obtain ⟨_, vB, _⟩ := votes_at (ps := M.ps) (ms := M.ms) (i := i) po.nd mo.nd (by rw [ps_len]; exact hi) V.hc
  have key := pig vB (W := ((List.range M.gs.length).filter (badB M fs rs)).map (mN M.ms)) (fun k => wrongB (ent fs i) (rO (valsU M rs us) k)) fun k T hT hs => by
    obtain ⟨u, hu, ev, md, tp, hn, _⟩ := V.at (rs := rs) ok o12 hi hT
    rw [ev] at hs
    obtain ⟨t, ht, ne⟩ : ∃ t ∈ u, shR M.ms rs t.1 ≠ some (shwG M.gs fs t.1) := Classical.byContradiction fun z => by
      rw [tval_right ok o12 W.cf hi hn tp fun t ht => Classical.byContradiction fun q => z ⟨t, ht, q⟩, wrongB, decide_eq_false (fun h => h rfl)] at hs
      cases hs
    obtain ⟨j, g, hg, g1, mj, sh, jl, mem⟩ := gs_at (rs := rs) ok (hn t ht)
    have eg := shw_g (fs := fs) ok hg
    rw [g1] at eg
    rw [eg, sh] at ne
    refine ⟨_, mem, ?_, md.nm t ht, ?_⟩
    · refine List.mem_map.mpr ⟨j, List.mem_filter.mpr ⟨List.mem_range.mpr (by rw [← msl]; exact jl), ?_⟩, mj⟩
      rw [badB, List.getD, hg]
      cases z : rO rs j with
      | none =>
        exfalso
        rw [tval, if_pos (List.any_eq_true.mpr ⟨t, ht, by rw [sh, z]; rfl⟩)] at hs
        cases hs
      | some v =>
        rw [z] at ne
        exact decide_eq_true fun e => ne (by rw [e]; rfl)
    · cases z : g.2.2 with
      | false => rfl
      | true => exact absurd (W.sea j g hg z) ne
  rw [filt_rng, show (valsU M rs us).length = (votesF M.ps M.ms i c).length by rw [valsU, List.length_map, V.len]]
  rw [List.length_map] at key
  exact key
theorem VotU.count (V : VotU M i c us) (W : Wrld M fs rs) (ok : MdOk M 5 more) (o12 : more ≤ 12) (hi : i < M.qs.length) : match strP M.ps M.ms (pN M.ps i) with
    | none => valsU M rs us = [some (ent fs i)]
    | some d => (valsU M rs us).length = d := by
  have po := ok.po (by decide)
  have mo := ok.mo o12
  obtain ⟨_, _, vC⟩ := votes_at (ps := M.ps) (ms := M.ms) (i := i) po.nd mo.nd (by rw [ps_len]; exact hi) V.hc
  have vl : (valsU M rs us).length = (votesF M.ps M.ms i c).length := by rw [valsU, List.length_map, V.len]
  cases hs : strP M.ps M.ms (pN M.ps i) with
  | some d => rw [hs] at vC; exact vl.trans vC
  | none =>
    rw [hs] at vC
    obtain ⟨T, hT⟩ : ∃ T, (votesF M.ps M.ms i c)[0]? = some T := ⟨_, List.getElem?_eq_getElem (by rw [vC.1]; exact Nat.zero_lt_one)⟩
    obtain ⟨u, hu, ev, md, tp, hn, _⟩ := V.at (rs := rs) ok o12 hi hT
    have e1 : tval M.ms rs u = some (ent fs i) := tval_right ok o12 W.cf hi hn tp fun t ht => by
      obtain ⟨j, g, hg, g1, mj, sh, jl, mem⟩ := gs_at (rs := rs) ok (hn t ht)
      have := vC.2 T (List.mem_of_getElem? hT) _ mem (md.nm t ht)
      have eg := shw_g (fs := fs) ok hg
      rw [g1] at eg
      rw [sh, eg]
      exact W.sea j g hg this
    rw [e1] at ev
    rw [vC.1] at vl
    dsimp only
    match hv : valsU M rs us, vl with
    | [x], _ =>
      rw [hv] at ev
      rw [← ev]
      rfl
theorem VotU.same {c' : Nat} {us' : List (List (Str × Int))} (V : VotU M i c us) (V' : VotU M i c' us') (W : Wrld M fs rs) (ok : MdOk M 5 more) (o12 : more ≤ 12) (hi : i < M.qs.length) : valsU M rs us = valsU M rs us' := by
  have k1 := V.count W ok o12 hi
  have k2 := V'.count W ok o12 hi
  cases hs : strP M.ps M.ms (pN M.ps i) with
  | none =>
    rw [hs] at k1 k2
    dsimp only at k1 k2
    rw [k1, k2]
  | some d =>
    have e := votesF_eq (ps := M.ps) (ms := M.ms) (ok.po (by decide)).nd (i := i) (by rw [ps_len]; exact hi) (by rw [hs]; exact fun h => nomatch h) c c'
    have : us = us' := by
      refine List.ext_getElem? fun k => ?_
      cases hT : (votesF M.ps M.ms i c)[k]? with
      | none =>
        rw [List.getElem?_eq_none_iff] at hT
        rw [List.getElem?_eq_none (by rw [V.len]; exact hT), List.getElem?_eq_none (by rw [V'.len, ← e]; exact hT)]
      | some T =>
        obtain ⟨u, hu, _, md, _⟩ := V.at (rs := rs) ok o12 hi hT
        obtain ⟨u', hu', _, md', _⟩ := V'.at (rs := rs) ok o12 hi (by rw [← e]; exact hT)
        rw [hu, hu', md.same md' fun _ => rfl]
    rw [this]
end
end RV
/-! k31: tallies shown. -/
namespace RV
open PySem L2 PyProof.Rows TL
theorem shw_oi {o : Option Int} (h : ∀ v, o = some v → v.natAbs ≤ 10 ^ 45) : Shw (dR o) 0 1921 := by
  cases o with
  | none => exact ⟨by simp [dR, PyData.showable], by simp [dR, PyData.depth], by decide⟩
  | some v =>
    have hl := log_small (h v rfl)
    refine ⟨by simp [dR, PyData.showable, hl], by simp [dR, PyData.depth], ?_⟩
    have := int_text_len_1921 hl
    simp only [dR, PyData.shown]
    exact this
theorem shw_RI {xs : List (Option Int)} (h : ∀ o ∈ xs, ∀ v, o = some v → v.natAbs ≤ 10 ^ 45) (hl : xs.length ≤ 200) : Shw (.tuple (xs.map dR)) 60 500000 := by
  refine (shw_tuple (n := 0) (k := 1921) fun d hd => ?_).mono (by decide) ?_
  · obtain ⟨o, ho, rfl⟩ := List.mem_map.mp hd
    exact shw_oi (h o ho)
  · rw [List.length_map]
    omega
theorem tsum_small {v : Str → Int} {a b : Nat} : ∀ {T : List (Str × Int)}, (∀ t ∈ T, t.2.natAbs ≤ a ∧ (v t.1).natAbs ≤ b) → (tsum v T).natAbs ≤ T.length * (a * b)
  | [], _ => Nat.zero_le _
  | t :: T, h => by
    have ih := tsum_small (T := T) fun t ht => h t (List.mem_cons_of_mem _ ht)
    obtain ⟨h1, h2⟩ := h t List.mem_cons_self
    have e : tsum v (t :: T) = t.2 * v t.1 + tsum v T := by rw [tsum, List.map_cons, List.sum_cons, tsum]
    rw [e, List.length_cons, Nat.succ_mul]
    have h3 := Int.natAbs_add_le (t.2 * v t.1) (tsum v T)
    rw [Int.natAbs_mul] at h3
    have h4 := Nat.mul_le_mul h1 h2
    omega
theorem VotU.small {M : Mod} {more i c : Nat} {rs : List (Option Int)} {us : List (List (Str × Int))} (V : VotU M i c us) (ok : MdOk M 5 more) (o12 : more ≤ 12) (hi : i < M.qs.length) (hb : ∀ k v, rO rs k = some v → v.natAbs ≤ 10 ^ 16) : ∀ o ∈ valsU M rs us, ∀ v, o = some v → v.natAbs ≤ 10 ^ 45 := by
  rintro o ho v rfl
  obtain ⟨k, hk, ek⟩ := List.getElem_of_mem ho
  have hk2 : k < (votesF M.ps M.ms i c).length := by rw [valsU, List.length_map, V.len] at hk; exact hk
  obtain ⟨u, hu, ev, md, tp, hn, ul, ub⟩ := V.at (rs := rs) ok o12 hi (List.getElem?_eq_getElem hk2)
  have e2 : rO (valsU M rs us) k = some v := by rw [rO, getD_lt hk, ek]
  rw [ev, tval] at e2
  split at e2
  · cases e2
  · rw [← Option.some.inj e2]
    refine Nat.le_trans (tsum_small (a := 13) (b := 10 ^ 16) fun t ht => ⟨ub t ht, ?_⟩) ?_
    · cases z : shR M.ms rs t.1 with
      | none => exact Nat.zero_le _
      | some w => exact hb _ w z
    · exact Nat.le_trans (Nat.mul_le_mul ul (Nat.le_refl _)) (by decide)
theorem shaped_oi {o : Option Int} : SeqAt.shaped (.tuple [dR o]) = true := by
  cases o <;> simp [dR, SeqAt.shaped, PyData.canLay0, PyData.canLayAll0, PyData.depth, PyData.depthAll]
end RV
namespace RV
open PySem L2
def top (i : Nat) : Stmt := PySem.Challenge.pw_ringvotes_k31_whole_votes_outvote.main.body.getD i (.Pass ⟨0, 0, 0, 0⟩)
abbrev s_is_number : Stmt := top 6
abbrev sc_is_number_N : List Str := ["value"]
theorem sc_is_number : FnScope sc_is_number_N ["value"] (defScope s_is_number) := ⟨rfl, rfl, rfl, by decide +kernel, rfl, by decide +kernel, by decide +kernel⟩
abbrev s_is_name : Stmt := top 7
abbrev sc_is_name_N : List Str := ["value", "letter"]
theorem sc_is_name : FnScope sc_is_name_N ["value"] (defScope s_is_name) := ⟨rfl, rfl, rfl, by decide +kernel, rfl, by decide +kernel, by decide +kernel⟩
abbrev s_is_digits : Stmt := top 8
abbrev sc_is_digits_N : List Str := ["text"]
abbrev s_written_number : Stmt := top 9
abbrev sc_written_number_N : List Str := ["number", "pieces", "rest"]
abbrev s_read_number : Stmt := top 10
abbrev sc_read_number_N : List Str := ["digits", "first", "number", "at"]
abbrev s_Pipe___init__ : Stmt := inClass (top 30) 0
abbrev sc_Pipe___init___N : List Str := ["self", "name", "start", "end"]
theorem sc_Pipe___init__ : FnScope sc_Pipe___init___N ["self", "name", "start", "end"] (defScope s_Pipe___init__) := ⟨rfl, rfl, rfl, by decide +kernel, rfl, by decide +kernel, by decide +kernel⟩
abbrev s_Pipe_name : Stmt := inClass (top 30) 1
abbrev sc_Pipe_name_N : List Str := ["self"]
theorem sc_Pipe_name : FnScope sc_Pipe_name_N ["self"] (defScope s_Pipe_name) := ⟨rfl, rfl, rfl, by decide +kernel, rfl, by decide +kernel, by decide +kernel⟩
abbrev s_Pipe_start : Stmt := inClass (top 30) 2
abbrev sc_Pipe_start_N : List Str := ["self"]
theorem sc_Pipe_start : FnScope sc_Pipe_start_N ["self"] (defScope s_Pipe_start) := ⟨rfl, rfl, rfl, by decide +kernel, rfl, by decide +kernel, by decide +kernel⟩
abbrev s_Pipe_end : Stmt := inClass (top 30) 3
abbrev sc_Pipe_end_N : List Str := ["self"]
theorem sc_Pipe_end : FnScope sc_Pipe_end_N ["self"] (defScope s_Pipe_end) := ⟨rfl, rfl, rfl, by decide +kernel, rfl, by decide +kernel, by decide +kernel⟩
abbrev s_Pipe___eq__ : Stmt := inClass (top 30) 4
abbrev sc_Pipe___eq___N : List Str := ["self", "other"]
theorem sc_Pipe___eq__ : FnScope sc_Pipe___eq___N ["self", "other"] (defScope s_Pipe___eq__) := ⟨rfl, rfl, rfl, by decide +kernel, rfl, by decide +kernel, by decide +kernel⟩
abbrev s_Meter___init__ : Stmt := inClass (top 31) 0
abbrev sc_Meter___init___N : List Str := ["self", "name", "at", "sealed"]
theorem sc_Meter___init__ : FnScope sc_Meter___init___N ["self", "name", "at", "sealed"] (defScope s_Meter___init__) := ⟨rfl, rfl, rfl, by decide +kernel, rfl, by decide +kernel, by decide +kernel⟩
abbrev s_Meter_name : Stmt := inClass (top 31) 1
abbrev sc_Meter_name_N : List Str := ["self"]
theorem sc_Meter_name : FnScope sc_Meter_name_N ["self"] (defScope s_Meter_name) := ⟨rfl, rfl, rfl, by decide +kernel, rfl, by decide +kernel, by decide +kernel⟩
abbrev s_Meter_at : Stmt := inClass (top 31) 2
abbrev sc_Meter_at_N : List Str := ["self"]
theorem sc_Meter_at : FnScope sc_Meter_at_N ["self"] (defScope s_Meter_at) := ⟨rfl, rfl, rfl, by decide +kernel, rfl, by decide +kernel, by decide +kernel⟩
abbrev s_Meter_sealed : Stmt := inClass (top 31) 3
abbrev sc_Meter_sealed_N : List Str := ["self"]
theorem sc_Meter_sealed : FnScope sc_Meter_sealed_N ["self"] (defScope s_Meter_sealed) := ⟨rfl, rfl, rfl, by decide +kernel, rfl, by decide +kernel, by decide +kernel⟩
abbrev s_Meter___eq__ : Stmt := inClass (top 31) 4
abbrev sc_Meter___eq___N : List Str := ["self", "other"]
theorem sc_Meter___eq__ : FnScope sc_Meter___eq___N ["self", "other"] (defScope s_Meter___eq__) := ⟨rfl, rfl, rfl, by decide +kernel, rfl, by decide +kernel, by decide +kernel⟩
abbrev s_Net___init__ : Stmt := inClass (top 32) 0
abbrev sc_Net___init___N : List Str := ["self", "pipes", "meters"]
theorem sc_Net___init__ : FnScope sc_Net___init___N ["self", "pipes", "meters"] (defScope s_Net___init__) := ⟨rfl, rfl, rfl, by decide +kernel, rfl, by decide +kernel, by decide +kernel⟩
abbrev s_Net_read : Stmt := inClass (top 32) 1
abbrev sc_Net_read_N : List Str := ["cls", "text", "net"]
theorem sc_Net_read : FnScope sc_Net_read_N ["cls", "text"] (defScope s_Net_read) := ⟨rfl, rfl, rfl, by decide +kernel, rfl, by decide +kernel, by decide +kernel⟩
abbrev s_Net_pipes : Stmt := inClass (top 32) 2
abbrev sc_Net_pipes_N : List Str := ["self"]
theorem sc_Net_pipes : FnScope sc_Net_pipes_N ["self"] (defScope s_Net_pipes) := ⟨rfl, rfl, rfl, by decide +kernel, rfl, by decide +kernel, by decide +kernel⟩
abbrev s_Net_meters : Stmt := inClass (top 32) 3
abbrev sc_Net_meters_N : List Str := ["self"]
theorem sc_Net_meters : FnScope sc_Net_meters_N ["self"] (defScope s_Net_meters) := ⟨rfl, rfl, rfl, by decide +kernel, rfl, by decide +kernel, by decide +kernel⟩
abbrev s_Net_places : Stmt := inClass (top 32) 4
abbrev sc_Net_places_N : List Str := ["self", "part", "place"]
abbrev s_Net_pipe : Stmt := inClass (top 32) 5
abbrev sc_Net_pipe_N : List Str := ["self", "name", "index"]
theorem sc_Net_pipe : FnScope sc_Net_pipe_N ["self", "name"] (defScope s_Net_pipe) := ⟨rfl, rfl, rfl, by decide +kernel, rfl, by decide +kernel, by decide +kernel⟩
abbrev s_Net_meter : Stmt := inClass (top 32) 6
abbrev sc_Net_meter_N : List Str := ["self", "name", "index"]
abbrev s_Net___add__ : Stmt := inClass (top 32) 7
abbrev sc_Net___add___N : List Str := ["self", "other", "index"]
abbrev s_Net___sub__ : Stmt := inClass (top 32) 8
abbrev sc_Net___sub___N : List Str := ["self", "other", "index"]
abbrev s_Net___contains__ : Stmt := inClass (top 32) 9
abbrev sc_Net___contains___N : List Str := ["self", "x"]
theorem sc_Net___contains__ : FnScope sc_Net___contains___N ["self", "x"] (defScope s_Net___contains__) := ⟨rfl, rfl, rfl, by decide +kernel, rfl, by decide +kernel, by decide +kernel⟩
abbrev s_Net___len__ : Stmt := inClass (top 32) 10
abbrev sc_Net___len___N : List Str := ["self"]
theorem sc_Net___len__ : FnScope sc_Net___len___N ["self"] (defScope s_Net___len__) := ⟨rfl, rfl, rfl, by decide +kernel, rfl, by decide +kernel, by decide +kernel⟩
abbrev s_Net___str__ : Stmt := inClass (top 32) 11
abbrev sc_Net___str___N : List Str := ["self"]
theorem sc_Net___str__ : FnScope sc_Net___str___N ["self"] (defScope s_Net___str__) := ⟨rfl, rfl, rfl, by decide +kernel, rfl, by decide +kernel, by decide +kernel⟩
abbrev s_Net___repr__ : Stmt := inClass (top 32) 12
abbrev sc_Net___repr___N : List Str := ["self"]
abbrev s_Net___eq__ : Stmt := inClass (top 32) 13
abbrev sc_Net___eq___N : List Str := ["self", "other"]
theorem sc_Net___eq__ : FnScope sc_Net___eq___N ["self", "other"] (defScope s_Net___eq__) := ⟨rfl, rfl, rfl, by decide +kernel, rfl, by decide +kernel, by decide +kernel⟩
abbrev s_check_names : Stmt := top 33
abbrev sc_check_names_N : List Str := ["values", "value"]
theorem sc_check_names : FnScope sc_check_names_N ["values"] (defScope s_check_names) := ⟨rfl, rfl, rfl, by decide +kernel, rfl, by decide +kernel, by decide +kernel⟩
abbrev s_check_pipes : Stmt := top 34
abbrev sc_check_pipes_N : List Str := ["pipes", "names", "index", "part"]
theorem sc_check_pipes : FnScope sc_check_pipes_N ["pipes"] (defScope s_check_pipes) := ⟨rfl, rfl, rfl, by decide +kernel, rfl, by decide +kernel, by decide +kernel⟩
abbrev s_check_meters : Stmt := top 35
abbrev sc_check_meters_N : List Str := ["meters", "pipes", "names", "index", "part"]
theorem sc_check_meters : FnScope sc_check_meters_N ["meters", "pipes"] (defScope s_check_meters) := ⟨rfl, rfl, rfl, by decide +kernel, rfl, by decide +kernel, by decide +kernel⟩
abbrev s_index_of : Stmt := top 36
abbrev sc_index_of_N : List Str := ["parts", "name", "index", "part"]
theorem sc_index_of : FnScope sc_index_of_N ["parts", "name"] (defScope s_index_of) := ⟨rfl, rfl, rfl, by decide +kernel, rfl, by decide +kernel, by decide +kernel⟩
abbrev s_lines : Stmt := top 37
abbrev sc_lines_N : List Str := ["pipes", "meters", "part"]
theorem sc_lines : FnScope sc_lines_N ["pipes", "meters"] (defScope s_lines) := ⟨rfl, rfl, rfl, by decide +kernel, rfl, by decide +kernel, by decide +kernel⟩
abbrev s_pipe_line : Stmt := top 38
abbrev sc_pipe_line_N : List Str := ["part"]
theorem sc_pipe_line : FnScope sc_pipe_line_N ["part"] (defScope s_pipe_line) := ⟨rfl, rfl, rfl, by decide +kernel, rfl, by decide +kernel, by decide +kernel⟩
abbrev s_meter_line : Stmt := top 39
abbrev sc_meter_line_N : List Str := ["part", "seal"]
theorem sc_meter_line : FnScope sc_meter_line_N ["part"] (defScope s_meter_line) := ⟨rfl, rfl, rfl, by decide +kernel, rfl, by decide +kernel, by decide +kernel⟩
abbrev s_rows_in : Stmt := top 40
abbrev sc_rows_in_N : List Str := ["text", "line"]
theorem sc_rows_in : FnScope sc_rows_in_N ["text"] (defScope s_rows_in) := ⟨rfl, rfl, rfl, by decide +kernel, rfl, by decide +kernel, by decide +kernel⟩
abbrev s_pipes_in : Stmt := top 41
abbrev sc_pipes_in_N : List Str := ["text", "rows", "row"]
theorem sc_pipes_in : FnScope sc_pipes_in_N ["text"] (defScope s_pipes_in) := ⟨rfl, rfl, rfl, by decide +kernel, rfl, by decide +kernel, by decide +kernel⟩
abbrev s_meters_in : Stmt := top 42
abbrev sc_meters_in_N : List Str := ["text", "rows", "row"]
theorem sc_meters_in : FnScope sc_meters_in_N ["text"] (defScope s_meters_in) := ⟨rfl, rfl, rfl, by decide +kernel, rfl, by decide +kernel, by decide +kernel⟩
abbrev s_Sum___init__ : Stmt := inClass (top 44) 0
abbrev sc_Sum___init___N : List Str := ["self", "terms"]
theorem sc_Sum___init__ : FnScope sc_Sum___init___N ["self", "terms"] (defScope s_Sum___init__) := ⟨rfl, rfl, rfl, by decide +kernel, rfl, by decide +kernel, by decide +kernel⟩
abbrev s_Sum_read : Stmt := inClass (top 44) 1
abbrev sc_Sum_read_N : List Str := ["cls", "text", "total"]
abbrev s_Sum_of : Stmt := inClass (top 44) 2
abbrev sc_Sum_of_N : List Str := ["cls", "names", "name"]
theorem sc_Sum_of : FnScope sc_Sum_of_N ["cls", "names"] (defScope s_Sum_of) := ⟨rfl, rfl, rfl, by decide +kernel, rfl, by decide +kernel, by decide +kernel⟩
abbrev s_Sum_terms : Stmt := inClass (top 44) 3
abbrev sc_Sum_terms_N : List Str := ["self"]
theorem sc_Sum_terms : FnScope sc_Sum_terms_N ["self"] (defScope s_Sum_terms) := ⟨rfl, rfl, rfl, by decide +kernel, rfl, by decide +kernel, by decide +kernel⟩
abbrev s_Sum___len__ : Stmt := inClass (top 44) 4
abbrev sc_Sum___len___N : List Str := ["self"]
abbrev s_Sum___bool__ : Stmt := inClass (top 44) 5
abbrev sc_Sum___bool___N : List Str := ["self"]
abbrev s_Sum___getitem__ : Stmt := inClass (top 44) 6
abbrev sc_Sum___getitem___N : List Str := ["self", "at", "name", "number"]
theorem sc_Sum___getitem__ : FnScope sc_Sum___getitem___N ["self", "at"] (defScope s_Sum___getitem__) := ⟨rfl, rfl, rfl, by decide +kernel, rfl, by decide +kernel, by decide +kernel⟩
abbrev s_Sum___iter__ : Stmt := inClass (top 44) 7
abbrev sc_Sum___iter___N : List Str := ["self"]
abbrev s_Sum___contains__ : Stmt := inClass (top 44) 8
abbrev sc_Sum___contains___N : List Str := ["self", "x"]
abbrev s_Sum___str__ : Stmt := inClass (top 44) 9
abbrev sc_Sum___str___N : List Str := ["self"]
abbrev s_Sum___eq__ : Stmt := inClass (top 44) 10
abbrev sc_Sum___eq___N : List Str := ["self", "other"]
abbrev s_Sum___add__ : Stmt := inClass (top 44) 11
abbrev sc_Sum___add___N : List Str := ["self", "other"]
abbrev s_Sum___sub__ : Stmt := inClass (top 44) 12
abbrev sc_Sum___sub___N : List Str := ["self", "other"]
abbrev s_Sum___neg__ : Stmt := inClass (top 44) 13
abbrev sc_Sum___neg___N : List Str := ["self"]
abbrev s_Sum___mul__ : Stmt := inClass (top 44) 14
abbrev sc_Sum___mul___N : List Str := ["self", "other", "name", "number"]
abbrev s_Sum___rmul__ : Stmt := inClass (top 44) 15
abbrev sc_Sum___rmul___N : List Str := ["self", "other"]
abbrev s_check_terms : Stmt := top 45
abbrev sc_check_terms_N : List Str := ["terms", "index", "term"]
theorem sc_check_terms : FnScope sc_check_terms_N ["terms"] (defScope s_check_terms) := ⟨rfl, rfl, rfl, by decide +kernel, rfl, by decide +kernel, by decide +kernel⟩
abbrev s_is_term : Stmt := top 46
abbrev sc_is_term_N : List Str := ["value"]
theorem sc_is_term : FnScope sc_is_term_N ["value"] (defScope s_is_term) := ⟨rfl, rfl, rfl, by decide +kernel, rfl, by decide +kernel, by decide +kernel⟩
abbrev s_collected : Stmt := top 47
abbrev sc_collected_N : List Str := ["terms", "coefficients", "name", "number"]
theorem sc_collected : FnScope sc_collected_N ["terms"] (defScope s_collected) := ⟨rfl, rfl, rfl, by decide +kernel, rfl, by decide +kernel, by decide +kernel⟩
abbrev s_written_terms : Stmt := top 48
abbrev sc_written_terms_N : List Str := ["terms", "name", "number", "minus", "first"]
abbrev s_written_further : Stmt := top 49
abbrev sc_written_further_N : List Str := ["name", "number", "sign"]
abbrev s_without_sign : Stmt := top 50
abbrev sc_without_sign_N : List Str := ["name", "number"]
abbrev s_terms_in : Stmt := top 51
abbrev sc_terms_in_N : List Str := ["text", "words", "terms", "sign", "word", "term"]
abbrev s_with_sign_apart : Stmt := top 52
abbrev sc_with_sign_apart_N : List Str := ["text"]
abbrev s_read_term : Stmt := top 53
abbrev sc_read_term_N : List Str := ["sign", "word", "digits", "star", "name", "number"]
abbrev s_check_net : Stmt := top 55
abbrev sc_check_net_N : List Str := ["net"]
theorem sc_check_net : FnScope sc_check_net_N ["net"] (defScope s_check_net) := ⟨rfl, rfl, rfl, by decide +kernel, rfl, by decide +kernel, by decide +kernel⟩
abbrev s_check_pipe : Stmt := top 56
abbrev sc_check_pipe_N : List Str := ["net", "pipe"]
theorem sc_check_pipe : FnScope sc_check_pipe_N ["net", "pipe"] (defScope s_check_pipe) := ⟨rfl, rfl, rfl, by decide +kernel, rfl, by decide +kernel, by decide +kernel⟩
abbrev s_check_total : Stmt := top 57
abbrev sc_check_total_N : List Str := ["net", "total", "term"]
theorem sc_check_total : FnScope sc_check_total_N ["net", "total"] (defScope s_check_total) := ⟨rfl, rfl, rfl, by decide +kernel, rfl, by decide +kernel, by decide +kernel⟩
abbrev s_check_metersP : Stmt := top 58
abbrev sc_check_metersP_N : List Str := ["net", "names", "name"]
theorem sc_check_metersP : FnScope sc_check_metersP_N ["net", "names"] (defScope s_check_metersP) := ⟨rfl, rfl, rfl, by decide +kernel, rfl, by decide +kernel, by decide +kernel⟩
abbrev s_meters_at : Stmt := top 60
abbrev sc_meters_at_N : List Str := ["net", "name", "part"]
theorem sc_meters_at : FnScope sc_meters_at_N ["net", "name"] (defScope s_meters_at) := ⟨rfl, rfl, rfl, by decide +kernel, rfl, by decide +kernel, by decide +kernel⟩
abbrev s_sealed_at : Stmt := top 61
abbrev sc_sealed_at_N : List Str := ["net", "name", "part"]
theorem sc_sealed_at : FnScope sc_sealed_at_N ["net", "name"] (defScope s_sealed_at) := ⟨rfl, rfl, rfl, by decide +kernel, rfl, by decide +kernel, by decide +kernel⟩
abbrev s_shortest_ways : Stmt := top 62
abbrev sc_shortest_ways_N : List Str := ["net", "pipe", "ways", "links", "_", "start", "end", "many", "amounts"]
theorem sc_shortest_ways : FnScope sc_shortest_ways_N ["net", "pipe"] (defScope s_shortest_ways) := ⟨rfl, rfl, rfl, by decide +kernel, rfl, by decide +kernel, by decide +kernel⟩
abbrev s_links : Stmt := top 63
abbrev sc_links_N : List Str := ["net", "pipe", "links", "index", "part", "many"]
theorem sc_links : FnScope sc_links_N ["net", "pipe"] (defScope s_links) := ⟨rfl, rfl, rfl, by decide +kernel, rfl, by decide +kernel, by decide +kernel⟩
abbrev s_amounts : Stmt := top 64
abbrev sc_amounts_N : List Str := ["net", "index", "amount", "at"]
theorem sc_amounts : FnScope sc_amounts_N ["net", "index", "amount"] (defScope s_amounts) := ⟨rfl, rfl, rfl, by decide +kernel, rfl, by decide +kernel, by decide +kernel⟩
abbrev s_lead_on : Stmt := top 65
abbrev sc_lead_on_N : List Str := ["ways", "start", "end", "many", "amounts", "length", "flow", "here", "more"]
theorem sc_lead_on : FnScope sc_lead_on_N ["ways", "start", "end", "many", "amounts"] (defScope s_lead_on) := ⟨rfl, rfl, rfl, by decide +kernel, rfl, by decide +kernel, by decide +kernel⟩
abbrev s_value_of : Stmt := top 67
abbrev sc_value_of_N : List Str := ["net", "total", "readings"]
theorem sc_value_of : FnScope sc_value_of_N ["net", "total", "readings"] (defScope s_value_of) := ⟨rfl, rfl, rfl, by decide +kernel, rfl, by decide +kernel, by decide +kernel⟩
abbrev s_check_readings : Stmt := top 68
abbrev sc_check_readings_N : List Str := ["net", "readings", "index", "part"]
theorem sc_check_readings : FnScope sc_check_readings_N ["net", "readings"] (defScope s_check_readings) := ⟨rfl, rfl, rfl, by decide +kernel, rfl, by decide +kernel, by decide +kernel⟩
abbrev s_is_reading : Stmt := top 69
abbrev sc_is_reading_N : List Str := ["part", "value"]
theorem sc_is_reading : FnScope sc_is_reading_N ["part", "value"] (defScope s_is_reading) := ⟨rfl, rfl, rfl, by decide +kernel, rfl, by decide +kernel, by decide +kernel⟩
abbrev s_by_name : Stmt := top 70
abbrev sc_by_name_N : List Str := ["net", "readings", "part", "seen"]
theorem sc_by_name : FnScope sc_by_name_N ["net", "readings"] (defScope s_by_name) := ⟨rfl, rfl, rfl, by decide +kernel, rfl, by decide +kernel, by decide +kernel⟩
abbrev s_value_in : Stmt := top 71
abbrev sc_value_in_N : List Str := ["shown", "total", "name", "number"]
theorem sc_value_in : FnScope sc_value_in_N ["shown", "total"] (defScope s_value_in) := ⟨rfl, rfl, rfl, by decide +kernel, rfl, by decide +kernel, by decide +kernel⟩
abbrev s_strength : Stmt := top 73
abbrev sc_strength_N : List Str := ["net", "pipe", "way"]
theorem sc_strength : FnScope sc_strength_N ["net", "pipe"] (defScope s_strength) := ⟨rfl, rfl, rfl, by decide +kernel, rfl, by decide +kernel, by decide +kernel⟩
abbrev s_way_back : Stmt := top 74
abbrev sc_way_back_N : List Str := ["net", "pipe"]
theorem sc_way_back : FnScope sc_way_back_N ["net", "pipe"] (defScope s_way_back) := ⟨rfl, rfl, rfl, by decide +kernel, rfl, by decide +kernel, by decide +kernel⟩
abbrev s_votes : Stmt := top 76
abbrev sc_votes_N : List Str := ["net", "pipe", "sealed", "ways", "distances", "layers", "place", "distance", "part"]
theorem sc_votes : FnScope sc_votes_N ["net", "pipe"] (defScope s_votes) := ⟨rfl, rfl, rfl, by decide +kernel, rfl, by decide +kernel, by decide +kernel⟩
abbrev s_tally : Stmt := top 77
abbrev sc_tally_N : List Str := ["net", "pipe", "readings", "shown", "total"]
theorem sc_tally : FnScope sc_tally_N ["net", "pipe", "readings"] (defScope s_tally) := ⟨rfl, rfl, rfl, by decide +kernel, rfl, by decide +kernel, by decide +kernel⟩
abbrev s_layer : Stmt := top 78
abbrev sc_layer_N : List Str := ["net", "pipe", "distances", "distance", "terms", "part", "starts_in", "ends_in"]
theorem sc_layer : FnScope sc_layer_N ["net", "pipe", "distances", "distance"] (defScope s_layer) := ⟨rfl, rfl, rfl, by decide +kernel, rfl, by decide +kernel, by decide +kernel⟩
abbrev s_is_within : Stmt := top 79
abbrev sc_is_within_N : List Str := ["distances", "place", "distance"]
theorem sc_is_within : FnScope sc_is_within_N ["distances", "place", "distance"] (defScope s_is_within) := ⟨rfl, rfl, rfl, by decide +kernel, rfl, by decide +kernel, by decide +kernel⟩
abbrev s_meter_in_layer : Stmt := top 80
abbrev sc_meter_in_layer_N : List Str := ["net", "part", "distances", "distance", "sealed", "nearer"]
theorem sc_meter_in_layer : FnScope sc_meter_in_layer_N ["net", "part", "distances", "distance"] (defScope s_meter_in_layer) := ⟨rfl, rfl, rfl, by decide +kernel, rfl, by decide +kernel, by decide +kernel⟩
abbrev s_well : Stmt := top 82
abbrev sc_well_N : List Str := ["_law_script", "_law_k", "_law_cell", "_law_mixed", "_law_other"]
theorem sc_well : FnScope sc_well_N ["_law_script", "_law_k"] (defScope s_well) := ⟨rfl, rfl, rfl, by decide +kernel, rfl, by decide +kernel, by decide +kernel⟩
abbrev s_dip : Stmt := top 83
abbrev sc_dip_N : List Str := ["_law_well_here", "_law_many", "_law_digit"]
theorem sc_dip : FnScope sc_dip_N ["_law_well_here", "_law_many"] (defScope s_dip) := ⟨rfl, rfl, rfl, by decide +kernel, rfl, by decide +kernel, by decide +kernel⟩
abbrev s_names : Stmt := top 84
abbrev sc_names_N : List Str := ["_law_well_here", "_law_many", "_law_words", "_law_signs", "_law_found", "_law_k", "_law_size", "_law_word", "_law_spare", "_law_j", "_law_one"]
theorem sc_names : FnScope sc_names_N ["_law_well_here", "_law_many"] (defScope s_names) := ⟨rfl, rfl, rfl, by decide +kernel, rfl, by decide +kernel, by decide +kernel⟩
abbrev s_model : Stmt := top 85
abbrev sc_model_N : List Str := ["_law_well_here", "_law_most", "_law_more", "_law_count", "_law_size", "_law_places", "_law_titles", "_law_pipes", "_law_gauges", "_law_k", "_law_start", "_law_even", "_law_names_here", "_law_at"]
theorem sc_model : FnScope sc_model_N ["_law_well_here", "_law_most", "_law_more"] (defScope s_model) := ⟨rfl, rfl, rfl, by decide +kernel, rfl, by decide +kernel, by decide +kernel⟩
abbrev s_text : Stmt := top 86
abbrev sc_text_N : List Str := ["_law_model_here", "_law_lines", "_law_one", "_law_begin", "_law_finish", "_law_gauge", "_law_seal"]
theorem sc_text : FnScope sc_text_N ["_law_model_here"] (defScope s_text) := ⟨rfl, rfl, rfl, by decide +kernel, rfl, by decide +kernel, by decide +kernel⟩
abbrev s_kept : Stmt := top 87
abbrev sc_kept_N : List Str := ["_law_model_here", "_law_row", "_law_totals", "_law_k", "_law_begin", "_law_finish", "_law_place", "_law_one"]
theorem sc_kept : FnScope sc_kept_N ["_law_model_here", "_law_row"] (defScope s_kept) := ⟨rfl, rfl, rfl, by decide +kernel, rfl, by decide +kernel, by decide +kernel⟩
abbrev s_flows : Stmt := top 88
abbrev sc_flows_N : List Str := ["_law_model_here", "_law_found", "_law_one", "_law_longer", "_law_row"]
theorem sc_flows : FnScope sc_flows_N ["_law_model_here"] (defScope s_flows) := ⟨rfl, rfl, rfl, by decide +kernel, rfl, by decide +kernel, by decide +kernel⟩
abbrev s_rings : Stmt := top 89
abbrev sc_rings_N : List Str := ["_law_model_here", "_law_marks", "_law_chords", "_law_found", "_law_k", "_law_one", "_law_two", "_law_flows_here", "_law_at", "_law_rest", "_law_mark", "_law_row"]
theorem sc_rings : FnScope sc_rings_N ["_law_model_here"] (defScope s_rings) := ⟨rfl, rfl, rfl, by decide +kernel, rfl, by decide +kernel, by decide +kernel⟩
abbrev s_number : Stmt := top 90
abbrev sc_number_N : List Str := ["_law_well_here", "_law_sign"]
theorem sc_number : FnScope sc_number_N ["_law_well_here"] (defScope s_number) := ⟨rfl, rfl, rfl, by decide +kernel, rfl, by decide +kernel, by decide +kernel⟩
abbrev s_flow : Stmt := top 91
abbrev sc_flow_N : List Str := ["_law_well_here", "_law_model_here", "_law_rings_here", "_law_found", "_law_ring", "_law_number_here", "_law_one", "_law_k"]
theorem sc_flow : FnScope sc_flow_N ["_law_well_here", "_law_model_here", "_law_rings_here"] (defScope s_flow) := ⟨rfl, rfl, rfl, by decide +kernel, rfl, by decide +kernel, by decide +kernel⟩
abbrev s_shown : Stmt := top 92
abbrev sc_shown_N : List Str := ["_law_well_here", "_law_model_here", "_law_flow_here", "_law_other", "_law_bad", "_law_mute", "_law_free", "_law_found", "_law_turn", "_law_k", "_law_odd", "_law_gauge", "_law_rest"]
theorem sc_shown : FnScope sc_shown_N ["_law_well_here", "_law_model_here", "_law_flow_here", "_law_other", "_law_bad", "_law_mute"] (defScope s_shown) := ⟨rfl, rfl, rfl, by decide +kernel, rfl, by decide +kernel, by decide +kernel⟩
abbrev s_right : Stmt := top 93
abbrev sc_right_N : List Str := ["_law_well_here", "_law_model_here", "_law_net", "_law_rings_here", "_law_flow_here", "_law_other", "_law_bad", "_law_mute", "_law_shown_here", "_law_lost", "_law_at", "_law_name", "_law_told", "_law_count", "_law_spoken", "_law_one", "_law_total"]
theorem sc_right : FnScope sc_right_N ["_law_well_here"] (defScope s_right) := ⟨rfl, rfl, rfl, by decide +kernel, rfl, by decide +kernel, by decide +kernel⟩
abbrev s_law : Stmt := top 94
abbrev sc_law_N : List Str := ["_law_script", "_law_k"]
theorem sc_law : FnScope sc_law_N ["_law_script"] (defScope s_law) := ⟨rfl, rfl, rfl, by decide +kernel, rfl, by decide +kernel, by decide +kernel⟩
end RV
namespace RV
open PySem L2
section
variable {P : Program} {w : World} {K : PySem.W.Frag} {mg : Str → Option Value} {base : Heap}
theorem ok_is_name {f : Addr} {fd : FuncData} (F : Fun K "is_name" "is_name" s_is_name f fd) (T : Blt mg) (C : Cst mg) : FnOk P w K mg base CX0 1 f fd ["value"] (sp_is_name K) := by
  refine F.ok sc_is_name (fun vs H Q E h => ?_) (fun cdv A outer s H vs Q E hr h => ?_)
  · obtain ⟨_, rfl, _⟩ := h
    rfl
  · obtain ⟨v, rfl, k⟩ := h
    refine ⟨_, (pss_cons (ps_if (PW.pt (pw_or (pt_not (pt_val (pe_callB call_isi (by rfl) T.b_isinstance (by decide +kernel) (pa_cons (pv 0) (pa_cons (pe_bltn (v := .ty "str") (by rfl) T.b_str (by decide +kernel) rfl) pa_nil))))) (pw_or1 (pt_not (pt_chain op_le op_le pe_int (pe_callB call_len_str (by rfl) T.b_len (by decide +kernel) (pa_cons (pv 0) pa_nil)) (pe_gI C.c__LONGEST_NAME)))))) (pss_one (ps_ret pe_bl)) pss_nil)
      (pss_one (ps_ret (pe_and (pe_cmpR op_in_sign (pe_ix ix_str (pv 0) pe_int (fun _ _ => rfl)) (pe_gS C.c__LETTERS) (by rfl)) (pe_one (pe_callB (cr_all rfl) (by rfl) T.b_all (by decide +kernel) (pa_cons (pe_lc (own := [("letter", 1)]) (g := gName 1) (tt := tYes) rfl sc_is_name.nd (pi_str (pv 0)) (blkOk_by (N := sc_is_name_N) (sc := defScope s_is_name) (by decide +kernel)) (fun _ _ _ _ _ => pg_name (i := 1) sc_is_name.nd rfl (Or.inl rfl)) (fun _ _ _ _ _ => pts_nil) (fun _ _ _ _ _ => (pe_cmpR op_in_sign (pv 1) (pe_op op_add_str (pe_gS C.c__LETTERS) (pe_gS C.c__DIGITS)) (by rfl)))) pa_nil))))))), ?_⟩
    rcases k with ⟨x, rfl, hx, k⟩ | ⟨t, ty, kt, k⟩
    · refine ⟨_, rfl, _, _, .type "str", .type "str", true, rfl, .ty _, .base (.str x), kit_ty (by decide +kernel), true, rfl, ?_⟩
      refine iteF ⟨_, rfl, _, rfl, hx, _, _, rfl, rfl, _, rfl, ?_⟩
      have out : isNm (cd x) = false → Q (.bl false) H := fun e => e ▸ k H (Same.refl H)
      refine ite2 (fun h1 => ?_) (fun h1 => ?_)
      · refine ⟨_, _, rfl, rfl, _, rfl, ?_⟩
        have h1' := of_decide_eq_true h1
        cases e8 : decide ((x.length : Int) ≤ 8) with
        | false =>
          refine out ?_
          cases q : isNm (cd x) with
          | false => rfl
          | true =>
            have := isNm_len q
            rw [← cd_len] at this
            have h8 := of_decide_eq_false e8
            omega
        | true =>
          have h8 := of_decide_eq_true e8
          obtain ⟨c, r, ec⟩ : ∃ c r, cd x = c :: r := by
            cases e : cd x with
            | nil =>
              rw [cd_len, e] at h1'
              simp at h1'
            | cons c r => exact ⟨c, r, rfl⟩
          have hr7 : r.length ≤ 7 := by
            rw [cd_len, ec, List.length_cons] at h8
            omega
          refine ⟨_, rfl, x, _, c, rfl, rfl, hx, atI_nat (j := 0) (by show (cd x)[0]? = some c; rw [ec]; rfl), c, _, rfl, rfl, _, rfl, ?_⟩
          have el : decide (c ∈ cd "abcdefghijklmnopqrstuvwxyz") = lowC c := low_in c
          refine ite2 (fun hl => ?_) (fun hl => ?_)
          · have hl' : lowC c = true := el.symm.trans hl
            refine ⟨_, rfl, x, rfl, fun D nD => lc_str (z := x) (fun i H' => Same H H' ∧ H' D = some (.lst ((((cd x).take i).map tailC).map V.bl))) ⟨fun b o e => by rw [upd_ne (ne_of_none e nD)]; exact e, upd_same⟩ ?_ ?_⟩
            · rintro i d H6 hi ⟨s6, h6⟩
              refine ⟨rfl, _, rfl, _, _, rfl, rfl, by decide, d, _, rfl, rfl, _, h6, ?_, ?_⟩
              · rw [List.length_map, List.length_map, List.length_take, ← cd_len]
                exact Nat.lt_of_lt_of_le (show _ < 1000 by omega) (by decide)
              · refine ⟨fun b o e => by rw [upd_ne (ne_of_none e nD)]; exact s6 b o e, ?_⟩
                rw [upd_same]
                obtain ⟨hl6, e'⟩ := List.getElem?_eq_some_iff.mp hi
                rw [List.take_succ_eq_append_getElem hl6, e', List.map_append, List.map_append]
                show some (HO.lst (_ ++ [V.bl (decide (d ∈ cd (("abcdefghijklmnopqrstuvwxyz" : Str) ++ ("0123456789" : Str))))])) = _
                rw [tail_in]
                rfl
            · rintro H6 ⟨s6, h6⟩
              rw [List.take_of_length_le (Nat.le_refl _)] at h6
              refine ⟨D, _, rfl, SqL.of h6, ?_⟩
              have e : isNm (cd x) = ((cd x).map tailC).all id := by
                rw [ec]
                show (lowC c && r.all tailC && decide (r.length ≤ 7)) = (tailC c && (r.map tailC).all id)
                rw [hl', tail_of_low hl', decide_eq_true hr7, List.all_map]
                simp
              have := k H6 s6
              rwa [e] at this
          · refine out ?_
            have hl' : lowC c = false := by
              rw [← el]
              exact Bool.eq_false_iff.mpr hl
            rw [ec]
            simp [isNm, hl']
      · refine ⟨_, rfl, ?_⟩
        refine out ?_
        cases q : isNm (cd x) with
        | false => rfl
        | true =>
          have := isNm_len q
          rw [← cd_len] at this
          exact absurd (decide_eq_true (by omega)) h1
    · refine ⟨_, rfl, _, _, t, .type "str", false, rfl, .ty _, ty, kt, false, rfl, ?_⟩
      exact iteT (iteT k)
end
end RV
namespace RV
open PySem L2
section
variable {P : Program} {w : World} {K : PySem.W.Frag} {mg : Str → Option Value} {base : Heap}
theorem ok_check_names {f : Addr} {fd : FuncData} (F : Fun K "_check_names" "_check_names" s_check_names f fd) (h_is_name : Fn P w K mg base "is_name" 1 ["value"] (Irr (sp_is_name K))) : FnOk P w K mg base CX0 2 f fd ["values"] (sp_check K) := by
  refine F.ok sc_check_names (fun vs H Q E h => ?_) (fun cdv A outer s H vs Q E hr h => ?_)
  · obtain ⟨_, _, rfl, _⟩ := h
    rfl
  · obtain ⟨t, xs, rfl, ht, hx, k⟩ := h
    refine ⟨_, (pss_one (ps_for PassesOwn.never rfl (pi_tup (pv 0)) (pg_name (i := 1) sc_check_names.nd rfl (Or.inl rfl)) (pss_one (ps_if (pt_not (pt_val (pe_fn h_is_name (hr.mono (by decide)) (pa_cons (pv 1) pa_nil)))) (pss_one ps_never) pss_nil)))), ?_⟩
    have sqt : ∀ {H'}, Same H H' → SqT K H' t (xs.map V.str) := fun e => by
      rcases ht with (h | ⟨o, h⟩) | h
      · exact .inl (.inl (e _ _ h))
      · exact .inl (.inr ⟨o, e _ _ h⟩)
      · exact .inr h
    refine ⟨_, rfl, t, rfl, ⟨_, ht⟩, for_tup (K := K) (a := t) (xs := xs.map V.str) (fun i σ H' => Same H H' ∧ ∃ o, σ = [some (.ref t), o]) ⟨Same.refl H, none, rfl⟩ (fun _ _ _ _ h => sqt h.1) ?_ ?_⟩
    · rintro i v σ H' hi ⟨sm, o, rfl⟩
      obtain ⟨y, rfl, hy⟩ : ∃ y, v = V.str y ∧ y ∈ xs := by
        rw [List.getElem?_map] at hi
        cases e : xs[i]? with
        | none => rw [e] at hi; cases hi
        | some y => rw [e] at hi; exact ⟨y, (Option.some.inj hi).symm, List.mem_of_getElem? e⟩
      have hn := hx y hy
      have hl := isNm_len hn
      rw [← cd_len] at hl
      refine ⟨_, rfl, irr ⟨_, rfl, .inl ⟨y, rfl, szn (by omega), fun H2 s2 => ?_⟩⟩⟩
      rw [show isNm (cd y) = true from hn]
      exact ⟨true, rfl, sm.trans s2, _, rfl⟩
    · rintro σ H' ⟨sm, o, rfl⟩
      exact k H' sm
theorem ok_Pipe_i {C f : Addr} {fd : FuncData} (F : Fun K "__init__" "Pipe.__init__" s_Pipe___init__ f fd) (T : PClass K mg C) (h_check_names : Fn P w K mg base "_check_names" 2 ["values"] (Irr (sp_check K))) : FnOk P w K mg base CX0 3 f fd ["self", "name", "start", "end"] (sp_Pipe C) := by
  refine F.ok sc_Pipe___init__ (fun vs H Q E h => ?_) (fun cdv A outer s H vs Q E hr h => ?_)
  · obtain ⟨_, _, _, _, _, rfl, _⟩ := h
    rfl
  · obtain ⟨x, dx, n, st, e, rfl, hx, hn, hs, he, hne, k⟩ := h
    refine ⟨_, (pss_cons (ps_expr (pe_fn h_check_names (hr.mono (by decide)) (pa_cons (pe_tup (pa_cons (pv 1) (pa_cons (pv 2) (pa_cons (pv 3) pa_nil)))) pa_nil)))
      (pss_cons (ps_if (pt_cmpR op_eq (pv 3) (pv 2) (nomark _)) (pss_one ps_never) pss_nil)
      (pss_cons (ps_fld (pv 0) (pv 1) rfl)
      (pss_cons (ps_fld (pv 0) (pv 2) rfl)
      (pss_one (ps_fld (pv 0) (pv 3) rfl)))))), ?_⟩
    refine ⟨_, rfl, _, rfl, _, rfl, (by show 3 ≤ sizeLine; decide), fun p np => irr ⟨p, [n, st, e], rfl, SqT.of upd_same, ?_, fun H1 s1 => ?_⟩⟩
    · intro y hy
      simp only [List.mem_cons, List.not_mem_nil, or_false] at hy
      rcases hy with rfl | rfl | rfl
      · exact hn
      · exact hs
      · exact he
    have hx1 := s1 _ _ (show (upd H p (.tup ([n, st, e].map V.str))) x = _ by rw [upd_ne (ne_of_none hx np)]; exact hx)
    refine ⟨_, rfl, _, rfl, rfl, _, rfl, ?_⟩
    refine ite2 (fun q => absurd (of_decide_eq_true q) fun z => hne (V.str.inj z)) (fun _ => ?_)
    refine ⟨_, rfl, _, rfl, x, C, dx, _, rfl, hx1, T.x.cl, T.n1, (by show 0 < 1000; decide), ?_⟩
    refine ⟨_, rfl, _, rfl, x, C, dx, _, rfl, upd_same, T.x.cl, T.n2, (by have := putF_len "_name" (.str n) []; simp at this ⊢; omega), ?_⟩
    refine ⟨_, rfl, _, rfl, x, C, dx, _, rfl, upd_same, T.x.cl, T.n3, (by have := putF_len "_name" (.str n) []; have := putF_len "_start" (.str st) (putF "_name" (.str n) []); simp at *; omega), ?_⟩
    refine k _ (fun b o hb eb => ?_) ⟨dx, upd_same⟩
    rw [upd_ne hb, upd_ne hb, upd_ne hb]
    exact s1 _ _ (by rw [upd_ne (ne_of_none eb np)]; exact eb)
theorem ok_Meter_i {C f : Addr} {fd : FuncData} {kws : List (Str × V)} (F : FunD K "__init__" "Meter.__init__" (defArgs s_Meter___init__) (defBody s_Meter___init__) (defScope s_Meter___init__) [] kws f fd) (T : MClass K mg C) (h_check_names : Fn P w K mg base "_check_names" 2 ["values"] (Irr (sp_check K))) : FnOk P w K mg base CX0 3 f fd ["self", "name", "at", "sealed"] (sp_Meter C) := by
  refine F.ok sc_Meter___init__ (fun vs H Q E h => ?_) (fun cdv A outer s H vs Q E hr h => ?_)
  · obtain ⟨_, _, _, _, _, rfl, _⟩ := h
    rfl
  · obtain ⟨x, dx, n, a, z, rfl, hx, hn, ha, k⟩ := h
    refine ⟨_, (pss_cons (ps_expr (pe_fn h_check_names (hr.mono (by decide)) (pa_cons (pe_tup (pa_cons (pv 1) (pa_cons (pv 2) pa_nil))) pa_nil)))
      (pss_cons (ps_if (PW.pt (pw_and (pt_cmpR op_isnot_bl (pv 3) pe_bl (nomark _)) (pw_and1 (pt_cmpR op_isnot_bl (pv 3) pe_bl (nomark _))))) (pss_one ps_never) pss_nil)
      (pss_cons (ps_fld (pv 0) (pv 1) rfl)
      (pss_cons (ps_fld (pv 0) (pv 2) rfl)
      (pss_one (ps_fld (pv 0) (pv 3) rfl)))))), ?_⟩
    refine ⟨_, rfl, _, rfl, (by show 2 ≤ sizeLine; decide), fun p np => irr ⟨p, [n, a], rfl, SqT.of upd_same, ?_, fun H1 s1 => ?_⟩⟩
    · intro y hy
      simp only [List.mem_cons, List.not_mem_nil, or_false] at hy
      rcases hy with rfl | rfl
      · exact hn
      · exact ha
    have hx1 := s1 _ _ (show (upd H p (.tup ([n, a].map V.str))) x = _ by rw [upd_ne (ne_of_none hx np)]; exact hx)
    have rest : tSeq (sFld K (tVar 0) (tVar 1) "_name") (tSeq (sFld K (tVar 0) (tVar 2) "_at") (sFld K (tVar 0) (tVar 3) "_sealed")) { nx := fun _ H' => Q .non H', rt := Q } [some (.ref x), some (.str n), some (.str a), some (.bl z)] H1 := by
      refine ⟨_, rfl, _, rfl, x, C, dx, _, rfl, hx1, T.x.cl, T.n1, (by show 0 < 1000; decide), ?_⟩
      refine ⟨_, rfl, _, rfl, x, C, dx, _, rfl, upd_same, T.x.cl, T.n2, (by have := putF_len "_name" (.str n) []; simp at this ⊢; omega), ?_⟩
      refine ⟨_, rfl, _, rfl, x, C, dx, _, rfl, upd_same, T.x.cl, T.n3, (by have := putF_len "_name" (.str n) []; have := putF_len "_at" (.str a) (putF "_name" (.str n) []); simp at *; omega), ?_⟩
      refine k _ (fun b o hb eb => ?_) ⟨dx, upd_same⟩
      rw [upd_ne hb, upd_ne hb, upd_ne hb]
      exact s1 _ _ (by rw [upd_ne (ne_of_none eb np)]; exact eb)
    refine ⟨_, rfl, _, _, rfl, rfl, _, rfl, ?_⟩
    cases z with
    | true => exact rest
    | false => exact ⟨_, rfl, _, _, rfl, rfl, _, rfl, rest⟩
theorem ok_Pipe_q {C f : Addr} {fd : FuncData} (F : Fun K "__eq__" "Pipe.__eq__" s_Pipe___eq__ f fd) (T : PClass K mg C) (B : Blt mg) : FnOk P w K mg base CX0 1 f fd ["self", "other"] (sp_Peq C) := by
  refine F.ok sc_Pipe___eq__ (fun vs H Q E h => ?_) (fun cdv A outer s H vs Q E hr h => ?_)
  · obtain ⟨_, _, _, _, rfl, _⟩ := h
    rfl
  · obtain ⟨a, b, ⟨n, st, e⟩, ⟨n', s', e'⟩, rfl, ⟨dx, ha⟩, ⟨dy, hb⟩, k⟩ := h
    refine ⟨_, (pss_one (ps_ret (pe_and (pe_callB call_isi (by rfl) B.b_isinstance (by decide +kernel) (pa_cons (pv 1) (pa_cons (pe_gC T.k) pa_nil))) (pe_and (pe_cmpR op_eq (pe_fld (pv 0) rfl) (pe_fld (pv 1) rfl) (nomark _)) (pe_and (pe_cmpR op_eq (pe_fld (pv 0) rfl) (pe_fld (pv 1) rfl) (nomark _)) (pe_one (pe_cmpR op_eq (pe_fld (pv 0) rfl) (pe_fld (pv 1) rfl) (nomark _)))))))), ?_⟩
    have dd : decide ((n, st, e) = (n', s', e')) = decide (n = n' ∧ st = s' ∧ e = e') := by simp only [Prod.mk.injEq]
    rw [dd] at k
    refine ⟨_, rfl, _, _, _, .ref C, true, rfl, .own C, T.x.ty hb, T.me, true, rfl, iteT ?_⟩
    refine ⟨_, rfl, a, C, dx, _, _, rfl, ha, T.x.cl, T.n1, pipeF_n _ _ _, _, rfl, b, C, dy, _, _, rfl, hb, T.x.cl, T.n1, pipeF_n _ _ _, rfl, _, rfl, ?_⟩
    refine ite2 (fun h1 => ?_) (fun h1 => ?_)
    · have e1 : n = n' := V.str.inj (of_decide_eq_true h1)
      refine ⟨_, rfl, a, C, dx, _, _, rfl, ha, T.x.cl, T.n2, pipeF_s _ _ _, _, rfl, b, C, dy, _, _, rfl, hb, T.x.cl, T.n2, pipeF_s _ _ _, rfl, _, rfl, ?_⟩
      refine ite2 (fun h2 => ?_) (fun h2 => ?_)
      · have e2 : st = s' := V.str.inj (of_decide_eq_true h2)
        refine ⟨_, rfl, a, C, dx, _, _, rfl, ha, T.x.cl, T.n3, pipeF_e _ _ _, _, rfl, b, C, dy, _, _, rfl, hb, T.x.cl, T.n3, pipeF_e _ _ _, rfl, ?_⟩
        have e3 : decide (V.str e = V.str e') = decide (n = n' ∧ st = s' ∧ e = e') := by
          subst e1 e2
          by_cases q : e = e' <;> simp [q]
        show Q (.bl (decide (V.str e = V.str e'))) H
        rw [e3]
        exact k
      · have : decide (n = n' ∧ st = s' ∧ e = e') = false := decide_eq_false fun z => h2 (decide_eq_true (congrArg V.str z.2.1))
        rw [← this]
        exact k
    · have : decide (n = n' ∧ st = s' ∧ e = e') = false := decide_eq_false fun z => h1 (decide_eq_true (congrArg V.str z.1))
      rw [← this]
      exact k
theorem ok_Meter_q {C f : Addr} {fd : FuncData} (F : Fun K "__eq__" "Meter.__eq__" s_Meter___eq__ f fd) (T : MClass K mg C) (B : Blt mg) : FnOk P w K mg base CX0 1 f fd ["self", "other"] (sp_Meq C) := by
  refine F.ok sc_Meter___eq__ (fun vs H Q E h => ?_) (fun cdv A outer s H vs Q E hr h => ?_)
  · obtain ⟨_, _, _, _, rfl, _⟩ := h
    rfl
  · obtain ⟨a, b, ⟨n, st, e⟩, ⟨n', s', e'⟩, rfl, ⟨dx, ha⟩, ⟨dy, hb⟩, k⟩ := h
    refine ⟨_, (pss_one (ps_ret (pe_and (pe_callB call_isi (by rfl) B.b_isinstance (by decide +kernel) (pa_cons (pv 1) (pa_cons (pe_gC T.k) pa_nil))) (pe_and (pe_cmpR op_eq (pe_fld (pv 0) rfl) (pe_fld (pv 1) rfl) (nomark _)) (pe_and (pe_cmpR op_eq (pe_fld (pv 0) rfl) (pe_fld (pv 1) rfl) (nomark _)) (pe_one (pe_cmpR op_eq (pe_fld (pv 0) rfl) (pe_fld (pv 1) rfl) (nomark _)))))))), ?_⟩
    have dd : decide ((n, st, e) = (n', s', e')) = decide (n = n' ∧ st = s' ∧ e = e') := by simp only [Prod.mk.injEq]
    rw [dd] at k
    refine ⟨_, rfl, _, _, _, .ref C, true, rfl, .own C, T.x.ty hb, T.me, true, rfl, iteT ?_⟩
    refine ⟨_, rfl, a, C, dx, _, _, rfl, ha, T.x.cl, T.n1, metF_n _ _ _, _, rfl, b, C, dy, _, _, rfl, hb, T.x.cl, T.n1, metF_n _ _ _, rfl, _, rfl, ?_⟩
    refine ite2 (fun h1 => ?_) (fun h1 => ?_)
    · have e1 : n = n' := V.str.inj (of_decide_eq_true h1)
      refine ⟨_, rfl, a, C, dx, _, _, rfl, ha, T.x.cl, T.n2, metF_a _ _ _, _, rfl, b, C, dy, _, _, rfl, hb, T.x.cl, T.n2, metF_a _ _ _, rfl, _, rfl, ?_⟩
      refine ite2 (fun h2 => ?_) (fun h2 => ?_)
      · have e2 : st = s' := V.str.inj (of_decide_eq_true h2)
        refine ⟨_, rfl, a, C, dx, _, _, rfl, ha, T.x.cl, T.n3, metF_z _ _ _, _, rfl, b, C, dy, _, _, rfl, hb, T.x.cl, T.n3, metF_z _ _ _, rfl, ?_⟩
        have e3 : decide (V.bl e = V.bl e') = decide (n = n' ∧ st = s' ∧ e = e') := by
          subst e1 e2
          by_cases q : e = e' <;> simp [q]
        show Q (.bl (decide (V.bl e = V.bl e'))) H
        rw [e3]
        exact k
      · have : decide (n = n' ∧ st = s' ∧ e = e') = false := decide_eq_false fun z => h2 (decide_eq_true (congrArg V.str z.2.1))
        rw [← this]
        exact k
    · have : decide (n = n' ∧ st = s' ∧ e = e') = false := decide_eq_false fun z => h1 (decide_eq_true (congrArg V.str z.1))
      rw [← this]
      exact k
theorem ok_Pipe_name {C f : Addr} {fd : FuncData} (F : Fun K "name" "Pipe.name" s_Pipe_name f fd) (T : PClass K mg C) : FnOk P w K mg base CX0 1 f fd ["self"] (sp_pn C) := by
  refine F.ok sc_Pipe_name (fun vs H Q E h => ?_) (fun cdv A outer s H vs Q E hr h => ?_)
  · obtain ⟨_, _, rfl, _⟩ := h
    rfl
  · obtain ⟨a, q, rfl, ⟨dx, ha⟩, k⟩ := h
    refine ⟨_, (pss_one (ps_ret (pe_fld (pv 0) rfl))), ?_⟩
    exact ⟨_, rfl, a, C, dx, _, _, rfl, ha, T.x.cl, T.n1, pipeF_n _ _ _, k⟩
theorem ok_Pipe_start {C f : Addr} {fd : FuncData} (F : Fun K "start" "Pipe.start" s_Pipe_start f fd) (T : PClass K mg C) : FnOk P w K mg base CX0 1 f fd ["self"] (sp_ps C) := by
  refine F.ok sc_Pipe_start (fun vs H Q E h => ?_) (fun cdv A outer s H vs Q E hr h => ?_)
  · obtain ⟨_, _, rfl, _⟩ := h
    rfl
  · obtain ⟨a, q, rfl, ⟨dx, ha⟩, k⟩ := h
    refine ⟨_, (pss_one (ps_ret (pe_fld (pv 0) rfl))), ?_⟩
    exact ⟨_, rfl, a, C, dx, _, _, rfl, ha, T.x.cl, T.n2, pipeF_s _ _ _, k⟩
theorem ok_Pipe_end {C f : Addr} {fd : FuncData} (F : Fun K "end" "Pipe.end" s_Pipe_end f fd) (T : PClass K mg C) : FnOk P w K mg base CX0 1 f fd ["self"] (sp_pe C) := by
  refine F.ok sc_Pipe_end (fun vs H Q E h => ?_) (fun cdv A outer s H vs Q E hr h => ?_)
  · obtain ⟨_, _, rfl, _⟩ := h
    rfl
  · obtain ⟨a, q, rfl, ⟨dx, ha⟩, k⟩ := h
    refine ⟨_, (pss_one (ps_ret (pe_fld (pv 0) rfl))), ?_⟩
    exact ⟨_, rfl, a, C, dx, _, _, rfl, ha, T.x.cl, T.n3, pipeF_e _ _ _, k⟩
theorem ok_Meter_name {C f : Addr} {fd : FuncData} (F : Fun K "name" "Meter.name" s_Meter_name f fd) (T : MClass K mg C) : FnOk P w K mg base CX0 1 f fd ["self"] (sp_mn C) := by
  refine F.ok sc_Meter_name (fun vs H Q E h => ?_) (fun cdv A outer s H vs Q E hr h => ?_)
  · obtain ⟨_, _, rfl, _⟩ := h
    rfl
  · obtain ⟨a, q, rfl, ⟨dx, ha⟩, k⟩ := h
    refine ⟨_, (pss_one (ps_ret (pe_fld (pv 0) rfl))), ?_⟩
    exact ⟨_, rfl, a, C, dx, _, _, rfl, ha, T.x.cl, T.n1, metF_n _ _ _, k⟩
theorem ok_Meter_at {C f : Addr} {fd : FuncData} (F : Fun K "at" "Meter.at" s_Meter_at f fd) (T : MClass K mg C) : FnOk P w K mg base CX0 1 f fd ["self"] (sp_ma C) := by
  refine F.ok sc_Meter_at (fun vs H Q E h => ?_) (fun cdv A outer s H vs Q E hr h => ?_)
  · obtain ⟨_, _, rfl, _⟩ := h
    rfl
  · obtain ⟨a, q, rfl, ⟨dx, ha⟩, k⟩ := h
    refine ⟨_, (pss_one (ps_ret (pe_fld (pv 0) rfl))), ?_⟩
    exact ⟨_, rfl, a, C, dx, _, _, rfl, ha, T.x.cl, T.n2, metF_a _ _ _, k⟩
theorem ok_Meter_sealed {C f : Addr} {fd : FuncData} (F : Fun K "sealed" "Meter.sealed" s_Meter_sealed f fd) (T : MClass K mg C) : FnOk P w K mg base CX0 1 f fd ["self"] (sp_mz C) := by
  refine F.ok sc_Meter_sealed (fun vs H Q E h => ?_) (fun cdv A outer s H vs Q E hr h => ?_)
  · obtain ⟨_, _, rfl, _⟩ := h
    rfl
  · obtain ⟨a, q, rfl, ⟨dx, ha⟩, k⟩ := h
    refine ⟨_, (pss_one (ps_ret (pe_fld (pv 0) rfl))), ?_⟩
    exact ⟨_, rfl, a, C, dx, _, _, rfl, ha, T.x.cl, T.n3, metF_z _ _ _, k⟩
end
end RV
namespace RV
open PySem L2
section
variable {P : Program} {w : World} {K : PySem.W.Frag} {mg : Str → Option Value} {base : Heap} {CN CP CM : Addr}
theorem ok_index_of {f : Addr} {fd : FuncData} (F : Fun K "_index_of" "_index_of" s_index_of f fd) (T : Blt mg) (T2 : Blt2 mg) (h_pn : Prp P w K mg base CP "name" 1 (Irr (sp_pn CP))) : FnOk P w K mg base CX0 3 f fd ["parts", "name"] (sp_index K CP) := by
  refine F.ok sc_index_of (fun vs H Q E h => ?_) (fun cdv A outer s H vs Q E hr h => ?_)
  · obtain ⟨_, _, _, rfl, _⟩ := h
    rfl
  · obtain ⟨t, us, y, rfl, ht, hl, hy, k⟩ := h
    refine ⟨_, (pss_cons (ps_if (pt_not (pt_val (pe_callB call_isi (by rfl) T.b_isinstance (by decide +kernel) (pa_cons (pv 1) (pa_cons (pe_bltn (v := .ty "str") (by rfl) T.b_str (by decide +kernel) rfl) pa_nil))))) (pss_one (ps_ret pe_non)) pss_nil)
      (pss_cons (ps_for PassesOwn.never rfl (pi_enumT (by rfl) T2.b_enumerate (pa_cons (pv 0) pa_nil)) (pg_tup (by rfl) (pgs_cons (pg_name (i := 2) sc_index_of.nd rfl (Or.inl rfl)) (pgs_cons (pg_name (i := 3) sc_index_of.nd rfl (Or.inl rfl)) pgs_nil))) (pss_one (ps_if (pt_cmpR op_eq (pe_propN h_pn (hr.mono (by decide)) (pv 3)) (pv 1) (nomark _)) (pss_one (ps_ret (pv 2))) pss_nil)))
      (pss_one (ps_ret pe_non)))), ?_⟩
    refine ⟨_, rfl, _, _, .type "str", .type "str", true, rfl, .ty _, .base (.str _), kit_ty (by decide +kernel), true, rfl, iteF ?_⟩
    refine ⟨_, rfl, t, _, rfl, ht.t, for_enumT (xs := rf us) (fun i σ H' => (∃ o2 o3, σ = [some (.ref t), some (.str y), o2, o3]) ∧ Same H H' ∧ ∀ j q, j < i → (sn us)[j]? = some q → q.1 ≠ y) ⟨⟨none, none, rfl⟩, fun _ _ e => e, fun j q hj => absurd hj (Nat.not_lt_zero j)⟩ ?_ ?_ ?_⟩
    · rintro i σ H1 _ ⟨_, s1, _⟩
      exact ht.t.ext s1
    · rintro i x σ H1 T' hx' ⟨⟨o1, o2, rfl⟩, s1, hj⟩ nT
      rw [rf, List.getElem?_map] at hx'
      cases hu : us[i]? with
      | none => rw [hu] at hx'; cases hx'
      | some u =>
        rw [hu] at hx'
        obtain rfl : V.ref u.1 = x := Option.some.inj hx'
        have hm := List.mem_of_getElem? hu
        have s2 : Same H (upd H1 T' (.tup [.int (i : Nat), .ref u.1])) := fun b o e => by
          rw [upd_ne (ne_of_none (s1 b o e) nT)]
          exact s1 b o e
        obtain ⟨dx, ex⟩ := (ht.o u hm).ext s2
        refine ⟨T', _, rfl, SqT.of upd_same, rfl, _, _, rfl, _, _, rfl, rfl, ?_⟩
        refine ⟨_, rfl, u.1, dx, _, rfl, ex, irr ⟨u.1, u.2, rfl, ⟨dx, ex⟩, _, rfl, rfl, _, rfl, ?_⟩⟩
        refine ite2 (fun hq => ⟨_, rfl, k _ _ (by rw [sn, List.getElem?_map, hu]; exact congrArg some (V.str.inj (of_decide_eq_true hq))) s2⟩) fun hne => ?_
        refine ⟨⟨_, _, rfl⟩, s2, fun j q hji hq => ?_⟩
        by_cases e : j = i
        · subst e
          rw [sn, List.getElem?_map, hu] at hq
          obtain rfl : u.2 = q := Option.some.inj hq
          exact fun z => hne (decide_eq_true (congrArg V.str z))
        · exact hj j q (by omega) hq
    · rintro σ H1 ⟨⟨o1, o2, rfl⟩, s1, hj⟩
      obtain ⟨q, hq, e⟩ := List.mem_map.mp hy
      obtain ⟨j, hlt, ej⟩ := List.mem_iff_getElem.mp hq
      exact absurd e (hj j q (by rw [rf_len]; rwa [sn_len] at hlt) (by rw [List.getElem?_eq_getElem hlt, ej]))
/-- how many pipes and meters there may be -/
structure Cst3 (mg : Str → Option Value) : Prop where
  pipes : ∃ u, mg "MOST_PIPES" = some u ∧ RelV (.int 12) u
  meters : ∃ u, mg "MOST_METERS" = some u ∧ RelV (.int 12) u
theorem ok_check_pipes {f : Addr} {fd : FuncData} (F : Fun K "_check_pipes" "_check_pipes" s_check_pipes f fd) (T : Blt mg) (T2 : Blt2 mg) (C3 : Cst3 mg) (PC : PClass K mg CP) (h_pn : Prp P w K mg base CP "name" 1 (Irr (sp_pn CP))) : FnOk P w K mg base CX0 3 f fd ["pipes"] (sp_chkP K CP) := by
  refine F.ok sc_check_pipes (fun vs H Q E h => ?_) (fun cdv A outer s H vs Q E hr h => ?_)
  · obtain ⟨_, _, rfl, _⟩ := h
    rfl
  · obtain ⟨t, us, rfl, ht, po, k⟩ := h
    refine ⟨_, (pss_cons (ps_if (PW.pt (pw_or (pt_not (pt_val (pe_callB call_isi (by rfl) T.b_isinstance (by decide +kernel) (pa_cons (pv 0) (pa_cons (pe_bltn (v := .ty "tuple") (by rfl) T2.b_tuple (by decide +kernel) rfl) pa_nil))))) (pw_or1 (pt_not (pt_truth (pv 0) (by intro _; rfl)))))) (pss_one ps_never) pss_nil)
      (pss_cons (ps_set (i := 1) sc_check_pipes.nd rfl (Or.inl rfl) (pe_lst pa_nil))
      (pss_one (ps_for PassesOwn.never rfl (pi_enumT (by rfl) T2.b_enumerate (pa_cons (pv 0) pa_nil)) (pg_tup (by rfl) (pgs_cons (pg_name (i := 2) sc_check_pipes.nd rfl (Or.inl rfl)) (pgs_cons (pg_name (i := 3) sc_check_pipes.nd rfl (Or.inl rfl)) pgs_nil))) (pss_cons (ps_if (PW.pt (pw_or (pt_not (pt_val (pe_callB call_isi (by rfl) T.b_isinstance (by decide +kernel) (pa_cons (pv 3) (pa_cons (pe_gC PC.k) pa_nil))))) (pw_or (pt_cmpR op_in_seq (pe_propN h_pn (hr.mono (by decide)) (pv 3)) (pv 1) (by rfl)) (pw_or1 (pt_cmpR op_ge (pv 2) (pe_gI C3.pipes) (nomark _)))))) (pss_one ps_never) pss_nil) (pss_one (ps_expr (pe_bm PySem.F.plainAttrs_list PySem.F.slot_list_append PySem.F.type_list_append mt_append (pv 1) (pa_cons (pe_propN h_pn (hr.mono (by decide)) (pv 3)) pa_nil))))))))), ?_⟩
    refine ⟨_, rfl, _, _, .type "tuple", .type "tuple", true, rfl, .ty _, tyx_tup ht.t, kit_ty (by decide +kernel), true, rfl, iteF ?_⟩
    have une : (rf us).isEmpty = false := by
      cases us with
      | nil => exact absurd rfl po.n0
      | cons u us => rfl
    refine ⟨_, rfl, true, .inr (.inl ⟨rf us, ht.t, by rw [une]; rfl⟩), iteF ?_⟩
    refine ⟨by decide, fun nl nn => ?_⟩
    have ul : us.length ≤ 12 := by rw [← sn_len]; exact po.ln
    dsimp only [gName]
    refine ⟨_, rfl, t, _, rfl, ht.t.ext (fun b o e => by rw [upd_ne (ne_of_none e nn)]; exact e), for_enumT (xs := rf us) (fun i σ H' => (∃ o2 o3, σ = [some (.ref t), some (.ref nl), o2, o3]) ∧ Same H H' ∧ H' nl = some (.lst ((((sn us).take i).map (·.1)).map V.str))) ⟨⟨none, none, rfl⟩, fun b o e => by rw [upd_ne (ne_of_none e nn)]; exact e, upd_same⟩ ?_ ?_ ?_⟩
    · rintro i σ H1 _ ⟨_, s1, _⟩
      exact ht.t.ext s1
    · rintro i x σ H1 T' hx' ⟨⟨o1, o2, rfl⟩, s1, e1⟩ nT
      rw [rf, List.getElem?_map] at hx'
      cases hu : us[i]? with
      | none => rw [hu] at hx'; cases hx'
      | some u =>
        rw [hu] at hx'
        obtain rfl : V.ref u.1 = x := Option.some.inj hx'
        have hm := List.mem_of_getElem? hu
        have hlt := (List.getElem?_eq_some_iff.mp hu).1
        have s2 : Same H (upd H1 T' (.tup [.int (i : Nat), .ref u.1])) := fun b o e => by
          rw [upd_ne (ne_of_none (s1 b o e) nT)]
          exact s1 b o e
        have e2 := (upd_ne (o := .tup [.int (i : Nat), .ref u.1]) (ne_of_none e1 nT)).trans e1
        obtain ⟨dx, ex⟩ := (ht.o u hm).ext s2
        have hsn : (sn us)[i]? = some u.2 := by rw [sn, List.getElem?_map, hu]; rfl
        refine ⟨T', _, rfl, SqT.of upd_same, rfl, _, _, rfl, _, _, rfl, rfl, ?_⟩
        refine ⟨_, rfl, _, _, _, .ref CP, true, rfl, .own CP, PC.x.ty ex, PC.me, true, rfl, iteF ?_⟩
        refine ⟨_, rfl, u.1, dx, _, rfl, ex, irr ⟨u.1, u.2, rfl, ⟨dx, ex⟩, _, rfl, nl, _, rfl, .inl (SqL.of e2), rfl, strs_flat _, ?_⟩⟩
        rw [inV_str, decide_eq_false (nodup_take po.nd hsn)]
        refine ⟨_, rfl, iteF ⟨_, rfl, _, _, rfl, rfl, _, rfl, ?_⟩⟩
        refine ite2 (fun h => ?_) fun _ => ?_
        · have := of_decide_eq_true h
          omega
        refine ⟨_, rfl, .inl ⟨rfl, _, SqL.of e2⟩, _, rfl, u.1, dx, _, rfl, ex, irr ⟨u.1, u.2, rfl, ⟨dx, ex⟩, nl, _, _, rfl, rfl, e2, ?_, ⟨_, _, rfl⟩, fun b o e => ?_, ?_⟩⟩
        · rw [List.length_map, List.length_map]
          exact Nat.lt_of_le_of_lt (List.length_take_le _ _) (Nat.lt_of_lt_of_le (show i < 13 by omega) (by decide))
        · rw [upd_ne (ne_of_none e nn)]
          exact s2 b o e
        · rw [upd_same, List.take_add_one, hsn]
          simp
    · rintro σ H1 ⟨⟨o1, o2, rfl⟩, s1, _⟩
      exact k H1 s1
end
end RV
namespace RV
open PySem L2
section
variable {P : Program} {w : World} {K : PySem.W.Frag} {mg : Str → Option Value} {base : Heap} {CN CP CM : Addr}
theorem ok_check_meters {f : Addr} {fd : FuncData} (F : Fun K "_check_meters" "_check_meters" s_check_meters f fd) (T : Blt mg) (T2 : Blt2 mg) (C3 : Cst3 mg) (MC : MClass K mg CM) (h_mn : Prp P w K mg base CM "name" 1 (Irr (sp_mn CM))) (h_ma : Prp P w K mg base CM "at" 1 (Irr (sp_ma CM))) (h_index_of : Fn P w K mg base "_index_of" 3 ["parts", "name"] (Irr (sp_index K CP))) : FnOk P w K mg base CX0 4 f fd ["meters", "pipes"] (sp_chkM K CP CM) := by
  refine F.ok sc_check_meters (fun vs H Q E h => ?_) (fun cdv A outer s H vs Q E hr h => ?_)
  · obtain ⟨_, _, _, _, rfl, _⟩ := h
    rfl
  · obtain ⟨t, tp, us, pu, rfl, ht, hp, pl, mo, k⟩ := h
    refine ⟨_, (pss_cons (ps_if (pt_not (pt_val (pe_callB call_isi (by rfl) T.b_isinstance (by decide +kernel) (pa_cons (pv 0) (pa_cons (pe_bltn (v := .ty "tuple") (by rfl) T2.b_tuple (by decide +kernel) rfl) pa_nil))))) (pss_one ps_never) pss_nil)
      (pss_cons (ps_set (i := 2) sc_check_meters.nd rfl (Or.inl rfl) (pe_lst pa_nil))
      (pss_one (ps_for PassesOwn.never rfl (pi_enumT (by rfl) T2.b_enumerate (pa_cons (pv 0) pa_nil)) (pg_tup (by rfl) (pgs_cons (pg_name (i := 3) sc_check_meters.nd rfl (Or.inl rfl)) (pgs_cons (pg_name (i := 4) sc_check_meters.nd rfl (Or.inl rfl)) pgs_nil))) (pss_cons (ps_if (PW.pt (pw_or (pt_not (pt_val (pe_callB call_isi (by rfl) T.b_isinstance (by decide +kernel) (pa_cons (pv 4) (pa_cons (pe_gC MC.k) pa_nil))))) (pw_or (pt_cmpR op_in_seq (pe_propN h_mn (hr.mono (by decide)) (pv 4)) (pv 2) (by rfl)) (pw_or1 (pt_cmpR op_ge (pv 3) (pe_gI C3.meters) (nomark _)))))) (pss_one ps_never) pss_nil) (pss_cons (ps_if (pt_cmpR op_isN (pe_fn h_index_of (hr.mono (by decide)) (pa_cons (pv 1) (pa_cons (pe_propN h_ma (hr.mono (by decide)) (pv 4)) pa_nil))) pe_non (nomark _)) (pss_one ps_never) pss_nil) (pss_one (ps_expr (pe_bm PySem.F.plainAttrs_list PySem.F.slot_list_append PySem.F.type_list_append mt_append (pv 2) (pa_cons (pe_propN h_mn (hr.mono (by decide)) (pv 4)) pa_nil)))))))))), ?_⟩
    refine ⟨_, rfl, _, _, .type "tuple", .type "tuple", true, rfl, .ty _, tyx_tup ht.t, kit_ty (by decide +kernel), true, rfl, iteF ?_⟩
    refine ⟨by decide, fun nl nn => ?_⟩
    have ul : us.length ≤ 12 := by rw [← sn_len]; exact mo.ln
    dsimp only [gName]
    refine ⟨_, rfl, t, _, rfl, ht.t.ext (fun b o e => by rw [upd_ne (ne_of_none e nn)]; exact e), for_enumT (xs := rf us) (fun i σ H' => (∃ o3 o4, σ = [some (.ref t), some (.ref tp), some (.ref nl), o3, o4]) ∧ Same H H' ∧ H' nl = some (.lst ((((sn us).take i).map (·.1)).map V.str))) ⟨⟨none, none, rfl⟩, fun b o e => by rw [upd_ne (ne_of_none e nn)]; exact e, upd_same⟩ ?_ ?_ ?_⟩
    · rintro i σ H1 _ ⟨_, s1, _⟩
      exact ht.t.ext s1
    · rintro i x σ H1 T' hx' ⟨⟨o1, o2, rfl⟩, s1, e1⟩ nT
      rw [rf, List.getElem?_map] at hx'
      cases hu : us[i]? with
      | none => rw [hu] at hx'; cases hx'
      | some u =>
        rw [hu] at hx'
        obtain rfl : V.ref u.1 = x := Option.some.inj hx'
        have hm := List.mem_of_getElem? hu
        have hlt := (List.getElem?_eq_some_iff.mp hu).1
        have s2 : Same H (upd H1 T' (.tup [.int (i : Nat), .ref u.1])) := fun b o e => by
          rw [upd_ne (ne_of_none (s1 b o e) nT)]
          exact s1 b o e
        have e2 := (upd_ne (o := .tup [.int (i : Nat), .ref u.1]) (ne_of_none e1 nT)).trans e1
        have mu := (ht.o u hm).ext s2
        obtain ⟨dx, ex⟩ := id mu
        have hsn : (sn us)[i]? = some u.2 := by rw [sn, List.getElem?_map, hu]; rfl
        refine ⟨T', _, rfl, SqT.of upd_same, rfl, _, _, rfl, _, _, rfl, rfl, ?_⟩
        refine ⟨_, rfl, _, _, _, .ref CM, true, rfl, .own CM, MC.x.ty ex, MC.me, true, rfl, iteF ?_⟩
        refine ⟨_, rfl, u.1, dx, _, rfl, ex, irr ⟨u.1, u.2, rfl, mu, _, rfl, nl, _, rfl, .inl (SqL.of e2), rfl, strs_flat _, ?_⟩⟩
        rw [inV_str, decide_eq_false (nodup_take mo.nd hsn)]
        refine ⟨_, rfl, iteF ⟨_, rfl, _, _, rfl, rfl, _, rfl, ?_⟩⟩
        refine ite2 (fun h => ?_) fun _ => ?_
        · have := of_decide_eq_true h
          omega
        refine ⟨_, rfl, _, rfl, u.1, dx, _, rfl, ex, irr ⟨u.1, u.2, rfl, mu, irr ⟨tp, pu, u.2.2.1, rfl, hp.ext s2, pl, mo.on u.2 (List.mem_of_getElem? hsn), fun ix H2 _ s3 => ?_⟩⟩⟩
        refine ⟨rfl, _, rfl, iteF ?_⟩
        have e3 := s3 _ _ e2
        have mu3 := mu.ext s3
        obtain ⟨dx3, ex3⟩ := id mu3
        refine ⟨_, rfl, .inl ⟨rfl, _, SqL.of e3⟩, _, rfl, u.1, dx3, _, rfl, ex3, irr ⟨u.1, u.2, rfl, mu3, nl, _, _, rfl, rfl, e3, ?_, ⟨_, _, rfl⟩, fun b o e => ?_, ?_⟩⟩
        · rw [List.length_map, List.length_map]
          exact Nat.lt_of_le_of_lt (List.length_take_le _ _) (Nat.lt_of_lt_of_le (show i < 13 by omega) (by decide))
        · rw [upd_ne (ne_of_none e nn)]
          exact s3 _ _ (s2 b o e)
        · rw [upd_same, List.take_add_one, hsn]
          simp
    · rintro σ H1 ⟨⟨o1, o2, rfl⟩, s1, _⟩
      exact k H1 s1
theorem ok_Net_i {f : Addr} {fd : FuncData} {pds : List V} {kws : List (Str × V)} (F : FunD K "__init__" "Net.__init__" (defArgs s_Net___init__) (defBody s_Net___init__) (defScope s_Net___init__) pds kws f fd) (T : NClass K mg CN) (h_check_pipes : Fn P w K mg base "_check_pipes" 3 ["pipes"] (Irr (sp_chkP K CP))) (h_check_meters : Fn P w K mg base "_check_meters" 4 ["meters", "pipes"] (Irr (sp_chkM K CP CM))) : FnOk P w K mg base CX0 5 f fd ["self", "pipes", "meters"] (sp_Net K CN CP CM) := by
  refine F.ok sc_Net___init__ (fun vs H Q E h => ?_) (fun cdv A outer s H vs Q E hr h => ?_)
  · obtain ⟨_, _, _, _, _, _, rfl, _⟩ := h
    rfl
  · obtain ⟨x, dx, tp, tm, pu, mu, rfl, hx, hp, hm, po, mo, k⟩ := h
    refine ⟨_, (pss_cons (ps_expr (pe_fn h_check_pipes (hr.mono (by decide)) (pa_cons (pv 1) pa_nil)))
      (pss_cons (ps_expr (pe_fn h_check_meters (hr.mono (by decide)) (pa_cons (pv 2) (pa_cons (pv 1) pa_nil))))
      (pss_cons (ps_fld (pv 0) (pv 1) rfl)
      (pss_one (ps_fld (pv 0) (pv 2) rfl))))), ?_⟩
    refine ⟨_, rfl, irr ⟨tp, pu, rfl, hp, po, fun H1 s1 => ?_⟩⟩
    refine ⟨_, rfl, _, rfl, irr ⟨tm, tp, mu, pu, rfl, hm.ext s1, hp.ext s1, by rw [← sn_len]; exact po.ln, mo, fun H2 s2 => ?_⟩⟩
    have hx2 := s2 _ _ (s1 _ _ hx)
    refine ⟨_, rfl, _, rfl, x, CN, dx, _, rfl, hx2, T.x.cl, T.n1, (by show 0 < 1000; decide), ?_⟩
    refine ⟨_, rfl, _, rfl, x, CN, dx, _, rfl, upd_same, T.x.cl, T.n2, (by have := putF_len "_pipes" (.ref tp) []; simp at this ⊢; omega), ?_⟩
    refine k _ (fun b o hb eb => ?_) ⟨dx, upd_same⟩
    rw [upd_ne hb, upd_ne hb]
    exact s2 _ _ (s1 _ _ eb)
/-- the tuple of a net's pipes, of a net's meters -/
def sp_npi (CN : Addr) : Sp := fun vs H Q _ => ∃ (a dx tp tm : Addr), vs = [.ref a] ∧ H a = some (.ins CN dx (netF tp tm)) ∧ Q (.ref tp) H
def sp_nme (CN : Addr) : Sp := fun vs H Q _ => ∃ (a dx tp tm : Addr), vs = [.ref a] ∧ H a = some (.ins CN dx (netF tp tm)) ∧ Q (.ref tm) H
def sp_nlen (K : PySem.W.Frag) (CN : Addr) : Sp := fun vs H Q _ => ∃ (a dx tp tm : Addr) (xs : List V), vs = [.ref a] ∧ H a = some (.ins CN dx (netF tp tm)) ∧ SqT K H tp xs ∧ ∃ n : Nat, n = xs.length ∧ n < 2 ^ 62 ∧ Q (.int n) H
theorem ok_Net_p {f : Addr} {fd : FuncData} (F : Fun K "pipes" "Net.pipes" s_Net_pipes f fd) (T : NClass K mg CN) : FnOk P w K mg base CX0 1 f fd ["self"] (sp_npi CN) := by
  refine F.ok sc_Net_pipes (fun vs H Q E h => ?_) (fun cdv A outer s H vs Q E hr h => ?_)
  · obtain ⟨_, _, _, _, rfl, _⟩ := h
    rfl
  · obtain ⟨a, dx, tp, tm, rfl, ha, k⟩ := h
    refine ⟨_, (pss_one (ps_ret (pe_fld (pv 0) rfl))), ?_⟩
    exact ⟨_, rfl, a, CN, dx, _, _, rfl, ha, T.x.cl, T.n1, netF_p _ _, k⟩
theorem ok_Net_m {f : Addr} {fd : FuncData} (F : Fun K "meters" "Net.meters" s_Net_meters f fd) (T : NClass K mg CN) : FnOk P w K mg base CX0 1 f fd ["self"] (sp_nme CN) := by
  refine F.ok sc_Net_meters (fun vs H Q E h => ?_) (fun cdv A outer s H vs Q E hr h => ?_)
  · obtain ⟨_, _, _, _, rfl, _⟩ := h
    rfl
  · obtain ⟨a, dx, tp, tm, rfl, ha, k⟩ := h
    refine ⟨_, (pss_one (ps_ret (pe_fld (pv 0) rfl))), ?_⟩
    exact ⟨_, rfl, a, CN, dx, _, _, rfl, ha, T.x.cl, T.n2, netF_m _ _, k⟩
theorem ok_Net_l {f : Addr} {fd : FuncData} (F : Fun K "__len__" "Net.__len__" s_Net___len__ f fd) (T : NClass K mg CN) (B : Blt mg) : FnOk P w K mg base CX0 1 f fd ["self"] (sp_nlen K CN) := by
  refine F.ok sc_Net___len__ (fun vs H Q E h => ?_) (fun cdv A outer s H vs Q E hr h => ?_)
  · obtain ⟨_, _, _, _, _, rfl, _⟩ := h
    rfl
  · obtain ⟨a, dx, tp, tm, xs, rfl, ha, ht, n, en, nb, k⟩ := h
    refine ⟨_, (pss_one (ps_ret (pe_callB call_len_seq (by rfl) B.b_len (by decide +kernel) (pa_cons (pe_fld (pv 0) rfl) pa_nil)))), ?_⟩
    refine ⟨_, rfl, a, CN, dx, _, _, rfl, ha, T.x.cl, T.n1, netF_p _ _, tp, xs, rfl, .inr ht, ?_⟩
    rw [← en]
    exact k
end
end RV
namespace RV
open PySem L2 TL
section
variable {P : Program} {w : World} {K : PySem.W.Frag} {mg : Str → Option Value} {base : Heap} {CN CP CM : Addr}
theorem ok_pipe_line {f : Addr} {fd : FuncData} (F : Fun K "_pipe_line" "_pipe_line" s_pipe_line f fd) (h_pn : Prp P w K mg base CP "name" 1 (Irr (sp_pn CP))) (h_ps : Prp P w K mg base CP "start" 1 (Irr (sp_ps CP))) (h_pe : Prp P w K mg base CP "end" 1 (Irr (sp_pe CP))) : FnOk P w K mg base CX0 3 f fd ["part"] (sp_pline CP) := by
  refine F.ok sc_pipe_line (fun vs H Q E h => ?_) (fun cdv A outer s H vs Q E hr h => ?_)
  · obtain ⟨_, _, rfl, _⟩ := h
    rfl
  · obtain ⟨a, q, rfl, ha, h1, h2, h3, k⟩ := h
    refine ⟨_, (pss_one (ps_ret (pe_joined (.cons pe_str (.cons (pe_fmt (pe_propN h_pn (hr.mono (by decide)) (pv 0))) (.cons pe_str (.cons (pe_fmt (pe_propN h_ps (hr.mono (by decide)) (pv 0))) (.cons pe_str (.cons (pe_fmt (pe_propN h_pe (hr.mono (by decide)) (pv 0))) .nil))))))))), ?_⟩
    obtain ⟨dx, ea⟩ := id ha
    have l1 := nm8 h1
    have l2 := nm8 h2
    have l3 := nm8 h3
    have e1 : Str.length " " = 1 := by decide +kernel
    have e2 : Str.length Str.empty = 0 := by decide +kernel
    have e3 : Str.length "pipe " = 5 := by decide +kernel
    refine ⟨_, rfl, ?_, _, rfl, a, dx, _, rfl, ea, irr ⟨a, q, rfl, ha, .inl ⟨_, rfl, szn (by omega), _, rfl, ?_, _, rfl, ?_, _, rfl, a, dx, _, rfl, ea, irr ⟨a, q, rfl, ha, .inl ⟨_, rfl, szn (by omega), _, rfl, ?_, _, rfl, ?_, _, rfl, a, dx, _, rfl, ea, irr ⟨a, q, rfl, ha, .inl ⟨_, rfl, szn (by omega), _, rfl, ?_, k⟩⟩⟩⟩⟩⟩⟩
    all_goals (repeat rw [sl_app]); rw [e2, e3]; try rw [e1]
    all_goals exact szn (by omega)
theorem ok_meter_line {f : Addr} {fd : FuncData} (F : Fun K "_meter_line" "_meter_line" s_meter_line f fd) (h_mn : Prp P w K mg base CM "name" 1 (Irr (sp_mn CM))) (h_ma : Prp P w K mg base CM "at" 1 (Irr (sp_ma CM))) (h_mz : Prp P w K mg base CM "sealed" 1 (Irr (sp_mz CM))) : FnOk P w K mg base CX0 3 f fd ["part"] (sp_mline CM) := by
  refine F.ok sc_meter_line (fun vs H Q E h => ?_) (fun cdv A outer s H vs Q E hr h => ?_)
  · obtain ⟨_, _, rfl, _⟩ := h
    rfl
  · obtain ⟨a, q, rfl, ha, h1, h2, k⟩ := h
    refine ⟨_, (pss_cons (ps_set (i := 1) sc_meter_line.nd rfl (Or.inl rfl) (pe_ifExp (pt_val (pe_propN h_mz (hr.mono (by decide)) (pv 0))) pe_str pe_str))
      (pss_one (ps_ret (pe_joined (.cons pe_str (.cons (pe_fmt (pe_propN h_mn (hr.mono (by decide)) (pv 0))) (.cons pe_str (.cons (pe_fmt (pe_propN h_ma (hr.mono (by decide)) (pv 0))) (.cons (pe_fmt (pv 1)) .nil))))))))), ?_⟩
    obtain ⟨dx, ea⟩ := id ha
    have l1 := nm8 h1
    have l2 := nm8 h2
    have e1 : Str.length " " = 1 := by decide +kernel
    have e2 : Str.length Str.empty = 0 := by decide +kernel
    have e3 : Str.length "meter " = 6 := by decide +kernel
    have e4 : ∀ z, (mseal z).length ≤ 7 := fun z => by
      cases z
      · show Str.length "" ≤ 7
        decide +kernel
      · show Str.length " sealed" ≤ 7
        decide +kernel
    have l4 := e4 q.2.2
    refine seq_of (fun σ' H' => σ' = [some (.ref a), some (.str (mseal q.2.2))] ∧ H' = H) ?rest (fun N hN => ?main)
    case main =>
      refine ⟨_, rfl, a, dx, _, rfl, ea, irr ⟨a, q, rfl, ha, q.2.2, rfl, ?_⟩⟩
      cases hz : q.2.2 with
      | true => exact iteT (hN _ _ ⟨by rw [hz]; rfl, rfl⟩)
      | false => exact iteF (hN _ _ ⟨by rw [hz]; rfl, rfl⟩)
    rintro σ1 H1 ⟨rfl, rfl⟩
    refine ⟨_, rfl, ?_, _, rfl, a, dx, _, rfl, ea, irr ⟨a, q, rfl, ha, .inl ⟨_, rfl, szn (by omega), _, rfl, ?_, _, rfl, ?_, _, rfl, a, dx, _, rfl, ea, irr ⟨a, q, rfl, ha, .inl ⟨_, rfl, szn (by omega), _, rfl, ?_, _, rfl, .inl ⟨_, rfl, szn (by omega), _, rfl, ?_, k⟩⟩⟩⟩⟩⟩
    all_goals (repeat rw [sl_app]); rw [e2, e3]; try rw [e1]
    all_goals exact szn (by omega)
end
end RV
namespace RV
open PySem L2 TL
section
variable {P : Program} {w : World} {K : PySem.W.Frag} {mg : Str → Option Value} {base : Heap} {CN CP CM : Addr}
theorem ok_lines {f : Addr} {fd : FuncData} (F : Fun K "_lines" "_lines" s_lines f fd) (h_pipe_line : Fn P w K mg base "_pipe_line" 3 ["part"] (Irr (sp_pline CP))) (h_meter_line : Fn P w K mg base "_meter_line" 3 ["part"] (Irr (sp_mline CM))) : FnOk P w K mg base CX0 4 f fd ["pipes", "meters"] (sp_lines K CP CM) := by
  refine F.ok sc_lines (fun vs H Q E h => ?_) (fun cdv A outer s H vs Q E hr h => ?_)
  · obtain ⟨_, _, _, _, rfl, _⟩ := h
    rfl
  · obtain ⟨tp, tm, pu, mu, rfl, hp, hm, np, nm, pl, ml, k⟩ := h
    refine ⟨_, (pss_one (ps_ret (pe_op op_cat (pe_lc (own := [("part", 2)]) (g := gName 2) (tt := tYes) rfl sc_lines.nd (pi_tup (pv 0)) (blkOk_by (N := sc_lines_N) (sc := defScope s_lines) (by decide +kernel)) (fun _ _ _ _ _ => pg_name (i := 2) sc_lines.nd rfl (Or.inl rfl)) (fun _ _ _ _ _ => pts_nil) (fun _ _ _ _ _ => (pe_fn h_pipe_line (hr.mono (by decide)) (pa_cons (pv 2) pa_nil)))) (pe_lc (own := [("part", 2)]) (g := gName 2) (tt := tYes) rfl sc_lines.nd (pi_tup (pv 1)) (blkOk_by (N := sc_lines_N) (sc := defScope s_lines) (by decide +kernel)) (fun _ _ _ _ _ => pg_name (i := 2) sc_lines.nd rfl (Or.inl rfl)) (fun _ _ _ _ _ => pts_nil) (fun _ _ _ _ _ => (pe_fn h_meter_line (hr.mono (by decide)) (pa_cons (pv 2) pa_nil))))))), ?_⟩
    refine ⟨_, rfl, tp, rfl, ⟨_, hp.t⟩, fun D nD => lc_to (xs := rf pu) (((sn pu).map pline).map V.str) (by rw [List.length_map, List.length_map, sn_len, rf_len]) walk_tup nD (by rw [rf_len]; omega) (fun H' s' => hp.t.ext s') (fun _ => rfl) (fun j x y hx hy H2 s2 R kR => ?_) fun H2 s2 hD => ?_⟩
    · rw [rf, List.getElem?_map] at hx
      cases hu : pu[j]? with
      | none => rw [hu] at hx; cases hx
      | some u =>
        rw [hu] at hx
        obtain rfl : V.ref u.1 = x := Option.some.inj hx
        rw [List.getElem?_map, List.getElem?_map, sn, List.getElem?_map, hu] at hy
        obtain rfl : V.str (pline u.2) = y := Option.some.inj hy
        have hm := List.mem_of_getElem? hu
        have n := np u.2 (List.mem_map.mpr ⟨u, hm, rfl⟩)
        exact ⟨_, rfl, irr ⟨u.1, u.2, rfl, (hp.o u hm).ext s2, n.1, n.2.1, n.2.2, kR _ (Same.refl _)⟩⟩
    refine ⟨_, rfl, tm, rfl, ⟨_, hm.t.ext s2⟩, fun D2 nD2 => lc_to (xs := rf mu) (((sn mu).map mline).map V.str) (by rw [List.length_map, List.length_map, sn_len, rf_len]) walk_tup nD2 (by rw [rf_len]; omega) (fun H' s' => (hm.t.ext s2).ext s') (fun _ => rfl) (fun j x y hx hy H3 s3 R kR => ?_) fun H3 s3 hD2 => ?_⟩
    · rw [rf, List.getElem?_map] at hx
      cases hu : mu[j]? with
      | none => rw [hu] at hx; cases hx
      | some u =>
        rw [hu] at hx
        obtain rfl : V.ref u.1 = x := Option.some.inj hx
        rw [List.getElem?_map, List.getElem?_map, sn, List.getElem?_map, hu] at hy
        obtain rfl : V.str (mline u.2) = y := Option.some.inj hy
        have hmu := List.mem_of_getElem? hu
        have n := nm u.2 (List.mem_map.mpr ⟨u, hmu, rfl⟩)
        exact ⟨_, rfl, irr ⟨u.1, u.2, rfl, ((hm.o u hmu).ext s2).ext s3, n.1, n.2, kR _ (Same.refl _)⟩⟩
    refine ⟨D, D2, _, _, rfl, rfl, s3 _ _ hD, hD2, ?_, fun lo nlo => ?_⟩
    · simp only [List.length_map, sn_len]
      exact Nat.le_trans (show pu.length + mu.length ≤ 40 by omega) (by decide)
    · refine k lo _ ⟨fun b o e => ?_, fun p hp => ?_⟩
      · rw [upd_ne (ne_of_none (s3 _ _ (s2 _ _ e)) nlo)]
        exact s3 _ _ (s2 _ _ e)
      · rw [List.mem_singleton.mp hp]
        refine ⟨?_, by rw [upd_same, netL, List.map_append]⟩
        show H lo = none
        cases e : H lo with
        | none => rfl
        | some o => rw [s3 _ _ (s2 _ _ e)] at nlo; cases nlo
theorem ok_Net_s {f : Addr} {fd : FuncData} (F : Fun K "__str__" "Net.__str__" s_Net___str__ f fd) (T : NClass K mg CN) (h_lines : Fn P w K mg base "_lines" 4 ["pipes", "meters"] (Irr (sp_lines K CP CM))) : FnOk P w K mg base CX0 5 f fd ["self"] (sp_nstr K CN CP CM) := by
  refine F.ok sc_Net___str__ (fun vs H Q E h => ?_) (fun cdv A outer s H vs Q E hr h => ?_)
  · obtain ⟨_, _, _, rfl, _⟩ := h
    rfl
  · obtain ⟨x, ps, ms, rfl, hx, np, nm, pl, ml, k⟩ := h
    refine ⟨_, (pss_one (ps_ret (pe_join pe_str (pe_fn h_lines (hr.mono (by decide)) (pa_cons (pe_fld (pv 0) rfl) (pa_cons (pe_fld (pv 0) rfl) pa_nil)))))), ?_⟩
    obtain ⟨dx, tp, tm, pu, mu, ex, hp, hm, rfl, rfl⟩ := hx.ex
    refine ⟨⟨_, rfl⟩, _, rfl, x, CN, dx, _, _, rfl, ex, T.x.cl, T.n1, netF_p _ _, _, rfl, x, CN, dx, _, _, rfl, ex, T.x.cl, T.n2, netF_m _ _, irr ⟨tp, tm, pu, mu, rfl, hp, hm, np, nm, by rw [← sn_len]; exact pl, by rw [← sn_len]; exact ml, fun m H' kp => ⟨_, m, netL (sn pu) (sn mu), rfl, rfl, .inl (SqL.of (kp.at List.mem_cons_self)), ?_, k H' kp.sm⟩⟩⟩
    have h1 := netL_sum np nm
    have h2 : (netL (sn pu) (sn mu)).length = (sn pu).length + (sn mu).length := by rw [netL, List.length_append, List.length_map, List.length_map]
    have h3 : Str.length "\n" = 1 := by decide +kernel
    rw [h3]
    omega
end
end RV
namespace RV
open PySem L2 TL
section
variable {P : Program} {w : World} {K : PySem.W.Frag} {mg : Str → Option Value} {base : Heap} {CN CP CM : Addr}
theorem ok_Net_q {f : Addr} {fd : FuncData} (F : Fun K "__eq__" "Net.__eq__" s_Net___eq__ f fd) (T : NClass K mg CN) (B : Blt mg) (oP : OwnEq P w K mg base CP 1 (sp_Peq CP)) (oM : OwnEq P w K mg base CM 1 (sp_Meq CM)) : FnOk P w K mg base CX0 4 f fd ["self", "other"] (sp_Neq K CN CP CM) := by
  refine F.ok sc_Net___eq__ (fun vs H Q E h => ?_) (fun cdv A outer s H vs Q E hr h => ?_)
  · obtain ⟨_, _, _, _, _, rfl, _⟩ := h
    rfl
  · obtain ⟨a, b, ps, ms, ms', rfl, ha, hb, hor, k⟩ := h
    refine ⟨_, (pss_one (ps_ret (pe_and (pe_callB call_isi (by rfl) B.b_isinstance (by decide +kernel) (pa_cons (pv 1) (pa_cons (pe_gC T.k) pa_nil))) (pe_and (pe_cmpR (op_eqTup (rc_pipes oP) (hr.mono (by decide))) (pe_fld (pv 0) rfl) (pe_fld (pv 1) rfl) (nomark _)) (pe_one (pe_cmpR (op_eqTup (rc_meters oM) (hr.mono (by decide))) (pe_fld (pv 0) rfl) (pe_fld (pv 1) rfl) (nomark _))))))), ?_⟩
    obtain ⟨dx, tp, tm, pu, mu, ex, hp, hm, e1, e2⟩ := ha.ex
    obtain ⟨dx', tp', tm', pu', mu', ex', hp', hm', e1', e2'⟩ := hb.ex
    refine ⟨_, rfl, _, _, _, .ref CN, true, rfl, .own CN, T.x.ty ex', T.me, true, rfl, iteT ?_⟩
    refine ⟨_, rfl, a, CN, dx, _, _, rfl, ex, T.x.cl, T.n1, netF_p _ _, _, rfl, b, CN, dx', _, _, rfl, ex', T.x.cl, T.n1, netF_p _ _, .inl ⟨dtup_of hp.t hp'.t (e1.trans e1'.symm) fun i u v hu hv e => ?_, fun H1 s1 => ⟨true, rfl, iteT ?_⟩⟩⟩
    · obtain ⟨dy, ey⟩ := hp.o u (List.mem_of_getElem? hu)
      obtain ⟨dz, ez⟩ := hp'.o v (List.mem_of_getElem? hv)
      exact ⟨u.1, v.1, dy, dz, _, _, rfl, rfl, ey, ez, u.2, ⟨dy, ey⟩, by rw [e]; exact ⟨dz, ez⟩⟩
    refine ⟨_, rfl, a, CN, dx, _, _, rfl, s1 _ _ ex, T.x.cl, T.n2, netF_m _ _, _, rfl, b, CN, dx', _, _, rfl, s1 _ _ ex', T.x.cl, T.n2, netF_m _ _, ?_⟩
    have hm1 := hm.ext s1
    have hm1' := hm'.ext s1
    by_cases e : ms = ms'
    · refine .inl ⟨dtup_of hm1.t hm1'.t (e2.trans (e.trans e2'.symm)) fun i u v hu hv e => ?_, fun H2 s2 => ?_⟩
      · obtain ⟨dy, ey⟩ := hm1.o u (List.mem_of_getElem? hu)
        obtain ⟨dz, ez⟩ := hm1'.o v (List.mem_of_getElem? hv)
        exact ⟨u.1, v.1, dy, dz, _, _, rfl, rfl, ey, ez, u.2, ⟨dy, ey⟩, by rw [e]; exact ⟨dz, ez⟩⟩
      · have := k H2 fun b o e => s2 b o (s1 b o e)
        rwa [decide_eq_true e] at this
    · have hl1 : (rf mu).length = ms.length := by rw [rf_len, ← sn_len, e2]
      have hl2 : (rf mu').length = ms'.length := by rw [rf_len, ← sn_len, e2']
      refine .inr ⟨tm, tm', _, _, rfl, rfl, hm1.t, hm1'.t, ?_, ?_, ?_⟩
      · rw [hl1, hl2, List.length_eq_zero_iff, List.length_eq_zero_iff]
        exact hor.resolve_left e
      · rw [hl1, hl2]
        rcases hor.resolve_left e with z | z
        · subst z
          intro q
          exact e (List.length_eq_zero_iff.mp q.symm).symm
        · subst z
          intro q
          exact e (List.length_eq_zero_iff.mp q)
      · have := k H1 s1
        rwa [decide_eq_false e] at this
theorem ok_rows_in {f : Addr} {fd : FuncData} (F : Fun K "_rows_in" "_rows_in" s_rows_in f fd) : FnOk P w K mg base CX0 1 f fd ["text"] sp_rows := by
  refine F.ok sc_rows_in (fun vs H Q E h => ?_) (fun cdv A outer s H vs Q E hr h => ?_)
  · obtain ⟨_, _, rfl, _⟩ := h
    rfl
  · obtain ⟨ps, ms, rfl, ok, k⟩ := h
    refine ⟨_, (pss_one (ps_ret (pe_lc (own := [("line", 1)]) (g := gName 1) (tt := tYes) rfl sc_rows_in.nd (pi_list (pe_split (pv 0) pe_str)) (blkOk_by (N := sc_rows_in_N) (sc := defScope s_rows_in) (by decide +kernel)) (fun _ _ _ _ _ => pg_name (i := 1) sc_rows_in.nd rfl (Or.inl rfl)) (fun _ _ _ _ _ => pts_nil) (fun _ _ _ _ _ => (pe_split (pv 1) pe_str))))), ?_⟩
    have tl := netT_len ok.pn ok.mn ok.pl ok.ml
    refine ⟨_, rfl, ⟨_, rfl⟩, _, _, rfl, rfl, by decide +kernel, Nat.le_trans (show _ ≤ 5010 by omega) (by decide), fun p np => ?_⟩
    rw [split_netT ok.n0 ok.pn ok.mn]
    have s1 : Same H (upd H p (.lst ((netL ps ms).map V.str))) := fun b o e => (upd_ne (ne_of_none e np)).trans e
    have hll : ((netL ps ms).map V.str).length = ps.length + ms.length := by rw [List.length_map, netL, List.length_append, List.length_map, List.length_map]
    have hl1 : SqL K (upd H p (.lst ((netL ps ms).map V.str))) p ((netL ps ms).map V.str) := SqL.of upd_same
    have := ok.pl
    have := ok.ml
    refine ⟨p, rfl, ⟨_, hl1⟩, fun D nD => lc_new (β := RU) (xs := (netL ps ms).map V.str) (fun u => .ref u.1) (fun j u H' => H' u.1 = some (.lst (u.2.map V.str)) ∧ u.1 ≠ D ∧ (rowsL ps ms)[j]? = some u.2) walk_list nD (by omega) (fun H' s' => hl1.ext s') (fun _ => rfl) (fun j u H' H'' s' z => ⟨s' _ _ z.1, z.2⟩) (fun j u H' acc acc' _ z => ⟨by rw [upd_ne z.2.1]; exact z.1, z.2⟩) (fun j x hx H2 s2 hD R kR => ?_) fun us H2 s2 ul up hD => ?_⟩
    · rw [List.getElem?_map] at hx
      cases hu : (netL ps ms)[j]? with
      | none => rw [hu] at hx; cases hx
      | some z =>
        rw [hu] at hx
        obtain rfl : V.str z = x := Option.some.inj hx
        obtain ⟨row, er, hl, es⟩ : ∃ row, (rowsL ps ms)[j]? = some row ∧ z.length ≤ 40 ∧ Txt.split z " " = row := by
          unfold netL at hu
          unfold rowsL
          rw [List.getElem?_append] at hu ⊢
          rw [List.length_map] at hu ⊢
          split at hu
          · rename_i hlt
            rw [if_pos hlt]
            rw [List.getElem?_map] at hu ⊢
            cases hq : ps[j]? with
            | none => rw [hq] at hu; cases hu
            | some q =>
              rw [hq] at hu
              obtain rfl : pline q = z := Option.some.inj hu
              have n := ok.pn q (List.mem_of_getElem? hq)
              exact ⟨_, rfl, pline_len n.1 n.2.1 n.2.2, split_pline n.1 n.2.1 n.2.2⟩
          · rename_i hlt
            rw [if_neg hlt]
            rw [List.getElem?_map] at hu ⊢
            cases hq : ms[j - ps.length]? with
            | none => rw [hq] at hu; cases hu
            | some q =>
              rw [hq] at hu
              obtain rfl : mline q = z := Option.some.inj hu
              have n := ok.mn q (List.mem_of_getElem? hq)
              exact ⟨_, rfl, mline_len n.1 n.2, split_mline n.1 n.2⟩
        obtain ⟨acc, eD⟩ := hD
        refine ⟨_, rfl, ⟨_, rfl⟩, _, _, rfl, rfl, by decide +kernel, szn (by omega), fun t nt => ?_⟩
        rw [es]
        exact kR (t, row) _ (fun b o e => (upd_ne (ne_of_none e nt)).trans e) ⟨upd_same, fun e => (by rw [show t = D from e, eD] at nt; cases nt), er⟩
    · refine k D us H2 (fun b o e => s2 b o (s1 b o e)) ⟨hD, fun u hu => ?_⟩ (List.ext_getElem? fun j => ?_)
      · obtain ⟨j, hj, e⟩ := List.mem_iff_getElem.mp hu
        exact (up j u (by rw [List.getElem?_eq_getElem hj, e])).1
      · rw [sn, List.getElem?_map]
        cases e : us[j]? with
        | some u => exact (up j u e).2.2.symm
        | none =>
          rw [List.getElem?_eq_none_iff] at e
          rw [List.getElem?_eq_none (by rw [rowsL, List.length_append, List.length_map, List.length_map]; omega)]
          rfl
end
end RV
namespace RV
open PySem L2 TL
section
variable {P : Program} {w : World} {K : PySem.W.Frag} {mg : Str → Option Value} {base : Heap} {CN CP CM : Addr}
theorem ok_pipes_in {f : Addr} {fd : FuncData} (F : Fun K "_pipes_in" "_pipes_in" s_pipes_in f fd) (T : Blt mg) (T2 : Blt2 mg) (h_rows_in : Fn P w K mg base "_rows_in" 1 ["text"] (Irr sp_rows)) (h_Pipe : Mkr P w K mg base "Pipe" CP 3 (Irr (sp_Pipe CP)) []) : FnOk P w K mg base CX0 5 f fd ["text"] (sp_pin K CP) := by
  refine F.ok sc_pipes_in (fun vs H Q E h => ?_) (fun cdv A outer s H vs Q E hr h => ?_)
  · obtain ⟨_, _, rfl, _⟩ := h
    rfl
  · obtain ⟨ps, ms, rfl, ok, po, k⟩ := h
    refine ⟨_, (pss_cons (ps_setLc (i := 1) (own := [("row", 2)]) (g := gName 2) rfl sc_pipes_in.nd rfl rfl (sw_true rfl rfl rfl (by decide +kernel)) (pi_list (pe_fn h_rows_in (hr.mono (by decide)) (pa_cons (pv 0) pa_nil))) (blkOk_by (N := sc_pipes_in_N) (sc := defScope s_pipes_in) (by decide +kernel)) (fun _ _ _ _ _ => pg_name (i := 2) sc_pipes_in.nd rfl (Or.inl rfl)) (fun _ _ _ _ _ => pts_one (PW.pt (pw_and (pt_cmpR op_eq (pe_ix ix_listK (pv 2) pe_int (fun _ _ => rfl)) pe_str (nomark _)) (pw_and1 (pt_cmpR op_eq (pe_callB call_lenK (by rfl) T.b_len (by decide +kernel) (pa_cons (pv 2) pa_nil)) pe_int (nomark _)))))) (fun _ _ _ _ _ => (pv 2)))
      (pss_one (ps_ret (pe_callTy call_tuple_of (by rfl) T2.b_tuple (by decide +kernel) (pa_cons (pe_lc (own := [("row", 2)]) (g := gName 2) (tt := tYes) rfl sc_pipes_in.nd (pi_list (pv 1)) (blkOk_by (N := sc_pipes_in_N) (sc := defScope s_pipes_in) (by decide +kernel)) (fun _ _ _ _ _ => pg_name (i := 2) sc_pipes_in.nd rfl (Or.inl rfl)) (fun _ _ _ _ _ => pts_nil) (fun _ _ _ _ _ => (pe_mk h_Pipe (hr.mono (by decide)) (pa_cons (pe_ix ix_listK (pv 2) pe_int (fun _ _ => rfl)) (pa_cons (pe_ix ix_listK (pv 2) pe_int (fun _ _ => rfl)) (pa_cons (pe_ix ix_listK (pv 2) pe_int (fun _ _ => rfl)) pa_nil)))))) pa_nil))))), ?_⟩
    refine ⟨_, rfl, irr ⟨ps, ms, rfl, ok, fun l us H1 s1 rw1 er => ⟨l, rfl, ⟨_, SqL.of rw1.l⟩, fun D nD => ?_⟩⟩⟩
    have hl1 : SqL K H1 l (rf us) := SqL.of rw1.l
    have ul : us.length ≤ 40 := by
      rw [← sn_len, er, rowsL, List.length_append, List.length_map, List.length_map]
      have := ok.pl
      have := ok.ml
      omega
    have row_of : ∀ u ∈ us, (∃ q, u.2 = prow q) ∨ ∃ q, u.2 = mrow q := fun u hu => by
      have : u.2 ∈ rowsL ps ms := by rw [← er]; exact List.mem_map.mpr ⟨u, hu, rfl⟩
      rcases List.mem_append.mp this with h | h
      · obtain ⟨q, _, e⟩ := List.mem_map.mp h
        exact .inl ⟨q, e.symm⟩
      · obtain ⟨q, _, e⟩ := List.mem_map.mp h
        exact .inr ⟨q, e.symm⟩
    refine lc_keep (us := us) (fun u => isP u.2) walk_list nD (by omega) (fun H' s' => hl1.ext s') (fun _ => rfl) (fun u hu H2 s2 R kR => ?_) (fun u hu H2 R r => ⟨_, rfl, r⟩) fun H2 s2 hD => ?_
    · have eu := s2 _ _ (rw1.o u hu)
      rcases row_of u hu with ⟨q, e⟩ | ⟨q, e⟩
      · rw [e] at eu
        have kR' := kR H2 (Same.refl H2)
        rw [e, isP_p] at kR'
        refine ⟨_, rfl, u.1, _, 0, _, rfl, rfl, SqL.of eu, rfl, rfl, _, rfl, ite2 (fun _ => ?_) fun h => absurd (decide_eq_true rfl) h⟩
        exact ⟨_, rfl, u.1, _, rfl, .inl (SqL.of eu), rfl, _, rfl, kR'⟩
      · have kR' := kR H2 (Same.refl H2)
        rw [e, isP_m] at kR'
        obtain ⟨r, er⟩ : ∃ r : List Str, mrow q = ("meter" : Str) :: r := by unfold mrow; split <;> exact ⟨_, rfl⟩
        rw [e, er] at eu
        refine ⟨_, rfl, u.1, _, 0, .str "meter", rfl, rfl, SqL.of eu, atI_nat (j := 0) rfl, rfl, _, rfl, ite2 (fun h => ?_) fun _ => kR'⟩
        exact absurd (V.str.inj (of_decide_eq_true h)).symm p_ne_m
    generalize hfu : us.filter (fun u => isP u.2) = fu at hD
    have efu : sn fu = ps.map prow := by rw [← hfu, sn_filter, er, rows_p]
    have ofu : ∀ u ∈ fu, H2 u.1 = some (.lst (u.2.map V.str)) := fun u hu => s2 _ _ (rw1.o u (List.mem_filter.mp (by rw [hfu]; exact hu : u ∈ us.filter (fun u => isP u.2)) |>.1))
    have lfu : fu.length = ps.length := by rw [← sn_len, efu, List.length_map]
    have hl2 : SqL K H2 D (rf fu) := SqL.of hD
    dsimp only [gName]
    refine ⟨_, rfl, D, rfl, ⟨_, hl2⟩, fun D2 nD2 => lc_new (β := PU) (xs := rf fu) (fun u => .ref u.1) (fun j u H' => PipeAt CP H' u.1 u.2 ∧ ps[j]? = some u.2) walk_list nD2 (by rw [rf_len, lfu]; have := ok.pl; omega) (fun H' s' => hl2.ext s') (fun _ => rfl) (fun j u H' H'' s' z => ⟨z.1.ext s', z.2⟩) (fun j u H' acc acc' e z => ⟨z.1.gro e Grow.put, z.2⟩) (fun j x hx H3 s3 hD3 R kR => ?_) fun bs H3 s3 bl bp hD3 => ?_⟩
    · obtain ⟨u, hu, rfl⟩ := rf_get hx
      have hs := sn_get hu
      rw [efu, List.getElem?_map] at hs
      cases hq : ps[j]? with
      | none => rw [hq] at hs; cases hs
      | some q =>
        rw [hq] at hs
        have e : u.2 = prow q := (Option.some.inj hs).symm
        have eu := s3 _ _ (ofu u (List.mem_of_getElem? hu))
        rw [e] at eu
        obtain ⟨n1, n2, n3, n4⟩ := po.nm q (List.mem_of_getElem? hq)
        refine ⟨_, rfl, u.1, _, 1, _, rfl, rfl, SqL.of eu, rfl, _, rfl, u.1, _, 2, _, rfl, rfl, SqL.of eu, rfl, _, rfl, u.1, _, 3, _, rfl, rfl, SqL.of eu, rfl, ?_⟩
        exact fun x dx hx hd ne => Pipe_kp n1 n2 n3 n4 hx hd ne fun H4 s4 pa => kR (x, q) H4 s4 ⟨pa, hq⟩
    · refine ⟨D2, _, rfl, .inl ⟨SqL.of hD3, fun t nt => ?_⟩⟩
      have s4 : Same H3 (upd H3 t (.tup (bs.map fun u => .ref u.1))) := fun b o e => (upd_ne (ne_of_none e nt)).trans e
      refine k t bs _ (fun b o e => s4 b o (s3 b o (s2 b o (s1 b o e)))) ⟨SqT.of upd_same, fun u hu => ?_⟩ (List.ext_getElem? fun j => ?_)
      · obtain ⟨j, hj, e⟩ := List.mem_iff_getElem.mp hu
        exact (bp j u (by rw [List.getElem?_eq_getElem hj, e])).1.ext s4
      · cases e : bs[j]? with
        | some u => rw [sn_get e]; exact (bp j u e).2.symm
        | none =>
          rw [List.getElem?_eq_none_iff] at e
          rw [rf_len, lfu] at bl
          rw [List.getElem?_eq_none (by rw [sn_len]; omega), List.getElem?_eq_none (by omega)]
theorem ok_meters_in {f : Addr} {fd : FuncData} (F : Fun K "_meters_in" "_meters_in" s_meters_in f fd) (T : Blt mg) (T2 : Blt2 mg) (h_rows_in : Fn P w K mg base "_rows_in" 1 ["text"] (Irr sp_rows)) (h_MeterK : MkrK P w K mg base "Meter" CM 3 2 ["sealed"] (Irr (sp_Meter CM)) gM2) : FnOk P w K mg base CX0 5 f fd ["text"] (sp_min K CM) := by
  refine F.ok sc_meters_in (fun vs H Q E h => ?_) (fun cdv A outer s H vs Q E hr h => ?_)
  · obtain ⟨_, _, rfl, _⟩ := h
    rfl
  · obtain ⟨ps, ms, rfl, ok, k⟩ := h
    refine ⟨_, (pss_cons (ps_setLc (i := 1) (own := [("row", 2)]) (g := gName 2) rfl sc_meters_in.nd rfl rfl (sw_true rfl rfl rfl (by decide +kernel)) (pi_list (pe_fn h_rows_in (hr.mono (by decide)) (pa_cons (pv 0) pa_nil))) (blkOk_by (N := sc_meters_in_N) (sc := defScope s_meters_in) (by decide +kernel)) (fun _ _ _ _ _ => pg_name (i := 2) sc_meters_in.nd rfl (Or.inl rfl)) (fun _ _ _ _ _ => pts_one (PW.pt (pw_and (pt_cmpR op_eq (pe_ix ix_listK (pv 2) pe_int (fun _ _ => rfl)) pe_str (nomark _)) (pw_and1 (pt_cmpR (op_inK (K := K)) (pe_callB call_lenK (by rfl) T.b_len (by decide +kernel) (pa_cons (pv 2) pa_nil)) (pe_tup (pa_cons pe_int (pa_cons pe_int pa_nil))) (by rfl)))))) (fun _ _ _ _ _ => (pv 2)))
      (pss_one (ps_ret (pe_callTy call_tuple_of (by rfl) T2.b_tuple (by decide +kernel) (pa_cons (pe_lc (own := [("row", 2)]) (g := gName 2) (tt := tYes) rfl sc_meters_in.nd (pi_list (pv 1)) (blkOk_by (N := sc_meters_in_N) (sc := defScope s_meters_in) (by decide +kernel)) (fun _ _ _ _ _ => pg_name (i := 2) sc_meters_in.nd rfl (Or.inl rfl)) (fun _ _ _ _ _ => pts_nil) (fun _ _ _ _ _ => (pe_mkK h_MeterK (hr.mono (by decide)) (pa_cons (pe_ix ix_listK (pv 2) pe_int (fun _ _ => rfl)) (pa_cons (pe_ix ix_listK (pv 2) pe_int (fun _ _ => rfl)) pa_nil)) (pk_cons (pe_cmpR op_eq (pe_callB call_lenK (by rfl) T.b_len (by decide +kernel) (pa_cons (pv 2) pa_nil)) pe_int (nomark _)) pk_nil)))) pa_nil))))), ?_⟩
    refine ⟨_, rfl, irr ⟨ps, ms, rfl, ok, fun l us H1 s1 rw1 er => ⟨l, rfl, ⟨_, SqL.of rw1.l⟩, fun D nD => ?_⟩⟩⟩
    have hl1 : SqL K H1 l (rf us) := SqL.of rw1.l
    have ul : us.length ≤ 40 := by
      rw [← sn_len, er, rowsL, List.length_append, List.length_map, List.length_map]
      have := ok.pl
      have := ok.ml
      omega
    have row_of : ∀ u ∈ us, (∃ q, u.2 = prow q) ∨ ∃ q, u.2 = mrow q := fun u hu => by
      have : u.2 ∈ rowsL ps ms := by rw [← er]; exact List.mem_map.mpr ⟨u, hu, rfl⟩
      rcases List.mem_append.mp this with h | h
      · obtain ⟨q, _, e⟩ := List.mem_map.mp h
        exact .inl ⟨q, e.symm⟩
      · obtain ⟨q, _, e⟩ := List.mem_map.mp h
        exact .inr ⟨q, e.symm⟩
    refine lc_keep (us := us) (fun u => isM u.2) walk_list nD (by omega) (fun H' s' => hl1.ext s') (fun _ => rfl) (fun u hu H2 s2 R kR => ?_) (fun u hu H2 R r => ⟨_, rfl, r⟩) fun H2 s2 hD => ?_
    · have eu := s2 _ _ (rw1.o u hu)
      rcases row_of u hu with ⟨q, e⟩ | ⟨q, e⟩
      · rw [e] at eu
        have kR' := kR H2 (Same.refl H2)
        rw [e, isM_p] at kR'
        refine ⟨_, rfl, u.1, _, 0, .str "pipe", rfl, rfl, SqL.of eu, rfl, rfl, _, rfl, ite2 (fun h => ?_) fun _ => kR'⟩
        exact absurd (V.str.inj (of_decide_eq_true h)) p_ne_m
      · obtain ⟨r, er, lr⟩ : ∃ r : List Str, mrow q = ("meter" : Str) :: r ∧ (r.length = 2 ∨ r.length = 3) := by
          unfold mrow
          split
          · exact ⟨_, rfl, .inr rfl⟩
          · exact ⟨_, rfl, .inl rfl⟩
        have em : isM u.2 = true := by rw [e, isM_m]
        rw [e, er] at eu
        refine ⟨_, rfl, u.1, _, 0, .str "meter", rfl, rfl, SqL.of eu, atI_nat (j := 0) rfl, rfl, _, rfl, ite2 (fun _ => ?_) fun h => absurd (decide_eq_true rfl) h⟩
        refine ⟨_, rfl, u.1, _, rfl, .inl (SqL.of eu), (by show 2 ≤ sizeLine; decide), fun t nt => ⟨t, _, rfl, .inr (SqT.of upd_same), rfl, rfl, ?_⟩⟩
        have kR' := kR _ (fun b o e => (upd_ne (o := .tup [.int 3, .int 4]) (ne_of_none e nt)).trans e)
        rw [em] at kR'
        have ev : inV (V.int ((List.map V.str (("meter" : Str) :: r)).length : Nat)) [V.int 3, V.int 4] = true := by
          rw [List.length_map, List.length_cons]
          rcases lr with z | z <;> rw [z] <;> rfl
        refine ⟨_, rfl, ?_⟩
        rw [ev]
        exact kR'
    generalize hfu : us.filter (fun u => isM u.2) = fu at hD
    have efu : sn fu = ms.map mrow := by rw [← hfu, sn_filter, er, rows_m]
    have ofu : ∀ u ∈ fu, H2 u.1 = some (.lst (u.2.map V.str)) := fun u hu => s2 _ _ (rw1.o u (List.mem_filter.mp (by rw [hfu]; exact hu : u ∈ us.filter (fun u => isM u.2)) |>.1))
    have lfu : fu.length = ms.length := by rw [← sn_len, efu, List.length_map]
    have hl2 : SqL K H2 D (rf fu) := SqL.of hD
    dsimp only [gName]
    refine ⟨_, rfl, D, rfl, ⟨_, hl2⟩, fun D2 nD2 => lc_new (β := MU) (xs := rf fu) (fun u => .ref u.1) (fun j u H' => MetAt CM H' u.1 u.2 ∧ ms[j]? = some u.2) walk_list nD2 (by rw [rf_len, lfu]; have := ok.ml; omega) (fun H' s' => hl2.ext s') (fun _ => rfl) (fun j u H' H'' s' z => ⟨z.1.ext s', z.2⟩) (fun j u H' acc acc' e z => ⟨z.1.gro e Grow.put, z.2⟩) (fun j x hx H3 s3 hD3 R kR => ?_) fun bs H3 s3 bl bp hD3 => ?_⟩
    · obtain ⟨u, hu, rfl⟩ := rf_get hx
      have hs := sn_get hu
      rw [efu, List.getElem?_map] at hs
      cases hq : ms[j]? with
      | none => rw [hq] at hs; cases hs
      | some q =>
        rw [hq] at hs
        have e : u.2 = mrow q := (Option.some.inj hs).symm
        have eu := s3 _ _ (ofu u (List.mem_of_getElem? hu))
        obtain ⟨n1, n2⟩ := ok.mn q (List.mem_of_getElem? hq)
        obtain ⟨r, er, lr⟩ : ∃ r : List Str, mrow q = ("meter" : Str) :: q.1 :: q.2.1 :: r ∧ decide ((r.length + 3 : Nat) = 4) = q.2.2 := by
          unfold mrow
          split
          · rename_i hz
            exact ⟨_, rfl, by rw [hz]; rfl⟩
          · rename_i hz
            exact ⟨_, rfl, by simp at hz; rw [hz]; rfl⟩
        rw [e, er] at eu
        refine ⟨_, rfl, u.1, _, 1, .str q.1, rfl, rfl, SqL.of eu, atI_nat (j := 1) rfl, _, rfl, u.1, _, 2, .str q.2.1, rfl, rfl, SqL.of eu, atI_nat (j := 2) rfl, ?_⟩
        refine ⟨_, rfl, u.1, _, rfl, .inl (SqL.of eu), rfl, rfl, rfl, ?_⟩
        have ez : decide (V.int ((List.map V.str (("meter" : Str) :: q.1 :: q.2.1 :: r)).length : Nat) = V.int 4) = q.2.2 := by
          rw [← lr, List.length_map, List.length_cons, List.length_cons, List.length_cons]
          refine decide_eq_decide.mpr ⟨fun h => ?_, fun h => ?_⟩
          · have := V.int.inj h
            omega
          · congr 1
            omega
        rw [ez]
        exact fun x dx hx hd ne => Meter_kp n1 n2 hx hd ne fun H4 s4 pa => kR (x, q) H4 s4 ⟨pa, hq⟩
    · refine ⟨D2, _, rfl, .inl ⟨SqL.of hD3, fun t nt => ?_⟩⟩
      have s4 : Same H3 (upd H3 t (.tup (bs.map fun u => .ref u.1))) := fun b o e => (upd_ne (ne_of_none e nt)).trans e
      refine k t bs _ (fun b o e => s4 b o (s3 b o (s2 b o (s1 b o e)))) ⟨SqT.of upd_same, fun u hu => ?_⟩ (List.ext_getElem? fun j => ?_)
      · obtain ⟨j, hj, e⟩ := List.mem_iff_getElem.mp hu
        exact (bp j u (by rw [List.getElem?_eq_getElem hj, e])).1.ext s4
      · cases e : bs[j]? with
        | some u => rw [sn_get e]; exact (bp j u e).2.symm
        | none =>
          rw [List.getElem?_eq_none_iff] at e
          rw [rf_len, lfu] at bl
          rw [List.getElem?_eq_none (by rw [sn_len]; omega), List.getElem?_eq_none (by omega)]
theorem ok_Net_r {f : Addr} {fd : FuncData} (F : Fun K "read" "Net.read" s_Net_read f fd) (T : Blt mg) (h_Net : Mkr P w K mg base "Net" CN 5 (Irr (sp_Net K CN CP CM)) []) (h_pipes_in : Fn P w K mg base "_pipes_in" 5 ["text"] (Irr (sp_pin K CP))) (h_meters_in : Fn P w K mg base "_meters_in" 5 ["text"] (Irr (sp_min K CM))) (h_str : OwnM P w K mg base CN "__str__" 5 (Irr (sp_nstr K CN CP CM))) : FnOk P w K mg base CX0 8 f fd ["cls", "text"] (sp_nread K CN CP CM) := by
  refine F.ok sc_Net_read (fun vs H Q E h => ?_) (fun cdv A outer s H vs Q E hr h => ?_)
  · obtain ⟨_, _, rfl, _⟩ := h
    rfl
  · obtain ⟨ps, ms, rfl, po, mo, k⟩ := h
    refine ⟨_, (pss_cons (ps_if (pt_not (pt_val (pe_callB call_isi (by rfl) T.b_isinstance (by decide +kernel) (pa_cons (pv 1) (pa_cons (pe_bltn (v := .ty "str") (by rfl) T.b_str (by decide +kernel) rfl) pa_nil))))) (pss_one ps_never) pss_nil)
      (pss_cons (ps_try_thru0 (pss_one (ps_set (i := 2) sc_Net_read.nd rfl (Or.inl rfl) (pe_mkL (i := 0) h_Net (hr.mono (by decide)) rfl (Or.inl rfl) (pa_cons (pe_fn h_pipes_in (hr.mono (by decide)) (pa_cons (pv 1) pa_nil)) (pa_cons (pe_fn h_meters_in (hr.mono (by decide)) (pa_cons (pv 1) pa_nil)) pa_nil))))))
      (pss_cons (ps_if (pt_cmpR op_ne (pe_callTy (call_strO h_str (hr.mono (by decide))) (by rfl) T.b_str (by decide +kernel) (pa_cons (pv 2) pa_nil)) (pv 1) (nomark _)) (pss_one ps_never) pss_nil)
      (pss_one (ps_ret (pv 2)))))), ?_⟩
    have ok := TOk.of po mo
    refine ⟨_, rfl, _, _, .type "str", .type "str", true, rfl, .ty _, .base (.str _), kit_ty (by decide +kernel), true, rfl, iteF ?_⟩
    refine ⟨rfl, _, rfl, irr ⟨ps, ms, rfl, ok, po, fun tp pu H1 s1 hp ep => ⟨_, rfl, irr ⟨ps, ms, rfl, ok, fun tm mu H2 s2 hm em => ?_⟩⟩⟩⟩
    have hp2 := hp.ext s2
    refine fun x dx hx hd ne => Net_kp hp2 hm (ep ▸ po) (by rw [ep, em]; exact mo) hx hd ne fun H3 s3 hn => ?_
    rw [ep, em] at hn
    obtain ⟨dx', tp', tm', pu', mu', ex, _⟩ := id hn.ex
    refine ⟨_, rfl, x, dx', _, rfl, ex, irr ⟨x, ps, ms, rfl, hn, ok.pn, ok.mn, ok.pl, ok.ml, fun H4 s4 => ?_⟩⟩
    refine ⟨_, rfl, _, rfl, rfl, _, rfl, ?_⟩
    refine ite2 (fun h => ?_) (fun _ => ?_)
    · simp at h
    exact ⟨_, rfl, k x H4 (fun b o e => s4 b o (s3 b o (s2 b o (s1 b o e)))) (hn.ext s4)⟩
end
end RV
namespace RV
open PySem L2
/-! Net(p, m); Meter(n, a, sealed=z); Net.read(text=t) -/
theorem chainN {f t0 : Addr} {K : PySem.W.Frag} {fd : FuncData} (F : FunD K "__init__" "Net.__init__" (defArgs s_Net___init__) (defBody s_Net___init__) (defScope s_Net___init__) [.ref t0] [] f fd) : ∃ ds, Vals [] ds ∧ Binds K fd ["self", "pipes", "meters"] ds := by
  refine FunD.binds1 F 3 1 (by simp) rfl fun T kV doc pm an cdv ct us its h1 h2 => ?_
  match us, h1, its, h2 with
  | [x, y, z], _, [d], _ => exact ⟨_, rfl, rfl⟩
def gM2' (us ws : List Value) : List Value := match us, ws with
  | [x, n, a], [z] => [x, n, a, z]
  | _, _ => []
theorem gM2_rel {vs : List V} {us : List Value} {zs : List V} {ws : List Value} (r1 : Vals vs us) (r2 : Vals zs ws) : Vals (gM2 vs zs) (gM2' us ws) := by
  cases r1 with
  | nil => cases r2 <;> exact .nil
  | cons a1 r1 =>
    cases r1 with
    | nil => cases r2 <;> exact .nil
    | cons a2 r1 =>
      cases r1 with
      | nil => cases r2 <;> exact .nil
      | cons a3 r1 =>
        cases r1 with
        | cons a4 r1 => cases r2 <;> exact .nil
        | nil =>
          cases r2 with
          | nil => exact .nil
          | cons b r2 =>
            cases r2 with
            | nil => exact .cons a1 (.cons a2 (.cons a3 (.cons b .nil)))
            | cons c r2 => exact .nil
theorem kbM2 {f : Addr} {K : PySem.W.Frag} {fd : FuncData} (F : FunD K "__init__" "Meter.__init__" (defArgs s_Meter___init__) (defBody s_Meter___init__) (defScope s_Meter___init__) [] [("sealed", V.bl false)] f fd) :
    KBn K fd ["self", "name", "at", "sealed"] 3 ["sealed"] gM2' gM2 := by
  refine ⟨fun s us ws X h1 h2 => ?_, gM2_rel⟩
  obtain ⟨oc, od, dV, kV, doc, pm, an, cdv, ct, osl, rfl, lk, hcd, hD, hK⟩ := F.ex
  rcases hD with ⟨_, rfl⟩ | ⟨e, _⟩
  · match us, h1, ws, h2 with
    | [x, n, a], _, [z], _ => exact BindsTo.of_eq rfl
  · exact absurd rfl e
def gR' (us ws : List Value) : List Value := match us, ws with
  | [x], [t] => [x, t]
  | _, _ => []
theorem gR_rel {vs : List V} {us : List Value} {zs : List V} {ws : List Value} (r1 : Vals vs us) (r2 : Vals zs ws) : Vals (gR vs zs) (gR' us ws) := by
  cases r1 with
  | nil => exact .nil
  | cons a r =>
    cases r with
    | cons b r => exact .nil
    | nil =>
      cases r2 with
      | nil => exact .nil
      | cons c r2 =>
        cases r2 with
        | nil => exact .cons a (.cons c .nil)
        | cons d r2 => exact .nil
theorem kbNR {f : Addr} {K : PySem.W.Frag} {fd : FuncData} (F : Fun K "read" "Net.read" s_Net_read f fd) : KBn K fd ["cls", "text"] 1 ["text"] gR' gR := by
  refine ⟨fun s us ws X h1 h2 => ?_, gR_rel⟩
  obtain ⟨oc, od, kV, doc, pm, an, cdv, ct, osl, rfl, lk, hcd⟩ := F.ex
  match us, h1, ws, h2 with
  | [x], _, [t], _ => exact BindsTo.of_eq rfl
end RV
namespace RV
open PySem L2
section
variable {P : Program} {w : World} {K : PySem.W.Frag} {mg : Str → Option Value} {base : Heap}
theorem ok_is_number {f : Addr} {fd : FuncData} (F : Fun K "is_number" "is_number" s_is_number f fd) (T : Blt mg) (T2 : Blt2 mg) : FnOk P w K mg base CX0 1 f fd ["value"] (sp_is_number K) := by
  refine F.ok sc_is_number (fun vs H Q E h => ?_) (fun cdv A outer s H vs Q E hr h => ?_)
  · obtain ⟨_, rfl, _⟩ := h
    rfl
  · obtain ⟨v, rfl, k⟩ := h
    refine ⟨_, (pss_one (ps_ret (pe_and (pe_callB call_isi (by rfl) T.b_isinstance (by decide +kernel) (pa_cons (pv 0) (pa_cons (pe_bltn (v := .ty "int") (by rfl) T.b_int (by decide +kernel) rfl) pa_nil))) (pe_one (pe_not (pe_callB call_isi (by rfl) T.b_isinstance (by decide +kernel) (pa_cons (pv 0) (pa_cons (pe_bltn (v := .ty "bool") (by rfl) T2.b_bool (by decide +kernel) rfl) pa_nil)))))))), ?_⟩
    rcases k with ⟨z, rfl, k⟩ | ⟨b, rfl, k⟩ | ⟨t, ty, kt, k⟩
    · refine ⟨_, rfl, _, _, .type "int", .type "int", true, rfl, .ty _, .base (.int z), kit_ty (by decide +kernel), true, rfl, ?_⟩
      exact iteT ⟨_, rfl, _, _, .type "int", .type "bool", false, rfl, .ty _, .base (.int z), kit_ty (by decide +kernel), false, rfl, k⟩
    · refine ⟨_, rfl, _, _, .type "bool", .type "int", true, rfl, .ty _, .base (.bl b), kit_ty (by decide +kernel), true, rfl, ?_⟩
      exact iteT ⟨_, rfl, _, _, .type "bool", .type "bool", true, rfl, .ty _, .base (.bl b), kit_ty (by decide +kernel), true, rfl, k⟩
    · refine ⟨_, rfl, _, _, t, .type "int", false, rfl, .ty _, ty, kt, false, rfl, ?_⟩
      exact iteF k
theorem ok_is_term {f : Addr} {fd : FuncData} (F : Fun K "_is_term" "_is_term" s_is_term f fd) (T : Blt mg) (T2 : Blt2 mg) (h_is_name : Fn P w K mg base "is_name" 1 ["value"] (Irr (sp_is_name K))) (h_is_number : Fn P w K mg base "is_number" 1 ["value"] (Irr (sp_is_number K))) : FnOk P w K mg base CX0 2 f fd ["value"] (sp_is_term K) := by
  refine F.ok sc_is_term (fun vs H Q E h => ?_) (fun cdv A outer s H vs Q E hr h => ?_)
  · obtain ⟨_, _, _, rfl, _⟩ := h
    rfl
  · obtain ⟨t, x, z, rfl, ht, hx, k⟩ := h
    refine ⟨_, (pss_one (ps_ret (pe_and (pe_callB call_isi (by rfl) T.b_isinstance (by decide +kernel) (pa_cons (pv 0) (pa_cons (pe_bltn (v := .ty "tuple") (by rfl) T2.b_tuple (by decide +kernel) rfl) pa_nil))) (pe_and (pe_cmpR op_eq (pe_callB call_len_seq (by rfl) T.b_len (by decide +kernel) (pa_cons (pv 0) pa_nil)) pe_int (nomark _)) (pe_and (pe_fn h_is_name (hr.mono (by decide)) (pa_cons (pe_ix ix_tup (pv 0) pe_int (fun _ _ => rfl)) pa_nil)) (pe_one (pe_fn h_is_number (hr.mono (by decide)) (pa_cons (pe_ix ix_tup (pv 0) pe_int (fun _ _ => rfl)) pa_nil)))))))), ?_⟩
    refine ⟨_, rfl, _, _, .type "tuple", .type "tuple", true, rfl, .ty _, tyx_tup ht, kit_ty (by decide +kernel), true, rfl, iteT ?_⟩
    refine ⟨_, rfl, t, _, rfl, .inr ht, rfl, _, rfl, ?_⟩
    have hxl : x.length ≤ sizeLine := by rw [cd_len]; exact Nat.le_trans (isNm_len hx).2 (by decide)
    refine iteT ⟨_, rfl, t, _, 0, .str x, rfl, rfl, ht, rfl, irr ⟨_, rfl, .inl ⟨x, rfl, hxl, fun H1 s1 => ⟨true, by rw [show isNm (cd x) = true from hx], ?_⟩⟩⟩⟩
    refine iteT ⟨_, rfl, t, _, 1, .int z, rfl, rfl, ht.ext s1, rfl, irr ⟨_, rfl, .inl ⟨z, rfl, k H1 s1⟩⟩⟩
theorem ok_check_terms {f : Addr} {fd : FuncData} (F : Fun K "_check_terms" "_check_terms" s_check_terms f fd) (T : Blt mg) (T2 : Blt2 mg) (h_is_term : Fn P w K mg base "_is_term" 2 ["value"] (Irr (sp_is_term K))) : FnOk P w K mg base CX0 3 f fd ["terms"] (sp_check_terms K) := by
  refine F.ok sc_check_terms (fun vs H Q E h => ?_) (fun cdv A outer s H vs Q E hr h => ?_)
  · obtain ⟨_, _, rfl, _⟩ := h
    rfl
  · obtain ⟨t, us, rfl, hl, ht, hx, hn, k⟩ := h
    refine ⟨_, (pss_cons (ps_if (pt_not (pt_val (pe_callB call_isi (by rfl) T.b_isinstance (by decide +kernel) (pa_cons (pv 0) (pa_cons (pe_bltn (v := .ty "tuple") (by rfl) T2.b_tuple (by decide +kernel) rfl) pa_nil))))) (pss_one ps_never) pss_nil)
      (pss_one (ps_for PassesOwn.never rfl (pi_enumT (by rfl) T2.b_enumerate (pa_cons (pv 0) pa_nil)) (pg_tup (by rfl) (pgs_cons (pg_name (i := 1) sc_check_terms.nd rfl (Or.inl rfl)) (pgs_cons (pg_name (i := 2) sc_check_terms.nd rfl (Or.inl rfl)) pgs_nil))) (pss_one (ps_if (pt_not (pt_val (pe_fn h_is_term (hr.mono (by decide)) (pa_cons (pv 2) pa_nil)))) (pss_one ps_never) pss_nil))))), ?_⟩
    refine ⟨_, rfl, _, _, .type "tuple", .type "tuple", true, rfl, .ty _, tyx_tup hl, kit_ty (by decide +kernel), true, rfl, iteF ?_⟩
    refine ⟨_, rfl, t, _, rfl, hl, for_enumT (xs := vP us) (fun i σ H' => ∃ o1 o2, σ = [some (.ref t), o1, o2] ∧ Same H H') ⟨none, none, rfl, fun _ _ e => e⟩ ?_ ?_ ?_⟩
    · rintro i σ H1 _ ⟨_, _, _, s1⟩
      exact hl.ext s1
    · rintro i x σ H1 T hx' ⟨o1, o2, rfl, s1⟩ nT
      rw [vP, List.getElem?_map] at hx'
      cases hu : us[i]? with
      | none => rw [hu] at hx'; cases hx'
      | some u =>
        rw [hu] at hx'
        obtain rfl : V.ref u.1 = x := Option.some.inj hx'
        have hm := List.mem_of_getElem? hu
        have s2 : Same H (upd H1 T (.tup [.int (i : Nat), .ref u.1])) := fun b o e => by
          rw [upd_ne (ne_of_none (s1 b o e) nT)]
          exact s1 b o e
        refine ⟨T, _, rfl, SqT.of upd_same, rfl, _, _, rfl, _, _, rfl, rfl, ?_⟩
        refine ⟨_, rfl, irr ⟨u.1, u.2.1, u.2.2, rfl, (ht u hm).ext s2, hx u.2 (List.mem_map.mpr ⟨u, hm, rfl⟩), fun H2 s3 => ⟨true, rfl, ?_⟩⟩⟩
        exact iteF ⟨_, _, rfl, fun b o e => s3 b o (s2 b o e)⟩
    · rintro σ H1 ⟨_, _, _, s1⟩
      exact k H1 s1
end
end RV
namespace RV
open PySem L2
section
variable {P : Program} {w : World} {K : PySem.W.Frag} {mg : Str → Option Value} {base : Heap}
theorem ok_collected {f : Addr} {fd : FuncData} (F : Fun K "_collected" "_collected" s_collected f fd) (T2 : Blt2 mg) : FnOk P w K mg base CX0 1 f fd ["terms"] (sp_collected K) := by
  refine F.ok sc_collected (fun vs H Q E h => ?_) (fun cdv A outer s H vs Q E hr h => ?_)
  · obtain ⟨_, _, rfl, _⟩ := h
    rfl
  · obtain ⟨t, us, rfl, hl, ht, hn, k⟩ := h
    have hu : (A.deeper (PyProof.Rows.envOfC "_collected" (defScope s_collected) s.heap.objs.size f cdv)).units + 1 < cLine := by have := hr.units; omega
    refine ⟨_, (pss_cons (ps_set (i := 1) sc_collected.nd rfl (Or.inr rfl) pe_dnewK)
      (pss_cons (ps_for PassesOwn.never rfl (pi_tup (pv 0)) (pg_tup (by rfl) (pgs_cons (pg_name (i := 2) sc_collected.nd rfl (Or.inl rfl)) (pgs_cons (pg_name (i := 3) sc_collected.nd rfl (Or.inl rfl)) pgs_nil))) (pss_one (ps_dput hu (pv 1) (pv 2) (pe_op op_add (pe_dget2 hu (pv 1) (pv 2) pe_int ⟨by rfl, by rfl, by rfl, by rfl⟩) (pv 3)) (by rfl))))
      (pss_one (ps_ret (pe_callTy call_tuple_of (by rfl) T2.b_tuple (by decide +kernel) (pa_cons (pe_lc (own := [("name", 2)]) (g := gName 2) rfl sc_collected.nd (pi_list (pe_callB (call_sortedD rfl) (by rfl) T2.b_sorted (by decide +kernel) (pa_cons (pv 1) pa_nil))) (blkOk_by (N := sc_collected_N) (sc := defScope s_collected) (by decide +kernel)) (fun _ _ _ _ _ => pg_name (i := 2) sc_collected.nd rfl (Or.inl rfl)) (fun _ _ _ _ _ => pts_one (pt_cmpR op_ne (pe_dget hu (pv 1) (pv 2) (fun _ _ => rfl)) pe_int (nomark _))) (fun _ _ _ _ _ => (pe_tup (pa_cons (pv 2) (pa_cons (pe_dget hu (pv 1) (pv 2) (fun _ _ => rfl)) pa_nil))))) pa_nil)))))), ?_⟩
    intro dl d0
    have h1 := (Kp.start H).new (o := .dK []) d0
    refine ⟨_, rfl, t, rfl, ⟨_, hl.ext h1.sm⟩, for_tup (xs := vP us) (fun i σ H' => ∃ kvs ks o2 o3, σ = [some (.ref t), some (.ref dl), o2, o3] ∧ Dct kvs ((prs us).take i) ks ∧ Kp H [(dl, .dK kvs)] H') ⟨[], [], none, none, rfl, Dct.nil, h1⟩ ?_ ?_ ?_⟩
    · rintro i σ H1 _ ⟨_, _, _, _, _, _, h2⟩
      exact hl.ext h2.sm
    · rintro i x σ H1 hx' ⟨kvs, ks, o2, o3, rfl, hD, h2⟩
      rw [vP, List.getElem?_map] at hx'
      cases hu' : us[i]? with
      | none => rw [hu'] at hx'; cases hx'
      | some u =>
        rw [hu'] at hx'
        obtain rfl : V.ref u.1 = x := Option.some.inj hx'
        have hm := List.mem_of_getElem? hu'
        have et : (prs us).take (i + 1) = (prs us).take i ++ [u.2] := by
          rw [List.take_add_one, prs, List.getElem?_map, hu']
          rfl
        have hat := h2.at (p := dl) (o := .dK kvs) List.mem_cons_self
        refine ⟨u.1, _, rfl, (ht u hm).ext h2.sm, rfl, _, _, rfl, _, _, rfl, rfl, ?_⟩
        refine ⟨_, rfl, dl, rfl, .inl ⟨_, .inl hat⟩, _, rfl, _, DGet.k (k := Sum.inr u.2.1) hat, _, rfl, _, _, hD.get u.2.1, rfl, ?_⟩
        obtain ⟨ks', hD'⟩ := hD.put u.2.1 u.2.2
        refine ⟨_, rfl, _, rfl, dl, _, rfl, DPut.k (k := Sum.inr u.2.1) hat ?_, putK kvs (.inr u.2.1) (.int (co ((prs us).take i) u.2.1 + u.2.2)), ks', _, _, rfl, ?_, h2.reset fun q hq => nomatch hq⟩
        · have e := congrArg List.length hD.keys
          rw [List.length_map, List.length_map] at e
          have e2 := hD.ln
          rw [List.length_take] at e2
          rw [e]
          exact Nat.lt_of_le_of_lt (show ks.length ≤ 120 by have := hn.1; rw [prs_len] at e2 this; omega) (by decide)
        · rw [et]
          exact hD'
    · rintro σ H1 ⟨kvs, ks, o2, o3, rfl, hD, h2⟩
      rw [vP_len, ← prs_len, List.take_length] at hD
      have hln : ks.length ≤ us.length := by rw [← prs_len]; exact hD.ln
      have hat := h2.at (p := dl) (o := .dK kvs) List.mem_cons_self
      have h60 : ks.length ≤ 60 := by
        obtain ⟨_, pool, h2, h3⟩ := hn
        refine Nat.le_trans (nodup_len hD.nd fun y hy => ?_) h2
        obtain ⟨q, hq, e⟩ := List.mem_map.mp ((hD.mem y).mp hy)
        exact e ▸ h3 q hq
      refine ⟨_, rfl, dl, kvs, ks, rfl, .inl hat, hD.keys, by omega, fun xs xl pm sx nxl => ?_⟩
      have nx : xs.Nodup := pm.nodup_iff.mpr hD.nd
      have hx : ∀ y, y ∈ xs ↔ y ∈ (prs us).map fun q => q.1 := fun y => pm.mem_iff.trans (hD.mem y)
      have asc := asc_of sx nx
      have lxu : xs.length ≤ us.length := by rw [pm.length_eq]; exact hln
      have h3 := h2.new (o := .lst (xs.map V.str)) nxl
      refine ⟨xl, rfl, ⟨_, SqL.of upd_same⟩, fun D nD => ?_⟩
      have h4 := h3.new (o := .lst []) nD
      have nDd : D ≠ dl := (ne_of_none (h3.at (p := dl) (o := .dK kvs) (List.mem_cons_of_mem _ List.mem_cons_self)) nD).symm
      have nDx : D ≠ xl := (ne_of_none (h3.at (p := xl) (o := .lst (xs.map V.str)) List.mem_cons_self) nD).symm
      refine lc_list (xs := xs.map V.str) (fun i H' => ∃ (ds : List TP), prs ds = ((xs.take i).map fun x => (x, co (prs us) x)).filter (fun q => !decide (q.2 = 0)) ∧ Kp H ((D, .lst (vP ds)) :: (xl, .lst (xs.map V.str)) :: (dl, .dK kvs) :: lP ds) H') ⟨[], rfl, h4⟩ ?_ ?_ ?_
      · rintro i H5 _ ⟨ds, _, h5⟩
        exact SqL.of (h5.at (List.mem_cons_of_mem _ List.mem_cons_self))
      · rintro i x H5 hxi ⟨ds, hds, h5⟩
        obtain ⟨y, hy, rfl⟩ : ∃ y, xs[i]? = some y ∧ x = V.str y := by
          rw [List.getElem?_map] at hxi
          cases e : xs[i]? with
          | none => rw [e] at hxi; cases hxi
          | some y => rw [e] at hxi; exact ⟨y, rfl, (Option.some.inj hxi).symm⟩
        have et : xs.take (i + 1) = xs.take i ++ [y] := by rw [List.take_add_one, hy]; rfl
        have lds : ds.length ≤ i := by
          rw [← prs_len, hds]
          refine Nat.le_trans (List.length_filter_le _ _) ?_
          rw [List.length_map]
          exact List.length_take_le i xs
        have li := (List.getElem?_eq_some_iff.mp hy).1
        have hv : valV kvs (.inr y) = some (.int (co (prs us) y)) := by
          rw [hD.val, if_pos (pm.mem_iff.mp (List.mem_of_getElem? hy))]
        have dat := h5.at (p := dl) (o := .dK kvs) (List.mem_cons_of_mem _ (List.mem_cons_of_mem _ List.mem_cons_self))
        have e3 : ∀ b, (!decide (co (prs us) y = 0)) = b → ((xs.take (i + 1)).map fun x => (x, co (prs us) x)).filter (fun q => !decide (q.2 = 0)) = prs ds ++ if b = true then [(y, co (prs us) y)] else [] := fun b hb => by
          rw [et, List.map_append, List.filter_append, ← hds]
          cases b <;> simp [List.filter_cons, hb]
        have dg : ∀ H', H' dl = some (.dK kvs) → DGet H' dl (.str y) (some (.int (co (prs us) y))) := fun H' e => hv ▸ DGet.k (k := Sum.inr y) e
        refine ⟨rfl, _, rfl, _, rfl, dl, _, rfl, dg _ dat, rfl, _, rfl, ?_⟩
        have dz : (!decide (V.int (co (prs us) y) = V.int 0)) = !decide (co (prs us) y = 0) := by simp
        rw [dz]
        refine ite2 (fun hz => ?_) (fun hz => ?_)
        · refine ⟨_, rfl, _, rfl, _, rfl, dl, _, rfl, dg _ dat, (by show 2 ≤ sizeLine; decide), fun T nT => ?_⟩
          have h7 := (h5.new (o := oP (y, co (prs us) y)) nT).sub (L' := (D, HO.lst (vP ds)) :: (xl, .lst (xs.map V.str)) :: (dl, .dK kvs) :: lP (ds ++ [(T, y, co (prs us) y)])) fun q hq => by
            rw [lP_app] at hq
            simp only [List.mem_cons, List.mem_append, lP, List.map_cons, List.map_nil, List.not_mem_nil, or_false] at hq ⊢
            rcases hq with q | q | q | q | q
            · exact .inr (.inl q)
            · exact .inr (.inr (.inl q))
            · exact .inr (.inr (.inr (.inl q)))
            · exact .inr (.inr (.inr (.inr q)))
            · exact .inl q
          refine ⟨_, h7.at List.mem_cons_self, ?_, ds ++ [(T, y, co (prs us) y)], ?_, ?_⟩
          · rw [vP_len]
            exact Nat.lt_of_le_of_lt (show ds.length ≤ 121 by have := hn.1; rw [prs_len] at this; omega) (by decide)
          · rw [prs_app, e3 true hz]
            rfl
          · rw [vP_app]
            refine h7.reset fun q hq => ?_
            rcases List.mem_cons.mp hq with rfl | hq'
            · exact nDx.symm
            rcases List.mem_cons.mp hq' with rfl | hq''
            · exact nDd.symm
            · obtain ⟨u, hu, rfl⟩ := List.mem_map.mp hq''
              exact h7.apart (List.mem_cons_of_mem _ hq) List.mem_cons_self (fun e => nomatch e)
        · refine ⟨ds, ?_, h5⟩
          rw [e3 false (Bool.eq_false_iff.mpr hz)]
          simp
      · rintro H5 ⟨ds, hds, h5⟩
        rw [List.length_map, List.take_length] at hds
        refine ⟨D, _, rfl, .inl ⟨SqL.of (h5.at List.mem_cons_self), fun m nm => ?_⟩⟩
        refine k ds m _ ?_ ?_ ?_ ?_ ((h5.new (o := .tup (vP ds)) nm).sub fun p hp => ?_)
        · rw [hds]; exact nrm_of asc
        · intro x
          rw [hds]
          exact nrm_co asc (fun y hy => co_none fun q hq e => hy ((hx y).2 (List.mem_map.mpr ⟨q, hq, e⟩))) x
        · intro q hq
          rw [hds] at hq
          obtain ⟨y, hy, rfl⟩ := List.mem_map.mp (List.mem_filter.mp hq).1
          exact (hx y).1 hy
        · rw [← prs_len, hds]
          refine Nat.le_trans (List.length_filter_le _ _) ?_
          rw [List.length_map]
          exact lxu
        · rcases List.mem_cons.mp hp with e | e
          · exact e ▸ List.mem_cons_self
          · exact List.mem_cons_of_mem _ (List.mem_cons_of_mem _ (List.mem_cons_of_mem _ (List.mem_cons_of_mem _ e)))
end
end RV
namespace RV
open PySem L2
section
variable {P : Program} {w : World} {K : PySem.W.Frag} {mg : Str → Option Value} {base : Heap} {C : Addr}
theorem ok_Sum_i {f : Addr} {fd : FuncData} {pds : List V} {kws : List (Str × V)} (F : FunD K "__init__" "Sum.__init__" (defArgs s_Sum___init__) (defBody s_Sum___init__) (defScope s_Sum___init__) pds kws f fd) (T : SClass K mg C) (h_check_terms : Fn P w K mg base "_check_terms" 3 ["terms"] (Irr (sp_check_terms K))) (h_collected : Fn P w K mg base "_collected" 1 ["terms"] (Irr (sp_collected K))) : FnOk P w K mg base CX0 4 f fd ["self", "terms"] (sp_Sum K C) := by
  refine F.ok sc_Sum___init__ (fun vs H Q E h => ?_) (fun cdv A outer s H vs Q E hr h => ?_)
  · obtain ⟨_, _, _, _, rfl, _⟩ := h
    rfl
  · obtain ⟨x, dx, t, us, rfl, hx, ht, k⟩ := h
    refine ⟨_, (pss_cons (ps_expr (pe_fn h_check_terms (hr.mono (by decide)) (pa_cons (pv 1) pa_nil)))
      (pss_one (ps_fld (pv 0) (pe_fn h_collected (hr.mono (by decide)) (pa_cons (pv 1) pa_nil)) rfl))), ?_⟩
    refine ⟨_, rfl, irr ⟨t, us, rfl, ht.tp, ht.ps, ht.nm, by rw [← prs_len]; exact ht.ln.1, fun H1 s1 => ?_⟩⟩
    refine ⟨_, rfl, irr ⟨t, us, rfl, ht.tp.ext s1, ht.ps.ext s1, ht.ln, fun ds m H2 n1 n2 n3 n4 kp => ?_⟩⟩
    have hx2 := kp.sm _ _ (s1 _ _ hx)
    refine ⟨_, rfl, x, C, dx, _, rfl, hx2, T.x.cl, T.n1, (by show 0 < 1000; decide), ?_⟩
    refine k ds m dx _ ⟨n1, n2, n3, by rw [prs_len, prs_len]; exact n4⟩ (fun b o hb e => by rw [upd_ne hb]; exact kp.sm _ _ (s1 _ _ e)) (fun p hp => ?_) fun p hp => ?_
    · cases e : H p.1 with
      | none => rfl
      | some o =>
        have := s1 _ _ e
        rw [(kp.nw p hp).1] at this
        cases this
    · rcases List.mem_cons.mp hp with rfl | hp
      · exact upd_same
      · have hne : p.1 ≠ x := (ne_of_none (s1 _ _ hx) (kp.nw p hp).1).symm
        rw [upd_ne hne]
        exact (kp.nw p hp).2
theorem ok_Sum_t {f : Addr} {fd : FuncData} (F : Fun K "terms" "Sum.terms" s_Sum_terms f fd) (T : SClass K mg C) : FnOk P w K mg base CX0 1 f fd ["self"] (sp_terms C) := by
  refine F.ok sc_Sum_terms (fun vs H Q E h => ?_) (fun cdv A outer s H vs Q E hr h => ?_)
  · obtain ⟨_, _, _, _, rfl, _⟩ := h
    rfl
  · obtain ⟨a, dx, t, us, rfl, hs, k⟩ := h
    refine ⟨_, (pss_one (ps_ret (pe_fld (pv 0) rfl))), ?_⟩
    exact ⟨_, rfl, a, C, dx, _, _, rfl, hs _ List.mem_cons_self, T.x.cl, T.n1, rfl, k⟩
theorem ok_Sum_g {f : Addr} {fd : FuncData} (F : Fun K "__getitem__" "Sum.__getitem__" s_Sum___getitem__ f fd) (T : SClass K mg C) (h_is_name : Fn P w K mg base "is_name" 1 ["value"] (Irr (sp_is_name K))) : FnOk P w K mg base CX0 2 f fd ["self", "at"] (sp_get C) := by
  refine F.ok sc_Sum___getitem__ (fun vs H Q E h => ?_) (fun cdv A outer s H vs Q E hr h => ?_)
  · obtain ⟨_, _, _, rfl, _⟩ := h
    rfl
  · obtain ⟨a, x, qs, rfl, hx, ⟨dx, t, us, rfl, hs⟩, hn, k⟩ := h
    refine ⟨_, (pss_cons (ps_if (pt_not (pt_val (pe_fn h_is_name (hr.mono (by decide)) (pa_cons (pv 1) pa_nil)))) (pss_one ps_never) pss_nil)
      (pss_cons (ps_for PassesOwn.never rfl (pi_tup (pe_fld (pv 0) rfl)) (pg_tup (by rfl) (pgs_cons (pg_name (i := 2) sc_Sum___getitem__.nd rfl (Or.inl rfl)) (pgs_cons (pg_name (i := 3) sc_Sum___getitem__.nd rfl (Or.inl rfl)) pgs_nil))) (pss_one (ps_if (pt_cmpR op_eq (pv 2) (pv 1) (nomark _)) (pss_one (ps_ret (pv 3))) pss_nil)))
      (pss_one (ps_ret pe_int)))), ?_⟩
    have hxl : x.length ≤ sizeLine := by rw [cd_len]; exact Nat.le_trans (isNm_len hx).2 (by decide)
    refine ⟨_, rfl, irr ⟨_, rfl, .inl ⟨x, rfl, hxl, fun H1 s1 => ⟨true, by rw [show isNm (cd x) = true from hx], iteF ?_⟩⟩⟩⟩
    have hs1 : ∀ p ∈ lS C a dx t us, H1 p.1 = some p.2 := fun p hp => s1 _ _ (hs p hp)
    have st : SqT K H1 t (vP us) := SqT.of (hs1 _ (List.mem_cons_of_mem _ List.mem_cons_self))
    refine ⟨_, rfl, a, C, dx, _, _, rfl, hs1 _ List.mem_cons_self, T.x.cl, T.n1, rfl, t, rfl, ⟨_, st⟩, for_tup (xs := vP us) (fun i σ H' => H' = H1 ∧ (∃ o2 o3, σ = [some (.ref a), some (.str x), o2, o3]) ∧ ∀ q ∈ (prs us).take i, q.1 ≠ x) ⟨rfl, ⟨none, none, rfl⟩, fun q hq => nomatch hq⟩ ?_ ?_ ?_⟩
    · rintro i σ H2 _ ⟨rfl, _⟩
      exact st
    · rintro i y σ H2 hy ⟨rfl, ⟨o2, o3, rfl⟩, hb⟩
      rw [vP, List.getElem?_map] at hy
      cases hu : us[i]? with
      | none => rw [hu] at hy; cases hy
      | some u =>
        rw [hu] at hy
        obtain rfl : V.ref u.1 = y := Option.some.inj hy
        have hm := List.mem_of_getElem? hu
        have hq : u.2 ∈ prs us := List.mem_map.mpr ⟨u, hm, rfl⟩
        have et : (prs us).take (i + 1) = (prs us).take i ++ [u.2] := by
          rw [List.take_add_one, prs, List.getElem?_map, hu]
          rfl
        refine ⟨u.1, _, rfl, SqT.of (hs1 _ (List.mem_cons_of_mem _ (List.mem_cons_of_mem _ (List.mem_map.mpr ⟨u, hm, rfl⟩)))), rfl, _, _, rfl, _, _, rfl, rfl, ?_⟩
        refine ⟨_, rfl, _, rfl, rfl, _, rfl, ?_⟩
        refine ite2 (fun h => ?_) (fun h => ?_)
        · have e : u.2.1 = x := V.str.inj (of_decide_eq_true h)
          refine ⟨_, rfl, ?_⟩
          have := k H2 s1
          rw [← e, hn.co hq] at this
          exact this
        · refine ⟨rfl, ⟨_, _, rfl⟩, fun q hq' => ?_⟩
          rw [et] at hq'
          rcases List.mem_append.mp hq' with z | z
          · exact hb q z
          · rw [List.mem_singleton.mp z]
            exact fun e => h (decide_eq_true (congrArg V.str e))
    · rintro σ H2 ⟨rfl, ⟨o2, o3, rfl⟩, hb⟩
      rw [vP_len, ← prs_len, List.take_length] at hb
      have := k H2 s1
      rw [co_none hb] at this
      exact this
end
end RV
namespace RV
open PySem L2
/-! ### Sum(), Sum(t), Sum(terms=t) -/
abbrev FSum (K : PySem.W.Frag) (t0 f : Addr) (fd : FuncData) : Prop := FunD K "__init__" "Sum.__init__" (defArgs s_Sum___init__) (defBody s_Sum___init__) (defScope s_Sum___init__) [.ref t0] [] f fd
theorem chainA {f t0 : Addr} {K : PySem.W.Frag} {fd : FuncData} (F : FSum K t0 f fd) : ∃ ds, Vals [V.ref t0] ds ∧ Binds K fd ["self", "terms"] ds := by
  refine FunD.binds1 F 1 0 (by simp) rfl fun T kV doc pm an cdv ct us its h1 h2 => ?_
  match us, h1, its, h2 with
  | [x], _, [d], _ => exact ⟨_, rfl, rfl⟩
theorem chainB {f t0 : Addr} {K : PySem.W.Frag} {fd : FuncData} (F : FSum K t0 f fd) : ∃ ds, Vals [] ds ∧ Binds K fd ["self", "terms"] ds := by
  refine FunD.binds1 F 2 1 (by simp) rfl fun T kV doc pm an cdv ct us its h1 h2 => ?_
  match us, h1, its, h2 with
  | [x, y], _, [d], _ => exact ⟨_, rfl, rfl⟩
def gS' (us ws : List Value) : List Value := match us, ws with
  | [x], [t] => [x, t]
  | _, _ => []
end RV
namespace RV
open PySem L2 StX
section
variable {P : Program} {w : World} {K : PySem.W.Frag} {mg : Str → Option Value} {base : Heap} {C : Addr}
theorem ok_Sum_of {f : Addr} {fd : FuncData} (F : Fun K "of" "Sum.of" s_Sum_of f fd) (T2 : Blt2 mg) (h_is_name : Fn P w K mg base "is_name" 1 ["value"] (Irr (sp_is_name K))) (h_Sum : Mkr P w K mg base "Sum" C 4 (Irr (sp_Sum K C)) []) : FnR P w K mg base CX0 6 f (sp_of C) := by
  obtain ⟨oc, od, kV, doc, pm, an, cdv, ct, osl, rfl, lk, hcd⟩ := F.ex
  have st := fn_star (P := P) (w := w) (mg := mg) (base := base) (k := 5) (ps := ["cls"]) (pv := "names") (sp := sp_ofB K C) (CX := CX0) lk hcd sc_Sum_of cxUp_none
    (bind_star1 (B := fun l => bindArgs (PySem.W.fnOf "of" "Sum.of" (defArgs s_Sum_of) (defBody s_Sum_of) (defScope s_Sum_of) .none kV doc pm an cdv ct) ⟨l, []⟩) (p1 := "cls") (pv := "names") (fun a => rfl) (fun a r rs => rfl)) (fun A outer s H vs Q E hr h => ?_)
  · refine st.imp fun vs H Q E z => ?_
    obtain ⟨ns, rfl, hn, hl, k⟩ := z
    refine ⟨[.ref C], ns.map V.str, rfl, rfl, by rw [List.length_map]; exact Nat.le_trans hl (by decide), fun p np => ⟨p, ns, rfl, SqT.of upd_same, hn, hl, fun x dx m ds H' md kp => k x dx m ds H' md ?_⟩⟩
    have s1 : Same H (upd H p (.tup (ns.map V.str))) := fun b o e => by rw [upd_ne (ne_of_none e np)]; exact e
    refine ⟨fun b o e => kp.sm b o (s1 b o e), fun q hq => ⟨?_, (kp.nw q hq).2⟩⟩
    cases e : H q.1 with
    | none => rfl
    | some o =>
      have z := s1 _ _ e
      rw [(kp.nw q hq).1] at z
      cases z
  · obtain ⟨p, ns, rfl, hp, hn, hl, k⟩ := h
    refine ⟨_, PSs.nox (pss_cons (ps_for PassesOwn.never rfl (pi_tup (pv 1)) (pg_name (i := 2) sc_Sum_of.nd rfl (Or.inl rfl)) (pss_one (ps_if (pt_not (pt_val (pe_fn h_is_name (hr.mono (by decide)) (pa_cons (pv 2) pa_nil)))) (pss_one ps_never) pss_nil)))
      (pss_one (ps_ret (pe_mkL (i := 0) h_Sum (hr.mono (by decide)) rfl (Or.inl rfl) (pa_cons (pe_callTy call_tuple_of (by rfl) T2.b_tuple (by decide +kernel) (pa_cons (pe_lc (own := [("name", 2)]) (g := gName 2) (tt := tYes) rfl sc_Sum_of.nd (pi_tup (pv 1)) (blkOk_by (N := sc_Sum_of_N) (sc := defScope s_Sum_of) (by decide +kernel)) (fun _ _ _ _ _ => pg_name (i := 2) sc_Sum_of.nd rfl (Or.inl rfl)) (fun _ _ _ _ _ => pts_nil) (fun _ _ _ _ _ => (pe_tup (pa_cons (pv 2) (pa_cons pe_int pa_nil))))) pa_nil)) pa_nil))))), ?_⟩
    refine ⟨_, rfl, p, rfl, ⟨_, hp⟩, for_tup (xs := ns.map V.str) (fun i σ H' => Same H H' ∧ ∃ o, σ = [some (.ref C), some (.ref p), o]) ⟨Same.refl H, none, rfl⟩ (fun i σ H' _ z => hp.ext z.1) ?_ ?_⟩
    · rintro i y σ H1 hy ⟨s1, o, rfl⟩
      obtain ⟨x, hx, rfl⟩ := List.mem_map.mp (List.mem_of_getElem? hy)
      have inm := hn x hx
      have lx : x.length ≤ sizeLine := by rw [cd_len]; exact Nat.le_trans (isNm_len inm).2 (by decide)
      exact ⟨_, rfl, irr ⟨_, rfl, .inl ⟨x, rfl, lx, fun H2 s2 => ⟨true, congrArg V.bl inm, iteF ⟨fun b o e => s2 b o (s1 b o e), _, rfl⟩⟩⟩⟩⟩
    · rintro σ H1 ⟨s1, o, rfl⟩
      refine ⟨rfl, _, rfl, p, rfl, ⟨_, hp.ext s1⟩, fun D nD => lc_tup (xs := ns.map V.str) (fun i H' => ∃ ws : List TP, prs ws = ones (ns.take i) ∧ Kp H1 (lP ws) H' ∧ H' D = some (.lst (vP ws)))
        ⟨[], by simp [prs, ones], (Kp.start H1).put nD fun _ hp => (nomatch hp), upd_same⟩ (fun i H' _ z => ?_) ?_ ?_⟩
      · obtain ⟨_, _, kp, _⟩ := z
        exact hp.ext fun b o e => kp.sm b o (s1 b o e)
      · rintro i y Ha hy ⟨ws, hw1, kp, eD⟩
        have hi : i < ns.length := by
          have := (List.getElem?_eq_some_iff.mp hy).1
          rwa [List.length_map] at this
        rw [List.getElem?_map, List.getElem?_eq_getElem hi] at hy
        obtain rfl : V.str ns[i] = y := Option.some.inj hy
        have wl : ws.length = i := by
          have := congrArg List.length hw1
          rw [prs_len, ones, List.length_map, List.length_take] at this
          omega
        have e0 : ∀ (σ : L2.St) (H : Hp) (R : Bool → Hp → Prop), R true H → tYes σ H R := fun _ _ _ r => r
        refine ⟨rfl, e0 _ _ _ ?_⟩
        simp only [↓reduceIte]
        refine ⟨_, rfl, (by show 2 ≤ sizeLine; decide), fun t nt => ?_⟩
        have eT : upd Ha t (oP (ns[i], 1)) D = some (.lst (vP ws)) := by rw [upd_ne (ne_of_none eD nt)]; exact eD
        have kT : Kp H1 (lP (ws ++ [(t, ns[i], 1)])) (upd Ha t (oP (ns[i], 1))) := (kp.new (o := oP (ns[i], 1)) nt).sub fun p hp => by
          rw [lP_app] at hp
          rcases List.mem_append.mp hp with hp | hp
          · exact List.mem_cons_of_mem _ hp
          · rw [List.mem_singleton.mp hp]
            exact List.mem_cons_self
        refine ⟨_, eT, ?_, ws ++ [(t, ns[i], 1)], ?_, kT.put nD (Kp.off kT eT), ?_⟩
        · rw [vP_len, wl]
          exact Nat.lt_of_lt_of_le (show i < 1001 by omega) (by decide)
        · rw [prs_app, hw1, List.take_add_one, List.getElem?_eq_getElem hi, ones, ones, List.map_append]
          rfl
        · rw [upd_same, vP_app]
          rfl
      · rintro H2 ⟨ws, hw1, kp, eD⟩
        rw [List.length_map, List.take_length] at hw1
        have wl : ws.length = ns.length := by
          have := congrArg List.length hw1
          rwa [prs_len, ones, List.length_map] at this
        refine ⟨D, vP ws, rfl, .inl ⟨SqL.of eD, fun m nm => ?_⟩⟩
        have k2 := kp.new (o := .tup (vP ws)) nm
        have wn : ∀ q ∈ prs ws, IsNm q.1 := by
          rw [hw1]
          intro q hq
          obtain ⟨x, hx, rfl⟩ := List.mem_map.mp hq
          exact hn x hx
        refine fun x dx' hx hd ne => Sum_kp (us := ws) ⟨SqT.of upd_same, fun u hu => SqT.of (k2.at (List.mem_cons_of_mem _ (List.mem_map.mpr ⟨u, hu, rfl⟩))), wn, by omega⟩ hx hd ne fun ds m2 dx2 H3 md k3 => ?_
        refine k x dx2 m2 ds H3 (by rw [hw1] at md; exact md) ⟨fun b o e => k3.sm b o (k2.sm b o (s1 b o e)), fun p hp => ⟨?_, (k3.nw p hp).2⟩⟩
        have z1 := k2.none0 (k3.nw p hp).1
        cases e : H p.1 with
        | none => rfl
        | some o =>
          have z := s1 _ _ e
          rw [z1] at z
          cases z
end
end RV
namespace RV
open PySem L2
theorem cutV_intS (ns : List Int) (a b : Option Int) : ∃ ms : List Int, cutV (ns.map V.int) a b = ms.map V.int ∧ ms.length ≤ ns.length := by
  unfold cutV
  rw [List.length_map, ← List.map_drop, ← List.map_take]
  refine ⟨_, rfl, ?_⟩
  rw [List.length_take, List.length_drop]
  omega
section
variable {P : Program} {w : World} {K : PySem.W.Frag} {mg : Str → Option Value} {base : Heap}
/-- the well of the laws over scripts -/
theorem ok_well2 {f : Addr} {fd : FuncData} (F : Fun K "_law_well" "_law_well" s_well f fd) (T : Blt mg) : FnOk P w K mg base CX0 1 f fd ["_law_script", "_law_k"] (sp_well K) := by
  refine F.ok sc_well (fun vs H Q E h => ?_) (fun cdv A outer s H vs Q E hr h => ?_)
  · obtain ⟨_, _, _, rfl, _⟩ := h
    rfl
  · obtain ⟨c, ns, i, rfl, hS, hl, hi, k⟩ := h
    refine ⟨_, (pss_cons (ps_set (i := 2) sc_well.nd rfl (Or.inl rfl) (pe_ifExp (pt_cmpR op_lt (pv 1) (pe_callB call_len_seq (by rfl) T.b_len (by decide +kernel) (pa_cons (pv 0) pa_nil)) (nomark _)) (pe_ix ix_list (pv 0) (pv 1) (fun _ _ => rfl)) pe_int))
      (pss_cons (ps_set (i := 3) sc_well.nd rfl (Or.inl rfl) (pe_op op_add pe_int (pe_op op_mul pe_int (pv 1))))
      (pss_cons (ps_for PassesOwn.never rfl (pi_list (pe_slice sl_list (pv 0) po_none (po_some pe_int))) (pg_name (i := 4) sc_well.nd rfl (Or.inl rfl)) (pss_one (ps_set (i := 3) sc_well.nd rfl (Or.inl rfl) (pe_op op_mod (pe_callTy call_int1 (by rfl) T.b_int (by decide +kernel) (pa_cons (pe_op op_add (pe_op op_add (pe_op op_mul (pv 3) pe_int) (pe_op op_mod (pe_callTy call_int1 (by rfl) T.b_int (by decide +kernel) (pa_cons (pv 4) pa_nil)) pe_int)) pe_int) pa_nil)) pe_int))))
      (pss_cons (ps_set (i := 3) sc_well.nd rfl (Or.inl rfl) (pe_op op_mod (pe_callTy call_int1 (by rfl) T.b_int (by decide +kernel) (pa_cons (pe_op op_add (pe_op op_add (pe_op op_mul (pv 3) pe_int) (pe_op op_mod (pe_callTy call_int1 (by rfl) T.b_int (by decide +kernel) (pa_cons (pv 2) pa_nil)) pe_int)) pe_int) pa_nil)) pe_int))
      (pss_one (ps_ret (pe_lst (pa_cons (pv 3) (pa_cons (pe_ifExp (pt_cmpR op_ge (pe_callB call_abs (by rfl) T.b_abs (by decide +kernel) (pa_cons (pv 2) pa_nil)) (pe_op op_pow pe_int pe_int) (nomark _)) (pe_callB call_abs (by rfl) T.b_abs (by decide +kernel) (pa_cons (pv 2) pa_nil)) pe_int) (pa_cons pe_int pa_nil)))))))))), ?_⟩
    refine seq_of (fun σ' H' => ∃ z : Int, σ' = [some (.ref c), some (.int i), some (.int z), none, none] ∧ H' = H) ?rest (fun N hN => ?main)
    case main =>
      refine tif_int (b := decide ((i : Int) < ns.length)) (fun R r => ⟨_, rfl, _, rfl, c, _, rfl, .inl hS, _, _, rfl, rfl, _, rfl, by rw [List.length_map]; exact r⟩) (fun hb => ?_) (fun hb => ?_) (fun z => hN _ _ ⟨z, rfl, rfl⟩)
      · have hlt : (i : Int) < ns.length := of_decide_eq_true hb
        have hlt' : i < ns.length := by omega
        exact ⟨ns[i], fun R r => ⟨_, rfl, _, rfl, c, _, _, _, rfl, rfl, hS, atI_nat (by rw [List.getElem?_map, List.getElem?_eq_getElem hlt']; rfl), r⟩⟩
      · exact ⟨0, fun R r => r⟩
    rintro σ1 H1 ⟨z, rfl, rfl⟩
    refine ⟨_, rfl, _, _, rfl, rfl, .inl ⟨by decide, by decide⟩, _, _, rfl, rfl, ?_⟩
    dsimp only [gName]
    refine ⟨_, rfl, _, rfl, c, _, rfl, hS, fun p np => ?_⟩
    obtain ⟨ms, em, lm⟩ := cutV_intS ns none (some 4)
    rw [em]
    have s1 : Same H1 (upd H1 p (.lst (ms.map V.int))) := fun b o e => (upd_ne (ne_of_none e np)).trans e
    have hp : SqL K (upd H1 p (.lst (ms.map V.int))) p (ms.map V.int) := SqL.of upd_same
    revert s1 hp
    generalize upd H1 p (.lst (ms.map V.int)) = H2
    intro s1 hp
    refine ⟨p, rfl, ⟨_, hp⟩, for_list (K := K) (a := p) (xs := ms.map V.int) (fun j σ H' => H' = H2 ∧ ∃ (y : Int) (o : Option V), σ = [some (.ref c), some (.int i), some (.int z), some (.int y), o]) ⟨rfl, _, none, rfl⟩ (fun j σ H' _ h => by rw [h.1]; exact hp) ?_ ?_⟩
    · rintro j y σ H' hj ⟨rfl, y', o, rfl⟩
      obtain ⟨u, rfl⟩ : ∃ u, y = V.int u := by
        rw [List.getElem?_map] at hj
        cases e : ms[j]? with
        | none => rw [e] at hj; cases hj
        | some u => rw [e] at hj; exact ⟨u, (Option.some.inj hj).symm⟩
      dsimp only [gName]
      exact ⟨_, rfl, _, _, rfl, rfl, .inr ⟨by decide, by decide⟩, _, rfl, .inl ⟨_, rfl, _, _, rfl, rfl, (by show (0 : Int) < 2147483587; decide), _, _, rfl, rfl, _, _, rfl, rfl, .inl ⟨_, rfl, _, _, rfl, rfl, (by show (0 : Int) < 2147483629; decide), rfl, _, _, rfl⟩⟩⟩
    · rintro σ H' ⟨rfl, y, o, rfl⟩
      refine ⟨_, rfl, _, _, rfl, rfl, .inr ⟨by decide, by decide⟩, _, rfl, .inl ⟨_, rfl, _, _, rfl, rfl, (by show (0 : Int) < 2147483579; decide), _, _, rfl, rfl, _, _, rfl, rfl, .inl ⟨_, rfl, _, _, rfl, rfl, (by show (0 : Int) < 2147483629; decide), ?_⟩⟩⟩
      dsimp only [gName]
      generalize hx : (y * 69621 + z % 2147483579 + 5) % 2147483629 = x
      have hx0 : 0 ≤ x ∧ x < 2147483629 := by subst hx; omega
      refine ⟨_, rfl, _, rfl, _, rfl, _, _, rfl, rfl, ⟨by decide, by decide, by decide⟩, _, _, rfl, rfl, _, rfl, ?_⟩
      have out : ∀ y : Int, 0 ≤ y → ∀ p, H' p = none → Q (.ref p) (upd H' p (.lst [.int x, .int y, .int 0])) := fun y hy q nq =>
        k q _ (by
          cases e : H1 q with
          | none => rfl
          | some o => rw [s1 _ _ e] at nq; cases nq) (fun b o e => (upd_ne (ne_of_none (s1 b o e) nq)).trans (s1 b o e)) ⟨_, _, _, upd_same, hx0, hy, by omega⟩
      have hz : (0 : Int) ≤ if z < 0 then -z else z := by split <;> omega
      refine ite2 (fun _ => ?_) (fun _ => ?_)
      · exact ⟨_, rfl, _, rfl, (by show 3 ≤ sizeLine; decide), out _ hz⟩
      · exact ⟨(by show 3 ≤ sizeLine; decide), out _ (by decide)⟩
theorem ok_dip2 {f : Addr} {fd : FuncData} (F : Fun K "_law_dip" "_law_dip" s_dip f fd) (T : Blt mg) : FnOk P w K mg base CX0 1 f fd ["_law_well_here", "_law_many"] sp_dip := by
  refine F.ok sc_dip (fun vs H Q E h => ?_) (fun cdv A outer s H vs Q E hr h => ?_)
  · obtain ⟨_, _, _, rfl, _⟩ := h
    rfl
  · obtain ⟨a, m, n, rfl, ⟨x, y, z, e, hx, hy, hz⟩, hn, hm, hm2, k⟩ := h
    refine ⟨_, (pss_cons (ps_if (pt_cmpR op_gt (pe_ix ix_list (pv 0) pe_int (fun _ _ => rfl)) pe_int (nomark _)) (pss_cons (ps_asg (pe_callB call_divmodW (by rfl) T.b_divmod (by decide +kernel) (pa_cons (pe_ix ix_list (pv 0) pe_int (fun _ _ => rfl)) (pa_cons (pv 1) pa_nil))) (pg_tup (by rfl) (pgs_cons (pg_sub (pv 0) pe_int set_list) (pgs_cons (pg_name (i := 2) sc_dip.nd rfl (Or.inl rfl)) pgs_nil)))) (pss_one (ps_ret (pv 2)))) pss_nil)
      (pss_cons (ps_asg (pe_op op_add (pe_ix ix_list (pv 0) pe_int (fun _ _ => rfl)) pe_int) (pg_sub (pv 0) pe_int set_list))
      (pss_cons (ps_asg (pe_op op_mod (pe_callTy call_int1 (by rfl) T.b_int (by decide +kernel) (pa_cons (pe_op op_add (pe_op op_add (pe_op op_mul (pe_ix ix_list (pv 0) pe_int (fun _ _ => rfl)) pe_int) (pe_op op_mul (pe_op op_mul pe_int (pe_ix ix_list (pv 0) pe_int (fun _ _ => rfl))) (pe_ix ix_list (pv 0) pe_int (fun _ _ => rfl)))) pe_int) pa_nil)) pe_int) (pg_sub (pv 0) pe_int set_list))
      (pss_one (ps_ret (pe_op op_mod (pe_callTy call_int1 (by rfl) T.b_int (by decide +kernel) (pa_cons (pe_op op_fdiv (pe_ix ix_list (pv 0) pe_int (fun _ _ => rfl)) pe_int) pa_nil)) (pv 1))))))), ?_⟩
    refine ⟨_, rfl, a, _, 1, _, rfl, rfl, SqL.of e, rfl, _, _, rfl, rfl, _, rfl, ?_⟩
    refine ite2 (fun hp => ?_) (fun _ => ?_)
    · refine ⟨_, rfl, a, _, 1, _, rfl, rfl, SqL.of e, rfl, _, rfl, _, _, rfl, ⟨hm, ?_⟩, fun p np => ?_⟩
      · refine PyProof.noPylong_of_log2 ?_
        have q := PySem.Flt.log2_lt_of (n := m.natAbs) (k := 200) (by decide) (by omega)
        omega
      · have npa : a ≠ p := fun w => by rw [← w, e] at np; cases np
        refine ⟨p, _, rfl, SqT.of upd_same, rfl, _, _, rfl, ⟨_, rfl, a, _, _, 1, rfl, rfl, Eq.trans (upd_ne npa) e, rfl, _, _, rfl, ⟨rfl, _, rfl, ?_⟩⟩⟩
        refine k _ _ (Int.emod_nonneg _ (by omega)) (Int.emod_lt_of_pos _ hm) (fun b o hb eb => ?_) ⟨_, _, _, upd_same, hx, Int.ediv_nonneg hy (by omega), hz.1, by omega⟩
        rw [upd_ne hb, upd_ne (ne_of_none eb np)]
        exact eb
    · refine ⟨_, rfl, a, _, 2, _, rfl, rfl, SqL.of e, rfl, _, _, rfl, rfl, _, rfl, a, _, _, 2, rfl, rfl, e, rfl, ?_⟩
      refine ⟨_, rfl, a, _, 0, _, rfl, rfl, SqL.of upd_same, rfl, _, _, rfl, rfl, .inr ⟨by decide, by decide⟩, _, rfl, a, _, 2, _, rfl, rfl, SqL.of upd_same, rfl, _, _, rfl, rfl, .inl ⟨by decide, by decide⟩, _, rfl, a, _, 2, _, rfl, rfl, SqL.of upd_same, rfl, _, _, rfl, rfl, .inl ⟨?_, ?_⟩,
        _, _, rfl, rfl, _, _, rfl, rfl, .inl ⟨_, rfl, _, _, rfl, rfl, (by show (0 : Int) < 2147483629; decide), _, rfl, a, _, _, 0, rfl, rfl, upd_same, rfl, ?_⟩⟩
      · omega
      · omega
      refine ⟨_, rfl, a, _, 0, _, rfl, rfl, SqL.of upd_same, rfl, _, _, rfl, rfl, ⟨by decide, by decide⟩, .inl ⟨_, rfl, _, rfl, _, _, rfl, rfl, hm, ?_⟩⟩
      refine k _ _ (Int.emod_nonneg _ (by omega)) (Int.emod_lt_of_pos _ hm) (fun b o hb eb => by rw [upd_ne hb, upd_ne hb]; exact eb) ⟨_, _, _, upd_same, ⟨by omega, by omega⟩, hy, by omega, by omega⟩
end
end RV
namespace RV
open PySem L2 TL
section
variable {P : Program} {w : World} {K : PySem.W.Frag} {mg : Str → Option Value} {base : Heap}
theorem ok_names {f : Addr} {fd : FuncData} (F : Fun K "_law_names" "_law_names" s_names f fd) (T : Blt mg) (h_dip : Fn P w K mg base "_law_dip" 1 ["_law_well_here", "_law_many"] (Irr sp_dip)) : FnOk P w K mg base CX0 2 f fd ["_law_well_here", "_law_many"] sp_names := by
  refine F.ok sc_names (fun vs H Q E h => ?_) (fun cdv A outer s H vs Q E hr h => ?_)
  · obtain ⟨_, _, _, rfl, _⟩ := h
    rfl
  · obtain ⟨a, n, m, rfl, wl, hn, hm, k⟩ := h
    refine ⟨_, (pss_cons (ps_set (i := 2) sc_names.nd rfl (Or.inl rfl) (pe_lst (pa_cons pe_str (pa_cons pe_str (pa_cons pe_str (pa_cons pe_str (pa_cons pe_str (pa_cons pe_str (pa_cons pe_str (pa_cons pe_str (pa_cons pe_str (pa_cons pe_str pa_nil))))))))))))
      (pss_cons (ps_asg (pe_tup (pa_cons pe_str (pa_cons (pe_lst pa_nil) pa_nil))) (pg_tup (by rfl) (pgs_cons (pg_name (i := 3) sc_names.nd rfl (Or.inr rfl)) (pgs_cons (pg_name (i := 4) sc_names.nd rfl (Or.inr rfl)) pgs_nil))))
      (pss_cons (ps_for PassesOwn.never rfl (pi_range1 rfl T.b_range (pa_cons (pv 1) pa_nil)) (pg_name (i := 5) sc_names.nd rfl (Or.inl rfl)) (pss_cons (ps_set (i := 6) sc_names.nd rfl (Or.inl rfl) (pe_ifExp (pt_cmpR op_eq (pe_fn h_dip (hr.mono (by decide)) (pa_cons (pv 0) (pa_cons pe_int pa_nil))) pe_int (nomark _)) (pe_fn h_dip (hr.mono (by decide)) (pa_cons (pv 0) (pa_cons pe_int pa_nil))) (pe_fn h_dip (hr.mono (by decide)) (pa_cons (pv 0) (pa_cons pe_int pa_nil))))) (pss_cons (ps_set (i := 7) sc_names.nd rfl (Or.inl rfl) (pe_op op_add_str (pe_ix ix_str (pv 3) (pe_fn h_dip (hr.mono (by decide)) (pa_cons (pv 0) (pa_cons pe_int pa_nil))) (fun _ _ => rfl)) (pe_join pe_str (pe_lc (own := [("_law_j", 9)]) (g := gName 9) (tt := tYes) rfl sc_names.nd (pi_range1 rfl T.b_range (pa_cons (pv 6) pa_nil)) (blkOk_by (N := sc_names_N) (sc := defScope s_names) (by decide +kernel)) (fun _ _ _ _ _ => pg_name (i := 9) sc_names.nd rfl (Or.inl rfl)) (fun _ _ _ _ _ => pts_nil) (fun _ _ _ _ _ => (pe_ix ix_str (pv 3) (pe_fn h_dip (hr.mono (by decide)) (pa_cons (pv 0) (pa_cons pe_int pa_nil))) (fun _ _ => rfl))))))) (pss_cons (ps_if (pt_cmpR op_eq (pe_fn h_dip (hr.mono (by decide)) (pa_cons (pv 0) (pa_cons pe_int pa_nil))) pe_int (nomark _)) (pss_one (ps_set (i := 7) sc_names.nd rfl (Or.inl rfl) (pe_ix ix_list (pv 2) (pe_fn h_dip (hr.mono (by decide)) (pa_cons (pv 0) (pa_cons pe_int pa_nil))) (fun _ _ => rfl)))) pss_nil) (pss_cons (ps_set (i := 8) sc_names.nd rfl (Or.inl rfl) (pe_op op_cat (pe_lst (pa_cons (pv 7) pa_nil)) (pe_lc (own := [("_law_j", 9)]) (g := gName 9) (tt := tYes) rfl sc_names.nd (pi_range1 rfl T.b_range (pa_cons (pv 1) pa_nil)) (blkOk_by (N := sc_names_N) (sc := defScope s_names) (by decide +kernel)) (fun _ _ _ _ _ => pg_name (i := 9) sc_names.nd rfl (Or.inl rfl)) (fun _ _ _ _ _ => pts_nil) (fun _ _ _ _ _ => (pe_op op_add_str pe_str (pe_callTy call_str_int (by rfl) T.b_str (by decide +kernel) (pa_cons (pv 9) pa_nil))))))) (pss_one (ps_expr (pe_bm PySem.F.plainAttrs_list PySem.F.slot_list_append PySem.F.type_list_append mt_append (pv 4) (pa_cons (pe_ix ix_list (pe_lc (own := [("_law_one", 10)]) (g := gName 10) rfl sc_names.nd (pi_list (pv 8)) (blkOk_by (N := sc_names_N) (sc := defScope s_names) (by decide +kernel)) (fun _ _ _ _ _ => pg_name (i := 10) sc_names.nd rfl (Or.inl rfl)) (fun _ _ _ _ _ => pts_one (pt_cmpR (op_notInK (K := K)) (pv 10) (pv 4) (by rfl))) (fun _ _ _ _ _ => (pv 10))) pe_int (fun _ _ => rfl)) pa_nil)))))))))
      (pss_one (ps_ret (pv 4)))))), ?_⟩
    refine ⟨(by show 10 ≤ sizeLine; decide), fun W0 nW0 => ?_⟩
    have h1 := (Has.start wl).new (o := .lst (words2.map V.str)) nW0
    dsimp only [gName]
    refine ⟨by decide, fun fl f0 => ⟨(by show 2 ≤ sizeLine; decide), fun T0 nT0 => ⟨T0, _, rfl, SqT.of upd_same, rfl, _, _, rfl, _, _, rfl, rfl, ?_⟩⟩⟩
    have h2 := (h1.new (o := .lst []) f0).new (o := .tup [.str signs, .ref fl]) nT0
    have fl0 : H fl = none := h1.none0 f0
    have nWf : W0 ≠ fl := fun e => by rw [← e, upd_same] at f0; cases f0
    dsimp only
    refine ⟨_, rfl, m, rfl, by omega, by omega, for_range (lo := 0) (n := m) (fun j σ H' => ∃ (xs : List Str) (o5 o6 o7 o8 o9 o10 : Option V), σ = [some (.ref a), some (.int m), some (.ref W0), some (.str signs), some (.ref fl), o5, o6, o7, o8, o9, o10] ∧
      xs.length = j ∧ xs.Nodup ∧ (∀ x ∈ xs, IsNm x) ∧ Has H a (n + 14 * j) [(fl, .lst (xs.map V.str)), (W0, .lst (words2.map V.str))] H') ?_ ?_ ?_⟩
    · exact ⟨[], _, _, _, _, _, _, rfl, rfl, .nil, fun _ hx => (nomatch hx), h2.sub fun p hp => by
        simp only [List.map_nil, List.mem_cons, List.not_mem_nil, or_false] at hp ⊢
        rcases hp with z | z
        · exact .inr (.inl z)
        · exact .inr (.inr z)⟩
    · rintro j σ H2 hj ⟨xs, o5, o6, o7, o8, o9, o10, rfl, xl, xd, xn, h3⟩
      have mW : (W0, HO.lst (words2.map V.str)) ∈ [(fl, HO.lst (xs.map V.str)), (W0, HO.lst (words2.map V.str))] := List.mem_cons_of_mem _ List.mem_cons_self
      dsimp only [gName]
      -- how long
      refine seq_of (fun σ' H' => ∃ sz : Nat, sz ≤ 7 ∧ σ' = [some (.ref a), some (.int m), some (.ref W0), some (.str signs), some (.ref fl), some (.int (0 + (j : Int))), some (.int (sz : Int)), o7, o8, o9, o10] ∧ Has H a (n + 14 * j + 2) [(fl, .lst (xs.map V.str)), (W0, .lst (words2.map V.str))] H') ?rest1 (fun N hN => ?main1)
      case main1 =>
        refine ⟨_, rfl, dip_step h3 (by omega) (by decide) (by decide) fun r H3 _ _ h4 => ⟨rfl, _, rfl, ite2 (fun _ => ?_) fun _ => ?_⟩⟩
        · refine ⟨_, rfl, dip_step h4 (by omega) (by decide) (by decide) fun r H4 r0 r1 h5 => ?_⟩
          obtain ⟨q, rfl⟩ := Int.eq_ofNat_of_zero_le r0
          exact hN _ _ ⟨q, by omega, rfl, h5⟩
        · refine ⟨_, rfl, dip_step h4 (by omega) (by decide) (by decide) fun r H4 r0 r1 h5 => ?_⟩
          obtain ⟨q, rfl⟩ := Int.eq_ofNat_of_zero_le r0
          exact hN _ _ ⟨q, by omega, rfl, h5⟩
      rintro σ1 H3 ⟨sz, hsz, rfl, h4⟩
      -- the word
      refine seq_of (fun σ' H' => ∃ x : Str, IsNm x ∧ σ' = [some (.ref a), some (.int m), some (.ref W0), some (.str signs), some (.ref fl), some (.int (0 + (j : Int))), some (.int (sz : Int)), some (.str x), o8, o9, o10] ∧ Has H a (n + 14 * j + 10) [(fl, .lst (xs.map V.str)), (W0, .lst (words2.map V.str))] H') ?rest2 (fun N hN => ?main2)
      case main2 =>
        refine ⟨_, rfl, _, rfl, dip_step h4 (by omega) (by decide) (by decide) fun r H4 r0 r1 h5 => ?_⟩
        obtain ⟨c, hc, lc⟩ := at_low r0 r1
        refine ⟨signs, _, c, rfl, rfl, by decide, hc, ⟨_, rfl⟩, _, rfl, sz, rfl, by omega, by omega, fun D nD => lc_range (lo := 0) (n := sz) (fun i H' => ∃ cs : List Nat, cs.length = i ∧ (∀ x ∈ cs, tailC x = true) ∧ Has H a (n + 14 * j + 3 + i) [(fl, .lst (xs.map V.str)), (W0, .lst (words2.map V.str))] H' ∧ H' D = some (.lst ((cs.map fun x => (⟨#[x]⟩ : Str)).map V.str))) ?_ ?_ ?_⟩
        · exact ⟨[], rfl, fun _ hx => (nomatch hx), h5.put (h5.none0 nD) (h5.free nD) (h5.ne nD), upd_same⟩
        · rintro i H5 hi ⟨cs, cl, ct, h6, eD⟩
          refine ⟨rfl, _, rfl, _, rfl, dip_step (Has.start h6.well) (by omega) (by decide) (by decide) fun r H6 r0 r1 hx => ?_⟩
          have h7 := h6.grow hx.gr hx.well
          obtain ⟨c6, hc6, lc6⟩ := at_tail r0 r1
          have eD6 := hx.gr D _ (h5.ne nD) eD
          refine ⟨signs, _, c6, rfl, rfl, by decide, hc6, _, eD6, ?_, cs ++ [c6], by rw [List.length_append, cl]; rfl, fun x hx => ?_, ?_, ?_⟩
          · rw [List.length_map, List.length_map, cl]
            exact Nat.lt_of_lt_of_le (show i < 8 by omega) (by decide)
          · exact (List.mem_append.mp hx).elim (ct x) fun z => by rw [List.mem_singleton.mp z]; exact lc6
          · exact (h7.put (h5.none0 nD) (fun q hq => h5.free nD q hq) (h5.ne nD)).wm (by omega)
          · rw [upd_same, List.map_append, List.map_append]
            rfl
        · rintro H5 ⟨cs, cl, ct, h6, eD⟩
          have e0 : Str.length "" = 0 := by decide +kernel
          have sl1 : ∀ cs : List Nat, ((cs.map fun x => (⟨#[x]⟩ : Str)).map (·.length)).sum = cs.length := by
            intro cs
            induction cs with
            | nil => rfl
            | cons x cs ih =>
              rw [List.map_cons, List.map_cons, List.sum_cons, ih, List.length_cons]
              show 1 + cs.length = _
              omega
          have nm := isNm_join lc ct (by omega)
          have ln := nm8 nm
          rw [sl_app] at ln
          refine ⟨_, D, cs.map (fun x => (⟨#[x]⟩ : Str)), rfl, rfl, .inl (SqL.of eD), ?_, _, _, rfl, rfl, szn (by omega), hN _ _ ⟨_, nm, rfl, h6.wm (by omega)⟩⟩
          rw [sl1, e0]
          omega
      rintro σ2 H4 ⟨x, hx, rfl, h5⟩
      refine seq_of (fun σ' H' => ∃ x : Str, IsNm x ∧ σ' = [some (.ref a), some (.int m), some (.ref W0), some (.str signs), some (.ref fl), some (.int (0 + (j : Int))), some (.int (sz : Int)), some (.str x), o8, o9, o10] ∧ Has H a (n + 14 * j + 12) [(fl, .lst (xs.map V.str)), (W0, .lst (words2.map V.str))] H') ?rest3 (fun N hN => ?main3)
      case main3 =>
        refine ⟨_, rfl, dip_step h5 (by omega) (by decide) (by decide) fun r H5 _ _ h6 => ⟨rfl, _, rfl, ite2 (fun _ => ?_) fun _ => hN _ _ ⟨x, hx, rfl, h6.wm (by omega)⟩⟩⟩
        refine ⟨_, rfl, _, rfl, dip_step h6 (by omega) (by decide) (by decide) fun r H6 r0 r1 h7 => ?_⟩
        obtain ⟨y, hy, hyn, _⟩ := at_of_list words2_nm r0 (by exact r1)
        refine ⟨W0, _, r, .str y, rfl, rfl, SqL.of (h7.at mW), ?_, hN _ _ ⟨y, hyn, rfl, h7.wm (by omega)⟩⟩
        unfold atI at hy ⊢
        rw [List.length_map]
        revert hy
        cases ixN words2.length r with
        | none => intro hy; cases hy
        | some i =>
          intro hy
          show (words2.map V.str)[i]? = _
          rw [List.getElem?_map, show words2[i]? = some y from hy]
          rfl
      rintro σ3 H5 ⟨x, hx, rfl, h6⟩
      -- the spare ones
      refine ⟨_, rfl, (by show 1 ≤ sizeLine; decide), fun p np => ?_⟩
      have h7 := h6.new (o := .lst [.str x]) np
      refine ⟨_, rfl, m, rfl, by omega, by omega, fun D nD => lc_range (lo := 0) (n := m) (fun i H' => Has H a (n + 14 * j + 12) [(p, .lst [.str x]), (fl, .lst (xs.map V.str)), (W0, .lst (words2.map V.str))] H' ∧ H' D = some (.lst (((List.range i).map zn).map V.str))) ?_ ?_ ?_⟩
      · exact ⟨h7.put (h7.none0 nD) (h7.free nD) (h7.ne nD), upd_same⟩
      · rintro i H6 hi ⟨h8, eD⟩
        have nz := nm8 (zn_nm (j := i) (by omega))
        rw [zn, sl_app] at nz
        refine ⟨rfl, _, rfl, (0 + (i : Int)), rfl, ?_, _, _, rfl, rfl, szn (by rw [Int.zero_add]; exact Nat.le_trans nz.2 (by decide)), _, eD, ?_, ?_, ?_⟩
        · have q := PySem.Flt.log2_lt_of (n := (0 + (i : Int)).natAbs) (k := 200) (by decide) (by omega)
          omega
        · rw [List.length_map, List.length_map, List.length_range]
          exact Nat.lt_of_lt_of_le (show i < 20 by omega) (by decide)
        · exact h8.put (h7.none0 nD) (h7.free nD) (h7.ne nD)
        · rw [upd_same, List.range_succ, List.map_append, List.map_append, Int.zero_add]
          rfl
      rintro H6 ⟨h8, eD⟩
      refine ⟨p, D, _, _, rfl, rfl, h8.at List.mem_cons_self, eD, ?_, fun sp nsp => ?_⟩
      · rw [List.length_map, List.length_map, List.length_range]
        exact Nat.le_trans (show 1 + m ≤ 20 by omega) (by decide)
      have h9 := (h8.new (o := .lst ((x :: (List.range m).map zn).map V.str)) nsp)
      dsimp only [gName]
      have mF : (fl, HO.lst (xs.map V.str)) ∈ [(sp, HO.lst ((x :: (List.range m).map zn).map V.str)), (p, HO.lst [.str x]), (fl, HO.lst (xs.map V.str)), (W0, HO.lst (words2.map V.str))] := List.mem_cons_of_mem _ (List.mem_cons_of_mem _ List.mem_cons_self)
      have esp : SqL K _ sp ((x :: (List.range m).map zn).map V.str) := SqL.of (h9.at List.mem_cons_self)
      have ylen : ((x :: (List.range m).map zn).map V.str).length ≤ 1000 := by
        rw [List.length_map, List.length_cons, List.length_map, List.length_range]
        omega
      refine ⟨_, rfl, .inl ⟨rfl, _, SqL.of (h9.at mF)⟩, _, rfl, sp, rfl, ⟨_, esp⟩, fun D2 nD2 => lc_keepV (xs := (x :: (List.range m).map zn).map V.str) (fun v => !inV v (xs.map V.str)) walk_list nD2 ylen (fun H' s' => esp.ext s') (fun _ => rfl) (fun v hv H7 s7 R kR => ?_) (fun v hv H7 R r => ⟨_, rfl, r⟩) fun H7 s7 hD2 => ?_⟩
      · obtain ⟨y, _, rfl⟩ := List.mem_map.mp hv
        exact ⟨_, rfl, _, rfl, fl, _, rfl, .inl (SqL.of (s7 _ _ (h9.at mF))), rfl, strs_flat _, _, rfl, kR⟩
      -- the first that is not there
      have h10 := h9.same s7
      have ef : ((x :: (List.range m).map zn).map V.str).filter (fun v => !inV v (xs.map V.str)) = ((x :: (List.range m).map zn).filter fun y => !decide (y ∈ xs)).map V.str := by
        rw [List.filter_map]
        congr 1
        exact List.filter_congr fun y _ => by rw [Function.comp, inV_str]
      rw [ef] at hD2
      obtain ⟨y, ys, hys⟩ : ∃ y ys, ((x :: (List.range m).map zn).filter fun y => !decide (y ∈ xs)) = y :: ys := by
        cases e : ((x :: (List.range m).map zn).filter fun y => !decide (y ∈ xs)) with
        | cons y ys => exact ⟨y, ys, rfl⟩
        | nil =>
          obtain ⟨i, hi, hz⟩ := zn_free (xs := xs) (m := m) (by omega) (by omega)
          have : zn i ∈ ((x :: (List.range m).map zn).filter fun y => !decide (y ∈ xs)) := List.mem_filter.mpr ⟨List.mem_cons_of_mem _ (List.mem_map.mpr ⟨i, List.mem_range.mpr hi, rfl⟩), by simp [hz]⟩
          rw [e] at this
          cases this
      have hy : y ∈ (x :: (List.range m).map zn) ∧ y ∉ xs := by
        have : y ∈ ((x :: (List.range m).map zn).filter fun y => !decide (y ∈ xs)) := by rw [hys]; exact List.mem_cons_self
        have := List.mem_filter.mp this
        exact ⟨this.1, by simpa using this.2⟩
      have hyn : IsNm y := by
        rcases List.mem_cons.mp hy.1 with z | z
        · rw [z]; exact hx
        · obtain ⟨i, hi, rfl⟩ := List.mem_map.mp z
          exact zn_nm (by have := List.mem_range.mp hi; omega)
      rw [hys] at hD2
      refine ⟨D2, _, 0, .str y, rfl, rfl, SqL.of hD2, atI_nat (j := 0) rfl, fl, _, _, rfl, rfl, h10.at mF, ?_, xs ++ [y], _, _, _, _, _, _, rfl, by rw [List.length_append, xl]; rfl, nodup_snoc xd hy.2, fun z hz => ?_, ?_⟩
      · rw [List.length_map, xl]
        exact Nat.lt_of_lt_of_le (show j < 20 by omega) (by decide)
      · exact (List.mem_append.mp hz).elim (xn z) fun w => by rw [List.mem_singleton.mp w]; exact hyn
      · rw [List.map_append]
        have h11 : Has H a (n + 14 * j + 12) [(fl, .lst (xs.map V.str)), (W0, .lst (words2.map V.str))] H7 := h10.sub fun q hq => List.mem_cons_of_mem _ (List.mem_cons_of_mem _ hq)
        exact (h11.reset fl0 fun q hq => by rw [List.mem_singleton.mp hq]; exact nWf).wm (by omega)
    · rintro σ H4 ⟨xs, o5, o6, o7, o8, o9, o10, rfl, xl, xd, xn, h5⟩
      exact ⟨_, rfl, k fl xs H4 fl0 (h5.here _ List.mem_cons_self).1 h5.gr (h5.well.mono (by omega)) (h5.at List.mem_cons_self) xl xd xn⟩
end
end RV
namespace RV
open PySem L2 TL
section
variable {P : Program} {w : World} {K : PySem.W.Frag} {mg : Str → Option Value} {base : Heap}
theorem ok_model {f : Addr} {fd : FuncData} (F : Fun K "_law_model" "_law_model" s_model f fd) (T : Blt mg) (h_dip : Fn P w K mg base "_law_dip" 1 ["_law_well_here", "_law_many"] (Irr sp_dip)) (h_names : Fn P w K mg base "_law_names" 2 ["_law_well_here", "_law_many"] (Irr sp_names)) : FnOk P w K mg base CX0 3 f fd ["_law_well_here", "_law_most", "_law_more"] sp_model := by
  refine F.ok sc_model (fun vs H Q E h => ?_) (fun cdv A outer s H vs Q E hr h => ?_)
  · obtain ⟨_, _, _, _, rfl, _⟩ := h
    rfl
  · obtain ⟨a, n, most, more, rfl, wl, hn, m2, m12, o12, k⟩ := h
    refine ⟨_, (pss_cons (ps_par (i := 3) (j := 4) (by rfl) sc_model.nd rfl rfl (by decide) rfl rfl (pa_cons (pe_op op_add pe_int (pe_fn h_dip (hr.mono (by decide)) (pa_cons (pv 0) (pa_cons pe_int pa_nil)))) (pa_cons (pe_op op_add pe_int (pe_fn h_dip (hr.mono (by decide)) (pa_cons (pv 0) (pa_cons (pe_op op_sub (pv 1) pe_int) pa_nil)))) pa_nil)) (by rfl))
      (pss_cons (ps_asg (pe_tup (pa_cons (pe_fn h_names (hr.mono (by decide)) (pa_cons (pv 0) (pa_cons (pv 3) pa_nil))) (pa_cons (pe_fn h_names (hr.mono (by decide)) (pa_cons (pv 0) (pa_cons (pv 4) pa_nil))) (pa_cons (pe_lst pa_nil) (pa_cons (pe_lst pa_nil) pa_nil))))) (pg_tup (by rfl) (pgs_cons (pg_name (i := 5) sc_model.nd rfl (Or.inl rfl)) (pgs_cons (pg_name (i := 6) sc_model.nd rfl (Or.inl rfl)) (pgs_cons (pg_name (i := 7) sc_model.nd rfl (Or.inl rfl)) (pgs_cons (pg_name (i := 8) sc_model.nd rfl (Or.inl rfl)) pgs_nil))))))
      (pss_cons (ps_for PassesOwn.never rfl (pi_range1 rfl T.b_range (pa_cons (pv 4) pa_nil)) (pg_name (i := 9) sc_model.nd rfl (Or.inl rfl)) (pss_cons (ps_set (i := 10) sc_model.nd rfl (Or.inl rfl) (pe_fn h_dip (hr.mono (by decide)) (pa_cons (pv 0) (pa_cons (pv 3) pa_nil)))) (pss_one (ps_expr (pe_bm PySem.F.plainAttrs_list PySem.F.slot_list_append PySem.F.type_list_append mt_append (pv 7) (pa_cons (pe_tup (pa_cons (pe_ix ix_list (pv 6) (pv 9) (fun _ _ => rfl)) (pa_cons (pv 10) (pa_cons (pe_op op_mod (pe_callTy call_int1 (by rfl) T.b_int (by decide +kernel) (pa_cons (pe_op op_add (pe_op op_add (pv 10) pe_int) (pe_fn h_dip (hr.mono (by decide)) (pa_cons (pv 0) (pa_cons (pe_op op_sub (pv 3) pe_int) pa_nil)))) pa_nil)) (pv 3)) pa_nil)))) pa_nil))))))
      (pss_cons (ps_set (i := 11) sc_model.nd rfl (Or.inl rfl) (pe_cmpR op_eq (pe_fn h_dip (hr.mono (by decide)) (pa_cons (pv 0) (pa_cons pe_int pa_nil))) pe_int (nomark _)))
      (pss_cons (ps_set (i := 12) sc_model.nd rfl (Or.inl rfl) (pe_fn h_names (hr.mono (by decide)) (pa_cons (pv 0) (pa_cons (pe_ifExp (pt_val (pv 11)) (pe_callB (call_min2 rfl) (by rfl) T.b_min (by decide +kernel) (pa_cons (pv 2) (pa_cons (pv 4) pa_nil))) (pe_fn h_dip (hr.mono (by decide)) (pa_cons (pv 0) (pa_cons (pe_op op_add (pv 2) pe_int) pa_nil)))) pa_nil))))
      (pss_cons (ps_for PassesOwn.never rfl (pi_range1 rfl T.b_range (pa_cons (pe_callB call_len_seq (by rfl) T.b_len (by decide +kernel) (pa_cons (pv 12) pa_nil)) pa_nil)) (pg_name (i := 9) sc_model.nd rfl (Or.inl rfl)) (pss_cons (ps_set (i := 13) sc_model.nd rfl (Or.inl rfl) (pe_ifExp (pt_val (pv 11)) (pv 9) (pe_fn h_dip (hr.mono (by decide)) (pa_cons (pv 0) (pa_cons (pv 4) pa_nil))))) (pss_one (ps_expr (pe_bm PySem.F.plainAttrs_list PySem.F.slot_list_append PySem.F.type_list_append mt_append (pv 8) (pa_cons (pe_tup (pa_cons (pe_ix ix_list (pv 12) (pv 9) (fun _ _ => rfl)) (pa_cons (pv 13) (pa_cons (pe_cmpR op_eq (pe_fn h_dip (hr.mono (by decide)) (pa_cons (pv 0) (pa_cons pe_int pa_nil))) pe_int (nomark _)) pa_nil)))) pa_nil))))))
      (pss_one (ps_ret (pe_lst (pa_cons (pv 5) (pa_cons (pv 7) (pa_cons (pv 8) pa_nil)))))))))))), ?_⟩
    have h0 := Has.start wl
    refine ⟨_, rfl, dip_step h0 (by omega) (by decide) (by decide) fun r H1 r0 r1 h1 => ⟨_, _, rfl, rfl, _, rfl, _, rfl, _, _, rfl, rfl, dip_step h1 (by omega) (by omega) (by omega) fun r' H2 r0' r1' h2 => ⟨_, _, rfl, rfl, _, _, rfl, ?_⟩⟩⟩
    obtain ⟨cn, rfl⟩ := Int.eq_ofNat_of_zero_le r0
    obtain ⟨sz, rfl⟩ := Int.eq_ofNat_of_zero_le r0'
    dsimp only
    generalize hcount : 2 + cn = count
    generalize hsize : 2 + sz = size
    rw [show (2 : Int) + (cn : Int) = (count : Int) by omega, show (2 : Int) + (sz : Int) = (size : Int) by omega]
    have c2 : 2 ≤ count ∧ count ≤ 4 := by omega
    have s2 : 2 ≤ size ∧ size ≤ most := by omega
    clear h0 h1 hcount hsize r1 r1'
    -- the names
    refine ⟨_, rfl, _, rfl, irr ⟨a, _, count, rfl, h2.well, by omega, by omega, fun lp pl H3 np pa g3 w3 ep pll pld pln => ?_⟩⟩
    have h3 := (h2.grow g3 w3).add pa ep
    refine ⟨_, rfl, _, rfl, irr ⟨a, _, size, rfl, w3, by omega, by omega, fun lt tl H4 nt ta g4 w4 et tll tld tln => ?_⟩⟩
    have h4 := (h3.grow g4 w4).add ta et
    refine ⟨by decide, fun lq nq => ⟨by decide, fun lg ng => ⟨(by show 4 ≤ sizeLine; decide), fun T0 nT0 => ⟨T0, _, rfl, SqT.of upd_same, rfl, _, _, rfl, _, _, rfl, _, _, rfl, _, _, rfl, rfl, ?_⟩⟩⟩⟩
    have h5 := ((h4.new (o := .lst []) nq).new (o := .lst []) ng).new (o := .tup [.ref lp, .ref lt, .ref lq, .ref lg]) nT0
    have q0 : H lq = none := h4.none0 nq
    have g0 : H lg = none := (h4.new (o := .lst []) nq).none0 ng
    have nlp : lp ≠ lq := h4.free nq (lp, .lst (pl.map V.str)) (List.mem_cons_of_mem _ List.mem_cons_self)
    have nlt : lt ≠ lq := h4.free nq (lt, .lst (tl.map V.str)) List.mem_cons_self
    have ngp : lp ≠ lg := (h4.new (o := .lst []) nq).free ng (lp, .lst (pl.map V.str)) (List.mem_cons_of_mem _ (List.mem_cons_of_mem _ List.mem_cons_self))
    have nqg : lq ≠ lg := fun e => by rw [← e, upd_same] at ng; cases ng
    dsimp only
    -- the pipes
    have tn : ∀ {j : Nat} (h : j < tl.length), atI (tl.map V.str) (0 + (j : Int)) = some (V.str tl[j]) := fun {j} h => by
      rw [Int.zero_add]
      exact atI_nat (by rw [List.getElem?_map, List.getElem?_eq_getElem h]; rfl)
    refine ⟨_, rfl, size, rfl, by omega, by omega, for_range (lo := 0) (n := size) (fun j σ H' => ∃ (pu : List QU) (o9 o10 : Option V), σ = [some (.ref a), some (.int most), some (.int more), some (.int (count : Int)), some (.int (size : Int)), some (.ref lp), some (.ref lt), some (.ref lq), some (.ref lg), o9, o10, none, none, none] ∧
      pu.length = j ∧ (sn pu).map (·.1) = tl.take j ∧ (∀ q ∈ sn pu, q.2.1 < count ∧ q.2.2 < count ∧ q.2.1 ≠ q.2.2) ∧ Has H a (n + 402 + 2 * j) ((lq, .lst (rf pu)) :: (lp, .lst (pl.map V.str)) :: (lt, .lst (tl.map V.str)) :: (lg, .lst []) :: pu.map fun u => (u.1, oQ u.2)) H') ?_ ?_ ?_⟩
    · refine ⟨[], none, none, rfl, rfl, rfl, fun _ hq => (nomatch hq), (h5.sub fun p hp => ?_).wm (by omega)⟩
      simp only [rf, List.map_nil, List.mem_cons, List.not_mem_nil, or_false] at hp ⊢
      rcases hp with z | z | z | z
      · exact .inr (.inr (.inl z))
      · exact .inr (.inr (.inr (.inr z)))
      · exact .inr (.inr (.inr (.inl z)))
      · exact .inr (.inl z)
    · rintro j σ H6 hj ⟨pu, o9, o10, rfl, ul, un, uq, h6⟩
      have hjt : j < tl.length := by omega
      have mT : (lt, HO.lst (tl.map V.str)) ∈ (lq, HO.lst (rf pu)) :: (lp, HO.lst (pl.map V.str)) :: (lt, HO.lst (tl.map V.str)) :: (lg, HO.lst []) :: pu.map fun u => (u.1, oQ u.2) := List.mem_cons_of_mem _ (List.mem_cons_of_mem _ List.mem_cons_self)
      dsimp only [gName]
      refine ⟨_, rfl, _, rfl, dip_step h6 (by omega) (by omega) (by omega) fun r H7 r0 r1 h7 => ?_⟩
      obtain ⟨p1, rfl⟩ := Int.eq_ofNat_of_zero_le r0
      dsimp only [gName]
      refine ⟨_, rfl, .inl ⟨rfl, _, SqL.of (h7.at List.mem_cons_self)⟩, _, rfl, _, rfl, lt, _, _, _, rfl, rfl, SqL.of (h7.at mT), tn hjt, _, rfl, _, rfl, _, _, rfl, rfl, _, rfl, _, rfl, _, _, rfl, rfl, dip_step h7 (by omega) (by omega) (by omega) fun r' H8 r0' r1' h8 => ?_⟩
      obtain ⟨p2, rfl⟩ := Int.eq_ofNat_of_zero_le r0'
      have hp1 : p1 < count := by omega
      have hp2 : p2 + 1 < count := by omega
      have em : ((p1 : Int) + 1 + (p2 : Int)) % (count : Int) = (((p1 + (1 + p2)) % count : Nat) : Int) := by
        rw [show (p1 : Int) + 1 + (p2 : Int) = ((p1 + (1 + p2) : Nat) : Int) by omega]
        exact (Int.natCast_emod (p1 + (1 + p2)) count).symm
      refine ⟨_, _, rfl, rfl, .inl ⟨_, rfl, _, rfl, _, _, rfl, rfl, (by show (0 : Int) < (count : Int); omega), (by show 3 ≤ sizeLine; decide), fun tt nt => ?_⟩⟩
      dsimp only
      rw [em]
      have h9 := h8.new (o := oQ (tl[j], p1, (p1 + (1 + p2)) % count)) nt
      refine ⟨lq, _, _, rfl, rfl, h9.at (List.mem_cons_of_mem _ List.mem_cons_self), ?_, pu ++ [(tt, tl[j], p1, (p1 + (1 + p2)) % count)], _, _, rfl, by rw [List.length_append, ul]; rfl, ?_, fun q hq => ?_, ?_⟩
      · rw [rf_len, ul]
        exact Nat.lt_of_lt_of_le (show j < 20 by omega) (by decide)
      · rw [sn, List.map_append, List.map_append]
        show (sn pu).map (·.1) ++ [tl[j]] = _
        rw [un, List.take_add_one, List.getElem?_eq_getElem hjt]
        rfl
      · rw [sn, List.map_append] at hq
        rcases List.mem_append.mp hq with z | z
        · exact uq q z
        · rw [List.mem_singleton.mp z]
          exact ⟨hp1, Nat.mod_lt _ (by omega), fun e => step_ne hp1 hp2 e.symm⟩
      · have e : rf (pu ++ [(tt, tl[j], p1, (p1 + (1 + p2)) % count)]) = rf pu ++ [.ref tt] := by rw [rf, List.map_append]; rfl
        rw [e]
        have h10 : Has H a (n + 402 + 2 * j + 1 + 1) ((lq, .lst (rf pu)) :: (lp, .lst (pl.map V.str)) :: (lt, .lst (tl.map V.str)) :: (lg, .lst []) :: (pu ++ [(tt, tl[j], p1, (p1 + (1 + p2)) % count)]).map fun u => (u.1, oQ u.2)) _ := h9.sub fun p hp => by
          rw [List.map_append] at hp
          simp only [List.mem_cons, List.mem_append, List.map_cons, List.map_nil, List.not_mem_nil, or_false] at hp ⊢
          rcases hp with z | z | z | z | z | z
          · exact .inr (.inl z)
          · exact .inr (.inr (.inl z))
          · exact .inr (.inr (.inr (.inl z)))
          · exact .inr (.inr (.inr (.inr (.inl z))))
          · exact .inr (.inr (.inr (.inr (.inr z))))
          · exact .inl z
        refine (h10.reset q0 fun q hq => ?_).wm (by omega)
        rcases List.mem_cons.mp hq with rfl | hq'
        · exact nlp
        rcases List.mem_cons.mp hq' with rfl | hq'
        · exact nlt
        rcases List.mem_cons.mp hq' with rfl | hq'
        · exact nqg.symm
        · obtain ⟨u, hu, rfl⟩ := List.mem_map.mp hq'
          exact h10.apart (List.mem_cons_of_mem _ hq) List.mem_cons_self (fun e => nomatch e)
    rintro σ H6 ⟨pu, o9, o10, rfl, ul, un, uq, h6⟩
    replace h6 : Has H a (n + 500) ((lq, .lst (rf pu)) :: (lp, .lst (pl.map V.str)) :: (lg, .lst []) :: pu.map fun u => (u.1, oQ u.2)) H6 := (h6.sub fun p hp => by
      simp only [List.mem_cons] at hp ⊢
      rcases hp with z | z | z | z
      · exact .inl z
      · exact .inr (.inl z)
      · exact .inr (.inr (.inr (.inl z)))
      · exact .inr (.inr (.inr (.inr z)))).wm (by omega)
    -- even or not
    refine ⟨_, rfl, dip_step h6 (by omega) (by decide) (by decide) fun r H7 _ _ h7 => ⟨rfl, ?_⟩⟩
    generalize decide (V.int r = V.int 0) = even
    dsimp only [gName]
    refine seq_of (fun σ' H' => ∃ (ln : Addr) (gl : List Str), σ' = [some (.ref a), some (.int most), some (.int more), some (.int (count : Int)), some (.int (size : Int)), some (.ref lp), some (.ref lt), some (.ref lq), some (.ref lg), o9, o10, some (.bl even), some (.ref ln), none] ∧
      gl.length ≤ more ∧ (even = true → gl.length ≤ size) ∧ gl.Nodup ∧ (∀ x ∈ gl, IsNm x) ∧ ln ≠ lg ∧ Has H a (n + 702) ((ln, .lst (gl.map V.str)) :: (lq, .lst (rf pu)) :: (lp, .lst (pl.map V.str)) :: (lg, .lst []) :: pu.map fun u => (u.1, oQ u.2)) H') ?rest (fun N hN => ?main)
    case main =>
      have mg' : (lg, HO.lst []) ∈ (lq, HO.lst (rf pu)) :: (lp, HO.lst (pl.map V.str)) :: (lg, HO.lst []) :: pu.map fun u => (u.1, oQ u.2) := List.mem_cons_of_mem _ (List.mem_cons_of_mem _ List.mem_cons_self)
      have fin : ∀ {gm : Nat} {H8 : Hp} {n' : Nat}, n' ≤ n + 502 → gm ≤ more → (even = true → gm ≤ size) → Has H a n' ((lq, .lst (rf pu)) :: (lp, .lst (pl.map V.str)) :: (lg, .lst []) :: pu.map fun u => (u.1, oQ u.2)) H8 → ∀ (ln : Addr) (gl : List Str) H9, H8 ln = none → ln ≠ a → Grow a H8 H9 → WellAt H9 a (n' + 200) → H9 ln = some (.lst (gl.map V.str)) → gl.length = gm → gl.Nodup → (∀ x ∈ gl, IsNm x) →
          N [some (.ref a), some (.int most), some (.int more), some (.int (count : Int)), some (.int (size : Int)), some (.ref lp), some (.ref lt), some (.ref lq), some (.ref lg), o9, o10, some (.bl even), some (.ref ln), none] H9 := fun {gm H8 n'} hn' h1 h2 h8 ln gl H9 nn na g9 w9 el ll ld lnm =>
        hN _ _ ⟨ln, gl, rfl, by omega, fun e => by have := h2 e; omega, ld, lnm, fun e => (by have := h8.at mg'; rw [← e, nn] at this; cases this), (((h8.grow g9 w9).add na el)).wm (by omega)⟩
      refine ⟨_, rfl, _, rfl, _, rfl, ?_⟩
      cases even with
      | true =>
        refine iteT ⟨_, rfl, _, rfl, _, _, rfl, irr ⟨a, _, min more size, ?_, h7.well, by omega, by omega, fun ln gl H9 nn na g9 w9 el ll ld lnm => fin (by omega) (by omega) (fun _ => by omega) h7 ln gl H9 nn na g9 w9 el ll ld lnm⟩⟩
        simp only [List.append_nil, List.cons.injEq, and_true, true_and]
        congr 1
        split <;> omega
      | false =>
        refine iteF ⟨_, rfl, _, rfl, _, _, rfl, rfl, dip_step h7 (by omega) (by omega) (by omega) fun r H8 r0 r1 h8 => ?_⟩
        obtain ⟨gm, rfl⟩ := Int.eq_ofNat_of_zero_le r0
        exact irr ⟨a, _, gm, rfl, h8.well, by omega, by omega, fun ln gl H9 nn na g9 w9 el ll ld lnm => fin (by omega) (by omega) (fun e => nomatch e) h8 ln gl H9 nn na g9 w9 el ll ld lnm⟩
    rintro σ1 H7 ⟨ln, gl, rfl, gl1, gl2, gld, gln, nlg, h8⟩
    have gn : ∀ {j : Nat} (h : j < gl.length), atI (gl.map V.str) (0 + (j : Int)) = some (V.str gl[j]) := fun {j} h => by
      rw [Int.zero_add]
      exact atI_nat (by rw [List.getElem?_map, List.getElem?_eq_getElem h]; rfl)
    refine ⟨_, rfl, ln, _, rfl, .inl (SqL.of (h8.at List.mem_cons_self)), ?_⟩
    rw [List.length_map]
    refine ⟨gl.length, rfl, by omega, by omega, for_range (lo := 0) (n := gl.length) (fun j σ H' => ∃ (gu : List GU) (o9 o13 : Option V), σ = [some (.ref a), some (.int most), some (.int more), some (.int (count : Int)), some (.int (size : Int)), some (.ref lp), some (.ref lt), some (.ref lq), some (.ref lg), o9, o10, some (.bl even), some (.ref ln), o13] ∧
      gu.length = j ∧ (sn gu).map (·.1) = gl.take j ∧ (∀ g ∈ sn gu, g.2.1 < size) ∧ Has H a (n + 702 + 2 * j) ((lg, .lst (rf gu)) :: (ln, .lst (gl.map V.str)) :: (lq, .lst (rf pu)) :: (lp, .lst (pl.map V.str)) :: ((pu.map fun u => (u.1, oQ u.2)) ++ gu.map fun u => (u.1, oG u.2))) H') ?_ ?_ ?_⟩
    · refine ⟨[], _, _, rfl, rfl, rfl, fun _ hq => (nomatch hq), (h8.sub fun p hp => ?_).wm (by omega)⟩
      simp only [rf, List.map_nil, List.append_nil, List.mem_cons] at hp ⊢
      rcases hp with z | z | z | z | z
      · exact .inr (.inr (.inr (.inl z)))
      · exact .inl z
      · exact .inr (.inl z)
      · exact .inr (.inr (.inl z))
      · exact .inr (.inr (.inr (.inr z)))
    · rintro j σ H9 hj ⟨gu, o9', o13, rfl, gul, gun, guq, h9⟩
      dsimp only [gName]
      refine seq_of (fun σ' H' => ∃ p : Nat, p < size ∧ σ' = [some (.ref a), some (.int most), some (.int more), some (.int (count : Int)), some (.int (size : Int)), some (.ref lp), some (.ref lt), some (.ref lq), some (.ref lg), some (.int (0 + (j : Int))), o10, some (.bl even), some (.ref ln), some (.int (p : Int))] ∧
        Has H a (n + 702 + 2 * j + 1) ((lg, .lst (rf gu)) :: (ln, .lst (gl.map V.str)) :: (lq, .lst (rf pu)) :: (lp, .lst (pl.map V.str)) :: ((pu.map fun u => (u.1, oQ u.2)) ++ gu.map fun u => (u.1, oG u.2))) H') ?rest2 (fun N hN => ?main2)
      case main2 =>
        refine ⟨_, rfl, _, rfl, ?_⟩
        cases even with
        | true =>
          refine iteT ⟨_, rfl, hN _ _ ⟨j, by have := gl2 rfl; omega, ?_, h9.wm (by omega)⟩⟩
          show _ = _
          rw [Int.zero_add]
          rfl
        | false =>
          refine iteF ⟨_, rfl, _, rfl, dip_step h9 (by omega) (by omega) (by omega) fun r H10 r0 r1 h10 => ?_⟩
          obtain ⟨p, rfl⟩ := Int.eq_ofNat_of_zero_le r0
          exact hN _ _ ⟨p, by omega, rfl, h10⟩
      rintro σ2 H10 ⟨p, hp, rfl, h10⟩
      have mL : (ln, HO.lst (gl.map V.str)) ∈ (lg, HO.lst (rf gu)) :: (ln, HO.lst (gl.map V.str)) :: (lq, HO.lst (rf pu)) :: (lp, HO.lst (pl.map V.str)) :: ((pu.map fun u => (u.1, oQ u.2)) ++ gu.map fun u => (u.1, oG u.2)) := List.mem_cons_of_mem _ List.mem_cons_self
      refine ⟨_, rfl, .inl ⟨rfl, _, SqL.of (h10.at List.mem_cons_self)⟩, _, rfl, _, rfl, ln, _, _, _, rfl, rfl, SqL.of (h10.at mL), gn hj, _, rfl, _, rfl, dip_step h10 (by omega) (by decide) (by decide) fun r H11 _ _ h11 => ⟨rfl, ?_⟩⟩
      generalize decide (V.int r = V.int 0) = shut
      refine ⟨(by show 3 ≤ sizeLine; decide), fun tt nt => ?_⟩
      have h12 := h11.new (o := oG (gl[j], p, shut)) nt
      refine ⟨lg, _, _, rfl, rfl, h12.at (List.mem_cons_of_mem _ List.mem_cons_self), ?_, gu ++ [(tt, gl[j], p, shut)], _, _, rfl, by rw [List.length_append, gul]; rfl, ?_, fun g hg => ?_, ?_⟩
      · rw [rf_len, gul]
        exact Nat.lt_of_lt_of_le (show j < 20 by omega) (by decide)
      · rw [sn, List.map_append, List.map_append]
        show (sn gu).map (·.1) ++ [gl[j]] = _
        rw [gun, List.take_add_one, List.getElem?_eq_getElem hj]
        rfl
      · rw [sn, List.map_append] at hg
        rcases List.mem_append.mp hg with z | z
        · exact guq g z
        · rw [List.mem_singleton.mp z]
          exact hp
      · have e : rf (gu ++ [(tt, gl[j], p, shut)]) = rf gu ++ [.ref tt] := by rw [rf, List.map_append]; rfl
        rw [e]
        have h13 : Has H a (n + 702 + 2 * j + 1 + 1) ((lg, .lst (rf gu)) :: (ln, .lst (gl.map V.str)) :: (lq, .lst (rf pu)) :: (lp, .lst (pl.map V.str)) :: ((pu.map fun u => (u.1, oQ u.2)) ++ (gu ++ [(tt, gl[j], p, shut)]).map fun u => (u.1, oG u.2))) _ := h12.sub fun p hp => by
          rw [List.map_append] at hp
          simp only [List.mem_cons, List.mem_append, List.map_cons, List.map_nil, List.not_mem_nil, or_false] at hp ⊢
          rcases hp with z | z | z | z | z | z | z
          · exact .inr (.inl z)
          · exact .inr (.inr (.inl z))
          · exact .inr (.inr (.inr (.inl z)))
          · exact .inr (.inr (.inr (.inr (.inl z))))
          · exact .inr (.inr (.inr (.inr (.inr (.inl z)))))
          · exact .inr (.inr (.inr (.inr (.inr (.inr z)))))
          · exact .inl z
        refine (h13.reset g0 fun q hq => ?_).wm (by omega)
        rcases List.mem_cons.mp hq with rfl | hq'
        · exact nlg
        rcases List.mem_cons.mp hq' with rfl | hq'
        · exact nqg
        rcases List.mem_cons.mp hq' with rfl | hq'
        · exact ngp
        rcases List.mem_append.mp hq' with hq' | hq'
        · obtain ⟨u, hu, rfl⟩ := List.mem_map.mp hq'
          exact h13.apart (List.mem_cons_of_mem _ hq) List.mem_cons_self (fun e => nomatch e)
        · obtain ⟨u, hu, rfl⟩ := List.mem_map.mp hq'
          exact h13.apart (List.mem_cons_of_mem _ hq) List.mem_cons_self (fun e => nomatch e)
    rintro σ3 H9 ⟨gu, o9', o13, rfl, gul, gun, guq, h9⟩
    refine ⟨_, rfl, _, rfl, _, rfl, (by show 3 ≤ sizeLine; decide), fun l nl => ?_⟩
    have h14 := h9.new (o := .lst [.ref lp, .ref lq, .ref lg]) nl
    rw [List.take_length] at gun
    have unt : (sn pu).map (·.1) = tl := by rw [un, ← tll, List.take_length]
    refine k l lp lq lg pl pu gu _ ((h14.sub fun p hp => ?_).wm (by omega)) ⟨by show 2 ≤ pl.length; omega, by show pl.length ≤ 4; omega, pln, pld, by show 2 ≤ (sn pu).length; rw [sn_len]; omega, by show (sn pu).length ≤ most; rw [sn_len]; omega, fun q hq => ?_, by show ((sn pu).map (·.1)).Nodup; rw [unt]; exact tld, by show (sn gu).length ≤ more; rw [sn_len]; omega, fun g hg => ?_, by show ((sn gu).map (·.1)).Nodup; rw [gun]; exact gld⟩
    · simp only [lM, List.mem_cons] at hp ⊢
      rcases hp with z | z | z | z | z
      · exact .inl z
      · exact .inr (.inr (.inr (.inr (.inl z))))
      · exact .inr (.inr (.inr (.inl z)))
      · exact .inr (.inl z)
      · exact .inr (.inr (.inr (.inr (.inr z))))
    · have hq1 : q.1 ∈ tl := by rw [← unt]; exact List.mem_map.mpr ⟨q, hq, rfl⟩
      obtain ⟨b1, b2, b3⟩ := uq q hq
      exact ⟨tln _ hq1, by show q.2.1 < pl.length; omega, by show q.2.2 < pl.length; omega, b3⟩
    · have hg1 : g.1 ∈ gl := by rw [← gun]; exact List.mem_map.mpr ⟨g, hg, rfl⟩
      exact ⟨gln _ hg1, by show g.2.1 < (sn pu).length; rw [sn_len, ul]; exact guq g hg⟩
end
end RV
namespace RV
open PySem L2 TL
section
variable {P : Program} {w : World} {K : PySem.W.Frag} {mg : Str → Option Value} {base : Heap}
theorem ok_mtext {f : Addr} {fd : FuncData} (F : Fun K "_law_text" "_law_text" s_text f fd) : FnOk P w K mg base CX0 1 f fd ["_law_model_here"] sp_mtext := by
  refine F.ok sc_text (fun vs H Q E h => ?_) (fun cdv A outer s H vs Q E hr h => ?_)
  · obtain ⟨_, _, _, _, rfl, _⟩ := h
    rfl
  · obtain ⟨l, M, most, more, rfl, md, ok, m12, o12, k⟩ := h
    refine ⟨_, (pss_cons (ps_set (i := 1) sc_text.nd rfl (Or.inl rfl) (pe_lst pa_nil))
      (pss_cons (ps_for PassesOwn.never rfl (pi_list (pe_ix ix_list (pv 0) pe_int (fun _ _ => rfl))) (pg_name (i := 2) sc_text.nd rfl (Or.inl rfl)) (pss_cons (ps_par (i := 3) (j := 4) (by rfl) sc_text.nd rfl rfl (by decide) rfl rfl (pa_cons (pe_ix ix_list (pe_ix ix_list (pv 0) pe_int (fun _ _ => rfl)) (pe_ix ix_tup (pv 2) pe_int (fun _ _ => rfl)) (fun _ _ => rfl)) (pa_cons (pe_ix ix_list (pe_ix ix_list (pv 0) pe_int (fun _ _ => rfl)) (pe_ix ix_tup (pv 2) pe_int (fun _ _ => rfl)) (fun _ _ => rfl)) pa_nil)) (by rfl)) (pss_one (ps_expr (pe_bm PySem.F.plainAttrs_list PySem.F.slot_list_append PySem.F.type_list_append mt_append (pv 1) (pa_cons (pe_op op_add_str (pe_op op_add_str (pe_op op_add_str (pe_op op_add_str (pe_op op_add_str pe_str (pe_ix ix_tup (pv 2) pe_int (fun _ _ => rfl))) pe_str) (pv 3)) pe_str) (pv 4)) pa_nil))))))
      (pss_cons (ps_for PassesOwn.never rfl (pi_list (pe_ix ix_list (pv 0) pe_int (fun _ _ => rfl))) (pg_name (i := 5) sc_text.nd rfl (Or.inl rfl)) (pss_cons (ps_set (i := 6) sc_text.nd rfl (Or.inl rfl) (pe_ifExp (pt_truth (pe_ix ix_tup (pv 5) pe_int (fun _ _ => rfl)) (by intro _; rfl)) pe_str pe_str)) (pss_one (ps_expr (pe_bm PySem.F.plainAttrs_list PySem.F.slot_list_append PySem.F.type_list_append mt_append (pv 1) (pa_cons (pe_op op_add_str (pe_op op_add_str (pe_op op_add_str (pe_op op_add_str pe_str (pe_ix ix_tup (pv 5) pe_int (fun _ _ => rfl))) pe_str) (pe_ix ix_tup (pe_ix ix_list (pe_ix ix_list (pv 0) pe_int (fun _ _ => rfl)) (pe_ix ix_tup (pv 5) pe_int (fun _ _ => rfl)) (fun _ _ => rfl)) pe_int (fun _ _ => rfl))) (pv 6)) pa_nil))))))
      (pss_one (ps_ret (pe_join pe_str (pv 1))))))), ?_⟩
    obtain ⟨lp, lq, lg, pu, gu, e1, e2, kp⟩ := md.ex
    have ekl : H l = some (.lst [.ref lp, .ref lq, .ref lg]) := kp (l, _) List.mem_cons_self
    have ekp : H lp = some (.lst (M.pl.map V.str)) := kp (lp, _) (List.mem_cons_of_mem _ List.mem_cons_self)
    have ekq : H lq = some (.lst (rf pu)) := kp (lq, _) (List.mem_cons_of_mem _ (List.mem_cons_of_mem _ List.mem_cons_self))
    have ekg : H lg = some (.lst (rf gu)) := kp (lg, _) (List.mem_cons_of_mem _ (List.mem_cons_of_mem _ (List.mem_cons_of_mem _ List.mem_cons_self)))
    have eku : ∀ u ∈ pu, H u.1 = some (oQ u.2) := fun u hu => kp (u.1, _) (List.mem_cons_of_mem _ (List.mem_cons_of_mem _ (List.mem_cons_of_mem _ (List.mem_cons_of_mem _ (List.mem_append_left _ (List.mem_map.mpr ⟨u, hu, rfl⟩))))))
    have ekv : ∀ u ∈ gu, H u.1 = some (oG u.2) := fun u hu => kp (u.1, _) (List.mem_cons_of_mem _ (List.mem_cons_of_mem _ (List.mem_cons_of_mem _ (List.mem_cons_of_mem _ (List.mem_append_right _ (List.mem_map.mpr ⟨u, hu, rfl⟩))))))
    have po := ok.po m12
    have mo := ok.mo o12
    have ul : pu.length ≤ 12 := by rw [← sn_len, e1]; exact Nat.le_trans ok.qm m12
    have gl : gu.length ≤ 12 := by rw [← sn_len, e2]; exact Nat.le_trans ok.gm o12
    have atp : ∀ {i : Nat} (h : i < M.pl.length), atI (M.pl.map V.str) (i : Int) = some (V.str (M.pl.getD i "")) := fun {i} h => atI_nat (by rw [List.getElem?_map, List.getElem?_eq_getElem h, getD_lt h]; rfl)
    have ep1 : Str.length " " = 1 := by decide +kernel
    have ep5 : Str.length "pipe " = 5 := by decide +kernel
    have ep6 : Str.length "meter " = 6 := by decide +kernel
    refine ⟨by decide, fun ll nl => ?_⟩
    have s0 : Same H (upd H ll (.lst [])) := fun b o e => (upd_ne (ne_of_none e nl)).trans e
    dsimp only [gName]
    refine ⟨_, rfl, l, _, 1, _, rfl, rfl, SqL.of (s0 _ _ ekl), rfl, lq, rfl, ⟨_, SqL.of (s0 _ _ ekq)⟩, for_list (xs := rf pu) (fun j σ H' => (∃ o2 o3 o4, σ = [some (.ref l), some (.ref ll), o2, o3, o4, none, none]) ∧ Same H H' ∧ H' ll = some (.lst (((M.ps.take j).map pline).map V.str))) ⟨⟨none, none, none, rfl⟩, s0, upd_same⟩ (fun j σ H' _ z => SqL.of (z.2.1 _ _ ekq)) ?_ ?_⟩
    · rintro j y σ H1 hy ⟨⟨o2, o3, o4, rfl⟩, s1, eL⟩
      obtain ⟨u, hu, rfl⟩ := rf_get hy
      have hsg := sn_get hu
      rw [e1] at hsg
      have hm := List.mem_of_getElem? hsg
      obtain ⟨n1, n2, n3, n4⟩ := ok.qn _ hm
      have eu := s1 _ _ (eku u (List.mem_of_getElem? hu))
      have hps : M.ps[j]? = some (u.2.1, M.pl.getD u.2.2.1 "", M.pl.getD u.2.2.2 "") := by rw [Mod.ps, List.getElem?_map, hsg]; rfl
      obtain ⟨b1, b2, b3, _⟩ := po.nm _ (List.mem_of_getElem? hps)
      have l1 := nm8 b1
      have l2 := nm8 b2
      have l3 := nm8 b3
      dsimp only at l1 l2 l3
      dsimp only [gName]
      refine ⟨_, rfl, l, _, 0, _, rfl, rfl, SqL.of (s1 _ _ ekl), rfl, _, rfl, u.1, _, 1, _, rfl, rfl, SqT.of eu, rfl, lp, _, _, _, rfl, rfl, SqL.of (s1 _ _ ekp), atp n2, ?_⟩
      refine ⟨_, rfl, l, _, 0, _, rfl, rfl, SqL.of (s1 _ _ ekl), rfl, _, rfl, u.1, _, 2, _, rfl, rfl, SqT.of eu, rfl, lp, _, _, _, rfl, rfl, SqL.of (s1 _ _ ekp), atp n3, _, _, rfl, ?_⟩
      dsimp only
      refine ⟨_, rfl, .inl ⟨rfl, _, SqL.of eL⟩, _, rfl, u.1, _, 0, .str u.2.1, rfl, rfl, SqT.of eu, rfl, _, _, rfl, rfl, ?_, _, _, rfl, rfl, ?_, _, rfl, _, _, rfl, rfl, ?_, _, _, rfl, rfl, ?_, _, rfl, _, _, rfl, rfl, ?_, ?_⟩
      · rw [ep5]; exact szn (by omega)
      · rw [sl_app, ep5, ep1]; exact szn (by omega)
      · rw [sl_app, sl_app, ep5, ep1]; exact szn (by omega)
      · rw [sl_app, sl_app, sl_app, ep5, ep1]; exact szn (by omega)
      · rw [sl_app, sl_app, sl_app, sl_app, ep5, ep1]; exact szn (by omega)
      rw [pline_app2]
      refine ⟨ll, _, _, rfl, rfl, eL, ?_, ⟨_, _, _, rfl⟩, fun b o e => ?_, ?_⟩
      · rw [List.length_map, List.length_map]
        have := List.length_take_le' j M.ps
        have := po.ln
        exact Nat.lt_of_le_of_lt (show _ ≤ 20 by omega) (by decide)
      · rw [upd_ne (ne_of_none e nl)]
        exact s1 _ _ e
      · rw [upd_same, List.take_add_one, hps, List.map_append, List.map_append]
        rfl
    rintro σ H1 ⟨⟨o2, o3, o4, rfl⟩, s1, eL⟩
    rw [rf_len, show pu.length = M.ps.length by rw [Mod.ps, List.length_map, ← e1, sn_len], List.take_length] at eL
    have ens : M.ms.length = gu.length := by rw [Mod.ms, List.length_map, ← e2, sn_len]
    dsimp only [gName]
    refine ⟨_, rfl, l, _, 2, _, rfl, rfl, SqL.of (s1 _ _ ekl), rfl, lg, rfl, ⟨_, SqL.of (s1 _ _ ekg)⟩, for_list (xs := rf gu) (fun j σ H' => (∃ o2 o3 o4 o5 o6, σ = [some (.ref l), some (.ref ll), o2, o3, o4, o5, o6]) ∧ Same H H' ∧ H' ll = some (.lst ((M.ps.map pline).map V.str ++ ((M.ms.take j).map mline).map V.str))) ⟨⟨_, _, _, _, _, rfl⟩, s1, by rw [eL]; simp⟩ (fun j σ H' _ z => SqL.of (z.2.1 _ _ ekg)) ?_ ?_⟩
    · rintro j y σ H2 hy ⟨⟨o2, o3, o4, o5, o6, rfl⟩, s2, eL2⟩
      obtain ⟨u, hu, rfl⟩ := rf_get hy
      have hsg := sn_get hu
      rw [e2] at hsg
      have hm := List.mem_of_getElem? hsg
      obtain ⟨n1, n2⟩ := ok.gn _ hm
      have eu := s2 _ _ (ekv u (List.mem_of_getElem? hu))
      have hms : M.ms[j]? = some (u.2.1, (M.qs.getD u.2.2.1 ("", 0, 0)).1, u.2.2.2) := by rw [Mod.ms, List.getElem?_map, hsg]; rfl
      obtain ⟨b1, b2⟩ := mo.nm _ (List.mem_of_getElem? hms)
      have l1 := nm8 b1
      have l2 := nm8 b2
      dsimp only at l1 l2
      have hqu : u.2.2.1 < pu.length := by rw [← sn_len, e1]; exact n2
      have eq1 := sn_get (List.getElem?_eq_getElem hqu)
      rw [e1] at eq1
      have eq2 : M.qs.getD u.2.2.1 ("", 0, 0) = (pu[u.2.2.1]).2 := by rw [List.getD, eq1]; rfl
      have epq := s2 _ _ (eku _ (List.getElem_mem hqu))
      rw [eq2] at hms l2
      have atq : atI (rf pu) ((u.2.2.1 : Nat) : Int) = some (V.ref (pu[u.2.2.1]).1) := atI_nat (by rw [rf, List.getElem?_map, List.getElem?_eq_getElem hqu]; rfl)
      have e3 : (mseal u.2.2.2).length ≤ 7 := by cases u.2.2.2 <;> decide +kernel
      dsimp only [gName]
      refine ⟨_, rfl, u.1, _, 2, .bl u.2.2.2, rfl, rfl, SqT.of eu, rfl, u.2.2.2, rfl, ?_⟩
      have ez0 : Str.length "" = 0 := by decide +kernel
      have ez7 : Str.length " sealed" = 7 := by decide +kernel
      have ed := mline_app (u.2.1, (pu[u.2.2.1]).2.1, u.2.2.2)
      dsimp only at ed
      cases hz : u.2.2.2
      refine iteF ?_
      rotate_left
      refine iteT ?_
      all_goals
        rw [hz] at ed hms
        dsimp only [gName]
        refine ⟨_, rfl, .inl ⟨rfl, _, SqL.of eL2⟩, _, rfl, u.1, _, 0, .str u.2.1, rfl, rfl, SqT.of eu, rfl, _, _, rfl, rfl, ?_, _, _, rfl, rfl, ?_, ?_⟩
        · rw [ep6]; exact szn (by omega)
        · rw [sl_app, ep6, ep1]; exact szn (by omega)
        refine ⟨_, rfl, l, _, 1, _, rfl, rfl, SqL.of (s2 _ _ ekl), rfl, _, rfl, u.1, _, 1, _, rfl, rfl, SqT.of eu, rfl, lq, _, _, _, rfl, rfl, SqL.of (s2 _ _ ekq), atq, _, _, 0, .str (pu[u.2.2.1]).2.1, rfl, rfl, SqT.of epq, rfl, _, _, rfl, rfl, ?_, _, rfl, _, _, rfl, rfl, ?_, ?_⟩
        · rw [sl_app, sl_app, ep6, ep1]; exact szn (by omega)
        · rw [sl_app, sl_app, sl_app, ep6, ep1]; first | rw [ez0] | rw [ez7]
          exact szn (by omega)
        refine ⟨ll, _, _, rfl, rfl, eL2, ?_, ⟨_, _, _, _, _, rfl⟩, fun b o e => ?_, ?_⟩
        · simp only [List.length_append, List.length_map]
          have h1 := List.length_take_le' j M.ms
          have h2 := po.ln
          have h3 := mo.ln
          exact Nat.lt_of_le_of_lt (show _ ≤ 30 by omega) (by decide)
        · rw [upd_ne (ne_of_none e nl)]
          exact s2 _ _ e
        · rw [upd_same, List.take_add_one, hms, List.map_append, List.map_append, List.append_assoc]
          exact congrArg (fun z => some (HO.lst (_ ++ (_ ++ [V.str z])))) ed
    rintro σ H2 ⟨⟨o2, o3, o4, o5, o6, rfl⟩, s2, eL2⟩
    rw [rf_len, ← ens, List.take_length, ← List.map_append] at eL2
    have pn : PNm M.ps := fun p hp => ⟨(po.nm p hp).1, (po.nm p hp).2.1, (po.nm p hp).2.2.1⟩
    have mn : MNm M.ms := fun p hp => mo.nm p hp
    have h1 := netL_sum pn mn
    have h2 : (netL M.ps M.ms).length = M.ps.length + M.ms.length := by rw [netL, List.length_append, List.length_map, List.length_map]
    have h3 : Str.length "\n" = 1 := by decide +kernel
    have h4 := po.ln
    have h5 := mo.ln
    refine ⟨⟨_, rfl⟩, _, rfl, _, ll, netL M.ps M.ms, rfl, rfl, .inl (SqL.of eL2), ?_, k _ s2⟩
    rw [h3]
    omega
end
end RV
namespace RV
open PySem L2 TL
section
variable {P : Program} {w : World} {K : PySem.W.Frag} {mg : Str → Option Value} {base : Heap} {CN CP CM : Addr}
theorem ok_gpipe {f : Addr} {fd : FuncData} (F : Fun K "pipe" "Net.pipe" s_Net_pipe f fd) (NC : NClass K mg CN) (h_index_of : Fn P w K mg base "_index_of" 3 ["parts", "name"] (Irr (sp_index K CP))) : FnOk P w K mg base CX0 4 f fd ["self", "name"] (sp_gpipe K CN CP CM) := by
  refine F.ok sc_Net_pipe (fun vs H Q E h => ?_) (fun cdv A outer s H vs Q E hr h => ?_)
  · obtain ⟨_, _, _, _, rfl, _⟩ := h
    rfl
  · obtain ⟨x, ps, ms, y, rfl, nr, hl, hy, k⟩ := h
    refine ⟨_, (pss_cons (ps_set (i := 2) sc_Net_pipe.nd rfl (Or.inl rfl) (pe_fn h_index_of (hr.mono (by decide)) (pa_cons (pe_fld (pv 0) rfl) (pa_cons (pv 1) pa_nil))))
      (pss_cons (ps_if (pt_cmpR op_isN (pv 2) pe_non (nomark _)) (pss_one ps_never) pss_nil)
      (pss_one (ps_ret (pe_ix ix_tup (pe_fld (pv 0) rfl) (pv 2) (fun _ _ => rfl)))))), ?_⟩
    obtain ⟨dx, tp, tm, pu, mu, ex, hp, hm, rfl, rfl⟩ := nr.ex
    refine ⟨_, rfl, x, CN, dx, _, _, rfl, ex, NC.x.cl, NC.n1, netF_p _ _, _, rfl, irr ⟨tp, pu, y, rfl, hp, by rw [sn_len] at hl; exact hl, hy, fun i H1 hi s1 => ?_⟩⟩
    refine ⟨_, rfl, rfl, _, rfl, iteF ?_⟩
    have ex1 := s1 _ _ ex
    have hp1 := hp.ext s1
    cases hu : pu[i]? with
    | none => rw [sn, List.getElem?_map, hu] at hi; cases hi
    | some u =>
      have hu2 : (sn pu)[i]? = some u.2 := sn_get hu
      rw [hu2] at hi
      refine ⟨_, rfl, x, CN, dx, _, _, rfl, ex1, NC.x.cl, NC.n1, netF_p _ _, _, rfl, tp, _, _, _, rfl, rfl, hp1.t, atI_nat (j := i) (by rw [rf, List.getElem?_map, hu]; rfl), ?_⟩
      exact k u.1 i u.2 H1 hu2 (Option.some.inj hi) s1 (hp1.o u (List.mem_of_getElem? hu))
theorem ok_chkn {f : Addr} {fd : FuncData} (F : Fun K "check_net" "check_net" s_check_net f fd) (T : Blt mg) (NC : NClass K mg CN) : FnOk P w K mg base CX0 1 f fd ["net"] (sp_chkn K CN CP CM) := by
  refine F.ok sc_check_net (fun vs H Q E h => ?_) (fun cdv A outer s H vs Q E hr h => ?_)
  · obtain ⟨_, _, _, rfl, _⟩ := h
    rfl
  · obtain ⟨x, ps, ms, rfl, nr, k⟩ := h
    refine ⟨_, (pss_one (ps_if (pt_not (pt_val (pe_callB call_isi (by rfl) T.b_isinstance (by decide +kernel) (pa_cons (pv 0) (pa_cons (pe_gC NC.k) pa_nil))))) (pss_one ps_never) pss_nil)), ?_⟩
    obtain ⟨dx, tp, tm, pu, mu, ex, hp, hm, rfl, rfl⟩ := nr.ex
    exact ⟨_, rfl, _, _, _, .ref CN, true, rfl, .own CN, NC.x.ty ex, NC.me, true, rfl, iteF k⟩
theorem ok_chkp {f : Addr} {fd : FuncData} (F : Fun K "check_pipe" "check_pipe" s_check_pipe f fd) (h_gpipe : Mtd P w K mg base CN "pipe" 4 ["self", "name"] (Irr (sp_gpipe K CN CP CM))) : FnOk P w K mg base CX0 5 f fd ["net", "pipe"] (sp_chkp K CN CP CM) := by
  refine F.ok sc_check_pipe (fun vs H Q E h => ?_) (fun cdv A outer s H vs Q E hr h => ?_)
  · obtain ⟨_, _, _, _, rfl, _⟩ := h
    rfl
  · obtain ⟨x, ps, ms, y, rfl, nr, hl, hy, k⟩ := h
    refine ⟨_, (pss_one (ps_expr (pe_mtd h_gpipe (hr.mono (by decide)) (pv 0) (pa_cons (pv 1) pa_nil)))), ?_⟩
    obtain ⟨dx, tp, tm, pu, mu, ex, hp, hm, e1, e2⟩ := id nr.ex
    refine ⟨_, rfl, x, dx, _, rfl, ex, rfl, _, rfl, irr ⟨x, ps, ms, y, rfl, nr, hl, hy, fun a i q H1 hi hq s1 pa => k H1 s1⟩⟩
theorem ok_mat {f : Addr} {fd : FuncData} (F : Fun K "meters_at" "meters_at" s_meters_at f fd) (h_nm : Prp P w K mg base CN "meters" 1 (Irr (sp_nme CN))) (h_ma : Prp P w K mg base CM "at" 1 (Irr (sp_ma CM))) : FnOk P w K mg base CX0 3 f fd ["net", "name"] (sp_mat K CN CP CM) := by
  refine F.ok sc_meters_at (fun vs H Q E h => ?_) (fun cdv A outer s H vs Q E hr h => ?_)
  · obtain ⟨_, _, _, _, rfl, _⟩ := h
    rfl
  · obtain ⟨x, ps, ms, y, rfl, nr, hl, k⟩ := h
    refine ⟨_, (pss_one (ps_ret (pe_lc (own := [("part", 2)]) (g := gName 2) rfl sc_meters_at.nd (pi_tup (pe_propN h_nm (hr.mono (by decide)) (pv 0))) (blkOk_by (N := sc_meters_at_N) (sc := defScope s_meters_at) (by decide +kernel)) (fun _ _ _ _ _ => pg_name (i := 2) sc_meters_at.nd rfl (Or.inl rfl)) (fun _ _ _ _ _ => pts_one (pt_cmpR op_eq (pe_propN h_ma (hr.mono (by decide)) (pv 2)) (pv 1) (nomark _))) (fun _ _ _ _ _ => (pv 2))))), ?_⟩
    obtain ⟨dx, tp, tm, pu, mu, ex, hp, hm, rfl, rfl⟩ := nr.ex
    have ml : mu.length ≤ 12 := by rw [sn_len] at hl; exact hl
    refine ⟨_, rfl, x, dx, _, rfl, ex, irr ⟨x, dx, tp, tm, rfl, ex, tm, rfl, ⟨_, hm.t⟩, fun D nD => lc_keep (fun u : MU => decide (u.2.2.1 = y)) walk_tup nD (by omega) (fun H' s' => hm.t.ext s') (fun _ => rfl) (fun u hu H2 s2 R kR => ?_) (fun u hu H2 R kR => ⟨_, rfl, kR⟩) fun H2 s2 hD => ?_⟩⟩
    · have mu2 := (hm.o u hu).ext s2
      obtain ⟨dx2, ex2⟩ := id mu2
      refine ⟨_, rfl, u.1, dx2, _, rfl, ex2, irr ⟨u.1, u.2, rfl, mu2, _, rfl, rfl, _, rfl, ?_⟩⟩
      rw [decV]
      exact kR H2 (Same.refl _)
    · refine k D _ H2 s2 hD (fun u hu => (hm.o u (List.mem_filter.mp hu).1).ext s2) ?_
      rw [sn, onP, sn, List.filter_map]
      rfl
theorem ok_sat {f : Addr} {fd : FuncData} (F : Fun K "sealed_at" "sealed_at" s_sealed_at f fd) (h_mat : Fn P w K mg base "meters_at" 3 ["net", "name"] (Irr (sp_mat K CN CP CM))) (h_mn : Prp P w K mg base CM "name" 1 (Irr (sp_mn CM))) (h_mz : Prp P w K mg base CM "sealed" 1 (Irr (sp_mz CM))) : FnOk P w K mg base CX0 4 f fd ["net", "name"] (sp_sat K CN CP CM) := by
  refine F.ok sc_sealed_at (fun vs H Q E h => ?_) (fun cdv A outer s H vs Q E hr h => ?_)
  · obtain ⟨_, _, _, _, rfl, _⟩ := h
    rfl
  · obtain ⟨x, ps, ms, y, rfl, nr, hl, k⟩ := h
    refine ⟨_, (pss_one (ps_ret (pe_lc (own := [("part", 2)]) (g := gName 2) rfl sc_sealed_at.nd (pi_list (pe_fn h_mat (hr.mono (by decide)) (pa_cons (pv 0) (pa_cons (pv 1) pa_nil)))) (blkOk_by (N := sc_sealed_at_N) (sc := defScope s_sealed_at) (by decide +kernel)) (fun _ _ _ _ _ => pg_name (i := 2) sc_sealed_at.nd rfl (Or.inl rfl)) (fun _ _ _ _ _ => pts_one (pt_val (pe_propN h_mz (hr.mono (by decide)) (pv 2)))) (fun _ _ _ _ _ => (pe_propN h_mn (hr.mono (by decide)) (pv 2)))))), ?_⟩
    refine ⟨_, rfl, _, rfl, irr ⟨x, ps, ms, y, rfl, nr, hl, fun l us H1 s1 hL hu e1 => ?_⟩⟩
    have ul : us.length ≤ 12 := by
      rw [← sn_len, e1]
      exact Nat.le_trans (List.length_filter_le _ _) hl
    refine ⟨l, rfl, ⟨_, SqL.of hL⟩, fun D nD => ?_⟩
    refine lc_keepF (fun u : MU => u.2.2.2) (fun u => V.str u.2.1) walk_list nD (by omega) (fun H' s' => SqL.of (s' _ _ hL)) (fun _ => rfl) (fun u hm H2 s2 R kR => ?_) (fun u hm H2 s2 R kR => ?_) fun H2 s2 hD => ?_
    · have mu2 := (hu u hm).ext s2
      obtain ⟨dx2, ex2⟩ := id mu2
      exact ⟨_, rfl, u.1, dx2, _, rfl, ex2, irr ⟨u.1, u.2, rfl, mu2, _, rfl, kR H2 (Same.refl _)⟩⟩
    · have mu2 := (hu u hm).ext s2
      obtain ⟨dx2, ex2⟩ := id mu2
      exact ⟨_, rfl, u.1, dx2, _, rfl, ex2, irr ⟨u.1, u.2, rfl, mu2, kR⟩⟩
    · refine k D _ H2 (s1.trans s2) hD ?_
      rw [seP, ← e1, sn, List.filter_map, List.map_eq_nil_iff, List.map_eq_nil_iff]
      exact Iff.rfl
end
end RV
namespace RV
open PySem L2 TL
theorem decN (j : Nat) : ∀ o : Option Nat, decide (V.int (j : Nat) = vN o) = decide (o = some j)
  | none => by simp [vN]
  | some k => by
    simp only [vN, V.int.injEq, Option.some.injEq]
    exact decide_eq_decide.mpr (by omega)
section
variable {P : Program} {w : World} {K : PySem.W.Frag} {mg : Str → Option Value} {base : Heap} {CN CP CM : Addr}
theorem ok_amt {f : Addr} {fd : FuncData} (F : Fun K "_amounts" "_amounts" s_amounts f fd) (T : Blt mg) (T2 : Blt2 mg) (h_np : Prp P w K mg base CN "pipes" 1 (Irr (sp_npi CN))) : FnOk P w K mg base CX0 3 f fd ["net", "index", "amount"] (sp_amt K CN CP CM) := by
  refine F.ok sc_amounts (fun vs H Q E h => ?_) (fun cdv A outer s H vs Q E hr h => ?_)
  · obtain ⟨_, _, _, _, _, rfl, _⟩ := h
    rfl
  · obtain ⟨x, ps, ms, o, c, rfl, nr, hl, k⟩ := h
    refine ⟨_, (pss_one (ps_ret (pe_callTy call_tuple_of (by rfl) T2.b_tuple (by decide +kernel) (pa_cons (pe_lc (own := [("at", 3)]) (g := gName 3) (tt := tYes) rfl sc_amounts.nd (pi_range1 rfl T.b_range (pa_cons (pe_callB call_len_seq (by rfl) T.b_len (by decide +kernel) (pa_cons (pe_propN h_np (hr.mono (by decide)) (pv 0)) pa_nil)) pa_nil)) (blkOk_by (N := sc_amounts_N) (sc := defScope s_amounts) (by decide +kernel)) (fun _ _ _ _ _ => pg_name (i := 3) sc_amounts.nd rfl (Or.inl rfl)) (fun _ _ _ _ _ => pts_nil) (fun _ _ _ _ _ => (pe_ifExp (pt_cmpR op_eq (pv 3) (pv 1) (nomark _)) (pv 2) pe_int))) pa_nil)))), ?_⟩
    obtain ⟨dx, tp, tm, pu, mu, ex, hp, hm, rfl, rfl⟩ := nr.ex
    have pl : pu.length ≤ 12 := by rw [sn_len] at hl; exact hl
    refine ⟨_, rfl, x, dx, _, rfl, ex, irr ⟨x, dx, tp, tm, rfl, ex, tp, _, rfl, .inr hp.t, pu.length, by rw [rf_len], by omega, by omega, fun D nD => lc_to (xs := rgL pu.length) ((un pu.length o c).map V.int) (by rw [rgL_len, List.length_map, un, List.length_map, List.length_range]) walk_rgL nD (by rw [rgL_len]; omega) (fun _ _ => True.intro) (fun _ => rfl) (fun j x y hx hy H2 s2 R kR => ?_) fun H2 s2 hD => ?_⟩⟩
    · obtain ⟨rfl, hj⟩ := rgL_get hx
      have ey : y = V.int (if o = some j then c else 0) := by
        rw [un, List.map_map, List.getElem?_map, List.getElem?_range hj] at hy
        exact (Option.some.inj hy).symm
      refine ⟨_, rfl, _, rfl, by cases o <;> rfl, _, rfl, ?_⟩
      rw [decN]
      by_cases e : o = some j
      · rw [if_pos e] at ey
        rw [decide_eq_true e]
        exact iteT ⟨_, rfl, ey ▸ kR H2 (Same.refl _)⟩
      · rw [if_neg e] at ey
        rw [decide_eq_false e]
        exact iteF (ey ▸ kR H2 (Same.refl _))
    · refine ⟨D, _, rfl, .inl ⟨SqL.of hD, fun t nt => ?_⟩⟩
      refine k t _ (fun b o e => (upd_ne (ne_of_none (s2 _ _ e) nt)).trans (s2 _ _ e)) ?_
      rw [upd_same, sn_len]
theorem ok_lnks {f : Addr} {fd : FuncData} (F : Fun K "_links" "_links" s_links f fd) (T : Blt mg) (T2 : Blt2 mg) (h_np : Prp P w K mg base CN "pipes" 1 (Irr (sp_npi CN))) (h_pn : Prp P w K mg base CP "name" 1 (Irr (sp_pn CP))) (h_ps : Prp P w K mg base CP "start" 1 (Irr (sp_ps CP))) (h_pe : Prp P w K mg base CP "end" 1 (Irr (sp_pe CP)))
    (h_sat : Fn P w K mg base "sealed_at" 4 ["net", "name"] (Irr (sp_sat K CN CP CM))) (h_mat : Fn P w K mg base "meters_at" 3 ["net", "name"] (Irr (sp_mat K CN CP CM))) (h_amt : Fn P w K mg base "_amounts" 3 ["net", "index", "amount"] (Irr (sp_amt K CN CP CM))) : FnOk P w K mg base CX0 5 f fd ["net", "pipe"] (sp_lnks K CN CP CM) := by
  refine F.ok sc_links (fun vs H Q E h => ?_) (fun cdv A outer s H vs Q E hr h => ?_)
  · obtain ⟨_, _, _, _, rfl, _⟩ := h
    rfl
  · obtain ⟨x, ps, ms, y, rfl, nr, pl, ml, k⟩ := h
    refine ⟨_, (pss_cons (ps_set (i := 2) sc_links.nd rfl (Or.inl rfl) (pe_lst pa_nil))
      (pss_cons (ps_for PassesOwn.never rfl (pi_enumT (by rfl) T2.b_enumerate (pa_cons (pe_propN h_np (hr.mono (by decide)) (pv 0)) pa_nil)) (pg_tup (by rfl) (pgs_cons (pg_name (i := 3) sc_links.nd rfl (Or.inl rfl)) (pgs_cons (pg_name (i := 4) sc_links.nd rfl (Or.inl rfl)) pgs_nil))) (pss_one (ps_if (PW.pt (pw_and (pt_cmpR op_ne (pe_propN h_pn (hr.mono (by decide)) (pv 4)) (pv 1) (nomark _)) (pw_and1 (pt_not (pt_truth (pe_fn h_sat (hr.mono (by decide)) (pa_cons (pv 0) (pa_cons (pe_propN h_pn (hr.mono (by decide)) (pv 4)) pa_nil))) (by intro _; rfl)))))) (pss_cons (ps_set (i := 5) sc_links.nd rfl (Or.inl rfl) (pe_callB call_len_seq (by rfl) T.b_len (by decide +kernel) (pa_cons (pe_fn h_mat (hr.mono (by decide)) (pa_cons (pv 0) (pa_cons (pe_propN h_pn (hr.mono (by decide)) (pv 4)) pa_nil))) pa_nil))) (pss_cons (ps_expr (pe_bm PySem.F.plainAttrs_list PySem.F.slot_list_append PySem.F.type_list_append mt_append (pv 2) (pa_cons (pe_tup (pa_cons (pe_propN h_ps (hr.mono (by decide)) (pv 4)) (pa_cons (pe_propN h_pe (hr.mono (by decide)) (pv 4)) (pa_cons (pv 5) (pa_cons (pe_fn h_amt (hr.mono (by decide)) (pa_cons (pv 0) (pa_cons (pv 3) (pa_cons pe_int pa_nil)))) pa_nil))))) pa_nil))) (pss_one (ps_expr (pe_bm PySem.F.plainAttrs_list PySem.F.slot_list_append PySem.F.type_list_append mt_append (pv 2) (pa_cons (pe_tup (pa_cons (pe_propN h_pe (hr.mono (by decide)) (pv 4)) (pa_cons (pe_propN h_ps (hr.mono (by decide)) (pv 4)) (pa_cons (pv 5) (pa_cons (pe_fn h_amt (hr.mono (by decide)) (pa_cons (pv 0) (pa_cons (pv 3) (pa_cons (pe_un un_neg pe_int) pa_nil)))) pa_nil))))) pa_nil)))))) pss_nil)))
      (pss_one (ps_ret (pv 2))))), ?_⟩
    obtain ⟨dx, tp, tm, pu, mu, ex, hp, hm, ep, em⟩ := id nr.ex
    have pul : pu.length ≤ 12 := by rw [← sn_len, ep]; exact pl
    refine ⟨by decide, fun l nl => ?_⟩
    have s0 : Same H (upd H l (.lst [])) := fun b o e => (upd_ne (ne_of_none e nl)).trans e
    dsimp only [gName]
    refine ⟨_, rfl, x, dx, _, rfl, s0 _ _ ex, irr ⟨x, dx, tp, tm, rfl, s0 _ _ ex, tp, _, rfl, hp.t.ext s0, for_enumT (xs := rf pu) (fun i σ H' => ∃ (us : List (Addr × L4)) (o3 o4 o5 : Option V), σ = [some (.ref x), some (.str y), some (.ref l), o3, o4, o5] ∧ Same H H' ∧ H' l = some (.lst (rf us)) ∧ (∀ u ∈ us, LkAt H' u.1 u.2) ∧ sn us = lkF ps.length ms y 0 (ps.take i)) ⟨[], none, none, none, rfl, s0, upd_same, fun u hu => (nomatch hu), rfl⟩ ?_ ?_ ?_⟩⟩
    · rintro i σ H1 _ ⟨_, _, _, _, _, s1, _⟩
      exact hp.t.ext s1
    · rintro i v σ H1 T' hv ⟨us, o3, o4, o5, rfl, s1, hL, hat, hsn⟩ nT
      obtain ⟨u, hu, rfl⟩ := rf_get hv
      have hpi : ps[i]? = some u.2 := ep ▸ sn_get hu
      have hm := List.mem_of_getElem? hu
      have s1b : Same H1 (upd H1 T' (.tup [.int (i : Nat), .ref u.1])) := fun b o e => (upd_ne (ne_of_none e nT)).trans e
      have s2 : Same H (upd H1 T' (.tup [.int (i : Nat), .ref u.1])) := s1.trans s1b
      have pa := (hp.o u hm).ext s2
      obtain ⟨dp, edp⟩ := id pa
      refine ⟨T', _, rfl, SqT.of upd_same, rfl, _, _, rfl, _, _, rfl, rfl, ?_⟩
      refine ⟨_, rfl, u.1, dp, _, rfl, edp, irr ⟨u.1, u.2, rfl, pa, _, rfl, ?_⟩⟩
      refine ⟨rfl, _, rfl, ?_⟩
      rw [decV]
      have hL2 := s1b _ _ hL
      have hat2 : ∀ q ∈ us, LkAt (upd H1 T' (.tup [.int (i : Nat), .ref u.1])) q.1 q.2 := fun q hq => (hat q hq).ext s1b
      have lus : us.length ≤ 24 := by
        rw [← sn_len, hsn]
        have h1 := lkF_len ps.length ms y 0 (ps.take i)
        have h2 := List.length_take_le' i ps
        omega
      have skip : ∀ H', Same (upd H1 T' (.tup [.int (i : Nat), .ref u.1])) H' → ¬ (u.2.1 ≠ y ∧ seP ms u.2.1 = []) → ∃ (us : List (Addr × L4)) (a3 a4 a5 : Option V), (([some (V.ref x), some (V.str y), some (V.ref l), o3, o4, o5].set 3 (some (V.int ↑i))).set 4 (some (V.ref u.fst))) = [some (.ref x), some (.str y), some (.ref l), a3, a4, a5] ∧ Same H H' ∧ H' l = some (.lst (rf us)) ∧ (∀ u ∈ us, LkAt H' u.1 u.2) ∧ sn us = lkF ps.length ms y 0 (ps.take (i + 1)) := fun H' s' no =>
        ⟨us, some (.int i), some (.ref u.1), o5, rfl, s2.trans s', s' _ _ hL2, fun q hq => (hat2 q hq).ext s', by rw [lkF_take hpi, lks, if_neg no, List.append_nil]; exact hsn⟩
      refine ite2 (fun h1 => ?_) fun h1 => ?_
      · have hne : u.2.1 ≠ y := by simpa using h1
        refine ⟨_, rfl, _, rfl, u.1, dp, _, rfl, edp, irr ⟨u.1, u.2, rfl, pa, irr ⟨x, ps, ms, u.2.1, rfl, nr.ext s2, ml, fun l2 xs H3 s3 h3 hiff => ?_⟩⟩⟩
        refine ⟨!xs.isEmpty, .inl ⟨xs, SqL.of h3, rfl⟩, ?_⟩
        cases xs with
        | cons v vs =>
          obtain ⟨q1, q2, q3, q4, q5⟩ := skip H3 s3 fun z => nomatch hiff.mpr z.2
          exact iteF ⟨q1, q2, q3, q4, q5⟩
        | nil =>
          have hse := hiff.mp rfl
          have pa3 := pa.ext s3
          obtain ⟨dp3, ed3⟩ := id pa3
          refine iteT ⟨_, rfl, _, rfl, u.1, dp3, _, rfl, ed3, irr ⟨u.1, u.2, rfl, pa3, irr ⟨x, ps, ms, u.2.1, rfl, nr.ext (s2.trans s3), ml, fun l3 mus H4 s4 h4 hm4 em4 => ?_⟩⟩⟩
          have emany : (rf mus).length = wtP ms u.2.1 := by rw [rf_len, wtP, ← em4, sn_len]
          refine ⟨l3, _, rfl, .inl (SqL.of h4), ?_⟩
          rw [emany]
          dsimp only [gName]
          have s4b : Same H H4 := (s2.trans s3).trans s4
          have hL4 := s4 _ _ (s3 _ _ hL2)
          have pa4 := pa3.ext s4
          obtain ⟨dp4, ed4⟩ := id pa4
          refine ⟨_, rfl, .inl ⟨rfl, _, SqL.of hL4⟩, _, rfl, u.1, dp4, _, rfl, ed4, irr ⟨u.1, u.2, rfl, pa4, _, rfl, u.1, dp4, _, rfl, ed4, irr ⟨u.1, u.2, rfl, pa4, _, rfl, _, rfl, _, rfl, irr ⟨x, ps, ms, some i, 1, rfl, nr.ext s4b, pl, fun t1 H5 s5 h5 => ⟨(by show 4 ≤ sizeLine; decide), fun T1 nT1 => ?_⟩⟩⟩⟩⟩
          have hL5 := s5 _ _ hL4
          have s5b : Same H5 (upd H5 T1 (.tup [.str u.2.2.1, .str u.2.2.2, .int (wtP ms u.2.1 : Nat), .ref t1])) := fun b o e => (upd_ne (ne_of_none e nT1)).trans e
          refine ⟨l, _, _, rfl, rfl, s5b _ _ hL5, by rw [rf_len]; exact Nat.lt_of_le_of_lt lus (by decide), ?_⟩
          have s6 : Same H (upd (upd H5 T1 (.tup [.str u.2.2.1, .str u.2.2.2, .int (wtP ms u.2.1 : Nat), .ref t1])) l (.lst (rf us ++ [.ref T1]))) := fun b o e => (upd_ne (ne_of_none e nl)).trans (s5b _ _ (s5 _ _ (s4b _ _ e)))
          have lk1 : LkAt (upd H5 T1 (.tup [.str u.2.2.1, .str u.2.2.2, .int (wtP ms u.2.1 : Nat), .ref t1])) T1 (u.2.2.1, u.2.2.2, wtP ms u.2.1, un ps.length (some i) 1) := ⟨t1, upd_same, s5b _ _ h5⟩
          have hat6 : ∀ q ∈ us ++ [(T1, (u.2.2.1, u.2.2.2, wtP ms u.2.1, un ps.length (some i) 1))], LkAt (upd (upd H5 T1 (.tup [.str u.2.2.1, .str u.2.2.2, .int (wtP ms u.2.1 : Nat), .ref t1])) l (.lst (rf us ++ [.ref T1]))) q.1 q.2 := fun q hq => by
            refine LkAt.put ?_ (s5b _ _ hL5)
            rcases List.mem_append.mp hq with hq | hq
            · exact ((((hat2 q hq).ext s3).ext s4).ext s5).ext s5b
            · rw [List.mem_singleton.mp hq]
              exact lk1
          generalize hH6 : upd (upd H5 T1 (.tup [.str u.2.2.1, .str u.2.2.2, .int (wtP ms u.2.1 : Nat), .ref t1])) l (.lst (rf us ++ [.ref T1])) = H6 at s6 hat6
          have hL6 : H6 l = some (.lst (rf us ++ [.ref T1])) := by rw [← hH6, upd_same]
          have pa6 := (hp.o u hm).ext s6
          obtain ⟨dp6, ed6⟩ := id pa6
          refine ⟨_, rfl, .inl ⟨rfl, _, SqL.of hL6⟩, _, rfl, u.1, dp6, _, rfl, ed6, irr ⟨u.1, u.2, rfl, pa6, _, rfl, u.1, dp6, _, rfl, ed6, irr ⟨u.1, u.2, rfl, pa6, _, rfl, _, rfl, _, rfl, _, rfl, irr ⟨x, ps, ms, some i, -1, rfl, nr.ext s6, pl, fun t2 H7 s7 h7 => ⟨(by show 4 ≤ sizeLine; decide), fun T2 nT2 => ?_⟩⟩⟩⟩⟩
          have hL7 := s7 _ _ hL6
          have s7b : Same H7 (upd H7 T2 (.tup [.str u.2.2.2, .str u.2.2.1, .int (wtP ms u.2.1 : Nat), .ref t2])) := fun b o e => (upd_ne (ne_of_none e nT2)).trans e
          refine ⟨l, _, _, rfl, rfl, s7b _ _ hL7, by rw [List.length_append, rf_len]; exact Nat.lt_of_le_of_lt (show _ ≤ 25 by simp; omega) (by decide), ?_⟩
          refine ⟨us ++ [(T1, (u.2.2.1, u.2.2.2, wtP ms u.2.1, un ps.length (some i) 1)), (T2, (u.2.2.2, u.2.2.1, wtP ms u.2.1, un ps.length (some i) (-1)))], _, _, _, rfl, fun b o e => (upd_ne (ne_of_none e nl)).trans (s7b _ _ (s7 _ _ (s6 _ _ e))), ?_, fun q hq => LkAt.put ?_ (s7b _ _ hL7), ?_⟩
          · rw [upd_same]
            simp [rf]
          · rw [show us ++ [(T1, (u.2.2.1, u.2.2.2, wtP ms u.2.1, un ps.length (some i) 1)), (T2, (u.2.2.2, u.2.2.1, wtP ms u.2.1, un ps.length (some i) (-1)))] = (us ++ [(T1, (u.2.2.1, u.2.2.2, wtP ms u.2.1, un ps.length (some i) 1))]) ++ [(T2, (u.2.2.2, u.2.2.1, wtP ms u.2.1, un ps.length (some i) (-1)))] by simp] at hq
            rcases List.mem_append.mp hq with hq | hq
            · exact ((hat6 q hq).ext s7).ext s7b
            · rw [List.mem_singleton.mp hq]
              exact ⟨t2, upd_same, s7b _ _ h7⟩
          · rw [lkF_take hpi, lks, if_pos ⟨hne, hse⟩, ← hsn]
            simp [sn]
      · obtain ⟨q1, q2, q3, q4, q5⟩ := skip _ (Same.refl _) fun z => h1 (by simpa using z.1)
        exact iteF ⟨q1, q2, q3, q4, q5⟩
    · rintro σ H1 ⟨us, o3, o4, o5, rfl, s1, hL, hat, hsn⟩
      rw [rf_len, show pu.length = ps.length by rw [← ep, sn_len], List.take_length] at hsn
      exact ⟨_, rfl, k l us H1 s1 hL hat hsn⟩
end
end RV
namespace RV
open PySem L2 TL
section
variable {P : Program} {w : World} {K : PySem.W.Frag} {mg : Str → Option Value} {base : Heap} {CN CP CM : Addr}
theorem ok_lead {f : Addr} {fd : FuncData} (F : Fun K "_lead_on" "_lead_on" s_lead_on f fd) (hz : mg "zip" = none) (T2 : Blt2 mg) : FnOk P w K mg base CX0 1 f fd ["ways", "start", "end", "many", "amounts"] sp_lead := by
  refine F.ok sc_lead_on (fun vs H Q E h => ?_) (fun cdv A outer s H vs Q E hr h => ?_)
  · obtain ⟨_, _, _, _, _, _, _, _, _, _, _, rfl, _⟩ := h
    rfl
  · obtain ⟨d, t, a, b, m, n, fs, kvs, g, Z, Z', rfl, ed, et, fn, n12, kl, dw0, zk, zn, k⟩ := h
    have dw := dw0.imp zk
    have hu : (A.deeper (PyProof.Rows.envOfC "_lead_on" (defScope s_lead_on) s.heap.objs.size f cdv)).units + 1 < cLine := by have := hr.units; omega
    refine ⟨_, (pss_cons (ps_if (pt_cmp (pc_dnotin hu (pv 1) (pv 0))) (pss_one ps_retN) pss_nil)
      (pss_cons (ps_asg (pe_dget hu (pv 0) (pv 1) (fun _ _ => rfl)) (pg_tup (by rfl) (pgs_cons (pg_name (i := 5) sc_lead_on.nd rfl (Or.inl rfl)) (pgs_cons (pg_name (i := 6) sc_lead_on.nd rfl (Or.inl rfl)) pgs_nil))))
      (pss_one (ps_if (PW.pt (pw_or (pt_cmp (pc_dnotin hu (pv 2) (pv 0))) (pw_or1 (pt_cmpR op_lt (pe_op op_add (pv 5) (pv 3)) (pe_ix ix_tup (pe_dget hu (pv 0) (pv 2) (fun _ _ => rfl)) pe_int (fun _ _ => rfl)) (nomark _))))) (pss_one (ps_dput hu (pv 0) (pv 2) (pe_tup (pa_cons (pe_op op_add (pv 5) (pv 3)) (pa_cons (pe_callTy call_tuple_of (by rfl) T2.b_tuple (by decide +kernel) (pa_cons (pe_lc (own := [("here", 7), ("more", 8)]) (g := gPr K 7 8) (tt := tYes) rfl sc_lead_on.nd (RZ.pi_zipA (by rfl) hz (pa_cons (pv 6) (pa_cons (pv 4) pa_nil))) (blkOk_by (N := sc_lead_on_N) (sc := defScope s_lead_on) (by decide +kernel)) (fun _ _ _ _ _ => pg_tupK (by rfl) (pgs_cons (pg_name (i := 7) sc_lead_on.nd rfl (Or.inl rfl)) (pgs_cons (pg_name (i := 8) sc_lead_on.nd rfl (Or.inl rfl)) pgs_nil))) (fun _ _ _ _ _ => pts_nil) (fun _ _ _ _ _ => (pe_op op_add (pv 7) (pv 8)))) pa_nil)) pa_nil))) (by rfl))) pss_nil)))), ?_⟩
    have ga : ∀ (x : Str) (H' : Hp), H' d = some (.dK kvs) → DGet H' d (.str x) (valV kvs (.inr x)) := fun x H' e => DGet.k (k := Sum.inr x) e
    cases hga : g a with
    | none =>
      refine ⟨_, rfl, _, rfl, d, _, rfl, ga a H ed, ?_⟩
      rw [dw.z a hga]
      exact ⟨_, rfl, iteT (k kvs H (fun _ _ _ e => e) ed (Nat.le_succ _) (by rw [ld_n (e := (a, b, m)) hga]; exact dw))⟩
    | some da =>
      obtain ⟨ea, ta, fa, va, ha1, ha2, ha3, ha4⟩ := dw0.s a da hga
      refine ⟨_, rfl, _, rfl, d, _, rfl, ga a H ed, ?_⟩
      rw [va]
      refine ⟨_, rfl, iteF ⟨_, rfl, _, rfl, d, _, rfl, by rw [← va]; exact ga a H ed, ?_⟩⟩
      refine ⟨ea, _, rfl, SqT.of ha1, rfl, _, _, rfl, _, _, rfl, rfl, ?_⟩
      dsimp only
      unfold tIfS
      have hless : (∃ db, g b = some db ∧ ¬ da + m < db) ∨ (g b = none ∨ ∃ d', g b = some d' ∧ da + m < d') := by
        cases hgb : g b with
        | none => exact .inr (.inl rfl)
        | some db =>
          by_cases c : da + m < db
          · exact .inr (.inr ⟨db, rfl, c⟩)
          · exact .inl ⟨db, rfl, c⟩
      refine tst_of (fun v H' => H' = H ∧ ((v = true ∧ (g b = none ∨ ∃ d', g b = some d' ∧ da + m < d')) ∨ (v = false ∧ ∃ db, g b = some db ∧ ¬ da + m < db))) ?ret ?tst
      case tst =>
        intro Q' kq
        cases hgb : g b with
        | none =>
          refine ⟨_, rfl, _, rfl, d, _, rfl, ga b H ed, ?_⟩
          rw [dw.z b hgb]
          exact ⟨_, rfl, iteT (kq _ _ ⟨rfl, .inl ⟨rfl, .inl hgb⟩⟩)⟩
        | some db =>
          obtain ⟨eb, tb, fb, vb, hb1, hb2, hb3, _⟩ := dw.s b db hgb
          refine ⟨_, rfl, _, rfl, d, _, rfl, ga b H ed, ?_⟩
          rw [vb]
          refine ⟨_, rfl, iteF ?_⟩
          refine ⟨_, rfl, _, rfl, _, _, rfl, rfl, _, rfl, _, rfl, d, _, rfl, by rw [← vb]; exact ga b H ed, eb, _, 0, _, rfl, rfl, SqT.of hb1, rfl, ?_⟩
          refine ⟨_, _, rfl, rfl, _, rfl, ?_⟩
          refine kq _ _ ⟨rfl, ?_⟩
          by_cases c : da + m < db
          · exact .inl ⟨decide_eq_true (by omega), .inr ⟨db, hgb, c⟩⟩
          · exact .inr ⟨decide_eq_false (by omega), db, hgb, c⟩
      case ret =>
        rintro v H' ⟨rfl, hv⟩
        rcases hv with ⟨rfl, hv⟩ | ⟨rfl, db, hgb, c⟩
        · refine iteT ?_
          refine ⟨_, rfl, _, rfl, _, _, rfl, rfl, _, rfl, _, rfl, ta, t, fa.map V.int, fs.map V.int, rfl, .inr ⟨SqT.of ha2, SqT.of et, ?_⟩⟩
          refine fun D nD => L2.lc_it (walk_zipT (K := K) (xs := fa.map V.int) (ys := fs.map V.int) (n := n) (by simp [ha3, fn])) (fun i H2 => Same H' H2 ∧ H2 D = some (.lst (((List.zipWith (· + ·) fa fs).take i).map V.int))) ⟨fun b o e => (upd_ne (ne_of_none e nD)).trans e, upd_same⟩ (fun i H2 _ z => ⟨(SqT.of ha2).ext z.1, (SqT.of et).ext z.1⟩) (fun i x Ha Hb hi hv y => ?_) (fun H2 hv => ?_)
          · obtain ⟨s1, eD⟩ := hv
            obtain ⟨T, p, q, rfl, nT, rfl, hp, hq⟩ := y
            dsimp only at hp hq
            have hi1 : i < fa.length := by omega
            have hi2 : i < fs.length := by omega
            rw [List.getElem?_map, List.getElem?_eq_getElem hi1] at hp
            rw [List.getElem?_map, List.getElem?_eq_getElem hi2] at hq
            obtain rfl : V.int fa[i] = p := Option.some.inj hp
            obtain rfl : V.int fs[i] = q := Option.some.inj hq
            have eT : upd Ha T (.tup [V.int fa[i], V.int fs[i]]) D = some (.lst (((List.zipWith (· + ·) fa fs).take i).map V.int)) := by rw [upd_ne (ne_of_none eD nT)]; exact eD
            have sT : Same H' (upd Ha T (.tup [V.int fa[i], V.int fs[i]])) := fun b o e => (upd_ne (ne_of_none (s1 _ _ e) nT)).trans (s1 _ _ e)
            refine ⟨T, _, rfl, SqT.of upd_same, rfl, _, _, rfl, _, _, rfl, ⟨rfl, ⟨rfl, ?_⟩⟩⟩
            have e0 : ∀ (σ : L2.St) (H : Hp) (R : Bool → Hp → Prop), R true H → tYes σ H R := fun _ _ _ r => r
            refine e0 _ _ _ ?_
            simp only [↓reduceIte]
            refine ⟨_, rfl, _, rfl, _, _, rfl, rfl, _, eT, ?_, fun b o e => (upd_ne (ne_of_none e nD)).trans (sT _ _ e), ?_⟩
            · rw [List.length_map]
              exact Nat.lt_of_le_of_lt (List.length_take_le _ _) (Nat.lt_of_lt_of_le (show i < 13 by omega) (by decide))
            · rw [upd_same, List.take_add_one, List.getElem?_zipWith, List.getElem?_eq_getElem hi1, List.getElem?_eq_getElem hi2, List.map_append]
              rfl
          · obtain ⟨s1, eD⟩ := hv
            have zl : (List.zipWith (· + ·) fa fs).length = n := by rw [List.length_zipWith, ha3, fn, Nat.min_self]
            rw [← zl, List.take_length] at eD
            refine ⟨D, _, rfl, .inl ⟨SqL.of eD, fun l nl => ⟨(by show 2 ≤ sizeLine; decide), fun e2 ne2 => ?_⟩⟩⟩
            have s2 : Same H' (upd (upd H2 l (.tup ((List.zipWith (· + ·) fa fs).map V.int))) e2 (.tup [.int ((da : Int) + (m : Int)), .ref l])) := fun b o e => (upd_ne (ne_of_none ((upd_ne (ne_of_none (s1 _ _ e) nl)).trans (s1 _ _ e)) ne2)).trans ((upd_ne (ne_of_none (s1 _ _ e) nl)).trans (s1 _ _ e))
            refine ⟨_, rfl, _, rfl, d, _, rfl, DPut.k (k := Sum.inr b) (s2 _ _ ed) ?_, ?_⟩
            · exact Nat.lt_of_le_of_lt kl (by decide)
            have dw2 := dw.ext s2
            have dw3 : DW n Z' _ _ (fun x => if x = b then some (da + m) else g x) := dw2.put (e := e2) (t := l) (b := b) (c := da + m) (by rw [upd_same, Int.natCast_add]) (by rw [upd_ne (ne_of_none upd_same ne2)]; exact upd_same) zl (zn da fa ha3 hga ha4 hv)
            have s3 : ∀ p o, p ≠ d → upd (upd H2 l (.tup ((List.zipWith (· + ·) fa fs).map V.int))) e2 (.tup [.int ((da : Int) + (m : Int)), .ref l]) p = some o → upd (upd (upd H2 l (.tup ((List.zipWith (· + ·) fa fs).map V.int))) e2 (.tup [.int ((da : Int) + (m : Int)), .ref l])) d (.dK (putK kvs (.inr b) (.ref e2))) p = some o := fun p o hp e => (upd_ne hp).trans e
            refine k (putK kvs (.inr b) (.ref e2)) _ (fun p o hp e => s3 p o hp (s2 _ _ e)) upd_same (length_putK _ _ _) ?_
            rw [ld_p (e := (a, b, m)) hga hv]
            exact dw3.keep ⟨kvs, s2 _ _ ed⟩ s3
        · exact iteF (k kvs H' (fun _ _ _ e => e) ed (Nat.le_succ _) (by rw [ld_k (e := (a, b, m)) hga hgb c]; exact dw))
end
end RV
namespace RV
open PySem L2 TL
/-- all but the dict stays -/
def SB (d : Addr) (H H' : Hp) : Prop := ∀ b o, b ≠ d → H b = some o → H' b = some o
theorem SB.trans {d : Addr} {H H1 H2 : Hp} (h : SB d H H1) (h' : SB d H1 H2) : SB d H H2 := fun b o n e => h' b o n (h b o n e)
theorem un_len (n : Nat) (o : Option Nat) (c : Int) : (un n o c).length = n := by rw [un, List.length_map, List.length_range]
theorem lkF_fl (n : Nat) (ms : List M3) (y : Str) : ∀ (s : Nat) (ps : List P3), ∀ l ∈ lkF n ms y s ps, l.2.2.2.length = n
  | _, [], l, h => nomatch h
  | s, p :: ps, l, h => by
    rw [lkF] at h
    rcases List.mem_append.mp h with h | h
    · unfold lks at h
      split at h
      · rcases List.mem_cons.mp h with rfl | h
        · exact un_len _ _ _
        · obtain rfl := List.mem_singleton.mp h
          exact un_len _ _ _
      · exact nomatch h
    · exact lkF_fl n ms y (s + 1) ps l h
theorem LkAt.sb {H H' : Hp} {a d : Addr} {l : L4} {q : List (Key × V)} (h : LkAt H a l) (e : H d = some (.dK q)) (s : SB d H H') : LkAt H' a l := by
  obtain ⟨t, h1, h2⟩ := h
  exact ⟨t, s _ _ (fun z => by rw [z, e] at h1; cases h1) h1, s _ _ (fun z => by rw [z, e] at h2; cases h2) h2⟩
section
variable {P : Program} {w : World} {K : PySem.W.Frag} {mg : Str → Option Value} {base : Heap} {CN CP CM : Addr}
theorem ok_ways {f : Addr} {fd : FuncData} (F : Fun K "shortest_ways" "shortest_ways" s_shortest_ways f fd) (h_gpipe : Mtd P w K mg base CN "pipe" 4 ["self", "name"] (Irr (sp_gpipe K CN CP CM))) (h_np : Prp P w K mg base CN "pipes" 1 (Irr (sp_npi CN))) (h_pe : Prp P w K mg base CP "end" 1 (Irr (sp_pe CP)))
    (h_amt : Fn P w K mg base "_amounts" 3 ["net", "index", "amount"] (Irr (sp_amt K CN CP CM))) (h_lnks : Fn P w K mg base "_links" 5 ["net", "pipe"] (Irr (sp_lnks K CN CP CM))) (h_lead : Fn P w K mg base "_lead_on" 1 ["ways", "start", "end", "many", "amounts"] (Irr sp_lead)) : FnOk P w K mg base CX0 6 f fd ["net", "pipe"] (sp_ways K CN CP CM) := by
  refine F.ok sc_shortest_ways (fun vs H Q E h => ?_) (fun cdv A outer s H vs Q E hr h => ?_)
  · obtain ⟨_, _, _, _, _, rfl, _⟩ := h
    rfl
  · obtain ⟨x, ps, ms, y, Z, rfl, nr, pl, ml, hy, zo, k⟩ := h
    refine ⟨_, (pss_cons (ps_set (i := 2) sc_shortest_ways.nd rfl (Or.inl rfl) (pe_disp (pps_cons (pe_propN h_pe (hr.mono (by decide)) (pe_mtd h_gpipe (hr.mono (by decide)) (pv 0) (pa_cons (pv 1) pa_nil))) (pe_tup (pa_cons pe_int (pa_cons (pe_fn h_amt (hr.mono (by decide)) (pa_cons (pv 0) (pa_cons pe_non (pa_cons pe_int pa_nil)))) pa_nil))) pps_nil) rfl rfl (by simp) (by simp)))
      (pss_cons (ps_set (i := 3) sc_shortest_ways.nd rfl (Or.inl rfl) (pe_fn h_lnks (hr.mono (by decide)) (pa_cons (pv 0) (pa_cons (pv 1) pa_nil))))
      (pss_cons (ps_for PassesOwn.never rfl (pi_tup (pe_propN h_np (hr.mono (by decide)) (pv 0))) (pg_name (i := 4) sc_shortest_ways.nd rfl (Or.inl rfl)) (pss_one (ps_for PassesOwn.never rfl (pi_list (pv 3)) (pg_tup (by rfl) (pgs_cons (pg_name (i := 5) sc_shortest_ways.nd rfl (Or.inl rfl)) (pgs_cons (pg_name (i := 6) sc_shortest_ways.nd rfl (Or.inl rfl)) (pgs_cons (pg_name (i := 7) sc_shortest_ways.nd rfl (Or.inl rfl)) (pgs_cons (pg_name (i := 8) sc_shortest_ways.nd rfl (Or.inl rfl)) pgs_nil))))) (pss_one (ps_expr (pe_fn h_lead (hr.mono (by decide)) (pa_cons (pv 2) (pa_cons (pv 5) (pa_cons (pv 6) (pa_cons (pv 7) (pa_cons (pv 8) pa_nil)))))))))))
      (pss_one (ps_ret (pv 2)))))), ?_⟩
    obtain ⟨dx, tp, tm, pu, mu, ex, hp, hm, ep, em⟩ := id nr.ex
    have pul : pu.length = ps.length := by rw [← ep, sn_len]
    intro d nd
    have s0 : Same H (upd H d (.dK [])) := fun b o e => (upd_ne (ne_of_none e nd)).trans e
    refine ⟨_, rfl, x, dx, _, rfl, s0 _ _ ex, rfl, _, rfl, irr ⟨x, ps, ms, y, rfl, nr.ext s0, pl, hy, fun a i q H1 hi hq s1 pa => ?_⟩⟩
    obtain ⟨dp, edp⟩ := id pa
    refine ⟨a, dp, _, rfl, edp, irr ⟨a, q, rfl, pa, ?_⟩⟩
    have s1b : Same H H1 := s0.trans s1
    refine ⟨_, rfl, irr ⟨x, ps, ms, none, 0, rfl, nr.ext s1b, pl, fun t1 H2 s2 h2 => ⟨(by show 2 ≤ sizeLine; decide), fun T1 nT1 => ?_⟩⟩⟩
    have s2b : Same H2 (upd H2 T1 (.tup [.int 0, .ref t1])) := fun b o e => (upd_ne (ne_of_none e nT1)).trans e
    have ed : upd H2 T1 (.tup [.int 0, .ref t1]) d = some (.dK []) := s2b _ _ (s2 _ _ (s1 _ _ upd_same))
    refine ⟨ed, [(.inr q.2.2, .ref T1)], rfl, by simp, ?_⟩
    dsimp only [gName]
    have dw0 : DW ps.length (Z (g0 q.2.2)) (upd H2 T1 (.tup [.int 0, .ref t1])) (putK [] (.inr q.2.2) (.ref T1)) (g0 q.2.2) := DW.new upd_same (s2b _ _ h2) (un_len _ _ _) (zo.st i q hi hq)
    have sb3 : SB d (upd H2 T1 (.tup [.int 0, .ref t1])) (upd (upd H2 T1 (.tup [.int 0, .ref t1])) d (.dK (putK [] (.inr q.2.2) (.ref T1)))) := fun b o n e => (upd_ne n).trans e
    have dw1 := dw0.keep ⟨_, ed⟩ sb3
    have s3 : Same H (upd (upd H2 T1 (.tup [.int 0, .ref t1])) d (.dK (putK [] (.inr q.2.2) (.ref T1)))) := fun b o e => sb3 _ _ (ne_of_none e nd) (s2b _ _ (s2 _ _ (s1b _ _ e)))
    have ed3 : upd (upd H2 T1 (.tup [.int 0, .ref t1])) d (.dK (putK [] (.inr q.2.2) (.ref T1))) d = some (.dK (putK [] (.inr q.2.2) (.ref T1))) := upd_same
    rw [show mergeK [] [((Sum.inr q.2.2 : Key), V.ref T1)] = putK [] (.inr q.2.2) (.ref T1) from rfl]
    clear sb3 dw0 ed
    revert dw1 s3 ed3
    generalize upd (upd H2 T1 (.tup [.int 0, .ref t1])) d (.dK (putK [] (.inr q.2.2) (.ref T1))) = H3
    intro dw1 s3 ed3
    refine ⟨_, rfl, _, rfl, irr ⟨x, ps, ms, y, rfl, nr.ext s3, pl, ml, fun ll us H4 s4 eL hat hsn => ?_⟩⟩
    dsimp only [gName]
    have ed4 := s4 _ _ ed3
    have dw4 := dw1.ext s4
    have s4b : Same H H4 := s3.trans s4
    have edx := s4b _ _ ex
    have lus : us.length ≤ 24 := by
      rw [← sn_len, hsn]
      have h1 := lkF_len ps.length ms y 0 ps
      unfold lkA
      omega
    have hL : (lkA ps ms y).map lk3 = us.map fun u => lk3 u.2 := by rw [← hsn, sn, List.map_map]; rfl
    have sbx : ∀ {H'}, SB d H4 H' → Same H H' := fun z b o e => z _ _ (ne_of_none e nd) (s4b _ _ e)
    have nl : ll ≠ d := fun z => by rw [z, ed4] at eL; cases eL
    refine ⟨_, rfl, x, dx, _, rfl, edx, irr ⟨x, dx, tp, tm, rfl, edx, tp, rfl, ⟨_, hp.t.ext s4b⟩, for_tup (xs := rf pu) (fun j σ H' => ∃ (kvs : List (Key × V)) (o4 o5 o6 o7 o8 : Option V), σ = [some (.ref x), some (.str y), some (.ref d), some (.ref ll), o4, o5, o6, o7, o8] ∧ SB d H4 H' ∧ H' d = some (.dK kvs) ∧ kvs.length ≤ 1 + 24 * j ∧ DW ps.length (Z (turns ((lkA ps ms y).map lk3) j (g0 q.2.2))) H' kvs (turns ((lkA ps ms y).map lk3) j (g0 q.2.2))) ⟨_, none, none, none, none, none, rfl, fun _ _ _ e => e, ed4, by simp [putK], dw4⟩ ?_ ?_ ?_⟩⟩
    · rintro j σ H5 _ ⟨_, _, _, _, _, _, _, sb, _⟩
      exact hp.t.ext (sbx sb)
    · rintro j v σ H5 hv ⟨kvs, o4, o5, o6, o7, o8, rfl, sb5, ed5, kl5, dw5⟩
      have hj : j < 12 := by
        have := (List.getElem?_eq_some_iff.mp hv).1
        rw [rf_len] at this
        omega
      dsimp only [gName]
      refine ⟨_, rfl, ll, rfl, ⟨_, SqL.of (sb5 _ _ nl eL)⟩, for_list (xs := rf us) (fun i σ H' => ∃ (kvs : List (Key × V)) (o5 o6 o7 o8 : Option V), σ = [some (.ref x), some (.str y), some (.ref d), some (.ref ll), some v, o5, o6, o7, o8] ∧ SB d H4 H' ∧ H' d = some (.dK kvs) ∧ kvs.length ≤ 1 + 24 * j + i ∧ DW ps.length (Z (((us.take i).map fun u => lk3 u.2).foldl ld (turns ((lkA ps ms y).map lk3) j (g0 q.2.2)))) H' kvs (((us.take i).map fun u => lk3 u.2).foldl ld (turns ((lkA ps ms y).map lk3) j (g0 q.2.2)))) ⟨kvs, o5, o6, o7, o8, rfl, sb5, ed5, by omega, dw5⟩ ?_ ?_ ?_⟩
      · rintro i σ H6 _ ⟨_, _, _, _, _, _, sb, _⟩
        exact SqL.of (sb _ _ nl eL)
      · rintro i v' σ H6 hv' ⟨kvs6, p5, p6, p7, p8, rfl, sb6, ed6, kl6, dw6⟩
        obtain ⟨u, hu, rfl⟩ := rf_get hv'
        have hlt := (List.getElem?_eq_some_iff.mp hu).1
        obtain ⟨t, g1, g2⟩ := (hat u (List.mem_of_getElem? hu)).sb ed4 sb6
        refine ⟨u.1, _, rfl, SqT.of g1, rfl, _, _, rfl, _, _, rfl, _, _, rfl, _, _, rfl, rfl, ?_⟩
        have um : u.2 ∈ lkA ps ms y := by rw [← hsn]; exact List.mem_map.mpr ⟨u, List.mem_of_getElem? hu, rfl⟩
        have ufl : u.2.2.2.2.length = ps.length := lkF_fl _ ms y 0 ps u.2 (by rw [← show sn us = lkF ps.length ms y 0 ps from hsn]; exact List.mem_map.mpr ⟨u, List.mem_of_getElem? hu, rfl⟩)
        refine ⟨_, rfl, _, rfl, _, rfl, _, rfl, _, rfl, irr ⟨d, t, u.2.1, u.2.2.1, u.2.2.2.1, ps.length, u.2.2.2.2, kvs6, _, _, Z (ld _ (lk3 u.2)), rfl, ed6, g2, ufl, pl, by omega, dw6, fun x d f => zo.ke u.2 um _ x d f, fun d f hf => zo.ne u.2 um _ d f hf, fun kvs7 H7 s7 ed7 kl7 dw7 => ?_⟩⟩
        refine ⟨kvs7, _, _, _, _, rfl, sb6.trans s7, ed7, by omega, ?_⟩
        rw [List.take_add_one, hu, List.map_append, List.foldl_append]
        exact dw7
      · rintro σ H6 ⟨kvs6, p5, p6, p7, p8, rfl, sb6, ed6, kl6, dw6⟩
        rw [rf_len] at kl6 dw6
        rw [List.take_length, ← hL] at dw6
        exact ⟨kvs6, _, _, _, _, _, rfl, sb6, ed6, by omega, dw6⟩
    · rintro σ H5 ⟨kvs, o4, o5, o6, o7, o8, rfl, sb5, ed5, kl5, dw5⟩
      rw [rf_len, pul] at dw5
      exact ⟨_, rfl, k i q d kvs H5 hi hq (sbx sb5) ed5 dw5 (by rw [rf_len, pul] at kl5; omega)⟩
end
end RV
namespace RV
open PySem L2 TL
theorem find_nd {ps : List P3} {i : Nat} {q : P3} {y : Str} (nd : (ps.map (·.1)).Nodup) (h : ps[i]? = some q) (hq : q.1 = y) : ps.find? (fun p => decide (p.1 = y)) = some q := by
  induction ps generalizing i with
  | nil => simp at h
  | cons p ps ih =>
    rw [List.map_cons, List.nodup_cons] at nd
    rw [List.find?_cons]
    cases i with
    | zero =>
      obtain rfl : p = q := by simpa using h
      rw [decide_eq_true hq]
    | succ i =>
      rw [List.getElem?_cons_succ] at h
      have hne : p.1 ≠ y := fun e => nd.1 (by rw [e, ← hq]; exact List.mem_map.mpr ⟨q, List.mem_of_getElem? h, rfl⟩)
      rw [decide_eq_false hne]
      exact ih nd.2 h
section
variable {P : Program} {w : World} {K : PySem.W.Frag} {mg : Str → Option Value} {base : Heap} {CN CP CM : Addr}
theorem ok_back {f : Addr} {fd : FuncData} (F : Fun K "_way_back" "_way_back" s_way_back f fd) (h_gpipe : Mtd P w K mg base CN "pipe" 4 ["self", "name"] (Irr (sp_gpipe K CN CP CM))) (h_ps : Prp P w K mg base CP "start" 1 (Irr (sp_ps CP)))
    (h_sat : Fn P w K mg base "sealed_at" 4 ["net", "name"] (Irr (sp_sat K CN CP CM))) (h_ways : Fn P w K mg base "shortest_ways" 6 ["net", "pipe"] (Irr (sp_ways K CN CP CM))) : FnOk P w K mg base CX0 7 f fd ["net", "pipe"] (sp_back K CN CP CM) := by
  refine F.ok sc_way_back (fun vs H Q E h => ?_) (fun cdv A outer s H vs Q E hr h => ?_)
  · obtain ⟨_, _, _, _, _, rfl, _⟩ := h
    rfl
  · obtain ⟨x, ps, ms, y, Z, rfl, nr, pl, ml, hy, zo, k⟩ := h
    have hu : (A.deeper (PyProof.Rows.envOfC "_way_back" (defScope s_way_back) s.heap.objs.size f cdv)).units + 1 < cLine := by have := hr.units; omega
    refine ⟨_, (pss_cons (ps_if (pt_truth (pe_fn h_sat (hr.mono (by decide)) (pa_cons (pv 0) (pa_cons (pv 1) pa_nil))) (by intro _; rfl)) (pss_one (ps_ret pe_non)) pss_nil)
      (pss_one (ps_ret (pe_dget1 hu (pe_fn h_ways (hr.mono (by decide)) (pa_cons (pv 0) (pa_cons (pv 1) pa_nil))) (pe_propN h_ps (hr.mono (by decide)) (pe_mtd h_gpipe (hr.mono (by decide)) (pv 0) (pa_cons (pv 1) pa_nil))) ⟨by rfl, by rfl, by rfl, by rfl⟩)))), ?_⟩
    have some_pipe : ∃ (i : Nat) (q : P3), ps[i]? = some q ∧ q.1 = y := by
      obtain ⟨q, hq, e⟩ := List.mem_map.mp hy
      obtain ⟨i, hi, ei⟩ := List.mem_iff_getElem.mp hq
      exact ⟨i, q, by rw [List.getElem?_eq_getElem hi, ei], e⟩
    refine ⟨_, rfl, _, rfl, irr ⟨x, ps, ms, y, rfl, nr, ml, fun l2 xs H1 s1 h1 hiff => ?_⟩⟩
    refine ⟨!xs.isEmpty, .inl ⟨xs, SqL.of h1, rfl⟩, ?_⟩
    cases xs with
    | cons v vs =>
      have hne : seP ms y ≠ [] := fun z => nomatch hiff.mpr z
      obtain ⟨i, q, hi, hq⟩ := some_pipe
      refine iteT (k i i q q .non H1 hi hq hi hq s1 ?_)
      rw [if_neg hne]
      rfl
    | nil =>
      have hse := hiff.mp rfl
      have nr1 := nr.ext s1
      refine iteF ⟨_, rfl, _, rfl, irr ⟨x, ps, ms, y, Z, rfl, nr1, pl, ml, hy, zo, fun i q d kvs H2 hi hq s2 ed dw _ => ?_⟩⟩
      have nr2 := nr1.ext s2
      obtain ⟨dx, tp, tm, pu, mu, ex, hp, hm, ep, em⟩ := id nr2.ex
      refine ⟨d, rfl, .inl ⟨_, .inl ed⟩, _, rfl, x, dx, _, rfl, ex, rfl, _, rfl, irr ⟨x, ps, ms, y, rfl, nr2, pl, hy, fun a j r H3 hj hr s3 pa => ?_⟩⟩
      obtain ⟨dp, edp⟩ := id pa
      refine ⟨a, dp, _, rfl, edp, irr ⟨a, r, rfl, pa, _, DGet.k (k := Sum.inr r.2.1) (s3 _ _ ed), ?_⟩⟩
      have dw3 := dw.ext s3
      refine k i j q r _ H3 hi hq hj hr ((s1.trans s2).trans s3) ?_
      rw [if_pos hse]
      cases hg : turns ((lkA ps ms y).map lk3) ps.length (g0 q.2.2) r.2.1 with
      | none => rw [dw3.z _ hg]; rfl
      | some c =>
        obtain ⟨e, t, fs, h1, h2, h3, h4, h5⟩ := dw3.s _ _ hg
        rw [h1]
        exact ⟨e, t, fs, rfl, h2, h3, h4, h5⟩
theorem ok_stren {f : Addr} {fd : FuncData} (F : Fun K "strength" "strength" s_strength f fd) (T : Blt mg)
    (h_chkn : Fn P w K mg base "check_net" 1 ["net"] (Irr (sp_chkn K CN CP CM))) (h_chkp : Fn P w K mg base "check_pipe" 5 ["net", "pipe"] (Irr (sp_chkp K CN CP CM))) (h_back : Fn P w K mg base "_way_back" 7 ["net", "pipe"] (Irr (sp_back K CN CP CM))) (h_mat : Fn P w K mg base "meters_at" 3 ["net", "name"] (Irr (sp_mat K CN CP CM))) : FnOk P w K mg base CX0 8 f fd ["net", "pipe"] (sp_stren K CN CP CM) := by
  refine F.ok sc_strength (fun vs H Q E h => ?_) (fun cdv A outer s H vs Q E hr h => ?_)
  · obtain ⟨_, _, _, _, rfl, _⟩ := h
    rfl
  · obtain ⟨x, ps, ms, y, rfl, nr, po, ml, hy, k⟩ := h
    refine ⟨_, (pss_cons (ps_expr (pe_fn h_chkn (hr.mono (by decide)) (pa_cons (pv 0) pa_nil)))
      (pss_cons (ps_expr (pe_fn h_chkp (hr.mono (by decide)) (pa_cons (pv 0) (pa_cons (pv 1) pa_nil))))
      (pss_cons (ps_set (i := 2) sc_strength.nd rfl (Or.inl rfl) (pe_fn h_back (hr.mono (by decide)) (pa_cons (pv 0) (pa_cons (pv 1) pa_nil))))
      (pss_one (ps_ret (pe_ifExp (pt_cmpR op_isN (pv 2) pe_non (nomark _)) pe_non (pe_op op_add (pe_ix ix_tup (pv 2) pe_int (fun _ _ => rfl)) (pe_callB call_len_seq (by rfl) T.b_len (by decide +kernel) (pa_cons (pe_fn h_mat (hr.mono (by decide)) (pa_cons (pv 0) (pa_cons (pv 1) pa_nil))) pa_nil))))))))), ?_⟩
    have pl := po.ln
    refine ⟨_, rfl, irr ⟨x, ps, ms, rfl, nr, ?_⟩⟩
    refine ⟨_, rfl, _, rfl, irr ⟨x, ps, ms, y, rfl, nr, pl, hy, fun H1 s1 => ?_⟩⟩
    refine ⟨_, rfl, _, rfl, irr ⟨x, ps, ms, y, _, rfl, nr.ext s1, pl, ml, hy, ZOk.triv _ _ _, fun i j q r v H2 hi hq hj hr s2 hw => ?_⟩⟩
    dsimp only [gName]
    have s2b := s1.trans s2
    have nr2 := nr.ext s2b
    have efq := find_nd po.nd hi hq
    obtain rfl : q = r := Option.some.inj (efq.symm.trans (find_nd po.nd hj hr))
    have eS : strP ps ms y = (if seP ms y = [] then turns ((lkA ps ms y).map lk3) ps.length (g0 q.2.2) q.2.1 else none).map (· + wtP ms y) := by
      rw [strP, efq]
      dsimp only
      split
      · rfl
      · rfl
    cases hW : (if seP ms y = [] then turns ((lkA ps ms y).map lk3) ps.length (g0 q.2.2) q.2.1 else none) with
    | none =>
      rw [hW] at hw eS
      obtain rfl : v = .non := hw
      refine ⟨_, rfl, rfl, _, rfl, iteT ?_⟩
      have := k H2 s2b
      rw [eS] at this
      exact this
    | some c =>
      rw [hW] at hw eS
      obtain ⟨e, t, fs, rfl, he, _⟩ := hw
      refine ⟨_, rfl, rfl, _, rfl, iteF ⟨_, rfl, e, _, 0, _, rfl, rfl, SqT.of he, rfl, _, rfl, _, rfl, irr ⟨x, ps, ms, y, rfl, nr2, ml, fun l mus H3 s3 h3 hm3 em3 => ?_⟩⟩⟩
      have emany : (rf mus).length = wtP ms y := by rw [rf_len, wtP, ← em3, sn_len]
      refine ⟨l, _, rfl, .inl (SqL.of h3), ?_⟩
      rw [emany]
      refine ⟨_, _, rfl, rfl, ?_⟩
      have := k H3 (s2b.trans s3)
      rw [eS] at this
      exact this
end
end RV
namespace RV
open PySem L2 TL
section
variable {P : Program} {w : World} {K : PySem.W.Frag} {mg : Str → Option Value} {base : Heap}
theorem ok_kept {f : Addr} {fd : FuncData} (F : Fun K "_law_kept" "_law_kept" s_kept f fd) (T : Blt mg) : FnOk P w K mg base CX0 1 f fd ["_law_model_here", "_law_row"] sp_kept := by
  refine F.ok sc_kept (fun vs H Q E h => ?_) (fun cdv A outer s H vs Q E hr h => ?_)
  · obtain ⟨_, _, _, _, _, _, rfl, _⟩ := h
    rfl
  · obtain ⟨l, a, M, most, more, r, rfl, md, ok, m12, ea, rl, k⟩ := h
    refine ⟨_, (pss_cons (ps_setLc (i := 2) (own := [("_law_place", 6)]) (g := gName 6) (tt := tYes) rfl sc_kept.nd rfl rfl (sw_true rfl rfl rfl (by decide +kernel)) (pi_list (pe_ix ix_list (pv 0) pe_int (fun _ _ => rfl))) (blkOk_by (N := sc_kept_N) (sc := defScope s_kept) (by decide +kernel)) (fun _ _ _ _ _ => pg_name (i := 6) sc_kept.nd rfl (Or.inl rfl)) (fun _ _ _ _ _ => pts_nil) (fun _ _ _ _ _ => pe_int))
      (pss_cons (ps_for PassesOwn.never rfl (pi_range1 rfl T.b_range (pa_cons (pe_callB call_len_seq (by rfl) T.b_len (by decide +kernel) (pa_cons (pv 1) pa_nil)) pa_nil)) (pg_name (i := 3) sc_kept.nd rfl (Or.inl rfl)) (pss_cons (ps_par (i := 4) (j := 5) (by rfl) sc_kept.nd rfl rfl (by decide) rfl rfl (pa_cons (pe_ix ix_tup (pe_ix ix_list (pe_ix ix_list (pv 0) pe_int (fun _ _ => rfl)) (pv 3) (fun _ _ => rfl)) pe_int (fun _ _ => rfl)) (pa_cons (pe_ix ix_tup (pe_ix ix_list (pe_ix ix_list (pv 0) pe_int (fun _ _ => rfl)) (pv 3) (fun _ _ => rfl)) pe_int (fun _ _ => rfl)) pa_nil)) (by rfl)) (pss_cons (ps_asg (pe_op op_sub (pe_ix ix_list (pv 2) (pv 4) (fun _ _ => rfl)) (pe_ix ix_list (pv 1) (pv 3) (fun _ _ => rfl))) (pg_sub (pv 2) (pv 4) set_list)) (pss_one (ps_asg (pe_op op_add (pe_ix ix_list (pv 2) (pv 5) (fun _ _ => rfl)) (pe_ix ix_list (pv 1) (pv 3) (fun _ _ => rfl))) (pg_sub (pv 2) (pv 5) set_list))))))
      (pss_one (ps_ret (pe_not (pe_callB (cr_any rfl) (by rfl) T.b_any (by decide +kernel) (pa_cons (pe_lc (own := [("_law_one", 7)]) (g := gName 7) (tt := tYes) rfl sc_kept.nd (pi_list (pv 2)) (blkOk_by (N := sc_kept_N) (sc := defScope s_kept) (by decide +kernel)) (fun _ _ _ _ _ => pg_name (i := 7) sc_kept.nd rfl (Or.inl rfl)) (fun _ _ _ _ _ => pts_nil) (fun _ _ _ _ _ => (pe_cmpR op_ne (pv 7) pe_int (nomark _)))) pa_nil))))))), ?_⟩
    obtain ⟨lp, lq, lg, pu, gu, e1, e2, kp⟩ := md.ex
    have ekl : H l = some (.lst [.ref lp, .ref lq, .ref lg]) := kp (l, _) List.mem_cons_self
    have ekp : H lp = some (.lst (M.pl.map V.str)) := kp (lp, _) (List.mem_cons_of_mem _ List.mem_cons_self)
    have ekq : H lq = some (.lst (rf pu)) := kp (lq, _) (List.mem_cons_of_mem _ (List.mem_cons_of_mem _ List.mem_cons_self))
    have eku : ∀ u ∈ pu, H u.1 = some (oQ u.2) := fun u hu => kp (u.1, _) (List.mem_cons_of_mem _ (List.mem_cons_of_mem _ (List.mem_cons_of_mem _ (List.mem_cons_of_mem _ (List.mem_append_left _ (List.mem_map.mpr ⟨u, hu, rfl⟩))))))
    have p4 := ok.p4
    have qm := Nat.le_trans ok.qm m12
    refine ⟨_, rfl, l, _, 0, _, rfl, rfl, SqL.of ekl, rfl, lp, rfl, ⟨_, SqL.of ekp⟩, fun D nD => lc_to (xs := M.pl.map V.str) (stayL M r 0) (by rw [stayL_len, List.length_map]) walk_list nD (by rw [List.length_map]; omega) (fun H' s' => SqL.of (s' _ _ ekp)) (fun _ => rfl) (fun j x y hx hy H2 s2 R kR => ?_) fun H2 s2 hD => ?_⟩
    · have hj := (List.getElem?_eq_some_iff.mp hy).1
      rw [stayL_len] at hj
      rw [stayL_get hj] at hy
      obtain rfl : V.int (stay M r 0 j) = y := Option.some.inj hy
      exact kR H2 (Same.refl _)
    dsimp only [gName]
    have ea2 := s2 _ _ ea
    refine ⟨_, rfl, a, _, rfl, .inl (SqL.of ea2), r.length, by rw [List.length_map], by omega, by omega, for_it (walk_rgL (n := r.length)) (fun j σ H' => (∃ o3 o4 o5 o6 o7, σ = [some (.ref l), some (.ref a), some (.ref D), o3, o4, o5, o6, o7]) ∧ Same H H' ∧ H' D = some (.lst (stayL M r j))) ⟨⟨_, _, _, _, _, rfl⟩, s2, hD⟩ (fun _ _ _ _ _ => True.intro) ?_ ?_⟩
    · rintro j x σ H3 H3' hj ⟨⟨o3, o4, o5, o6, o7, rfl⟩, s3, hD3⟩ ⟨rfl, hx⟩
      obtain ⟨rfl, hj⟩ := rgL_get hx
      have hjp : j < pu.length := by rw [← sn_len, e1, ← rl]; exact hj
      obtain ⟨u, hu⟩ : ∃ u, pu[j]? = some u := ⟨_, List.getElem?_eq_getElem hjp⟩
      have hsg := sn_get hu
      rw [e1] at hsg
      obtain ⟨_, n2, n3, n4⟩ := ok.qn _ (List.mem_of_getElem? hsg)
      have eb : qst M j = u.2.2.1 := by rw [qst, List.getD, hsg]; rfl
      have ee : qen M j = u.2.2.2 := by rw [qen, List.getD, hsg]; rfl
      have eu := s3 _ _ (eku u (List.mem_of_getElem? hu))
      have atq : atI (rf pu) ((j : Nat) : Int) = some (V.ref u.1) := atI_nat (by rw [rf, List.getElem?_map, hu]; rfl)
      have atr : atI (r.map V.int) ((j : Nat) : Int) = some (V.int (rwf r j)) := atI_nat (by rw [List.getElem?_map, List.getElem?_eq_getElem hj, rwf, List.getD, List.getElem?_eq_getElem hj]; rfl)
      dsimp only [gName]
      refine ⟨_, rfl, l, _, 1, _, rfl, rfl, SqL.of (s3 _ _ ekl), rfl, _, rfl, lq, _, _, _, rfl, rfl, SqL.of (s3 _ _ ekq), atq, u.1, _, 1, .int u.2.2.1, rfl, rfl, SqT.of eu, rfl, ?_⟩
      refine ⟨_, rfl, l, _, 1, _, rfl, rfl, SqL.of (s3 _ _ ekl), rfl, _, rfl, lq, _, _, _, rfl, rfl, SqL.of (s3 _ _ ekq), atq, u.1, _, 2, .int u.2.2.2, rfl, rfl, SqT.of eu, rfl, _, _, rfl, ?_⟩
      dsimp only
      have atb : atI (stayL M r j) ((u.2.2.1 : Nat) : Int) = some (.int (stay M r j u.2.2.1)) := atI_nat (stayL_get n2)
      have ate : atI ((stayL M r j).set u.2.2.1 (.int (stay M r j u.2.2.1 - rwf r j))) ((u.2.2.2 : Nat) : Int) = some (.int (stay M r j u.2.2.2)) := atI_nat (by rw [List.getElem?_set_ne n4]; exact stayL_get n3)
      have nlD : ∀ {p : Addr} {o : HO}, H p = some o → p ≠ D := fun e => ne_of_none e nD
      refine ⟨_, rfl, _, rfl, D, _, _, _, rfl, rfl, SqL.of hD3, atb, _, rfl, _, rfl, a, _, _, _, rfl, rfl, SqL.of (s3 _ _ ea), atr, _, _, rfl, rfl, ?_⟩
      refine ⟨_, rfl, _, rfl, D, _, _, u.2.2.1, rfl, rfl, hD3, ixN_nat (by rw [stayL_len]; exact n2), ?_⟩
      refine ⟨_, rfl, _, rfl, D, _, _, _, rfl, rfl, SqL.of upd_same, ate, _, rfl, _, rfl, a, _, _, _, rfl, rfl, SqL.of ((upd_ne (nlD ea)).trans (s3 _ _ ea)), atr, _, _, rfl, rfl, ?_⟩
      refine ⟨_, rfl, _, rfl, D, _, _, u.2.2.2, rfl, rfl, upd_same, ixN_nat (by rw [List.length_set, stayL_len]; exact n3), ?_⟩
      refine ⟨⟨_, _, _, _, _, rfl⟩, fun b o e => (upd_ne (nlD e)).trans ((upd_ne (nlD e)).trans (s3 _ _ e)), ?_⟩
      rw [upd_same, stayL_step eb ee n4 n2 n3]
    · rintro σ H3 ⟨⟨o3, o4, o5, o6, o7, rfl⟩, s3, hD3⟩
      rw [rgL_len, rl] at hD3
      refine ⟨_, rfl, D, rfl, ⟨_, SqL.of hD3⟩, fun D2 nD2 => lc_to (xs := stayL M r M.qs.length) (((List.range M.pl.length).map fun x => !decide (stay M r M.qs.length x = 0)).map V.bl) (by rw [stayL_len, List.length_map, List.length_map, List.length_range]) walk_list nD2 (by rw [stayL_len]; omega) (fun H' s' => SqL.of (s' _ _ hD3)) (fun _ => rfl) (fun j x y hx hy H4 s4 R kR => ?_) fun H4 s4 hD4 => ?_⟩
      · have hj := (List.getElem?_eq_some_iff.mp hx).1
        rw [stayL_len] at hj
        rw [stayL_get hj] at hx
        obtain rfl : V.int (stay M r M.qs.length j) = x := Option.some.inj hx
        rw [List.getElem?_map, List.getElem?_map, List.getElem?_range hj] at hy
        obtain rfl : V.bl (!decide (stay M r M.qs.length j = 0)) = y := Option.some.inj hy
        refine ⟨_, rfl, rfl, ?_⟩
        rw [show decide (V.int (stay M r M.qs.length j) = V.int 0) = decide (stay M r M.qs.length j = 0) by simp]
        exact kR H4 (Same.refl _)
      refine ⟨D2, _, rfl, SqL.of hD4, ?_⟩
      have ev : (!((List.range M.pl.length).map fun x => !decide (stay M r M.qs.length x = 0)).any id) = keptB M r := by
        rw [keptB, List.any_map, List.not_any_eq_all_not]
        congr 1
        funext x
        simp
      have := k H4 (s3.trans s4)
      rw [← ev] at this
      exact ⟨_, rfl, this⟩
end
end RV
namespace RV
open PySem L2 TL
section
variable {P : Program} {w : World} {K : PySem.W.Frag} {mg : Str → Option Value} {base : Heap}
theorem ok_flows {f : Addr} {fd : FuncData} (F : Fun K "_law_flows" "_law_flows" s_flows f fd) (h_kept : Fn P w K mg base "_law_kept" 1 ["_law_model_here", "_law_row"] (Irr sp_kept)) : FnOk P w K mg base CX0 2 f fd ["_law_model_here"] sp_flows := by
  refine F.ok sc_flows (fun vs H Q E h => ?_) (fun cdv A outer s H vs Q E hr h => ?_)
  · obtain ⟨_, _, _, rfl, _⟩ := h
    rfl
  · obtain ⟨l, M, more, rfl, md, ok, k⟩ := h
    refine ⟨_, (pss_cons (ps_set (i := 1) sc_flows.nd rfl (Or.inl rfl) (pe_lst (pa_cons (pe_lst pa_nil) pa_nil)))
      (pss_cons (ps_for PassesOwn.never rfl (pi_list (pe_ix ix_list (pv 0) pe_int (fun _ _ => rfl))) (pg_name (i := 2) sc_flows.nd rfl (Or.inl rfl)) (pss_cons (ps_set (i := 3) sc_flows.nd rfl (Or.inl rfl) (pe_op op_cat (pe_lc (own := [("_law_row", 4)]) (g := gName 4) (tt := tYes) rfl sc_flows.nd (pi_list (pv 1)) (blkOk_by (N := sc_flows_N) (sc := defScope s_flows) (by decide +kernel)) (fun _ _ _ _ _ => pg_name (i := 4) sc_flows.nd rfl (Or.inl rfl)) (fun _ _ _ _ _ => pts_nil) (fun _ _ _ _ _ => (pe_op op_cat (pv 4) (pe_lst (pa_cons (pe_un un_neg pe_int) pa_nil))))) (pe_lc (own := [("_law_row", 4)]) (g := gName 4) (tt := tYes) rfl sc_flows.nd (pi_list (pv 1)) (blkOk_by (N := sc_flows_N) (sc := defScope s_flows) (by decide +kernel)) (fun _ _ _ _ _ => pg_name (i := 4) sc_flows.nd rfl (Or.inl rfl)) (fun _ _ _ _ _ => pts_nil) (fun _ _ _ _ _ => (pe_op op_cat (pv 4) (pe_lst (pa_cons pe_int pa_nil))))))) (pss_one (ps_set (i := 1) sc_flows.nd rfl (Or.inl rfl) (pe_op op_cat (pv 3) (pe_lc (own := [("_law_row", 4)]) (g := gName 4) (tt := tYes) rfl sc_flows.nd (pi_list (pv 1)) (blkOk_by (N := sc_flows_N) (sc := defScope s_flows) (by decide +kernel)) (fun _ _ _ _ _ => pg_name (i := 4) sc_flows.nd rfl (Or.inl rfl)) (fun _ _ _ _ _ => pts_nil) (fun _ _ _ _ _ => (pe_op op_cat (pv 4) (pe_lst (pa_cons pe_int pa_nil))))))))))
      (pss_one (ps_ret (pe_lc (own := [("_law_row", 4)]) (g := gName 4) rfl sc_flows.nd (pi_list (pv 1)) (blkOk_by (N := sc_flows_N) (sc := defScope s_flows) (by decide +kernel)) (fun _ _ _ _ _ => pg_name (i := 4) sc_flows.nd rfl (Or.inl rfl)) (fun _ _ _ _ _ => pts_one (pt_val (pe_fn h_kept (hr.mono (by decide)) (pa_cons (pv 0) (pa_cons (pv 4) pa_nil))))) (fun _ _ _ _ _ => (pv 4))))))), ?_⟩
    obtain ⟨lp, lq, lg, pu, gu, e1, e2, kp⟩ := md.ex
    have ekl : H l = some (.lst [.ref lp, .ref lq, .ref lg]) := kp (l, _) List.mem_cons_self
    have ekq : H lq = some (.lst (rf pu)) := kp (lq, _) (List.mem_cons_of_mem _ (List.mem_cons_of_mem _ List.mem_cons_self))
    have qm := ok.qm
    refine ⟨by decide, fun L0 nL0 => ⟨(by show 1 ≤ sizeLine; decide), fun L1 nL1 => ?_⟩⟩
    have s0 : Same H (upd (upd H L0 (.lst [])) L1 (.lst [.ref L0])) := fun b o e => (upd_ne (ne_of_none ((upd_ne (ne_of_none e nL0)).trans e) nL1)).trans ((upd_ne (ne_of_none e nL0)).trans e)
    dsimp only [gName]
    refine ⟨_, rfl, l, _, 1, _, rfl, rfl, SqL.of (s0 _ _ ekl), rfl, lq, rfl, ⟨_, SqL.of (s0 _ _ ekq)⟩, for_list (xs := rf pu) (fun j σ H' => ∃ (a : Addr) (us : List FU) (o2 o3 o4 : Option V), σ = [some (.ref l), some (.ref a), o2, o3, o4] ∧ Same H H' ∧ H' a = some (.lst (rf us)) ∧ FAt H' us ∧ (∀ u ∈ us, H u.1 = none) ∧ us.length = 3 ^ j ∧ ∀ r, r ∈ sn us ↔ r.length = j ∧ ∀ c ∈ r, trit c) ⟨L1, [(L0, [])], none, none, none, rfl, s0, upd_same, fun u hu => ?_, fun u hu => by rw [List.mem_singleton.mp hu]; exact nL0, rfl, fun r => ?_⟩ ?_ ?_ ?_⟩
    · rw [List.mem_singleton.mp hu]
      exact (upd_ne (ne_of_none upd_same nL1)).trans upd_same
    · simp only [sn, List.map_cons, List.map_nil, List.mem_singleton]
      exact ⟨fun e => ⟨by rw [e]; rfl, fun c hc => by rw [e] at hc; exact nomatch hc⟩, fun z => List.eq_nil_of_length_eq_zero z.1⟩
    · rintro j σ H1 _ ⟨_, _, _, _, _, _, s1, _⟩
      exact SqL.of (s1 _ _ ekq)
    · rintro j v σ H1 hv ⟨a, us, o2, o3, o4, rfl, s1, eA, rat, un0, ul, hus⟩
      have hj : j < 5 := by
        have := (List.getElem?_eq_some_iff.mp hv).1
        rw [rf_len, ← sn_len, e1] at this
        omega
      have ul2 : us.length ≤ 81 := by
        rw [ul]
        exact Nat.le_trans (Nat.pow_le_pow_right (by omega) (show j ≤ 4 by omega)) (by decide)
      dsimp only [gName]
      have elem : ∀ (c : Int) (u : FU) (H2 : Hp) (L : Addr), u ∈ us → Same H1 H2 → H2 L = none → ∀ R : VK, (∀ p H3, Same H2 H3 → H2 p = none → H3 p = some (.lst ((u.2 ++ [c]).map V.int)) → R (.ref p) H3) → rCat (V.ref u.1) (V.ref L) (upd H2 L (.lst [V.int c])) R := fun c u H2 L hu s2 nL R kR => by
        have eu := s2 _ _ (rat u hu)
        have hl := ((hus u.2).mp (List.mem_map.mpr ⟨u, hu, rfl⟩)).1
        have sL : Same H2 (upd H2 L (.lst [V.int c])) := fun b o e => (upd_ne (ne_of_none e nL)).trans e
        refine ⟨u.1, L, _, _, rfl, rfl, sL _ _ eu, upd_same, ?_, fun p np => ?_⟩
        · rw [List.length_map, hl]
          exact Nat.le_trans (show j + 1 ≤ 6 by omega) (by decide)
        · refine kR p _ (fun b o e => (upd_ne (ne_of_none (sL _ _ e) np)).trans (sL _ _ e)) (upd_none np).1 ?_
          rw [upd_same, List.map_append]
          rfl
      refine ⟨_, rfl, a, rfl, ⟨_, SqL.of eA⟩, fun D nD => lc_rows (-1) walk_list nD (by omega) (fun H' s' => SqL.of (s' _ _ eA)) (fun _ => rfl) (fun u hu H2 s2 R kR => ⟨_, rfl, _, rfl, (by show 1 ≤ sizeLine; decide), fun L nL => elem (-1) u H2 L hu s2 nL R kR⟩) fun w1 H2 q1 z1 s2 f2 hD => ?_⟩
      refine ⟨_, rfl, a, rfl, ⟨_, SqL.of (s2 _ _ eA)⟩, fun D2 nD2 => lc_rows 0 walk_list nD2 (by omega) (fun H' s' => SqL.of (s' _ _ (s2 _ _ eA))) (fun _ => rfl) (fun u hu H3 s3 R kR => ⟨_, rfl, (by show 1 ≤ sizeLine; decide), fun L nL => elem 0 u H3 L hu (s2.trans s3) nL R kR⟩) fun w2 H3 q2 z2 s3 f3 hD2 => ?_⟩
      have l1 : w1.length = us.length := by rw [← sn_len, q1, List.length_map, sn_len]
      have l2 : w2.length = us.length := by rw [← sn_len, q2, List.length_map, sn_len]
      refine ⟨D, D2, _, _, rfl, rfl, s3 _ _ hD, hD2, by rw [rf_len, rf_len]; exact Nat.le_trans (show _ ≤ 162 by omega) (by decide), fun D3 nD3 => ?_⟩
      have s4 : Same H3 (upd H3 D3 (.lst (rf w1 ++ rf w2))) := fun b o e => (upd_ne (ne_of_none e nD3)).trans e
      have eA4 := s4 _ _ (s3 _ _ (s2 _ _ eA))
      have eD4 : upd H3 D3 (.lst (rf w1 ++ rf w2)) D3 = some (.lst (rf w1 ++ rf w2)) := upd_same
      have s14 : Same H1 (upd H3 D3 (.lst (rf w1 ++ rf w2))) := (s2.trans s3).trans s4
      have f24 := (f2.ext s3).ext s4
      have f34 := f3.ext s4
      dsimp only [gName]
      revert eA4 eD4 s14 f24 f34
      generalize upd H3 D3 (.lst (rf w1 ++ rf w2)) = H4
      intro eA4 eD4 s14 f24 f34
      refine ⟨_, rfl, _, rfl, a, rfl, ⟨_, SqL.of eA4⟩, fun D5 nD5 => lc_rows 1 walk_list nD5 (by omega) (fun H' s' => SqL.of (s' _ _ eA4)) (fun _ => rfl) (fun u hu H5 s5 R kR => ⟨_, rfl, (by show 1 ≤ sizeLine; decide), fun L nL => elem 1 u H5 L hu (s14.trans s5) nL R kR⟩) fun w3 H5 q3 z3 s5 f5 hD5 => ?_⟩
      have l3 : w3.length = us.length := by rw [← sn_len, q3, List.length_map, sn_len]
      refine ⟨D3, D5, _, _, rfl, rfl, s5 _ _ eD4, hD5, by rw [List.length_append, rf_len, rf_len, rf_len]; exact Nat.le_trans (show _ ≤ 243 by omega) (by decide), fun D6 nD6 => ?_⟩
      have s6 : Same H5 (upd H5 D6 (.lst (rf w1 ++ rf w2 ++ rf w3))) := fun b o e => (upd_ne (ne_of_none e nD6)).trans e
      refine ⟨D6, w1 ++ w2 ++ w3, _, _, _, rfl, s1.trans (s14.trans (s5.trans s6)), ?_, fun u hu => ?_, fun u hu => ?_, ?_, fun r => ?_⟩
      · rw [upd_same]
        simp [rf]
      · rcases List.mem_append.mp hu with hu | hu
        · rcases List.mem_append.mp hu with hu | hu
          · exact s6 _ _ (s5 _ _ (f24 u hu))
          · exact s6 _ _ (s5 _ _ (f34 u hu))
        · exact s6 _ _ (f5 u hu)
      · rcases List.mem_append.mp hu with hu | hu
        · rcases List.mem_append.mp hu with hu | hu
          · exact none_back s1 (z1 u hu)
          · exact none_back (s1.trans s2) (z2 u hu)
        · exact none_back (s1.trans s14) (z3 u hu)
      · rw [List.length_append, List.length_append, l1, l2, l3, ul, Nat.pow_succ]
        omega
      · rw [show sn (w1 ++ w2 ++ w3) = sn w1 ++ sn w2 ++ sn w3 by simp [sn], q1, q2, q3]
        exact trits hus r
    · rintro σ H1 ⟨a, us, o2, o3, o4, rfl, s1, eA, rat, un0, ul, hus⟩
      rw [rf_len, show pu.length = M.qs.length by rw [← e1, sn_len]] at ul hus
      have ul2 : us.length ≤ 243 := by
        rw [ul]
        exact Nat.le_trans (Nat.pow_le_pow_right (by omega) qm) (by decide)
      refine ⟨_, rfl, a, rfl, ⟨_, SqL.of eA⟩, fun D nD => lc_keepF (fun u : FU => keptB M u.2) (fun u => .ref u.1) walk_list nD (by omega) (fun H' s' => SqL.of (s' _ _ eA)) (fun _ => rfl) (fun u hu H2 s2 R kR => ?_) (fun u hu H2 s2 R kR => ⟨_, rfl, kR⟩) fun H2 s2 hD => ?_⟩
      · have hr2 := (hus u.2).mp (List.mem_map.mpr ⟨u, hu, rfl⟩)
        exact ⟨_, rfl, _, rfl, irr ⟨l, u.1, M, 5, more, u.2, rfl, md.ext (s1.trans s2), ok, by decide, s2 _ _ (rat u hu), hr2.1, fun H3 s3 => ⟨_, rfl, kR H3 s3⟩⟩⟩
      · refine k D (us.filter fun u => keptB M u.2) H2 (s1.trans s2) hD (fun u hu => s2 _ _ (rat u (List.mem_filter.mp hu).1)) (Nat.le_trans (List.length_filter_le _ _) ul2) (none_back s1 nD) (fun u hu => un0 u (List.mem_filter.mp hu).1) fun r => ?_
        rw [show sn (us.filter fun u => keptB M u.2) = (sn us).filter (keptB M) by rw [sn, sn, List.filter_map]; rfl, List.mem_filter, hus r, and_assoc]
end
end RV
/-! votes: within a distance, a pipe's meter in a layer -/
namespace RV
open PySem L2 TL
section
variable {P : Program} {w : World} {K : PySem.W.Frag} {mg : Str → Option Value} {base : Heap} {CN CP CM CS : Addr}
theorem ok_wit {f : Addr} {fd : FuncData} (F : Fun K "_is_within" "_is_within" s_is_within f fd) : FnOk P w K mg base CX0 1 f fd ["distances", "place", "distance"] sp_wit := by
  refine F.ok sc_is_within (fun vs H Q E h => ?_) (fun cdv A outer s H vs Q E hr h => ?_)
  · obtain ⟨_, _, _, _, _, rfl, _⟩ := h
    rfl
  · obtain ⟨d, x, c, kvs, g, rfl, ed, di, k⟩ := h
    have hu : (A.deeper (PyProof.Rows.envOfC "_is_within" (defScope s_is_within) s.heap.objs.size f cdv)).units + 1 < cLine := by have := hr.units; omega
    refine ⟨_, (pss_one (ps_ret (pe_and (pe_cmp (pc_din hu (pv 1) (pv 0))) (pe_one (pe_cmpR op_le (pe_dget hu (pv 0) (pv 1) (fun _ _ => rfl)) (pv 2) (nomark _)))))), ?_⟩
    have ga : DGet H d (.str x) (valV kvs (.inr x)) := DGet.k (k := Sum.inr x) ed
    have dx := di x
    refine ⟨_, rfl, _, rfl, d, _, rfl, ga, _, rfl, ?_⟩
    cases hg : g x with
    | none =>
      rw [hg] at dx
      rw [dx]
      unfold inA at k
      rw [hg] at k
      exact iteF k
    | some e =>
      rw [hg] at dx
      have dx : valV kvs (.inr x) = some (.int (e : Nat)) := dx
      rw [dx] at ga ⊢
      rw [inA_far hg] at k
      refine iteT ⟨_, rfl, _, rfl, d, _, rfl, ga, _, rfl, _, _, rfl, rfl, ?_⟩
      show Q (.bl (decide ((e : Int) ≤ (c : Int)))) H
      rw [show decide ((e : Int) ≤ (c : Int)) = decide (e ≤ c) by simp]
      exact k
theorem ok_satN {f : Addr} {fd : FuncData} (F : Fun K "sealed_at" "sealed_at" s_sealed_at f fd) (h_mat : Fn P w K mg base "meters_at" 3 ["net", "name"] (Irr (sp_mat K CN CP CM))) (h_mn : Prp P w K mg base CM "name" 1 (Irr (sp_mn CM))) (h_mz : Prp P w K mg base CM "sealed" 1 (Irr (sp_mz CM))) : FnOk P w K mg base CX0 4 f fd ["net", "name"] (sp_satN K CN CP CM) := by
  refine F.ok sc_sealed_at (fun vs H Q E h => ?_) (fun cdv A outer s H vs Q E hr h => ?_)
  · obtain ⟨_, _, _, _, rfl, _⟩ := h
    rfl
  · obtain ⟨x, ps, ms, y, rfl, nr, hl, k⟩ := h
    refine ⟨_, (pss_one (ps_ret (pe_lc (own := [("part", 2)]) (g := gName 2) rfl sc_sealed_at.nd (pi_list (pe_fn h_mat (hr.mono (by decide)) (pa_cons (pv 0) (pa_cons (pv 1) pa_nil)))) (blkOk_by (N := sc_sealed_at_N) (sc := defScope s_sealed_at) (by decide +kernel)) (fun _ _ _ _ _ => pg_name (i := 2) sc_sealed_at.nd rfl (Or.inl rfl)) (fun _ _ _ _ _ => pts_one (pt_val (pe_propN h_mz (hr.mono (by decide)) (pv 2)))) (fun _ _ _ _ _ => (pe_propN h_mn (hr.mono (by decide)) (pv 2)))))), ?_⟩
    refine ⟨_, rfl, _, rfl, irr ⟨x, ps, ms, y, rfl, nr, hl, fun l us H1 s1 hL hu e1 => ?_⟩⟩
    have ul : us.length ≤ 12 := by
      rw [← sn_len, e1]
      exact Nat.le_trans (List.length_filter_le _ _) hl
    refine ⟨l, rfl, ⟨_, SqL.of hL⟩, fun D nD => ?_⟩
    refine lc_keepF (fun u : MU => u.2.2.2) (fun u => V.str u.2.1) walk_list nD (by omega) (fun H' s' => SqL.of (s' _ _ hL)) (fun _ => rfl) (fun u hm H2 s2 R kR => ?_) (fun u hm H2 s2 R kR => ?_) fun H2 s2 hD => ?_
    · have mu2 := (hu u hm).ext s2
      obtain ⟨dx2, ex2⟩ := id mu2
      exact ⟨_, rfl, u.1, dx2, _, rfl, ex2, irr ⟨u.1, u.2, rfl, mu2, _, rfl, kR H2 (Same.refl _)⟩⟩
    · have mu2 := (hu u hm).ext s2
      obtain ⟨dx2, ex2⟩ := id mu2
      exact ⟨_, rfl, u.1, dx2, _, rfl, ex2, irr ⟨u.1, u.2, rfl, mu2, kR⟩⟩
    · refine k D H2 (s1.trans s2) ?_
      rw [hD, seP, ← e1, sn, List.filter_map, List.map_map]
      rfl
theorem ok_mil {f : Addr} {fd : FuncData} (F : Fun K "_meter_in_layer" "_meter_in_layer" s_meter_in_layer f fd) (T : Blt mg) (h_mat : Fn P w K mg base "meters_at" 3 ["net", "name"] (Irr (sp_mat K CN CP CM))) (h_sat : Fn P w K mg base "sealed_at" 4 ["net", "name"] (Irr (sp_satN K CN CP CM))) (h_mn : Prp P w K mg base CM "name" 1 (Irr (sp_mn CM))) (h_pn : Prp P w K mg base CP "name" 1 (Irr (sp_pn CP))) (h_ps : Prp P w K mg base CP "start" 1 (Irr (sp_ps CP))) (h_pe : Prp P w K mg base CP "end" 1 (Irr (sp_pe CP))) : FnOk P w K mg base CX0 5 f fd ["net", "part", "distances", "distance"] (sp_mil K CN CP CM) := by
  refine F.ok sc_meter_in_layer (fun vs H Q E h => ?_) (fun cdv A outer s H vs Q E hr h => ?_)
  · obtain ⟨_, _, _, _, _, _, _, _, _, rfl, _⟩ := h
    rfl
  · obtain ⟨x, a, d, ps, ms, q, c, kvs, g, rfl, nr, ml, pa, ed, di, ok, k⟩ := h
    have hu : (A.deeper (PyProof.Rows.envOfC "_meter_in_layer" (defScope s_meter_in_layer) s.heap.objs.size f cdv)).units + 1 < cLine := by have := hr.units; omega
    refine ⟨_, (pss_cons (ps_set (i := 4) sc_meter_in_layer.nd rfl (Or.inl rfl) (pe_fn h_sat (hr.mono (by decide)) (pa_cons (pv 0) (pa_cons (pe_propN h_pn (hr.mono (by decide)) (pv 1)) pa_nil))))
      (pss_cons (ps_if (pt_truth (pv 4) (by intro _; rfl)) (pss_one (ps_ret (pe_ix ix_list (pv 4) pe_int (fun _ _ => rfl)))) pss_nil)
      (pss_cons (ps_set (i := 5) sc_meter_in_layer.nd rfl (Or.inl rfl) (pe_callB (call_min2 rfl) (by rfl) T.b_min (by decide +kernel) (pa_cons (pe_dget hu (pv 2) (pe_propN h_ps (hr.mono (by decide)) (pv 1)) (fun _ _ => rfl)) (pa_cons (pe_dget hu (pv 2) (pe_propN h_pe (hr.mono (by decide)) (pv 1)) (fun _ _ => rfl)) pa_nil))))
      (pss_one (ps_ret (pe_propN h_mn (hr.mono (by decide)) (pe_ix ix_list (pe_fn h_mat (hr.mono (by decide)) (pa_cons (pv 0) (pa_cons (pe_propN h_pn (hr.mono (by decide)) (pv 1)) pa_nil))) (pe_op op_sub (pv 3) (pv 5)) (fun _ _ => rfl)))))))), ?_⟩
    obtain ⟨dx, ex⟩ := id pa
    refine ⟨_, rfl, _, rfl, a, dx, _, rfl, ex, irr ⟨a, q, rfl, pa, irr ⟨x, ps, ms, q.1, rfl, nr, ml, fun l H1 s1 el => ?_⟩⟩⟩
    dsimp only [gName]
    cases e : seP ms q.1 with
    | cons m r =>
      rw [e] at el
      refine ⟨_, rfl, _, .inl ⟨_, SqL.of el, rfl⟩, iteT ⟨_, rfl, l, _, 0, _, rfl, rfl, SqL.of el, atI_nat (j := 0) rfl, ?_⟩⟩
      have := k H1 s1
      rw [mtrL, e] at this
      exact this
    | nil =>
      rw [e] at el
      obtain ⟨g1, g2, le, lt⟩ := ok e
      have pa1 := pa.ext s1
      have ex1 := s1 _ _ ex
      have ed1 := s1 _ _ ed
      have d1 : valV kvs (.inr q.2.1) = some (.int (dsN g q.2.1 : Nat)) := by
        have := di q.2.1
        rw [g1] at this
        exact this
      have d2 : valV kvs (.inr q.2.2) = some (.int (dsN g q.2.2 : Nat)) := by
        have := di q.2.2
        rw [g2] at this
        exact this
      have ga1 : DGet H1 d (.str q.2.1) (some (.int (dsN g q.2.1 : Nat))) := d1 ▸ DGet.k (k := Sum.inr q.2.1) ed1
      have ga2 : DGet H1 d (.str q.2.2) (some (.int (dsN g q.2.2 : Nat))) := d2 ▸ DGet.k (k := Sum.inr q.2.2) ed1
      refine ⟨_, rfl, _, .inl ⟨_, SqL.of el, rfl⟩, iteF ⟨_, rfl, _, rfl, a, dx, _, rfl, ex1, irr ⟨a, q, rfl, pa1, d, _, rfl, ga1, _, rfl, _, rfl, a, dx, _, rfl, ex1, irr ⟨a, q, rfl, pa1, d, _, rfl, ga2, _, _, rfl, ?_⟩⟩⟩⟩
      dsimp only [gName]
      refine ⟨_, rfl, _, rfl, a, dx, _, rfl, ex1, irr ⟨a, q, rfl, pa1, irr ⟨x, ps, ms, q.1, rfl, nr.ext s1, ml, fun l2 us H2 s2 hL hu2 e1 => ?_⟩⟩⟩
      obtain ⟨m, hm⟩ : ∃ m, (onP ms q.1)[c - min (dsN g q.2.1) (dsN g q.2.2)]? = some m := ⟨_, List.getElem?_eq_getElem lt⟩
      rw [← e1] at hm
      obtain ⟨u, hu3, rfl⟩ : ∃ u, us[c - min (dsN g q.2.1) (dsN g q.2.2)]? = some u ∧ u.2 = m := by
        rw [sn, List.getElem?_map] at hm
        cases z : us[c - min (dsN g q.2.1) (dsN g q.2.2)]? with
        | none => rw [z] at hm; cases hm
        | some u => rw [z] at hm; exact ⟨u, rfl, Option.some.inj hm⟩
      have mu2 := hu2 u (List.mem_of_getElem? hu3)
      obtain ⟨dx2, ex2⟩ := id mu2
      have ix : (c : Int) - (if (dsN g q.2.2 : Int) < (dsN g q.2.1 : Int) then (dsN g q.2.2 : Int) else (dsN g q.2.1 : Int)) = ((c - min (dsN g q.2.1) (dsN g q.2.2) : Nat) : Int) := by
        split <;> omega
      refine ⟨_, rfl, _, rfl, _, _, rfl, rfl, l2, rf us, _, .ref u.1, rfl, rfl, SqL.of hL, ?_, u.1, dx2, _, rfl, ex2, irr ⟨u.1, u.2, rfl, mu2, ?_⟩⟩
      · show atI (rf us) ((c : Int) - (if (dsN g q.2.2 : Int) < (dsN g q.2.1 : Int) then (dsN g q.2.2 : Int) else (dsN g q.2.1 : Int))) = _
        rw [ix]
        exact atI_nat (by rw [rf, List.getElem?_map, hu3]; rfl)
      · have := k H2 (s1.trans s2)
        have km : mtrL ms g c q = ((onP ms q.1).getD (c - min (dsN g q.2.1) (dsN g q.2.2)) ("", "", false)).1 := by
          unfold mtrL
          rw [e]
        rw [km] at this
        rw [List.getD_eq_getElem?_getD, ← e1, hm] at this
        exact this
end
end RV
/-! votes: a layer -/
namespace RV
open PySem L2 TL
section
variable {P : Program} {w : World} {K : PySem.W.Frag} {mg : Str → Option Value} {base : Heap} {CN CP CM CS : Addr}
theorem ok_lay {f : Addr} {fd : FuncData} (F : Fun K "_layer" "_layer" s_layer f fd) (T2 : Blt2 mg) (h_np : Prp P w K mg base CN "pipes" 1 (Irr (sp_npi CN))) (h_pn : Prp P w K mg base CP "name" 1 (Irr (sp_pn CP))) (h_ps : Prp P w K mg base CP "start" 1 (Irr (sp_ps CP))) (h_pe : Prp P w K mg base CP "end" 1 (Irr (sp_pe CP)))
    (h_wit : Fn P w K mg base "_is_within" 1 ["distances", "place", "distance"] (Irr sp_wit)) (h_mil : Fn P w K mg base "_meter_in_layer" 5 ["net", "part", "distances", "distance"] (Irr (sp_mil K CN CP CM))) (h_Sum : Mkr P w K mg base "Sum" CS 4 (Irr (sp_Sum K CS)) []) : FnOk P w K mg base CX0 6 f fd ["net", "pipe", "distances", "distance"] (sp_lay K CN CP CM CS) := by
  refine F.ok sc_layer (fun vs H Q E h => ?_) (fun cdv A outer s H vs Q E hr h => ?_)
  · obtain ⟨_, _, _, _, _, _, _, _, rfl, _⟩ := h
    rfl
  · obtain ⟨x, d, ps, ms, y, c, kvs, g, rfl, nr, po, mo, ed, di, ok, k⟩ := h
    refine ⟨_, (pss_cons (ps_set (i := 4) sc_layer.nd rfl (Or.inl rfl) (pe_lst pa_nil))
      (pss_cons (ps_for PassesOwn.never rfl (pi_tup (pe_propN h_np (hr.mono (by decide)) (pv 0))) (pg_name (i := 5) sc_layer.nd rfl (Or.inl rfl)) (pss_cons (ps_set (i := 6) sc_layer.nd rfl (Or.inl rfl) (pe_fn h_wit (hr.mono (by decide)) (pa_cons (pv 2) (pa_cons (pe_propN h_ps (hr.mono (by decide)) (pv 5)) (pa_cons (pv 3) pa_nil))))) (pss_cons (ps_set (i := 7) sc_layer.nd rfl (Or.inl rfl) (pe_fn h_wit (hr.mono (by decide)) (pa_cons (pv 2) (pa_cons (pe_propN h_pe (hr.mono (by decide)) (pv 5)) (pa_cons (pv 3) pa_nil))))) (pss_one (ps_if (PW.pt (pw_and (pt_cmpR op_ne (pe_propN h_pn (hr.mono (by decide)) (pv 5)) (pv 1) (nomark _)) (pw_and1 (pt_cmpR op_ne (pv 6) (pv 7) (nomark _))))) (pss_one (ps_expr (pe_bm PySem.F.plainAttrs_list PySem.F.slot_list_append PySem.F.type_list_append mt_append (pv 4) (pa_cons (pe_tup (pa_cons (pe_fn h_mil (hr.mono (by decide)) (pa_cons (pv 0) (pa_cons (pv 5) (pa_cons (pv 2) (pa_cons (pv 3) pa_nil))))) (pa_cons (pe_ifExp (pt_val (pv 6)) pe_int (pe_un un_neg pe_int)) pa_nil))) pa_nil)))) pss_nil)))))
      (pss_one (ps_ret (pe_mk h_Sum (hr.mono (by decide)) (pa_cons (pe_callTy call_tuple_of (by rfl) T2.b_tuple (by decide +kernel) (pa_cons (pv 4) pa_nil)) pa_nil)))))), ?_⟩
    obtain ⟨dx, tp, tm, pu, mu, ex, hp, hm, ep, em⟩ := id nr.ex
    have pul : pu.length = ps.length := by rw [← ep, sn_len]
    have p12 := po.ln
    have m12 := mo.ln
    refine ⟨by decide, fun l nl => ?_⟩
    dsimp only [gName]
    have s0 := (put_sm (o := .lst []) nl).1
    refine ⟨_, rfl, x, dx, _, rfl, s0 _ _ ex, irr ⟨x, dx, tp, tm, rfl, s0 _ _ ex, tp, rfl, ⟨_, hp.t.ext s0⟩, for_tup (xs := rf pu) (fun i σ H' => ∃ (ws : List TP) (o5 o6 o7 : Option V), σ = [some (.ref x), some (.str y), some (.ref d), some (.int (c : Nat)), some (.ref l), o5, o6, o7] ∧ prs ws = layT (ps.take i) ms y g c ∧ Kp H (lP ws) H' ∧ H' l = some (.lst (vP ws)))
      ⟨[], _, _, _, rfl, by rw [List.take_zero]; rfl, (Kp.start H).put nl (fun _ h => nomatch h), upd_same⟩ (fun i σ H' _ z => by obtain ⟨_, _, _, _, _, _, kp, _⟩ := z; exact hp.t.ext kp.sm) ?_ ?_⟩⟩
    · rintro i v σ H1 hv ⟨ws, o5, o6, o7, rfl, hw, kp, el⟩
      obtain ⟨u, hu2, rfl⟩ := rf_get hv
      have hi : i < ps.length := by have := (List.getElem?_eq_some_iff.mp hu2).1; omega
      have hq : ps[i]? = some u.2 := ep ▸ sn_get hu2
      have pa := (hp.o u (List.mem_of_getElem? hu2)).ext kp.sm
      obtain ⟨du, edu⟩ := id pa
      have wl : ws.length ≤ i := by
        have := congrArg List.length hw
        rw [prs_len, layT, List.length_map] at this
        have q := List.length_filter_le (crs g c y) (ps.take i)
        rw [List.length_take] at q
        omega
      have tk : layT (ps.take (i + 1)) ms y g c = layT (ps.take i) ms y g c ++ (if crs g c y u.2 = true then [(mtrL ms g c u.2, if inA g c u.2.2.1 then 1 else -1)] else []) := by
        rw [layT, List.take_add_one, hq, Option.toList_some, List.filter_append, List.map_append, layT]
        congr 1
        by_cases h : crs g c y u.2 = true
        · rw [if_pos h, List.filter_cons_of_pos h]
          rfl
        · rw [if_neg h, List.filter_cons_of_neg h]
          rfl
      dsimp only [gName]
      refine ⟨_, rfl, _, rfl, u.1, du, _, rfl, edu, irr ⟨u.1, u.2, rfl, pa, _, rfl, irr ⟨d, u.2.2.1, c, kvs, g, rfl, kp.sm _ _ ed, di, ?_⟩⟩⟩
      dsimp only [gName]
      refine ⟨_, rfl, _, rfl, u.1, du, _, rfl, edu, irr ⟨u.1, u.2, rfl, pa, _, rfl, irr ⟨d, u.2.2.2, c, kvs, g, rfl, kp.sm _ _ ed, di, ?_⟩⟩⟩
      dsimp only [gName]
      refine ⟨_, rfl, u.1, du, _, rfl, edu, irr ⟨u.1, u.2, rfl, pa, _, rfl, rfl, _, rfl, ?_⟩⟩
      have skip : crs g c y u.2 ≠ true → ∃ (ws2 : List TP) (q5 q6 q7 : Option V), [some (V.ref x), some (V.str y), some (V.ref d), some (V.int (c : Nat)), some (V.ref l), some (V.ref u.1), some (V.bl (inA g c u.2.2.1)), some (V.bl (inA g c u.2.2.2))] = [some (.ref x), some (.str y), some (.ref d), some (.int (c : Nat)), some (.ref l), q5, q6, q7] ∧ prs ws2 = layT (ps.take (i + 1)) ms y g c ∧ Kp H (lP ws2) H1 ∧ H1 l = some (.lst (vP ws2)) := fun h =>
        ⟨ws, _, _, _, rfl, by rw [tk, if_neg h, List.append_nil]; exact hw, kp, el⟩
      by_cases hy : u.2.1 = y
      · rw [show (!decide (V.str u.2.1 = V.str y)) = false by rw [hy]; simp]
        exact iteF (skip fun h => (crs_iff.mp h).1 hy)
      · rw [show (!decide (V.str u.2.1 = V.str y)) = true by rw [decide_eq_false (fun e => hy (by injection e))]; rfl]
        refine iteT ⟨_, rfl, _, rfl, rfl, _, rfl, ?_⟩
        by_cases hx : inA g c u.2.2.1 = inA g c u.2.2.2
        · rw [show (!decide (V.bl (inA g c u.2.2.1) = V.bl (inA g c u.2.2.2))) = false by rw [hx]; simp]
          exact iteF (skip fun h => (crs_iff.mp h).2 hx)
        · rw [show (!decide (V.bl (inA g c u.2.2.1) = V.bl (inA g c u.2.2.2))) = true by rw [decide_eq_false (fun e => hx (by injection e))]; rfl]
          have hc : crs g c y u.2 = true := crs_iff.mpr ⟨hy, hx⟩
          have hm := List.mem_of_getElem? hq
          refine iteT ⟨_, rfl, .inl ⟨rfl, _, SqL.of el⟩, _, rfl, _, rfl, _, rfl, _, rfl, irr ⟨x, u.1, d, ps, ms, u.2, c, kvs, g, rfl, nr.ext kp.sm, m12, pa, kp.sm _ _ ed, di, ok u.2 hm hc, fun H2 s2 => ?_⟩⟩
          have kp2 := kp.next s2
          have el2 := s2 _ _ el
          have tkz : layT (ps.take (i + 1)) ms y g c = layT (ps.take i) ms y g c ++ [(mtrL ms g c u.2, if inA g c u.2.2.1 then 1 else -1)] := by rw [tk, if_pos hc]
          have fin : ∀ (t : Addr), H2 t = none → ∃ (ws2 : List TP) (q5 q6 q7 : Option V), [some (V.ref x), some (V.str y), some (V.ref d), some (V.int (c : Nat)), some (V.ref l), some (V.ref u.1), some (V.bl (inA g c u.2.2.1)), some (V.bl (inA g c u.2.2.2))] = [some (.ref x), some (.str y), some (.ref d), some (.int (c : Nat)), some (.ref l), q5, q6, q7] ∧ prs ws2 = layT (ps.take (i + 1)) ms y g c ∧ Kp H (lP ws2) (upd (upd H2 t (oP (mtrL ms g c u.2, if inA g c u.2.2.1 then 1 else -1))) l (.lst (vP ws ++ [.ref t]))) ∧ upd (upd H2 t (oP (mtrL ms g c u.2, if inA g c u.2.2.1 then 1 else -1))) l (.lst (vP ws ++ [.ref t])) l = some (.lst (vP ws2)) := fun t nt => by
            have eT : upd H2 t (oP (mtrL ms g c u.2, if inA g c u.2.2.1 then 1 else -1)) l = some (.lst (vP ws)) := (upd_ne (ne_of_none el2 nt)).trans el2
            have kT : Kp H (lP (ws ++ [(t, mtrL ms g c u.2, if inA g c u.2.2.1 then 1 else -1)])) (upd H2 t (oP (mtrL ms g c u.2, if inA g c u.2.2.1 then 1 else -1))) := (kp2.new (o := oP (mtrL ms g c u.2, if inA g c u.2.2.1 then 1 else -1)) nt).sub fun p hp => by
              rw [lP_app] at hp
              rcases List.mem_append.mp hp with hp | hp
              · exact List.mem_cons_of_mem _ hp
              · rw [List.mem_singleton.mp hp]
                exact List.mem_cons_self
            refine ⟨ws ++ [(t, mtrL ms g c u.2, if inA g c u.2.2.1 then 1 else -1)], _, _, _, rfl, by rw [prs_app, hw, tkz]; rfl, kT.put nl (Kp.off kT eT), ?_⟩
            rw [upd_same, vP_app]
            rfl
          have eT : ∀ (t : Addr) (o : HO), H2 t = none → upd H2 t o l = some (.lst (vP ws)) := fun t o nt => (upd_ne (ne_of_none el2 nt)).trans el2
          have sz : (vP ws).length < sizeLine := by
            rw [vP_len]
            exact Nat.lt_of_lt_of_le (show ws.length < 100 by omega) (by decide)
          cases hin : inA g c u.2.2.1 with
          | true =>
            rw [hin] at fin
            exact ⟨_, rfl, _, rfl, iteT ⟨by show 2 ≤ sizeLine; decide, fun t nt => ⟨l, vP ws, _, rfl, rfl, eT t _ nt, sz, fin t nt⟩⟩⟩
          | false =>
            rw [hin] at fin
            exact ⟨_, rfl, _, rfl, iteF ⟨_, rfl, by show 2 ≤ sizeLine; decide, fun t nt => ⟨l, vP ws, _, rfl, rfl, eT t _ nt, sz, fin t nt⟩⟩⟩
    · rintro σ H1 ⟨ws, o5, o6, o7, rfl, hw, kp, el⟩
      rw [rf_len, pul, List.take_length] at hw
      have wl : ws.length ≤ 12 := by
        have := congrArg List.length hw
        rw [prs_len, layT, List.length_map] at this
        have q := List.length_filter_le (crs g c y) ps
        omega
      refine ⟨_, rfl, l, vP ws, rfl, .inl ⟨SqL.of el, fun m nm => ?_⟩⟩
      have k2 := kp.new (o := .tup (vP ws)) nm
      have wn : ∀ q ∈ prs ws, IsNm q.1 := by
        rw [hw]
        intro q hq
        obtain ⟨p, hp2, hc, e⟩ := lay_mem (List.mem_map.mpr ⟨q, hq, rfl⟩)
        obtain ⟨m0, h1, h2, _⟩ := mtr_on (ms := ms) (D := g) (c := c) (p := p) fun o => (ok p hp2 hc o).2.2.2
        rw [e, ← h2]
        exact (mo.nm m0 (onP_at.mp h1).1).1
      refine fun x2 dx' hx hd ne => Sum_kp (us := ws) ⟨SqT.of upd_same, fun u hu => SqT.of (k2.at (List.mem_cons_of_mem _ (List.mem_map.mpr ⟨u, hu, rfl⟩))), wn, by omega⟩ hx hd ne fun ds m2 dx2 H3 md k3 => ?_
      refine k x2 (prs ds) H3 (fun b o e => k3.sm b o (k2.sm b o e)) (by rw [hw] at md; exact md) ⟨dx2, m2, ds, rfl, fun p hp => (k3.nw p hp).2⟩
end
end RV
/-! votes -/
namespace RV
open PySem L2 TL
section
variable {P : Program} {w : World} {K : PySem.W.Frag} {mg : Str → Option Value} {base : Heap} {CN CP CM CS : Addr}
theorem ok_votes {f : Addr} {fd : FuncData} (F : Fun K "votes" "votes" s_votes f fd) (T : Blt mg) (T2 : Blt2 mg) (SC : SClass K mg CS) (h_chkn : Fn P w K mg base "check_net" 1 ["net"] (Irr (sp_chkn K CN CP CM))) (h_chkp : Fn P w K mg base "check_pipe" 5 ["net", "pipe"] (Irr (sp_chkp K CN CP CM)))
    (h_sat : Fn P w K mg base "sealed_at" 4 ["net", "name"] (Irr (sp_satN K CN CP CM))) (h_ways : Fn P w K mg base "shortest_ways" 6 ["net", "pipe"] (Irr (sp_ways K CN CP CM))) (h_stren : Fn P w K mg base "strength" 8 ["net", "pipe"] (Irr (sp_stren K CN CP CM))) (h_lay : Fn P w K mg base "_layer" 6 ["net", "pipe", "distances", "distance"] (Irr (sp_lay K CN CP CM CS)))
    (h_gpipe : Mtd P w K mg base CN "pipe" 4 ["self", "name"] (Irr (sp_gpipe K CN CP CM))) (h_ps : Prp P w K mg base CP "start" 1 (Irr (sp_ps CP))) (h_mat : Fn P w K mg base "meters_at" 3 ["net", "name"] (Irr (sp_mat K CN CP CM))) (h_mn : Prp P w K mg base CM "name" 1 (Irr (sp_mn CM))) (h_of : ClsR P w K mg base CS "of" 6 (Irr (sp_of CS))) : FnOk P w K mg base CX0 9 f fd ["net", "pipe"] (sp_votes K CN CP CM CS) := by
  refine F.ok sc_votes (fun vs H Q E h => ?_) (fun cdv A outer s H vs Q E hr h => ?_)
  · obtain ⟨_, _, _, _, rfl, _⟩ := h
    rfl
  · obtain ⟨x, ps, ms, i, rfl, nr, po, mo, hi, k⟩ := h
    have hu : (A.deeper (PyProof.Rows.envOfC "votes" (defScope s_votes) s.heap.objs.size f cdv)).units + 1 < cLine := by have := hr.units; omega
    have hu2 := hu
    refine ⟨_, (pss_cons (ps_expr (pe_fn h_chkn (hr.mono (by decide)) (pa_cons (pv 0) pa_nil)))
      (pss_cons (ps_expr (pe_fn h_chkp (hr.mono (by decide)) (pa_cons (pv 0) (pa_cons (pv 1) pa_nil))))
      (pss_cons (ps_set (i := 2) sc_votes.nd rfl (Or.inl rfl) (pe_fn h_sat (hr.mono (by decide)) (pa_cons (pv 0) (pa_cons (pv 1) pa_nil))))
      (pss_cons (ps_if (pt_truth (pv 2) (by intro _; rfl)) (pss_one (ps_ret (pe_tup (pa_cons (pe_cmR h_of (hr.mono (by decide)) (pe_gC SC.k) (pa_cons (pe_ix ix_list (pv 2) pe_int (fun _ _ => rfl)) pa_nil)) pa_nil)))) pss_nil)
      (pss_cons (ps_set (i := 3) sc_votes.nd rfl (Or.inr rfl) (pe_fn h_ways (hr.mono (by decide)) (pa_cons (pv 0) (pa_cons (pv 1) pa_nil))))
      (pss_cons (ps_set (i := 4) sc_votes.nd rfl (Or.inr rfl) (pe_lock (pe_dc (own := [("place", 6)]) (g := gName 6) (tt := tYes) rfl sc_votes.nd (pi_keys (pv 3)) (blkOk_by (N := sc_votes_N) (sc := defScope s_votes) (by decide +kernel)) (fun _ _ _ _ _ => pg_name (i := 6) sc_votes.nd rfl (Or.inl rfl)) (fun _ _ _ _ _ => pts_nil) (fun _ _ _ _ _ => pv 6) (fun _ _ _ _ _ => pe_ix (ix_tupK (K := K)) (pe_dget hu2 (pv 3) (pv 6) (fun _ _ => rfl)) pe_int (fun _ _ => rfl)))))
      (pss_cons (ps_if (pt_cmpR op_isN (pe_fn h_stren (hr.mono (by decide)) (pa_cons (pv 0) (pa_cons (pv 1) pa_nil))) pe_non (nomark _)) (pss_one (ps_ret (pe_tup (pa_cons (pe_fn h_lay (hr.mono (by decide)) (pa_cons (pv 0) (pa_cons (pv 1) (pa_cons (pv 4) (pa_cons (pe_callB (cr_maxK rfl) (by rfl) T.b_max (by decide +kernel) (pa_cons (pe_dvalsK (pv 4)) pa_nil)) pa_nil))))) pa_nil)))) pss_nil)
      (pss_cons (ps_setLc (i := 5) (own := [("distance", 7)]) (g := gName 7) (tt := tYes) rfl sc_votes.nd rfl rfl (sw_true rfl rfl rfl (by decide +kernel)) (pi_range1 rfl T.b_range (pa_cons (pe_dget hu (pv 4) (pe_propN h_ps (hr.mono (by decide)) (pe_mtd h_gpipe (hr.mono (by decide)) (pv 0) (pa_cons (pv 1) pa_nil))) (fun _ _ => rfl)) pa_nil)) (blkOk_by (N := sc_votes_N) (sc := defScope s_votes) (by decide +kernel)) (fun _ _ _ _ _ => pg_name (i := 7) sc_votes.nd rfl (Or.inl rfl)) (fun _ _ _ _ _ => pts_nil) (fun _ _ _ _ _ => (pe_fn h_lay (hr.mono (by decide)) (pa_cons (pv 0) (pa_cons (pv 1) (pa_cons (pv 4) (pa_cons (pv 7) pa_nil)))))))
      (pss_one (ps_ret (pe_callTy call_tuple_of (by rfl) T2.b_tuple (by decide +kernel) (pa_cons (pe_op op_cat (pe_lc (own := [("part", 8)]) (g := gName 8) (tt := tYes) rfl sc_votes.nd (pi_list (pe_fn h_mat (hr.mono (by decide)) (pa_cons (pv 0) (pa_cons (pv 1) pa_nil)))) (blkOk_by (N := sc_votes_N) (sc := defScope s_votes) (by decide +kernel)) (fun _ _ _ _ _ => pg_name (i := 8) sc_votes.nd rfl (Or.inl rfl)) (fun _ _ _ _ _ => pts_nil) (fun _ _ _ _ _ => (pe_cmR h_of (hr.mono (by decide)) (pe_gC SC.k) (pa_cons (pe_propN h_mn (hr.mono (by decide)) (pv 8)) pa_nil)))) (pv 5)) pa_nil)))))))))))), ?_⟩
    have p12 := po.ln
    have m12 := mo.ln
    have hy : pN ps i ∈ ps.map (·.1) := List.mem_map.mpr ⟨ps[i], List.getElem_mem hi, (pN_at (List.getElem?_eq_getElem hi)).1.symm⟩
    refine ⟨_, rfl, irr ⟨x, ps, ms, rfl, nr, ?_⟩⟩
    refine ⟨_, rfl, _, rfl, irr ⟨x, ps, ms, pN ps i, rfl, nr, p12, hy, fun H1 s1 => ?_⟩⟩
    refine ⟨_, rfl, _, rfl, irr ⟨x, ps, ms, pN ps i, rfl, nr.ext s1, m12, fun l H2 s2 el => ?_⟩⟩
    dsimp only [gName]
    have s02 := s1.trans s2
    cases hse : seP ms (pN ps i) with
    | cons m r =>
      rw [hse] at el
      obtain ⟨a, b⟩ := se_sub (ms := ms) (x := pN ps i) (m := m) (by rw [hse]; exact List.mem_cons_self)
      have nm := (mo.nm m (onP_at.mp a).1).1
      refine ⟨_, rfl, _, .inl ⟨_, SqL.of el, rfl⟩, iteT ⟨rfl, _, rfl, l, _, 0, _, rfl, rfl, SqL.of el, atI_nat (j := 0) rfl, ?_⟩⟩
      refine irr ⟨[m.1], rfl, fun y hy => by rw [List.mem_singleton.mp hy]; exact nm, by show 1 ≤ 60; decide, fun x2 dx m2 ds H' md kp => ⟨by show 1 ≤ sizeLine; decide, fun t nt => ?_⟩⟩
      have sT := (put_sm (o := .tup [.ref x2]) nt).1
      refine k t [(x2, prs ds)] 0 _ (fun b o e => sT _ _ (kp.sm _ _ (s02 _ _ e))) (put_sm nt).2 (fun u hu => ?_) ?_ (fun h => absurd (h.symm.trans hse) (by simp))
      · rw [List.mem_singleton.mp hu]
        exact ⟨dx, m2, ds, rfl, fun p hp => sT _ _ (kp.nw p hp).2⟩
      · rw [votesF, hse]
        exact MadL.one (T := [(m.1, 1)]) md
    | nil =>
      rw [hse] at el
      refine ⟨_, rfl, _, .inl ⟨_, SqL.of el, rfl⟩, iteF ?_⟩
      refine ⟨_, rfl, _, rfl, irr ⟨x, ps, ms, pN ps i, _, rfl, nr.ext s02, p12, m12, hy, ZOk.triv _ _ _, fun j q d kvs H3 hj hq s3 ed dw kl => ?_⟩⟩
      dsimp only [gName]
      have qj : j = i := by
        obtain ⟨a, b⟩ := List.getElem?_eq_some_iff.mp hj
        exact pN_inj po.nd a hi (by rw [(pN_at hj).1]; exact hq)
      subst qj
      have qE : q.2.2 = pE ps j := (pN_at hj).2.2.symm
      rw [qE] at dw
      have s03 := s02.trans s3
      refine ⟨d, .dK kvs, ed, trivial, fun od => ⟨_, rfl, d, od, rfl, .inl ⟨kvs, upd_same, fun D nD => ?_⟩⟩⟩
      have nDd : d ≠ D := fun e => by
        rw [← e, upd_same] at nD
        cases nD
      refine dc_it (n := kvs.length) walk_keys (fun i' H' => Same (upd H3 d (.frz od (.dK kvs))) H' ∧ ∃ kv2, H' D = some (.dK kv2) ∧ kv2.length ≤ i' ∧ DP kvs (dstI ps ms j) i' kv2) ⟨fun b o e => (upd_ne (ne_of_none e nD)).trans e, [], upd_same, Nat.le_refl _, DP.nil⟩ (fun i' H' _ z => z.1 _ _ upd_same) ?_ ?_
      · rintro i' v Hb Ha hi' ⟨s4, kv2, hD, l2, dp⟩ ⟨rfl, kk, vv, hk, rfl⟩
        obtain ⟨z, dz, rfl, hz⟩ := dw_key dw hk
        obtain ⟨e1, t1, fs, v1, v2, v3, _, _⟩ := dw.s z dz hz
        have ed3 : Ha d = some (.frz od (.dK kvs)) := s4 _ _ upd_same
        have ne : e1 ≠ d := fun e => by rw [e, ed] at v2; cases v2
        have e1' : Ha e1 = some (.tup [.int (dz : Nat), .ref t1]) := s4 _ _ ((upd_ne ne).trans v2)
        have hdg : DGet Ha d (V.str z) (some (.ref e1)) := .inl ⟨_, .inr z, .inr ⟨od, ed3⟩, rfl, v1.symm⟩
        refine ⟨rfl, ?_⟩
        have e0 : ∀ (σ : L2.St) (H : Hp) (R : Bool → Hp → Prop), R true H → tYes σ H R := fun _ _ _ r => r
        refine e0 _ _ _ ?_
        simp only [↓reduceIte]
        refine ⟨_, rfl, _, rfl, _, rfl, d, _, rfl, hdg, e1, _, 0, _, rfl, rfl, SqT.of e1', rfl, kv2, .inr z, rfl, hD, Nat.lt_of_le_of_lt l2 (Nat.lt_of_lt_of_le (show i' < 1001 by omega) (by decide)), fun b o e => (upd_ne (ne_of_none e nD)).trans (s4 b o e), _, upd_same, ?_, dp.put hk hz⟩
        have := length_putK kv2 (.inr z : Key) (.int (dz : Nat))
        omega
      · rintro H4 ⟨s4, kv2, hD, l2, dp⟩
        refine ⟨s4 _ _ upd_same, ?_⟩
        dsimp only [gName]
        have s35 : Same H3 (upd H4 d (.dK kvs)) := fun b o e => by
          by_cases ebd : b = d
          · subst ebd
            rw [ed] at e
            rw [upd_same, ← e]
          · exact (upd_ne ebd).trans (s4 b o ((upd_ne ebd).trans e))
        have hD5 : upd H4 d (.dK kvs) D = some (.dK kv2) := (upd_ne nDd.symm).trans hD
        have s05 := s03.trans s35
        clear s4 hD
        revert s35 hD5 s05
        generalize upd H4 d (.dK kvs) = H5
        intro s35 hD5 s05
        have di : DI kv2 (dstI ps ms j) := dp.all dw
        have hop : ∀ c, ∀ p ∈ ps, crs (dstI ps ms j) c (pN ps j) p = true → seP ms p.1 = [] → dstI ps ms j p.2.1 = some (dsN (dstI ps ms j) p.2.1) ∧ dstI ps ms j p.2.2 = some (dsN (dstI ps ms j) p.2.2) ∧ min (dsN (dstI ps ms j) p.2.1) (dsN (dstI ps ms j) p.2.2) ≤ c ∧ c - min (dsN (dstI ps ms j) p.2.1) (dsN (dstI ps ms j) p.2.2) < (onP ms p.1).length := fun c p hp hc o => by
          obtain ⟨a1, a2, a3, _, a5⟩ := crs_open po.nd hi rfl hp hc o
          exact ⟨a1, a2, a3, a5⟩
        have es : strP ps ms (pN ps j) = (dstI ps ms j (pS ps j)).map (· + wtP ms (pN ps j)) := by
          have hf : ps.find? (fun p => decide (p.1 = pN ps j)) = some ps[j] := by
            obtain ⟨a, _, _⟩ := pN_at (List.getElem?_eq_getElem hi)
            rw [List.find?_eq_some_iff_getElem]
            refine ⟨decide_eq_true a.symm, j, hi, rfl, fun j' hj' => ?_⟩
            have hj2 : j' < ps.length := Nat.lt_trans hj' hi
            obtain ⟨a2, _, _⟩ := pN_at (List.getElem?_eq_getElem hj2)
            rw [Bool.not_eq_true', decide_eq_false_iff_not]
            exact fun z => absurd (pN_inj po.nd hj2 hi (by rw [a2]; exact z)) (Nat.ne_of_lt hj')
          obtain ⟨ia, ib, ic⟩ := pN_at (List.getElem?_eq_getElem hi)
          rw [strP, hf, dstI, ib, ic]
          dsimp only
          rw [if_pos hse]
        refine ⟨_, rfl, _, rfl, irr ⟨x, ps, ms, pN ps j, rfl, nr.ext s05, po, m12, hy, fun H6 s6 => ⟨rfl, _, rfl, ?_⟩⟩⟩
        have s06 := s05.trans s6
        have hD6 := s6 _ _ hD5
        cases hst : dstI ps ms j (pS ps j) with
        | none =>
          have e1 : strP ps ms (pN ps j) = none := by rw [es, hst]; rfl
          rw [e1]
          obtain ⟨ns, n1, n2, n3⟩ := dp.vals di
          have h0 : dstI ps ms j (pE ps j) = some 0 := turns_zero (links_of po.nd hi) _
          have m0 := n2 _ _ h0
          refine iteT ⟨_, rfl, _, rfl, _, rfl, _, rfl, D, kv2, rfl, hD6, fun p np => ?_⟩
          have sp := (put_sm (o := viewO "dict_values" p D) np).1
          refine ⟨p, D, kv2, ns.map fun n => ((n : Nat) : Int), rfl, upd_same, sp _ _ hD6, n1, by rw [List.length_map]; exact List.length_pos_of_mem m0, fun m hm hle => ?_⟩
          obtain ⟨c, hc, rfl⟩ := List.mem_map.mp hm
          refine irr ⟨x, D, ps, ms, pN ps j, c, kv2, dstI ps ms j, rfl, (nr.ext s06).ext sp, po, mo, sp _ _ hD6, di, hop c, fun a qs H7 s7 md sr => ⟨by show 1 ≤ sizeLine; decide, fun t nt => ?_⟩⟩
          have sT := (put_sm (o := .tup [.ref a]) nt).1
          refine k t [(a, qs)] c _ (fun b o e => sT _ _ (s7 _ _ (sp _ _ (s06 _ _ e)))) (put_sm nt).2 (fun u hu => ?_) ?_ (fun _ _ z e hz => ?_)
          · rw [List.mem_singleton.mp hu]
            exact sr.ext sT
          · have hst2 : turns ((lkA ps ms (pN ps j)).map lk3) ps.length (g0 (pE ps j)) (pS ps j) = none := hst
            rw [votesF, hse]
            dsimp only
            rw [hst2]
            exact MadL.one md
          · have := hle _ (List.mem_map.mpr ⟨e, n2 _ _ hz, rfl⟩)
            omega
        | some dS =>
          have e1 : strP ps ms (pN ps j) = some (dS + wtP ms (pN ps j)) := by rw [es, hst]; rfl
          rw [e1]
          refine iteF ?_
          obtain ⟨dx, tp, tm, pu, mu, ex, hp, hm, ep, em⟩ := id nr.ex
          have d144 := dstI_le po.nd hi p12 m12 hst
          refine ⟨_, rfl, _, rfl, x, dx, _, rfl, s06 _ _ ex, rfl, _, rfl, irr ⟨x, ps, ms, pN ps j, rfl, nr.ext s06, p12, hy, fun a j2 q2 H7 hj2 hq2 s7 pa => ?_⟩⟩
          have qj2 : j2 = j := by
            obtain ⟨a, b⟩ := List.getElem?_eq_some_iff.mp hj2
            exact pN_inj po.nd a hi (by rw [(pN_at hj2).1]; exact hq2)
          subst qj2
          have qS : q2.2.1 = pS ps j2 := (pN_at hj2).2.1.symm
          obtain ⟨dp2, edp⟩ := id pa
          have hv : valV kv2 (.inr q2.2.1) = some (.int (dS : Nat)) := by rw [di, qS, hst]; rfl
          have hD7 := s7 _ _ hD6
          have s07 := s06.trans s7
          refine ⟨a, dp2, _, rfl, edp, irr ⟨a, q2, rfl, pa, D, _, rfl, by rw [← hv]; exact DGet.k (k := Sum.inr q2.2.1) hD7, ?_⟩⟩
          refine ⟨(dS : Nat), rfl, by omega, by omega, fun L nL => ?_⟩
          rw [Int.toNat_natCast]
          refine lc_new (xs := (List.range dS).map vI) (fun u : VU => V.ref u.1) (fun c u H' => Mad (layT ps ms (pN ps j2) (dstI ps ms j2) c) u.2 ∧ SumR CS H' u.1 u.2) walk_rgi nL (by rw [List.length_map, List.length_range]; omega) (fun _ _ => trivial) (fun _ => rfl) (fun c u Ha Hb s' h => ⟨h.1, h.2.ext s'⟩) (fun c u Ha acc acc' e h => ⟨h.1, h.2.put e⟩) (fun c v hv2 H8 s8 _ R hR => ?_) fun us H8 s8 ul hus e8 => ?_
          · have hc : c < dS := by
              have := (List.getElem?_eq_some_iff.mp hv2).1
              rwa [List.length_map, List.length_range] at this
            rw [List.getElem?_map, List.getElem?_range hc] at hv2
            obtain rfl := Option.some.inj hv2
            refine ⟨_, rfl, _, rfl, _, rfl, _, rfl, irr ⟨x, D, ps, ms, pN ps j2, c, kv2, dstI ps ms j2, rfl, (nr.ext s07).ext s8, po, mo, s8 _ _ hD7, di, hop c, fun a2 qs H9 s9 md sr => hR (a2, qs) H9 s9 ⟨md, sr⟩⟩⟩
          · rw [List.length_map, List.length_range] at ul
            have s08 := s07.trans s8
            dsimp only [gName]
            refine ⟨_, rfl, _, rfl, irr ⟨x, ps, ms, pN ps j2, rfl, nr.ext s08, m12, fun l2 mu2 H9 s9 hL2 hu9 e9 => ?_⟩⟩
            have s09 := s08.trans s9
            refine ⟨l2, rfl, ⟨_, SqL.of hL2⟩, fun E2 nE2 => ?_⟩
            have ml2 : mu2.length ≤ 12 := by
              rw [← sn_len, e9]
              exact Nat.le_trans (List.length_filter_le _ _) m12
            refine lc_new (xs := rf mu2) (fun u : VU => V.ref u.1) (fun c u H' => (∀ m, (sn mu2)[c]? = some m → Mad [(m.1, 1)] u.2) ∧ SumR CS H' u.1 u.2) walk_list nE2 (by rw [rf_len]; omega) (fun H' s' => SqL.of (s' _ _ hL2)) (fun _ => rfl) (fun c u Ha Hb s' h => ⟨h.1, h.2.ext s'⟩) (fun c u Ha acc acc' e h => ⟨h.1, h.2.put e⟩) (fun c v hv3 H10 s10 _ R hR => ?_) fun ws H10 s10 wl hws e10 => ?_
            · obtain ⟨u, hu3, rfl⟩ := rf_get hv3
              have pm := (hu9 u (List.mem_of_getElem? hu3)).ext s10
              obtain ⟨dm, edm⟩ := id pm
              have hmm : u.2 ∈ ms := (onP_at.mp (e9 ▸ List.mem_map.mpr ⟨u, List.mem_of_getElem? hu3, rfl⟩ : u.2 ∈ onP ms (pN ps j2))).1
              refine ⟨rfl, _, rfl, u.1, dm, _, rfl, edm, irr ⟨u.1, u.2, rfl, pm, irr ⟨[u.2.1], rfl, fun y hy => by rw [List.mem_singleton.mp hy]; exact (mo.nm _ hmm).1, by show 1 ≤ 60; decide, fun x2 dx2 m2 ds H11 md kp => ?_⟩⟩⟩
              refine hR (x2, prs ds) H11 kp.sm ⟨fun m hm2 => ?_, dx2, m2, ds, rfl, fun p hp => (kp.nw p hp).2⟩
              rw [sn_get hu3] at hm2
              obtain rfl := Option.some.inj hm2
              exact md
            · rw [rf_len] at wl
              have e8' := s10 _ _ (s9 _ _ e8)
              refine ⟨_, rfl, E2, L, _, _, rfl, rfl, e10, e8', ?_, fun T1 nT1 => ?_⟩
              · rw [List.length_map, List.length_map, wl, ul]
                exact Nat.le_trans (show mu2.length + dS ≤ 200 by omega) (by decide)
              have sT1 := put_sm (o := .lst (ws.map (fun u : VU => V.ref u.1) ++ us.map (fun u : VU => V.ref u.1))) nT1
              refine ⟨T1, _, rfl, .inl ⟨SqL.of sT1.2, fun t nt => ?_⟩⟩
              have sT2 := put_sm (o := .tup (ws.map (fun u : VU => V.ref u.1) ++ us.map (fun u : VU => V.ref u.1))) nt
              have s12 := sT1.1.trans sT2.1
              refine k t (ws ++ us) 0 _ (fun b o e => s12 _ _ (s10 _ _ (s9 _ _ (s08 _ _ e)))) ?_ (fun u hu => ?_) ?_ (fun _ h => absurd (h.symm.trans hst) (by simp))
              · rw [rf, List.map_append]
                exact sT2.2
              · rcases List.mem_append.mp hu with hu | hu
                · obtain ⟨c, hc⟩ := List.getElem?_of_mem hu
                  exact (hws c u hc).2.ext s12
                · obtain ⟨c, hc⟩ := List.getElem?_of_mem hu
                  exact ((hus c u hc).2.ext (s9.trans s10)).ext s12
              · have hst2 : turns ((lkA ps ms (pN ps j2)).map lk3) ps.length (g0 (pE ps j2)) (pS ps j2) = some dS := hst
                rw [votesF, hse]
                dsimp only
                rw [hst2]
                refine MadL.app (madL_map (xs := onP ms (pN ps j2)) (by rw [wl, ← e9, sn_len]) fun c m u h1 h2 => (hws c u h2).1 m (by rw [e9]; exact h1)) (madL_map (xs := List.range dS) (by rw [ul, List.length_range]) fun c c' u h1 h2 => ?_)
                have hc : c < dS := by
                  have := (List.getElem?_eq_some_iff.mp h1).1
                  rwa [List.length_range] at this
                rw [List.getElem?_range hc] at h1
                obtain rfl := Option.some.inj h1
                exact (hus c u h2).1
end
end RV
/-! what a net has; meters checked; a sum's amounts -/
namespace RV
open PySem L2 TL
section
variable {P : Program} {w : World} {K : PySem.W.Frag} {mg : Str → Option Value} {base : Heap} {CN CP CM CS : Addr}
theorem ok_index_ofM {f : Addr} {fd : FuncData} (F : Fun K "_index_of" "_index_of" s_index_of f fd) (T : Blt mg) (T2 : Blt2 mg) (h_mn : Prp P w K mg base CM "name" 1 (Irr (sp_mn CM))) : FnOk P w K mg base CX0 3 f fd ["parts", "name"] (sp_indexM K CM) := by
  refine F.ok sc_index_of (fun vs H Q E h => ?_) (fun cdv A outer s H vs Q E hr h => ?_)
  · obtain ⟨_, _, _, rfl, _⟩ := h
    rfl
  · obtain ⟨t, us, y, rfl, ht, hl, k, kn⟩ := h
    refine ⟨_, (pss_cons (ps_if (pt_not (pt_val (pe_callB call_isi (by rfl) T.b_isinstance (by decide +kernel) (pa_cons (pv 1) (pa_cons (pe_bltn (v := .ty "str") (by rfl) T.b_str (by decide +kernel) rfl) pa_nil))))) (pss_one (ps_ret pe_non)) pss_nil)
      (pss_cons (ps_for PassesOwn.never rfl (pi_enumT (by rfl) T2.b_enumerate (pa_cons (pv 0) pa_nil)) (pg_tup (by rfl) (pgs_cons (pg_name (i := 2) sc_index_of.nd rfl (Or.inl rfl)) (pgs_cons (pg_name (i := 3) sc_index_of.nd rfl (Or.inl rfl)) pgs_nil))) (pss_one (ps_if (pt_cmpR op_eq (pe_propN h_mn (hr.mono (by decide)) (pv 3)) (pv 1) (nomark _)) (pss_one (ps_ret (pv 2))) pss_nil)))
      (pss_one (ps_ret pe_non)))), ?_⟩
    refine ⟨_, rfl, _, _, .type "str", .type "str", true, rfl, .ty _, .base (.str _), kit_ty (by decide +kernel), true, rfl, iteF ?_⟩
    refine ⟨_, rfl, t, _, rfl, ht.t, for_enumT (xs := rf us) (fun i σ H' => (∃ o2 o3, σ = [some (.ref t), some (.str y), o2, o3]) ∧ Same H H' ∧ ∀ j q, j < i → (sn us)[j]? = some q → q.1 ≠ y) ⟨⟨none, none, rfl⟩, fun _ _ e => e, fun j q hj => absurd hj (Nat.not_lt_zero j)⟩ ?_ ?_ ?_⟩
    · rintro i σ H1 _ ⟨_, s1, _⟩
      exact ht.t.ext s1
    · rintro i x σ H1 T' hx' ⟨⟨o1, o2, rfl⟩, s1, hj⟩ nT
      rw [rf, List.getElem?_map] at hx'
      cases hu : us[i]? with
      | none => rw [hu] at hx'; cases hx'
      | some u =>
        rw [hu] at hx'
        obtain rfl : V.ref u.1 = x := Option.some.inj hx'
        have hm := List.mem_of_getElem? hu
        have s2 : Same H (upd H1 T' (.tup [.int (i : Nat), .ref u.1])) := fun b o e => by
          rw [upd_ne (ne_of_none (s1 b o e) nT)]
          exact s1 b o e
        obtain ⟨dx, ex⟩ := (ht.o u hm).ext s2
        refine ⟨T', _, rfl, SqT.of upd_same, rfl, _, _, rfl, _, _, rfl, rfl, ?_⟩
        refine ⟨_, rfl, u.1, dx, _, rfl, ex, irr ⟨u.1, u.2, rfl, ⟨dx, ex⟩, _, rfl, rfl, _, rfl, ?_⟩⟩
        refine ite2 (fun hq => ⟨_, rfl, k _ _ (by rw [sn, List.getElem?_map, hu]; exact congrArg some (V.str.inj (of_decide_eq_true hq))) s2⟩) fun hne => ?_
        refine ⟨⟨_, _, rfl⟩, s2, fun j q hji hq => ?_⟩
        by_cases e : j = i
        · subst e
          rw [sn, List.getElem?_map, hu] at hq
          obtain rfl : u.2 = q := Option.some.inj hq
          exact fun z => hne (decide_eq_true (congrArg V.str z))
        · exact hj j q (by omega) hq
    · rintro σ H1 ⟨⟨o1, o2, rfl⟩, s1, hj⟩
      refine kn (fun hm => ?_) H1 s1
      obtain ⟨q, hq, e⟩ := List.mem_map.mp hm
      obtain ⟨j, hjl, ej⟩ := List.getElem_of_mem hq
      refine hj j q ?_ (by rw [List.getElem?_eq_getElem hjl, ej]) e
      rw [sn_len] at hjl
      rw [rf_len]
      exact hjl
theorem ok_Net_c {f : Addr} {fd : FuncData} (F : Fun K "__contains__" "Net.__contains__" s_Net___contains__ f fd) (NC : NClass K mg CN) (h_index_of : Fn P w K mg base "_index_of" 3 ["parts", "name"] (Irr (sp_indexM K CM))) : FnOk P w K mg base CX0 4 f fd ["self", "x"] (sp_nhas K CN CP CM) := by
  refine F.ok sc_Net___contains__ (fun vs H Q E h => ?_) (fun cdv A outer s H vs Q E hr h => ?_)
  · obtain ⟨_, _, _, _, rfl, _⟩ := h
    rfl
  · obtain ⟨x, ps, ms, y, rfl, nr, ml, k⟩ := h
    refine ⟨_, (pss_one (ps_ret (pe_cmpR op_notN (pe_fn h_index_of (hr.mono (by decide)) (pa_cons (pe_fld (pv 0) rfl) (pa_cons (pv 1) pa_nil))) pe_non (nomark _)))), ?_⟩
    obtain ⟨dx, tp, tm, pu, mu, ex, hp, hm, ep, em⟩ := nr.ex
    refine ⟨_, rfl, x, CN, dx, _, _, rfl, ex, NC.x.cl, NC.n2, rfl, _, rfl, irr ⟨tm, mu, y, rfl, hm, by rw [← sn_len, em]; exact ml, fun i H1 hi s1 => ⟨rfl, ?_⟩, fun hn H1 s1 => ⟨rfl, ?_⟩⟩⟩
    · rw [em] at hi
      have hm : y ∈ ms.map (·.1) := by
        cases e : ms[i]? with
        | none => rw [e] at hi; cases hi
        | some m =>
          rw [e] at hi
          exact List.mem_map.mpr ⟨m, List.mem_of_getElem? e, Option.some.inj hi⟩
      have := k H1 s1
      rw [decide_eq_true hm] at this
      exact this
    · rw [em] at hn
      have := k H1 s1
      rw [decide_eq_false hn] at this
      exact this
theorem ok_chkms {f : Addr} {fd : FuncData} (F : Fun K "check_meters" "check_meters" s_check_metersP f fd) (h_has : OwnM P w K mg base CN "__contains__" 4 (Irr (sp_nhas K CN CP CM))) : FnOk P w K mg base CX0 5 f fd ["net", "names"] (sp_chkms K CN CP CM) := by
  refine F.ok sc_check_metersP (fun vs H Q E h => ?_) (fun cdv A outer s H vs Q E hr h => ?_)
  · obtain ⟨_, _, _, _, _, rfl, _⟩ := h
    rfl
  · obtain ⟨x, l, ps, ms, ns, rfl, nr, ml, el, hn, k⟩ := h
    refine ⟨_, (pss_one (ps_for PassesOwn.never rfl (pi_list (pv 1)) (pg_name (i := 2) sc_check_metersP.nd rfl (Or.inl rfl)) (pss_one (ps_if (pt_cmpR (op_notInO h_has (hr.mono (by decide))) (pv 2) (pv 0) (by rfl)) (pss_one ps_never) pss_nil)))), ?_⟩
    refine ⟨_, rfl, l, rfl, ⟨_, SqL.of el⟩, for_list (xs := ns.map V.str) (fun i σ H' => ∃ o2, σ = [some (.ref x), some (.ref l), o2] ∧ Same H H') ⟨_, rfl, fun _ _ e => e⟩ (fun i σ H' _ z => by obtain ⟨_, _, s1⟩ := z; exact SqL.of (s1 _ _ el)) ?_ ?_⟩
    · rintro i v σ H1 hv ⟨o2, rfl, s1⟩
      obtain ⟨y, hy, rfl⟩ := List.mem_map.mp (List.mem_of_getElem? hv)
      dsimp only [gName]
      obtain ⟨dx, _, _, _, _, ex, _⟩ := id nr.ex
      refine ⟨_, rfl, _, rfl, x, dx, _, rfl, s1 _ _ ex, irr ⟨x, ps, ms, y, rfl, nr.ext s1, ml, fun H2 s2 => ?_⟩⟩
      refine ⟨_, rfl, _, rfl, ?_⟩
      rw [decide_eq_true (hn y hy)]
      exact iteF ⟨_, rfl, s1.trans s2⟩
    · rintro σ H1 ⟨o2, rfl, s1⟩
      exact k H1 s1
theorem ok_chkt {f : Addr} {fd : FuncData} (F : Fun K "check_total" "check_total" s_check_total f fd) (T : Blt mg) (SC : SClass K mg CS) (h_terms : Prp P w K mg base CS "terms" 1 (Irr (sp_terms CS))) (h_chkms : Fn P w K mg base "check_meters" 5 ["net", "names"] (Irr (sp_chkms K CN CP CM))) : FnOk P w K mg base CX0 6 f fd ["net", "total"] (sp_chkt K CN CP CM CS) := by
  refine F.ok sc_check_total (fun vs H Q E h => ?_) (fun cdv A outer s H vs Q E hr h => ?_)
  · obtain ⟨_, _, _, _, _, rfl, _⟩ := h
    rfl
  · obtain ⟨x, a, ps, ms, qs, rfl, nr, ml, sr, q100, hn, k⟩ := h
    refine ⟨_, (pss_cons (ps_if (pt_not (pt_val (pe_callB call_isi (by rfl) T.b_isinstance (by decide +kernel) (pa_cons (pv 1) (pa_cons (pe_gC SC.k) pa_nil))))) (pss_one ps_never) pss_nil)
      (pss_one (ps_expr (pe_fn h_chkms (hr.mono (by decide)) (pa_cons (pv 0) (pa_cons (pe_lc (own := [("term", 2)]) (g := gName 2) (tt := tYes) rfl sc_check_total.nd (pi_tup (pe_propN h_terms (hr.mono (by decide)) (pv 1))) (blkOk_by (N := sc_check_total_N) (sc := defScope s_check_total) (by decide +kernel)) (fun _ _ _ _ _ => pg_name (i := 2) sc_check_total.nd rfl (Or.inl rfl)) (fun _ _ _ _ _ => pts_nil) (fun _ _ _ _ _ => (pe_ix (ix_tupK (K := K)) (pv 2) pe_int (fun _ _ => rfl)))) pa_nil)))))), ?_⟩
    obtain ⟨dx, t, us, eq, hS⟩ := id sr
    have ea := hS _ List.mem_cons_self
    have et := hS (t, .tup (vP us)) (List.mem_cons_of_mem _ List.mem_cons_self)
    have ul : us.length ≤ 100 := by rw [← prs_len, eq]; exact q100
    refine ⟨_, rfl, _, _, _, .ref CS, true, rfl, .own CS, SC.x.ty ea, SC.me, true, rfl, iteF ?_⟩
    refine ⟨_, rfl, _, rfl, a, dx, _, rfl, ea, irr ⟨a, dx, t, us, rfl, hS, t, rfl, ⟨_, SqT.of et⟩, fun D nD => ?_⟩⟩
    refine lc_to (xs := vP us) ((us.map fun u => u.2.1).map V.str) (by rw [vP, List.length_map, List.length_map, List.length_map]) walk_tup nD (by rw [vP, List.length_map]; omega) (fun H' s' => SqT.of (s' _ _ et)) (fun _ => rfl) (fun c v y hv hy H2 s2 R hR => ?_) fun H2 s2 hD => ?_
    · rw [vP, List.getElem?_map] at hv
      rw [List.getElem?_map, List.getElem?_map] at hy
      cases hu : us[c]? with
      | none => rw [hu] at hv; cases hv
      | some u =>
        rw [hu] at hv hy
        obtain rfl := Option.some.inj hv
        obtain rfl := Option.some.inj hy
        have eu : H2 u.1 = some (oP u.2) := s2 _ _ (hS (u.1, oP u.2) (List.mem_cons_of_mem _ (List.mem_cons_of_mem _ (List.mem_map.mpr ⟨u, List.mem_of_getElem? hu, rfl⟩))))
        exact ⟨_, rfl, u.1, _, 0, .str u.2.1, rfl, rfl, SqT.of eu, rfl, hR H2 (Same.refl _)⟩
    · refine irr ⟨x, D, ps, ms, us.map fun u => u.2.1, rfl, nr.ext s2, ml, hD, fun y hy => ?_, fun H3 s3 => k H3 (s2.trans s3)⟩
      obtain ⟨u, hu, rfl⟩ := List.mem_map.mp hy
      exact hn u.2 (eq ▸ List.mem_map.mpr ⟨u, hu, rfl⟩)
end
end RV
/-! checks, readings, silent meters -/
namespace RV
open PySem L2 TL
theorem vR_get {rs : List (Option Int)} {j : Nat} (h : j < rs.length) : (vR rs)[j]? = some (vO (rO rs j)) := by
  rw [vR, List.getElem?_map, List.getElem?_eq_getElem h, rO, List.getD, List.getElem?_eq_getElem h]
  rfl
section
variable {P : Program} {w : World} {K : PySem.W.Frag} {mg : Str → Option Value} {base : Heap} {CN CP CM : Addr}
theorem ok_isr {f : Addr} {fd : FuncData} (F : Fun K "is_reading" "is_reading" s_is_reading f fd) (h_mz : Prp P w K mg base CM "sealed" 1 (Irr (sp_mz CM))) (h_num : Fn P w K mg base "is_number" 1 ["value"] (Irr (sp_is_number K))) : FnOk P w K mg base CX0 3 f fd ["part", "value"] (sp_isr CM) := by
  refine F.ok sc_is_reading (fun vs H Q E h => ?_) (fun cdv A outer s H vs Q E hr h => ?_)
  · obtain ⟨_, _, _, rfl, _⟩ := h
    rfl
  · obtain ⟨a, m, o, rfl, ma, k⟩ := h
    refine ⟨_, (pss_cons (ps_if (pt_cmpR op_isN (pv 1) pe_non (nomark _)) (pss_one (ps_ret (pe_not (pe_propN h_mz (hr.mono (by decide)) (pv 0))))) pss_nil)
      (pss_one (ps_ret (pe_fn h_num (hr.mono (by decide)) (pa_cons (pv 1) pa_nil))))), ?_⟩
    obtain ⟨dx, ex⟩ := id ma
    refine ⟨_, rfl, rfl, _, rfl, ?_⟩
    rw [vO_non]
    cases o with
    | none =>
      refine iteT ⟨_, rfl, a, dx, _, rfl, ex, irr ⟨a, m, rfl, ma, _, rfl, ?_⟩⟩
      exact k
    | some c => exact iteF ⟨_, rfl, irr ⟨.int c, rfl, .inl ⟨c, rfl, k⟩⟩⟩
theorem ok_chr {f : Addr} {fd : FuncData} (F : Fun K "check_readings" "check_readings" s_check_readings f fd) (T : Blt mg) (T2 : Blt2 mg) (h_nm : Prp P w K mg base CN "meters" 1 (Irr (sp_nme CN))) (h_isr : Fn P w K mg base "is_reading" 3 ["part", "value"] (Irr (sp_isr CM))) : FnOk P w K mg base CX0 4 f fd ["net", "readings"] (sp_chr K CN CP CM) := by
  refine F.ok sc_check_readings (fun vs H Q E h => ?_) (fun cdv A outer s H vs Q E hr h => ?_)
  · obtain ⟨_, _, _, _, _, rfl, _⟩ := h
    rfl
  · obtain ⟨x, t, ps, ms, rs, rfl, nr, ml, ht, ro, k⟩ := h
    refine ⟨_, (pss_cons (ps_if (PW.pt (pw_or (pt_not (pt_val (pe_callB call_isi (by rfl) T.b_isinstance (by decide +kernel) (pa_cons (pv 1) (pa_cons (pe_bltn (v := .ty "tuple") (by rfl) T2.b_tuple (by decide +kernel) rfl) pa_nil))))) (pw_or1 (pt_cmpR op_ne (pe_callB call_len_seq (by rfl) T.b_len (by decide +kernel) (pa_cons (pv 1) pa_nil)) (pe_callB call_len_seq (by rfl) T.b_len (by decide +kernel) (pa_cons (pe_propN h_nm (hr.mono (by decide)) (pv 0)) pa_nil)) (nomark _))))) (pss_one ps_never) pss_nil)
      (pss_one (ps_for PassesOwn.never rfl (pi_enumT (by rfl) T2.b_enumerate (pa_cons (pe_propN h_nm (hr.mono (by decide)) (pv 0)) pa_nil)) (pg_tup (by rfl) (pgs_cons (pg_name (i := 2) sc_check_readings.nd rfl (Or.inl rfl)) (pgs_cons (pg_name (i := 3) sc_check_readings.nd rfl (Or.inl rfl)) pgs_nil))) (pss_one (ps_if (pt_not (pt_val (pe_fn h_isr (hr.mono (by decide)) (pa_cons (pv 3) (pa_cons (pe_ix ix_tup (pv 1) (pv 2) (fun _ _ => rfl)) pa_nil))))) (pss_one ps_never) pss_nil))))), ?_⟩
    obtain ⟨dx, tp, tm, pu, mu, ex, hp, hm, ep, em⟩ := id nr.ex
    have mul : mu.length = ms.length := by rw [← em, sn_len]
    refine ⟨_, rfl, _, _, .type "tuple", .type "tuple", true, rfl, .ty _, tyx_tup ht, kit_ty (by decide +kernel), true, rfl, iteF ?_⟩
    refine ⟨_, rfl, t, _, rfl, .inr ht, _, rfl, x, dx, _, rfl, ex, irr ⟨x, dx, tp, tm, rfl, ex, tm, _, rfl, .inr hm.t, rfl, ?_⟩⟩
    refine ⟨_, rfl, ?_⟩
    rw [vR, List.length_map, rf_len, mul, ro.len, decide_eq_true rfl]
    refine iteF ?_
    refine ⟨_, rfl, x, dx, _, rfl, ex, irr ⟨x, dx, tp, tm, rfl, ex, tm, _, rfl, hm.t, for_enumT (xs := rf mu) (fun i σ H' => (∃ o2 o3, σ = [some (.ref x), some (.ref t), o2, o3]) ∧ Same H H') ⟨⟨none, none, rfl⟩, Same.refl H⟩ ?_ ?_ ?_⟩⟩
    · rintro i σ H1 _ ⟨_, s1⟩
      exact hm.t.ext s1
    · rintro i v σ H1 T' hv ⟨⟨o2, o3, rfl⟩, s1⟩ nT
      obtain ⟨u, hu, rfl⟩ := rf_get hv
      have hil : i < ms.length := by rw [← mul]; exact (List.getElem?_eq_some_iff.mp hu).1
      have hmi := m_at (ms := ms) (em ▸ sn_get hu)
      have s2 : Same H (upd H1 T' (.tup [.int (i : Nat), .ref u.1])) := fun b o e => (upd_ne (ne_of_none (s1 b o e) nT)).trans (s1 b o e)
      have ma := (hm.o u (List.mem_of_getElem? hu)).ext s2
      refine ⟨T', _, rfl, SqT.of upd_same, rfl, _, _, rfl, _, _, rfl, rfl, ?_⟩
      refine ⟨_, rfl, _, rfl, _, rfl, t, _, _, _, rfl, rfl, ht.ext s2, atI_nat (vR_get (by rw [ro.len]; exact hil)), irr ⟨u.1, u.2, rO rs i, rfl, ma, ?_⟩⟩
      have hz : ((rO rs i).isSome || !u.2.2.2) = true := by
        cases q : u.2.2.2 with
        | false => simp
        | true =>
          have := ro.sea i hil (by rw [hmi.2.2, q])
          cases z : rO rs i with
          | none => exact absurd z this
          | some c => rfl
      rw [hz]
      exact ⟨_, rfl, iteF ⟨⟨_, _, rfl⟩, s2⟩⟩
    · rintro σ H1 ⟨_, s1⟩
      exact k H1 s1
end
end RV
/-! Readings by names, values of sums. -/
namespace RV
open PySem L2 TL
section
variable {P : Program} {w : World} {K : PySem.W.Frag} {mg : Str → Option Value} {base : Heap} {CN CP CM CS : Addr}
theorem ok_byn {f : Addr} {fd : FuncData} (F : Fun K "by_name" "by_name" s_by_name f fd) (hz : mg "zip" = none) (h_nm : Prp P w K mg base CN "meters" 1 (Irr (sp_nme CN))) (h_mn : Prp P w K mg base CM "name" 1 (Irr (sp_mn CM))) : FnOk P w K mg base CX0 3 f fd ["net", "readings"] (sp_byn K CN CP CM) := by
  refine F.ok sc_by_name (fun vs H Q E h => ?_) (fun cdv A outer s H vs Q E hr h => ?_)
  · obtain ⟨_, _, _, _, _, rfl, _⟩ := h
    rfl
  · obtain ⟨x, t, ps, ms, rs, rfl, nr, m12, nd, ht, rl, k⟩ := h
    refine ⟨_, (pss_one (ps_ret (pe_dc (own := [("part", 2), ("seen", 3)]) (g := gPr K 2 3) (tt := tYes) rfl sc_by_name.nd (RZ.pi_zipA (by rfl) hz (pa_cons (pe_propN h_nm (hr.mono (by decide)) (pv 0)) (pa_cons (pv 1) pa_nil))) (blkOk_by (N := sc_by_name_N) (sc := defScope s_by_name) (by decide +kernel)) (fun _ _ _ _ _ => pg_tupK (by rfl) (pgs_cons (pg_name (i := 2) sc_by_name.nd rfl (Or.inl rfl)) (pgs_cons (pg_name (i := 3) sc_by_name.nd rfl (Or.inl rfl)) pgs_nil))) (fun _ _ _ _ _ => pts_nil) (fun _ _ _ _ _ => pe_propN h_mn (hr.mono (by decide)) (pv 2)) (fun _ _ _ _ _ => pv 3)))), ?_⟩
    obtain ⟨dx, tp, tm, pu, mu, ex, hp, hm, ep, em⟩ := id nr.ex
    have mul : mu.length = ms.length := by rw [← em, sn_len]
    refine ⟨_, rfl, x, dx, _, rfl, ex, irr ⟨x, dx, tp, tm, rfl, ex, _, rfl, tm, t, rf mu, vR rs, rfl, .inr ⟨hm.t, ht, fun D nD => ?_⟩⟩⟩
    have s0 : Same H (upd H D (.dK [])) := fun b o e => (upd_ne (ne_of_none e nD)).trans e
    have vl : (vR rs).length = ms.length := by rw [vR, List.length_map, rl]
    refine dc_it (walk_zipT (K := K) (xs := rf mu) (ys := vR rs) (n := ms.length) (by rw [rf_len]; omega)) (fun i H' => ∃ kvs, Sb D (upd H D (.dK [])) H' ∧ H' D = some (.dK kvs) ∧ kvs.length ≤ i ∧ ∀ j, j < i → valV kvs (.inr (mN ms j)) = some (vO (rO rs j))) ⟨[], Sb.refl _, upd_same, Nat.le_refl _, fun _ z => absurd z (Nat.not_lt_zero _)⟩ ?_ ?_ ?_
    · rintro i H' _ ⟨_, sb, _⟩
      have s' := Sb.same s0 nD sb
      exact ⟨hm.t.ext s', ht.ext s'⟩
    · rintro i v Ha Hb hi ⟨kvs, sb, hD, kl, kv⟩ ⟨T, p, q, rfl, nT, rfl, hpv, hqv⟩
      dsimp only at hpv hqv
      obtain ⟨u, hu2, rfl⟩ := rf_get hpv
      have sT : Same Ha (upd Ha T (.tup [.ref u.1, q])) := fun b o e => (upd_ne (ne_of_none e nT)).trans e
      have pa := ((hm.o u (List.mem_of_getElem? hu2)).ext (Sb.same s0 nD sb)).ext sT
      obtain ⟨dp, edp⟩ := id pa
      have hN := (m_at (ms := ms) (em ▸ sn_get hu2)).1
      have eq : q = vO (rO rs i) := by
        rw [vR, List.getElem?_map] at hqv
        cases z : rs[i]? with
        | none => rw [z] at hqv; cases hqv
        | some c =>
          rw [z] at hqv
          rw [rO, List.getD, z]
          exact (Option.some.inj hqv).symm
      subst eq
      refine ⟨T, _, rfl, SqT.of upd_same, rfl, _, _, rfl, _, _, rfl, ⟨rfl, ⟨rfl, ?_⟩⟩⟩
      have e0 : ∀ (σ : L2.St) (H : Hp) (R : Bool → Hp → Prop), R true H → tYes σ H R := fun _ _ _ r => r
      refine e0 _ _ _ ?_
      simp only [↓reduceIte]
      refine ⟨_, rfl, u.1, dp, _, rfl, edp, irr ⟨u.1, u.2, rfl, pa, _, rfl, kvs, .inr u.2.1, rfl, sT _ _ hD, Nat.lt_of_le_of_lt kl (Nat.lt_of_lt_of_le (show i < 13 by omega) (by decide)), _, ?_, upd_same, ?_, fun j hj => ?_⟩⟩
      · exact fun b o ne e => (upd_ne ne).trans (sT _ _ (sb b o ne e))
      · exact Nat.le_trans (length_putK _ _ _) (by omega)
      · rw [valV_put, ← hN]
        by_cases e : j = i
        · subst e
          rw [if_pos rfl]
        · rw [if_neg fun z => ?_]
          · exact kv j (by omega)
          · have z2 := Sum.inr.inj z
            have hj2 : j < ms.length := by omega
            rw [mN, mN, getD_lt hj2, getD_lt hi] at z2
            refine e ((List.getElem_inj (i := i) (j := j) (h₀ := by rw [List.length_map]; exact hi) (h₁ := by rw [List.length_map]; exact hj2) nd).mp ?_).symm
            rw [List.getElem_map, List.getElem_map]
            exact z2.symm
    · rintro H2 ⟨kvs, sb, hD, kl, kv⟩
      have s2 := Sb.same s0 nD sb
      refine k D kvs H2 s2 hD (by omega) fun m hm2 => ?_
      obtain ⟨j, hj, rfl⟩ := List.getElem_of_mem hm2
      have e1 := kv j hj
      have e2 : mN ms j = (ms[j]).1 := by rw [mN, getD_lt hj]
      rw [← e2, e1, shR_at nd hj]
theorem ok_vin {f : Addr} {fd : FuncData} (F : Fun K "value_in" "value_in" s_value_in f fd) (T : Blt mg) (T2 : Blt2 mg) (h_terms : Prp P w K mg base CS "terms" 1 (Irr (sp_terms CS))) : FnOk P w K mg base CX0 3 f fd ["shown", "total"] (sp_vin CS) := by
  refine F.ok sc_value_in (fun vs H Q E h => ?_) (fun cdv A outer s H vs Q E hr h => ?_)
  · obtain ⟨_, _, _, _, _, _, rfl, _⟩ := h
    rfl
  · obtain ⟨d, a, kvs, ms, rs, qs, rfl, hd, kl, vr, sr, q100, hn, k⟩ := h
    have hu : (A.deeper (PyProof.Rows.envOfC "value_in" (defScope s_value_in) s.heap.objs.size f cdv)).units + 1 < cLine := by have := hr.units; omega
    refine ⟨_, (pss_cons (ps_if (pt_val (pe_callB (cr_any rfl) (by rfl) T.b_any (by decide +kernel) (pa_cons (pe_lc (own := [("name", 2), ("number", 3)]) (g := gPr K 2 3) (tt := tYes) rfl sc_value_in.nd (pi_tup (pe_propN h_terms (hr.mono (by decide)) (pv 1))) (blkOk_by (N := sc_value_in_N) (sc := defScope s_value_in) (by decide +kernel)) (fun _ _ _ _ _ => pg_tupK (by rfl) (pgs_cons (pg_name (i := 2) sc_value_in.nd rfl (Or.inl rfl)) (pgs_cons (pg_name (i := 3) sc_value_in.nd rfl (Or.inl rfl)) pgs_nil))) (fun _ _ _ _ _ => pts_nil) (fun _ _ _ _ _ => (pe_cmpR op_isN (pe_dget hu (pv 0) (pv 2) (fun _ _ => rfl)) pe_non (nomark _)))) pa_nil))) (pss_one (ps_ret pe_non)) pss_nil)
      (pss_one (ps_ret (pe_callB (cr_sum rfl) (by rfl) T2.b_sum (by decide +kernel) (pa_cons (pe_lc (own := [("name", 2), ("number", 3)]) (g := gPr K 2 3) (tt := tYes) rfl sc_value_in.nd (pi_tup (pe_propN h_terms (hr.mono (by decide)) (pv 1))) (blkOk_by (N := sc_value_in_N) (sc := defScope s_value_in) (by decide +kernel)) (fun _ _ _ _ _ => pg_tupK (by rfl) (pgs_cons (pg_name (i := 2) sc_value_in.nd rfl (Or.inl rfl)) (pgs_cons (pg_name (i := 3) sc_value_in.nd rfl (Or.inl rfl)) pgs_nil))) (fun _ _ _ _ _ => pts_nil) (fun _ _ _ _ _ => (pe_op op_mulW (pv 3) (pe_dget hu (pv 0) (pv 2) (fun _ _ => rfl))))) pa_nil))))), ?_⟩
    obtain ⟨dx, t, us, eq, hS⟩ := id sr
    have ea := hS _ List.mem_cons_self
    have et := hS (t, .tup (vP us)) (List.mem_cons_of_mem _ List.mem_cons_self)
    have ul : us.length ≤ 100 := by rw [← prs_len, eq]; exact q100
    have tps : TPs K H us := fun u hu2 => SqT.of (hS (u.1, oP u.2) (List.mem_cons_of_mem _ (List.mem_cons_of_mem _ (List.mem_map.mpr ⟨u, hu2, rfl⟩))))
    have dg : ∀ {H' : Hp} {q : Str × Int}, Same H H' → q ∈ qs → DGet H' d (V.str q.1) (some (vO (shR ms rs q.1))) := fun {H' q} s' hq => by
      obtain ⟨m, hm, e⟩ := List.mem_map.mp (hn q hq).1
      have := DGet.k (k := Sum.inr q.1) (s' _ _ hd)
      rw [← e, vr m hm] at this
      rw [← e]
      exact this
    refine ⟨_, rfl, a, dx, _, rfl, ea, irr ⟨a, dx, t, us, rfl, hS, t, rfl, ⟨_, SqT.of et⟩, fun D nD => ?_⟩⟩
    refine lc_pairsT (us := us) (fun q => V.bl ((shR ms rs q.1).isNone)) (SqT.of et) tps nD (by omega) (fun _ _ => rfl) (fun q hq H2 s2 R hR => ?_) fun H2 s2 hD => ?_
    · rw [eq] at hq
      refine ⟨_, rfl, _, rfl, d, _, rfl, dg s2 hq, rfl, ?_⟩
      rw [vO_non]
      exact hR H2 (Same.refl _)
    · dsimp only
      rw [eq] at hD
      refine ⟨D, qs.map fun q => (shR ms rs q.1).isNone, rfl, SqL.of (by rw [hD, List.map_map]; rfl), ?_⟩
      rw [show (qs.map fun q => (shR ms rs q.1).isNone).any id = qs.any fun q => (shR ms rs q.1).isNone from by rw [List.any_map]; rfl]
      by_cases hany : (qs.any fun q => (shR ms rs q.1).isNone) = true
      · have e := k H2 s2
        rw [tval, if_pos hany] at e
        exact ⟨_, rfl, by rw [hany]; exact iteT e⟩
      · have hf : (qs.any fun q => (shR ms rs q.1).isNone) = false := by simpa using hany
        have hsome : ∀ q ∈ qs, ∃ v, shR ms rs q.1 = some v := fun q hq => by
          have := List.any_eq_false.mp hf q hq
          cases e : shR ms rs q.1 with
          | none => rw [e] at this; exact absurd rfl this
          | some v => exact ⟨v, rfl⟩
        refine ⟨_, rfl, by
          rw [hf]
          refine iteF ?_
          have et2 := s2 _ _ et
          refine ⟨_, rfl, a, dx, _, rfl, s2 _ _ ea, irr ⟨a, dx, t, us, rfl, fun p hp => s2 _ _ (hS p hp), t, rfl, ⟨_, SqT.of et2⟩, fun D3 nD3 => ?_⟩⟩
          refine lc_pairsT (us := us) (fun q => V.int (q.2 * (shR ms rs q.1).getD 0)) (SqT.of et2) (tps.ext s2) nD3 (by omega) (fun _ _ => rfl) (fun q hq H3 s3 R hR => ?_) fun H3 s3 hD3 => ?_
          · rw [eq] at hq
            obtain ⟨v, ev⟩ := hsome q hq
            have dg3 := dg (s2.trans s3) hq
            rw [ev] at dg3 hR
            refine ⟨_, rfl, _, rfl, _, rfl, d, _, rfl, dg3, ?_⟩
            have b1 := (hn q hq).2.1
            have b2 := (hn q hq).2.2 v ev
            have c1 : (10 : Nat) ^ 20 < 2 ^ 70 := by decide
            have c2 : (10 : Nat) ^ 40 < 2 ^ 140 := by decide
            exact ⟨_, _, rfl, rfl, wide_mul (a := 70) (b := 140) (by omega) (by omega) (by decide) (by decide) (by decide), hR H3 (Same.refl _)⟩
          · dsimp only
            rw [eq] at hD3
            refine ⟨D3, qs.map fun q => q.2 * (shR ms rs q.1).getD 0, rfl, SqL.of (by rw [hD3, List.map_map]; rfl), ?_⟩
            have e := k H3 (s2.trans s3)
            rw [tval, if_neg hany] at e
            exact e⟩
theorem ok_vof {f : Addr} {fd : FuncData} (F : Fun K "value_of" "value_of" s_value_of f fd) (h_chkn : Fn P w K mg base "check_net" 1 ["net"] (Irr (sp_chkn K CN CP CM))) (h_chkt : Fn P w K mg base "check_total" 6 ["net", "total"] (Irr (sp_chkt K CN CP CM CS))) (h_chr : Fn P w K mg base "check_readings" 4 ["net", "readings"] (Irr (sp_chr K CN CP CM))) (h_vin : Fn P w K mg base "value_in" 3 ["shown", "total"] (Irr (sp_vin CS))) (h_byn : Fn P w K mg base "by_name" 3 ["net", "readings"] (Irr (sp_byn K CN CP CM))) : FnOk P w K mg base CX0 7 f fd ["net", "total", "readings"] (sp_vof K CN CP CM CS) := by
  refine F.ok sc_value_of (fun vs H Q E h => ?_) (fun cdv A outer s H vs Q E hr h => ?_)
  · obtain ⟨_, _, _, _, _, _, _, rfl, _⟩ := h
    rfl
  · obtain ⟨x, a, t, ps, ms, rs, qs, rfl, nr, m12, nd, ht, ro, sr, q100, hn, k⟩ := h
    refine ⟨_, (pss_cons (ps_expr (pe_fn h_chkn (hr.mono (by decide)) (pa_cons (pv 0) pa_nil)))
      (pss_cons (ps_expr (pe_fn h_chkt (hr.mono (by decide)) (pa_cons (pv 0) (pa_cons (pv 1) pa_nil))))
      (pss_cons (ps_expr (pe_fn h_chr (hr.mono (by decide)) (pa_cons (pv 0) (pa_cons (pv 2) pa_nil))))
      (pss_one (ps_ret (pe_fn h_vin (hr.mono (by decide)) (pa_cons (pe_fn h_byn (hr.mono (by decide)) (pa_cons (pv 0) (pa_cons (pv 2) pa_nil))) (pa_cons (pv 1) pa_nil)))))))), ?_⟩
    refine ⟨_, rfl, irr ⟨x, ps, ms, rfl, nr, ?_⟩⟩
    refine ⟨_, rfl, _, rfl, irr ⟨x, a, ps, ms, qs, rfl, nr, m12, sr, q100, fun q hq => (hn q hq).1, fun H2 s2 => ?_⟩⟩
    refine ⟨_, rfl, _, rfl, irr ⟨x, t, ps, ms, rs, rfl, nr.ext s2, m12, ht.ext s2, ro, fun H3 s3 => ?_⟩⟩
    have s23 := s2.trans s3
    refine ⟨_, rfl, _, rfl, irr ⟨x, t, ps, ms, rs, rfl, nr.ext s23, m12, nd, ht.ext s23, ro.len, fun d kvs H4 s4 hd kl vr => ?_⟩⟩
    have s24 := s23.trans s4
    exact ⟨_, rfl, irr ⟨d, a, kvs, ms, rs, qs, rfl, hd, Nat.le_trans kl (by decide), vr, sr.ext s24, q100, hn, fun H5 s5 => k H5 (s24.trans s5)⟩⟩
theorem ok_tal {f : Addr} {fd : FuncData} (F : Fun K "tally" "tally" s_tally f fd) (T2 : Blt2 mg) (h_chkn : Fn P w K mg base "check_net" 1 ["net"] (Irr (sp_chkn K CN CP CM))) (h_chkp : Fn P w K mg base "check_pipe" 5 ["net", "pipe"] (Irr (sp_chkp K CN CP CM))) (h_chr : Fn P w K mg base "check_readings" 4 ["net", "readings"] (Irr (sp_chr K CN CP CM))) (h_vin : Fn P w K mg base "value_in" 3 ["shown", "total"] (Irr (sp_vin CS))) (h_byn : Fn P w K mg base "by_name" 3 ["net", "readings"] (Irr (sp_byn K CN CP CM)))
    (h_votes : Fn P w K mg base "votes" 9 ["net", "pipe"] (Irr (sp_votes K CN CP CM CS))) : FnOk P w K mg base CX0 10 f fd ["net", "pipe", "readings"] (sp_tal K CN CP CM) := by
  refine F.ok sc_tally (fun vs H Q E h => ?_) (fun cdv A outer s H vs Q E hr h => ?_)
  · obtain ⟨_, _, _, _, _, _, rfl, _⟩ := h
    rfl
  · obtain ⟨x, t, ps, ms, i, rs, rfl, nr, po, mo, hi, ht, ro, hb, k⟩ := h
    refine ⟨_, (pss_cons (ps_expr (pe_fn h_chkn (hr.mono (by decide)) (pa_cons (pv 0) pa_nil)))
      (pss_cons (ps_expr (pe_fn h_chkp (hr.mono (by decide)) (pa_cons (pv 0) (pa_cons (pv 1) pa_nil))))
      (pss_cons (ps_expr (pe_fn h_chr (hr.mono (by decide)) (pa_cons (pv 0) (pa_cons (pv 2) pa_nil))))
      (pss_cons (ps_set (i := 3) sc_tally.nd rfl (Or.inr rfl) (pe_fn h_byn (hr.mono (by decide)) (pa_cons (pv 0) (pa_cons (pv 2) pa_nil))))
      (pss_one (ps_ret (pe_callTy call_tuple_of (by rfl) T2.b_tuple (by decide +kernel) (pa_cons (pe_lc (own := [("total", 4)]) (g := gName 4) (tt := tYes) rfl sc_tally.nd (pi_tup (pe_fn h_votes (hr.mono (by decide)) (pa_cons (pv 0) (pa_cons (pv 1) pa_nil)))) (blkOk_by (N := sc_tally_N) (sc := defScope s_tally) (by decide +kernel)) (fun _ _ _ _ _ => pg_name (i := 4) sc_tally.nd rfl (Or.inl rfl)) (fun _ _ _ _ _ => pts_nil) (fun _ _ _ _ _ => (pe_fn h_vin (hr.mono (by decide)) (pa_cons (pv 3) (pa_cons (pv 4) pa_nil))))) pa_nil)))))))), ?_⟩
    have p12 := po.ln
    have m12 := mo.ln
    have hy : pN ps i ∈ ps.map (·.1) := by
      rw [(pN_at (List.getElem?_eq_getElem hi)).1]
      exact List.mem_map.mpr ⟨_, List.getElem_mem hi, rfl⟩
    refine ⟨_, rfl, irr ⟨x, ps, ms, rfl, nr, ?_⟩⟩
    refine ⟨_, rfl, _, rfl, irr ⟨x, ps, ms, pN ps i, rfl, nr, p12, hy, fun H1 s1 => ?_⟩⟩
    refine ⟨_, rfl, _, rfl, irr ⟨x, t, ps, ms, rs, rfl, nr.ext s1, m12, ht.ext s1, ro, fun H2 s2 => ?_⟩⟩
    have s02 := s1.trans s2
    refine ⟨_, rfl, _, rfl, irr ⟨x, t, ps, ms, rs, rfl, nr.ext s02, m12, mo.nd, ht.ext s02, ro.len, fun d kvs H3 s3 hd kl vr => ?_⟩⟩
    have s03 := s02.trans s3
    dsimp only [gName]
    refine ⟨_, rfl, _, rfl, irr ⟨x, ps, ms, i, rfl, nr.ext s03, po, mo, hi, fun tv us c H4 s4 htv hsum hmad hc => ?_⟩⟩
    have usl : us.length ≤ 200 := by
      rw [hmad.1]
      exact votesF_len po.nd hi p12 m12 c
    obtain ⟨vA, _, _⟩ := votes_at (ps := ps) (ms := ms) (i := i) po.nd mo.nd hi hc
    refine ⟨tv, rfl, ⟨_, SqT.of htv⟩, fun D nD => ?_⟩
    refine lc_to (xs := rf us) (vR (us.map fun u => tval ms rs u.2)) (by rw [vR, List.length_map, List.length_map, rf_len]) walk_tup nD (by rw [rf_len]; omega) (fun H' s' => SqT.of (s' _ _ htv)) (fun _ => rfl) (fun j v y hv hy2 H5 s5 R kR => ?_) fun H5 s5 hD => ?_
    · obtain ⟨u, hu, rfl⟩ := rf_get hv
      have um := List.mem_of_getElem? hu
      have hj : j < us.length := (List.getElem?_eq_some_iff.mp hu).1
      rw [vR, List.getElem?_map, List.getElem?_map, hu] at hy2
      obtain rfl := Option.some.inj hy2
      obtain ⟨T', hT⟩ : ∃ T', (votesF ps ms i c)[j]? = some T' := ⟨_, List.getElem?_eq_getElem (by rw [← hmad.1]; exact hj)⟩
      have md5 := hmad.2 j T' u hT hu
      obtain ⟨tp, tn, tl⟩ := vA T' (List.mem_of_getElem? hT)
      have := md5.ln
      refine ⟨_, rfl, _, rfl, irr ⟨d, u.1, kvs, ms, rs, u.2, rfl, s5 _ _ (s4 _ _ hd), Nat.le_trans kl (by decide), vr, (hsum u um).ext s5, by omega, fun q hq => ⟨?_, ?_, fun v hv => hb _ _ hv⟩, fun H6 s6 => kR H6 s6⟩⟩
      · obtain ⟨t2, ht2, e2⟩ := List.mem_map.mp (md5.nm q hq)
        rw [← e2]
        exact (tn t2 ht2).1
      · have e1 := md5.nr.co hq
        rw [md5.co] at e1
        have e2 := co_le T' q.1
        have e3 : tot T' ≤ T'.length * 1 := tot_mul fun q hq => by rcases (tn q hq).2 with e | e <;> rw [e] <;> decide
        rw [← e1]
        exact Nat.le_trans (show _ ≤ 13 by omega) (by decide)
    · dsimp only
      refine ⟨D, _, rfl, .inl ⟨SqL.of hD, fun m nm => ?_⟩⟩
      refine k m (us.map (·.2)) c _ (fun b o e => (upd_ne (ne_of_none (s5 _ _ (s4 _ _ (s03 _ _ e))) nm)).trans (s5 _ _ (s4 _ _ (s03 _ _ e)))) (by rw [upd_same, List.map_map]; rfl) (by rw [List.length_map]; exact hmad.1) (fun k2 T qs hT hq => ?_) hc
      rw [List.getElem?_map] at hq
      cases e : us[k2]? with
      | none => rw [e] at hq; cases hq
      | some u =>
        rw [e] at hq
        obtain rfl := Option.some.inj hq
        exact hmad.2 k2 T u hT e
end
end RV
/-! k29: the law's rings -/
namespace RV
open PySem L2 TL
section
variable {P : Program} {w : World} {K : PySem.W.Frag} {mg : Str → Option Value} {base : Heap}
/-- the scope of the rows, outer names as cells -/
abbrev scRg : Scope := { kind := .function, names := [(".0", .local), ("_law_row", .cell), ("any", .globalImplicit), ("_law_at", .cell), ("_law_rest", .cell)], isGenerator := false, isCoroutine := false }
theorem ok_ringsM {f : Addr} {fd : FuncData} (F : Fun K "_law_rings" "_law_rings" s_rings f fd) (T : Blt mg) (h_list : mg "list" = none) (h_flows : Fn P w K mg base "_law_flows" 2 ["_law_model_here"] (Irr sp_flows)) : FnOk P w K mg base CX0 3 f fd ["_law_model_here"] sp_ringsM := by
  refine F.ok sc_rings (fun vs H Q E h => ?_) (fun cdv A outer s H vs Q E hr h => ?_)
  · obtain ⟨_, _, _, rfl, _⟩ := h
    rfl
  · obtain ⟨l, M, more, rfl, md, ok, k⟩ := h
    refine ⟨_, (pss_cons (ps_par3 (i := 1) (j := 2) (l := 3) (by rfl) sc_rings.nd rfl rfl rfl (by decide) (by decide) (by decide) rfl rfl rfl (pa_cons (pe_listRg rfl (by rfl) h_list (prg_1 (by rfl) T.b_range (pe_callB call_len_seq (by rfl) T.b_len (by decide +kernel) (pa_cons (pe_ix ix_list (pv 0) pe_int (fun _ _ => rfl)) pa_nil)))) (pa_cons (pe_lst pa_nil) (pa_cons (pe_lst pa_nil) pa_nil))) (by rfl))
      (pss_cons (ps_for PassesOwn.never rfl (pi_range1 rfl T.b_range (pa_cons (pe_callB call_len_seq (by rfl) T.b_len (by decide +kernel) (pa_cons (pe_ix ix_list (pv 0) pe_int (fun _ _ => rfl)) pa_nil)) pa_nil)) (pg_name (i := 4) sc_rings.nd rfl (Or.inl rfl)) (pss_cons (ps_asg (pe_tup (pa_cons (pe_ix ix_list (pv 1) (pe_ix ix_tup (pe_ix ix_list (pe_ix ix_list (pv 0) pe_int (fun _ _ => rfl)) (pv 4) (fun _ _ => rfl)) pe_int (fun _ _ => rfl)) (fun _ _ => rfl)) (pa_cons (pe_ix ix_list (pv 1) (pe_ix ix_tup (pe_ix ix_list (pe_ix ix_list (pv 0) pe_int (fun _ _ => rfl)) (pv 4) (fun _ _ => rfl)) pe_int (fun _ _ => rfl)) (fun _ _ => rfl)) pa_nil))) (pg_tup (by rfl) (pgs_cons (pg_name (i := 5) sc_rings.nd rfl (Or.inr rfl)) (pgs_cons (pg_name (i := 6) sc_rings.nd rfl (Or.inr rfl)) pgs_nil)))) (pss_cons (ps_if (pt_cmpR op_eq (pv 5) (pv 6) (nomark _)) (pss_one (ps_expr (pe_bm PySem.F.plainAttrs_list PySem.F.slot_list_append PySem.F.type_list_append mt_append (pv 2) (pa_cons (pv 4) pa_nil)))) pss_nil) (pss_one (ps_setLc (i := 1) (own := [("_law_mark", 10)]) (g := gName 10) (tt := tYes) rfl sc_rings.nd rfl rfl (sw_true rfl rfl rfl (by decide +kernel)) (pi_list (pv 1)) (blkOk_by (N := sc_rings_N) (sc := defScope s_rings) (by decide +kernel)) (fun _ _ _ _ _ => pg_name (i := 10) sc_rings.nd rfl (Or.inl rfl)) (fun _ _ _ _ _ => pts_nil) (fun _ _ _ _ _ => (pe_ifExp (pt_cmpR op_eq (pv 10) (pv 6) (nomark _)) (pv 5) (pv 10))))))))
      (pss_cons (ps_set (i := 7) sc_rings.nd rfl (Or.inl rfl) (pe_fn h_flows (hr.mono (by decide)) (pa_cons (pv 0) pa_nil)))
      (pss_cons (ps_for PassesOwn.never rfl (pi_list (pv 2)) (pg_name (i := 8) sc_rings.nd rfl (Or.inr rfl)) (pss_cons (ps_set (i := 9) sc_rings.nd rfl (Or.inr rfl) (pe_lc (own := [("_law_k", 4)]) (g := gName 4) rfl sc_rings.nd (pi_list (pv 2)) (blkOk_by (N := sc_rings_N) (sc := defScope s_rings) (by decide +kernel)) (fun _ _ _ _ _ => pg_name (i := 4) sc_rings.nd rfl (Or.inl rfl)) (fun _ _ _ _ _ => pts_one (pt_cmpR op_ne (pv 4) (pv 8) (nomark _))) (fun _ _ _ _ _ => (pv 4)))) (pss_one (ps_set (i := 3) sc_rings.nd rfl (Or.inl rfl) (pe_op op_cat (pv 3) (pe_lc (own := [("_law_row", 11)]) (g := gName 11) rfl sc_rings.nd (pi_list (pv 7)) (blkOk_by (N := sc_rings_N) (sc := defScope s_rings) (by decide +kernel)) (fun _ _ _ _ _ => pg_name (i := 11) sc_rings.nd rfl (Or.inr rfl)) (fun _ _ _ _ _ => pts_one (PW.pt (pw_and (pt_cmpR op_eq (pe_ix (ix_listK (K := K)) (pv 11) (pv 8) (fun _ _ => rfl)) pe_int (nomark _)) (pw_and1 (pt_not (pt_val (pe_callB (cr_anyM (K := K) rfl) (by rfl) T.b_any (by decide +kernel) (pa_cons (pe_lc (own := [("_law_k", 4)]) (g := gName 4) (tt := tYes) rfl sc_rings.nd (pi_listK (K := K) (pv 9)) (by refine blkOk_by (N := sc_rings_N) (sc := scRg) ?_; decide +kernel) (fun _ _ _ _ _ => pg_name (i := 4) sc_rings.nd rfl (Or.inl rfl)) (fun _ _ _ _ _ => pts_nil) (fun _ _ _ _ _ => (pe_cmpR op_ne (pe_ix (ix_listK (K := K)) (pv 11) (pv 4) (fun _ _ => rfl)) pe_int (nomark _)))) pa_nil)))))))) (fun _ _ _ _ _ => (pv 11))))))))
      (pss_one (ps_ret (pv 3))))))), ?_⟩
    obtain ⟨lp, lq, lg, pu, gu, epu, egu, hM⟩ := md.ex
    have ekl : H l = some (.lst [.ref lp, .ref lq, .ref lg]) := hM (l, _) List.mem_cons_self
    have ekp : H lp = some (.lst (M.pl.map V.str)) := hM (lp, _) (List.mem_cons_of_mem _ List.mem_cons_self)
    have ekq : H lq = some (.lst (rf pu)) := hM (lq, _) (List.mem_cons_of_mem _ (List.mem_cons_of_mem _ List.mem_cons_self))
    have eku : ∀ u ∈ pu, H u.1 = some (oQ u.2) := fun u hu => hM (u.1, _) (List.mem_cons_of_mem _ (List.mem_cons_of_mem _ (List.mem_cons_of_mem _ (List.mem_cons_of_mem _ (List.mem_append_left _ (List.mem_map.mpr ⟨u, hu, rfl⟩))))))
    have pul : pu.length = M.qs.length := by rw [← epu, sn_len]
    have qm := ok.qm
    have p4 := ok.p4
    refine ⟨_, rfl, l, _, 0, _, rfl, rfl, SqL.of ekl, rfl, lp, _, rfl, .inl (SqL.of ekp), _, rfl, RgOk.of_le (by decide) (by rw [List.length_map]; omega) (by decide) (by omega), fun q1 nq1 => ?_⟩
    rw [List.length_map, rgV_nat]
    have s1 : Same H (upd H q1 (.lst ((List.range M.pl.length).map vI))) := fun b o e => (upd_ne (ne_of_none e nq1)).trans e
    have e1 : upd H q1 (.lst ((List.range M.pl.length).map vI)) q1 = some (.lst ((List.range M.pl.length).map vI)) := upd_same
    revert s1 e1
    generalize upd H q1 (.lst ((List.range M.pl.length).map vI)) = H1
    intro s1 e1
    refine ⟨(by show 0 ≤ sizeLine; decide), fun q2 nq2 => ⟨(by show 0 ≤ sizeLine; decide), fun q3 nq3 => ?_⟩⟩
    refine ⟨_, _, _, rfl, ?_⟩
    have s3 : Same H1 (upd (upd H1 q2 (.lst [])) q3 (.lst [])) := fun b o e => (upd_ne (ne_of_none ((upd_ne (ne_of_none e nq2)).trans e) nq3)).trans ((upd_ne (ne_of_none e nq2)).trans e)
    have n12 : q2 ≠ q1 := (ne_of_none e1 nq2).symm
    have n32 : q3 ≠ q2 := fun z => by rw [z, upd_same] at nq3; cases nq3
    have n31 : q3 ≠ q1 := fun z => by rw [z, upd_ne n12.symm, e1] at nq3; cases nq3
    have e2 : upd (upd H1 q2 (.lst [])) q3 (.lst []) q2 = some (.lst []) := (upd_ne n32.symm).trans upd_same
    have e3 : upd (upd H1 q2 (.lst [])) q3 (.lst []) q3 = some (.lst []) := upd_same
    have nH2 : H q2 = none := Decidable.byContradiction fun z => by
      obtain ⟨o, ho⟩ := Option.ne_none_iff_exists'.mp z
      rw [s1 _ _ ho] at nq2; cases nq2
    have e1' := s3 _ _ e1
    have sH := s1.trans s3
    revert s3 e2 e3 e1' sH
    generalize upd (upd H1 q2 (.lst [])) q3 (.lst []) = H3
    intro s3 e2 e3 e1' sH
    refine ⟨_, rfl, l, _, 1, _, rfl, rfl, SqL.of (sH _ _ ekl), rfl, lq, _, rfl, .inl (SqL.of (sH _ _ ekq)), _, rfl, by rw [rf_len]; omega, by rw [rf_len]; omega, ?_⟩
    rw [rf_len, pul]
    refine for_range (lo := 0) (n := M.qs.length) (fun j σ H' => (∃ (a1 : Addr), (∃ o4 o5 o6 o7 o8 o9 o10 o11, σ = [some (.ref l), some (.ref a1), some (.ref q2), some (.ref q3), o4, o5, o6, o7, o8, o9, o10, o11]) ∧ H' a1 = some (.lst ((mkC M j).1.map vI)) ∧ a1 ≠ q2) ∧ Same H H' ∧ H' q2 = some (.lst ((mkC M j).2.map vI)) ∧ H' q3 = some (.lst [])) ⟨⟨q1, ⟨none, none, none, none, none, none, none, none, rfl⟩, e1', n12.symm⟩, sH, e2, e3⟩ (fun j σ H' hj z => ?_) (fun σ H' z => ?_)
    · obtain ⟨⟨a1, ⟨o4, o5, o6, o7, o8, o9, o10, o11, rfl⟩, f1, n1⟩, sA, f2, f3⟩ := z
      rw [Int.zero_add]
      obtain ⟨u, hu⟩ : ∃ u, pu[j]? = some u := ⟨_, List.getElem?_eq_getElem (by omega)⟩
      have hsg := sn_get hu
      rw [epu] at hsg
      have atq : atI (rf pu) ((j : Nat) : Int) = some (V.ref u.1) := atI_nat (by rw [rf, List.getElem?_map, hu]; rfl)
      have euq := sA _ _ (eku u (List.mem_of_getElem? hu))
      obtain ⟨_, ua, ub, _⟩ := ok.qn _ (List.mem_of_getElem? hsg)
      have ea : aQ M j = u.2.2.1 := by rw [aQ, List.getD, hsg]; rfl
      have eb : bQ M j = u.2.2.2 := by rw [bQ, List.getD, hsg]; rfl
      have ml := mkC_len M j
      have mka : ∀ c, c < M.pl.length → atI ((mkC M j).1.map vI) ((c : Nat) : Int) = some (V.int (((mkC M j).1.getD c 0 : Nat) : Int)) := fun c hc => atI_nat (by rw [List.getElem?_map, List.getElem?_eq_getElem (by omega), List.getD, List.getElem?_eq_getElem (by omega)]; rfl)
      dsimp only [gName]
      refine ⟨_, rfl, _, rfl, l, _, 1, _, rfl, rfl, SqL.of (sA _ _ ekl), rfl, _, rfl, lq, _, _, _, rfl, rfl, SqL.of (sA _ _ ekq), atq, u.1, _, 1, _, rfl, rfl, SqT.of euq, rfl, a1, _, _, _, rfl, rfl, SqL.of f1, mka _ ua, ?_⟩
      refine ⟨_, rfl, _, rfl, l, _, 1, _, rfl, rfl, SqL.of (sA _ _ ekl), rfl, _, rfl, lq, _, _, _, rfl, rfl, SqL.of (sA _ _ ekq), atq, u.1, _, 2, _, rfl, rfl, SqT.of euq, rfl, a1, _, _, _, rfl, rfl, SqL.of f1, mka _ ub, ?_⟩
      refine ⟨(by show 2 ≤ sizeLine; decide), fun T nT => ?_⟩
      have sT : Same H' (upd H' T (.tup [V.int (((mkC M j).1.getD u.2.2.1 0 : Nat) : Int), V.int (((mkC M j).1.getD u.2.2.2 0 : Nat) : Int)])) := fun b o e => (upd_ne (ne_of_none e nT)).trans e
      refine ⟨T, _, rfl, SqT.of upd_same, rfl, ?_⟩
      revert sT
      generalize upd H' T (.tup [V.int (((mkC M j).1.getD u.2.2.1 0 : Nat) : Int), V.int (((mkC M j).1.getD u.2.2.2 0 : Nat) : Int)]) = H4
      intro sT
      have g1 := sT _ _ f1
      have g2 := sT _ _ f2
      have g3 := sT _ _ f3
      have s4 := sA.trans sT
      dsimp only [gName, gCons, gNil]
      refine ⟨_, _, rfl, _, _, rfl, rfl, ?_⟩
      refine seq_of (fun σ H5 => σ = [some (.ref l), some (.ref a1), some (.ref q2), some (.ref q3), some (.int (j : Nat)), some (.int (((mkC M j).1.getD u.2.2.1 0 : Nat) : Int)), some (.int (((mkC M j).1.getD u.2.2.2 0 : Nat) : Int)), o7, o8, o9, o10, o11] ∧ Same H H5 ∧ H5 a1 = some (.lst ((mkC M j).1.map vI)) ∧ H5 q2 = some (.lst ((mkC M (j + 1)).2.map vI)) ∧ H5 q3 = some (.lst [])) (fun σ H5 z => ?_) fun N hN => ?_
      · obtain ⟨rfl, s5, h1, h2, h3⟩ := z
        refine ⟨_, rfl, a1, rfl, ⟨_, SqL.of h1⟩, fun D nD => ?_⟩
        refine lc_to (xs := (mkC M j).1.map vI) ((mkC M (j + 1)).1.map vI) (by rw [List.length_map, List.length_map, mkC_len, mkC_len]) walk_list nD (by rw [List.length_map]; omega) (fun H' s' => SqL.of (s' _ _ h1)) (fun _ => rfl) (fun c v y hv hy H6 s6 R hR => ?_) fun H6 s6 hD => ?_
        · rw [mkC, List.map_map, List.getElem?_map] at hy
          rw [List.getElem?_map] at hv
          cases hm : (mkC M j).1[c]? with
          | none => rw [hm] at hv; cases hv
          | some m =>
            rw [hm] at hv hy
            obtain rfl := Option.some.inj hv
            obtain rfl := Option.some.inj hy
            refine ⟨_, rfl, _, rfl, rfl, _, rfl, ?_⟩
            dsimp only [Function.comp]
            rw [ea, eb] at hR
            by_cases e : m = (mkC M j).1.getD u.2.2.2 0
            · rw [show decide (vI m = V.int (((mkC M j).1.getD u.2.2.2 0 : Nat) : Int)) = true from decide_eq_true (by rw [e]; rfl)]
              refine iteT ⟨_, rfl, ?_⟩
              have := hR H6 fun _ _ e => e
              rw [Function.comp, if_pos e] at this
              exact this
            · rw [show decide (vI m = V.int (((mkC M j).1.getD u.2.2.2 0 : Nat) : Int)) = false from decide_eq_false fun z => e (Int.ofNat.inj (V.int.inj z))]
              refine iteF ⟨_, rfl, ?_⟩
              have := hR H6 fun _ _ e => e
              rw [Function.comp, if_neg e] at this
              exact this
        · dsimp only [gName]
          exact ⟨⟨D, ⟨_, _, _, _, _, _, _, _, rfl⟩, hD, fun z => by rw [z, h2] at nD; cases nD⟩, s5.trans s6, s6 _ _ h2, s6 _ _ h3⟩
      · refine ⟨_, rfl, _, rfl, rfl, _, rfl, ?_⟩
        by_cases e : (mkC M j).1.getD u.2.2.1 0 = (mkC M j).1.getD u.2.2.2 0
        · have e5 : (mkC M (j + 1)).2 = (mkC M j).2 ++ [j] := by rw [mkC, ea, eb]; exact if_pos e
          rw [show decide (V.int (((mkC M j).1.getD u.2.2.1 0 : Nat) : Int) = V.int (((mkC M j).1.getD u.2.2.2 0 : Nat) : Int)) = true from decide_eq_true (by rw [e])]
          refine iteT ⟨_, rfl, Or.inl ⟨rfl, _, SqL.of g2⟩, _, rfl, q2, _, _, rfl, rfl, g2, ?_, hN _ _ ⟨?_, ?_, ?_, ?_, ?_⟩⟩
          · rw [List.length_map]
            exact Nat.lt_of_le_of_lt (show _ ≤ 5 from Nat.le_trans (mkC_ch M j).2 (by omega)) (by decide)
          · rfl
          · exact fun b o e => (upd_ne (ne_of_none e nH2)).trans (s4 _ _ e)
          · exact (upd_ne n1).trans g1
          · rw [e5, upd_same, List.map_append]; rfl
          · exact (upd_ne n32).trans g3
        · have e5 : (mkC M (j + 1)).2 = (mkC M j).2 := by rw [mkC, ea, eb]; exact if_neg e
          rw [show decide (V.int (((mkC M j).1.getD u.2.2.1 0 : Nat) : Int) = V.int (((mkC M j).1.getD u.2.2.2 0 : Nat) : Int)) = false from decide_eq_false fun z => e (Int.ofNat.inj (V.int.inj z))]
          refine iteF (hN _ _ ⟨rfl, s4, g1, by rw [e5]; exact g2, g3⟩)
    · obtain ⟨⟨a1, ⟨o4, o5, o6, o7, o8, o9, o10, o11, rfl⟩, f1, n1⟩, sA, f2, f3⟩ := z
      dsimp only
      refine ⟨_, rfl, irr ⟨l, M, more, rfl, md.ext sA, ok, fun fa us H5 s5 eF rat ul _ nU hus => ?_⟩⟩
      dsimp only [gName]
      obtain ⟨ch1, ch2⟩ := mkC_ch M M.qs.length
      have c5 : (mkC M M.qs.length).2.length ≤ 5 := by omega
      have g2 := s5 _ _ f2
      have g3 := s5 _ _ f3
      have sB := sA.trans s5
      refine ⟨_, rfl, q2, rfl, ⟨_, SqL.of g2⟩, for_list (xs := (chL M).map vI) (fun j σ H' => (∃ (fd : Addr) (ws : List (Addr × List Int)), (∃ o4 o5 o6 o8 o9 o10 o11, σ = [some (.ref l), some (.ref a1), some (.ref q2), some (.ref fd), o4, o5, o6, some (.ref fa), o8, o9, o10, o11]) ∧ H' fd = some (.lst (rf ws)) ∧ (∀ w ∈ ws, w ∈ us) ∧ ws.length ≤ 243 * j ∧ (∀ r, r ∈ sn ws ↔ r ∈ sn us ∧ ∃ c ∈ (chL M).take j, oneB (chL M) c r = true)) ∧ Same H5 H') ?_ (fun j σ H' _ z => SqL.of (z.2 _ _ g2)) (fun j v σ H' hv z => ?_) (fun σ H' z => ?_)⟩
      · exact ⟨⟨q3, [], ⟨_, _, _, _, _, _, _, rfl⟩, g3, fun _ h => (nomatch h), Nat.zero_le _, fun r => ⟨fun h => (nomatch h), fun ⟨_, c, h, _⟩ => (nomatch h)⟩⟩, fun _ _ e => e⟩
      · obtain ⟨⟨fd, ws, ⟨o4, o5, o6, o8, o9, o10, o11, rfl⟩, k1, k2, k3, k4⟩, s6⟩ := z
        rw [List.getElem?_map] at hv
        cases hc : (chL M)[j]? with
        | none => rw [hc] at hv; cases hv
        | some c =>
          rw [hc] at hv
          obtain rfl := Option.some.inj hv
          have hcm := List.mem_of_getElem? hc
          have cl : c < M.qs.length := ch1 c hcm
          have l5 : (chL M).length ≤ 5 := c5
          have sC := sB.trans s6
          dsimp only [gName]
          refine ⟨_, rfl, q2, rfl, ⟨_, SqL.of (s6 _ _ g2)⟩, fun D nD => lc_idx (chL M) (fun k => !decide (k = c)) vI walk_list nD (by omega) (fun H' s' => SqL.of (s' _ _ (s6 _ _ g2))) (fun _ => rfl) (fun k _ H2 s2 R hR => ?_) (fun k _ _ H2 s2 R hR => ⟨_, rfl, hR H2 fun _ _ e => e⟩) fun H7 s7 hD => ?_⟩
          · refine ⟨_, rfl, _, rfl, rfl, _, rfl, ?_⟩
            rw [show decide (vI k = vI c) = decide (k = c) from decide_eq_decide.mpr ⟨fun z => Int.ofNat.inj (V.int.inj z), fun z => by rw [z]⟩]
            exact hR H2 fun _ _ e => e
          · dsimp only [gName]
            have eF7 := s7 _ _ (s6 _ _ eF)
            refine ⟨_, rfl, _, rfl, fa, rfl, ⟨_, SqL.of eF7⟩, fun D2 nD2 => lc_keep (fun u => oneB (chL M) c u.2) walk_list nD2 (by omega) (fun H' s' => SqL.of (s' _ _ eF7)) (fun _ => rfl) (fun u hu H2 s2 R hR => ?_) (fun u _ H2 R hR => ⟨_, rfl, hR⟩) fun H8 s8 hD2 => ?_⟩
            · have eu := (s6.trans (s7.trans s2)) _ _ (rat u hu)
              have hDx := s2 _ _ hD
              obtain ⟨⟨ul2, _, _⟩⟩ : (u.2.length = M.qs.length ∧ (∀ c ∈ u.2, trit c) ∧ keptB M u.2 = true) ∧ True := ⟨(hus u.2).mp (List.mem_map.mpr ⟨u, hu, rfl⟩), trivial⟩
              have atr : ∀ {k : Nat}, k < M.qs.length → atI (u.2.map V.int) ((k : Nat) : Int) = some (V.int (ent u.2 k)) := fun {k} hk => atI_nat (by rw [List.getElem?_map, List.getElem?_eq_getElem (by omega), ent, List.getD, List.getElem?_eq_getElem (by omega)]; rfl)
              refine ⟨_, rfl, _, rfl, u.1, _, _, _, rfl, rfl, SqL.of eu, atr cl, rfl, _, rfl, ?_⟩
              by_cases h : ent u.2 c = 1
              · rw [h, decide_eq_true rfl]
                refine iteT ⟨_, rfl, D, rfl, ⟨_, SqL.of hDx⟩, fun D3 nD3 => lc_idx ((chL M).filter fun k => !decide (k = c)) (fun _ => true) (fun k => V.bl (!decide (ent u.2 k = 0))) walk_list nD3 (Nat.le_trans (List.length_filter_le _ _) (by omega)) (fun H' s' => SqL.of (s' _ _ hDx)) (fun _ => rfl) (fun k _ H4 s4 R hR => hR H4 fun _ _ e => e) (fun k hk _ H4 s4 R hR => ?_) fun H9 s9 hD3 => ?_⟩
                · refine ⟨_, rfl, _, rfl, u.1, _, _, _, rfl, rfl, SqL.of (s4 _ _ eu), atr (ch1 k (List.mem_filter.mp hk).1), rfl, ?_⟩
                  rw [show decide (V.int (ent u.2 k) = V.int 0) = decide (ent u.2 k = 0) from decide_eq_decide.mpr ⟨fun z => V.int.inj z, fun z => by rw [z]⟩]
                  exact hR H4 fun _ _ e => e
                · refine ⟨D3, (((chL M).filter fun k => !decide (k = c)).filter fun _ => true).map fun k => !decide (ent u.2 k = 0), rfl, SqL.of (by rw [List.map_map]; exact hD3), _, rfl, ?_⟩
                  have e9 : (!((((chL M).filter fun k => !decide (k = c)).filter fun _ => true).map fun k => !decide (ent u.2 k = 0)).any id) = oneB (chL M) c u.2 := by
                    rw [oneB, h, Bool.eq_iff_iff]
                    simp only [Bool.not_eq_true', List.any_map, List.any_eq_false, List.mem_filter, Function.comp, id, Bool.and_eq_true, List.all_eq_true, decide_eq_true_iff, Bool.or_eq_true, Bool.not_eq_true', decide_eq_false_iff_not]
                    exact ⟨fun z => ⟨trivial, fun k hk => Decidable.byContradiction fun q => z k ⟨⟨hk, fun y => q (Or.inl y)⟩, trivial⟩ fun y => q (Or.inr y)⟩, fun z k hk y => (z.2 k hk.1.1).elim hk.1.2 y⟩
                  dsimp only
                  rw [e9]
                  exact hR H9 s9
              · rw [decide_eq_false fun z => h (V.int.inj z)]
                refine iteF ?_
                have := hR H2 fun _ _ e => e
                rw [oneB, decide_eq_false h] at this
                exact this
            · refine ⟨fd, D2, _, _, rfl, rfl, (s7.trans s8) _ _ k1, hD2, ?_, fun D4 nD4 => ?_⟩
              · rw [rf_len, rf_len]
                have := List.length_filter_le (fun u => oneB (chL M) c u.2) us
                have hj : j < (chL M).length := (List.getElem?_eq_some_iff.mp hc).1
                exact Nat.le_trans (show _ ≤ 243 * 4 + 243 by omega) (by decide)
              · dsimp only [gName]
                have := List.length_filter_le (fun u => oneB (chL M) c u.2) us
                have sD : Same H8 (upd H8 D4 (.lst (rf ws ++ rf (us.filter fun u => oneB (chL M) c u.2)))) := fun b o e => (upd_ne (ne_of_none e nD4)).trans e
                refine ⟨⟨D4, ws ++ us.filter fun u => oneB (chL M) c u.2, ⟨_, _, _, _, _, _, _, rfl⟩, by rw [upd_same, rf, rf, rf, List.map_append], fun w hw => ?_, by rw [List.length_append]; omega, fun r => ?_⟩, s6.trans (s7.trans (s8.trans sD))⟩
                · rcases List.mem_append.mp hw with hw | hw
                  · exact k2 w hw
                  · exact (List.mem_filter.mp hw).1
                · have et : (chL M).take (j + 1) = (chL M).take j ++ [c] := by rw [List.take_add_one, hc]; rfl
                  rw [et, sn, List.map_append, List.mem_append]
                  constructor
                  · rintro (hr | hr)
                    · obtain ⟨a, c', b, d⟩ := (k4 r).mp hr
                      exact ⟨a, c', List.mem_append_left _ b, d⟩
                    · obtain ⟨u, hu, rfl⟩ := List.mem_map.mp hr
                      obtain ⟨a, b⟩ := List.mem_filter.mp hu
                      exact ⟨List.mem_map.mpr ⟨u, a, rfl⟩, c, List.mem_append_right _ (List.mem_singleton.mpr rfl), b⟩
                  · rintro ⟨a, c', b, d⟩
                    rcases List.mem_append.mp b with b | b
                    · exact Or.inl ((k4 r).mpr ⟨a, c', b, d⟩)
                    · obtain rfl := List.mem_singleton.mp b
                      obtain ⟨u, hu, rfl⟩ := List.mem_map.mp a
                      exact Or.inr (List.mem_map.mpr ⟨u, List.mem_filter.mpr ⟨hu, d⟩, rfl⟩)
      · obtain ⟨⟨fd, ws, ⟨o4, o5, o6, o8, o9, o10, o11, rfl⟩, k1, k2, k3, k4⟩, s6⟩ := z
        refine ⟨_, rfl, k fd ws _ (sB.trans s6) k1 (fun w hw => s6 _ _ (rat w (k2 w hw))) ?_ (fun w hw => ?_) fun r => ?_⟩
        · have : (chL M).length ≤ 5 := c5
          rw [List.length_map] at k3
          omega
        · have := nU w (k2 w hw)
          cases e : H w.1 with
          | none => rfl
          | some o => rw [sA _ _ e] at this; cases this
        · rw [k4 r, hus r, List.length_map, List.take_length]
end
end RV
/-! k31: numbers, flows -/
namespace RV
open PySem L2 TL
section
variable {P : Program} {w : World} {K : PySem.W.Frag} {mg : Str → Option Value} {base : Heap} {CN CP CM CS : Addr}
theorem ok_numW {f : Addr} {fd : FuncData} (F : Fun K "_law_number" "_law_number" s_number f fd) (h_dip : Fn P w K mg base "_law_dip" 1 ["_law_well_here", "_law_many"] (Irr sp_dip)) : FnOk P w K mg base CX0 2 f fd ["_law_well_here"] sp_numW := by
  refine F.ok sc_number (fun vs H Q E h => ?_) (fun cdv A outer s H vs Q E hr h => ?_)
  · obtain ⟨_, _, rfl, _⟩ := h
    rfl
  · obtain ⟨a, n, rfl, wl, hn, k⟩ := h
    refine ⟨_, (pss_cons (ps_set (i := 1) sc_number.nd rfl (Or.inl rfl) (pe_op op_sub pe_int (pe_op op_mulW pe_int (pe_fn h_dip (hr.mono (by decide)) (pa_cons (pv 0) (pa_cons pe_int pa_nil))))))
      (pss_one (ps_ret (pe_op op_mulW (pv 1) (pe_ifExp (pt_cmpR op_eq (pe_fn h_dip (hr.mono (by decide)) (pa_cons (pv 0) (pa_cons pe_int pa_nil))) pe_int (nomark _)) (pe_fn h_dip (hr.mono (by decide)) (pa_cons (pv 0) (pa_cons (pe_op op_pow pe_int pe_int) pa_nil))) (pe_fn h_dip (hr.mono (by decide)) (pa_cons (pv 0) (pa_cons pe_int pa_nil)))))))), ?_⟩
    have b0 := Bag.start wl
    refine ⟨_, rfl, b0.dip (by omega) (by decide) (by decide) fun r H1 r0 r1 b1 => ?_⟩
    refine ⟨_, _, rfl, rfl, wide_mul (a := 2) (b := 1) (by decide) (by omega) (by decide) (by decide) (by decide), _, _, rfl, rfl, ?_⟩
    obtain ⟨sg, hsg, sg1⟩ : ∃ sg : Int, sg = 1 - 2 * r ∧ sg.natAbs ≤ 1 := ⟨_, rfl, by omega⟩
    dsimp only [gName]
    rw [← hsg]
    have fin : ∀ (z : Int) {H' : Hp}, 0 ≤ z → z < 10 ^ 12 → (sg * z).natAbs ≤ 10 ^ 12 := fun z {_} z0 z1 => by
      rw [Int.natAbs_mul]
      have : z.natAbs ≤ 10 ^ 12 := by omega
      exact Nat.le_trans (Nat.mul_le_mul sg1 this) (by decide)
    have c41 : (10 : Nat) ^ 12 < 2 ^ 41 := by decide
    refine ⟨_, rfl, ?_⟩
    refine ⟨_, rfl, b1.dip (by omega) (by decide) (by decide) fun r2 H2 _ _ b2 => ⟨rfl, _, rfl, ?_⟩⟩
    refine ite2 (fun _ => ?_) fun _ => ?_
    · have c12 : CPow 10 12 := ⟨by decide, by decide, by decide⟩
      refine ⟨_, rfl, _, _, rfl, rfl, c12, b2.dip (by omega) (by decide) (by decide) fun r3 H3 z0 z1 b3 => ?_⟩
      have z1' : r3 < 10 ^ 12 := z1
      exact ⟨_, _, rfl, rfl, wide_mul (a := 1) (b := 41) (by omega) (by omega) (by decide) (by decide) (by decide), k _ H3 (fin r3 (H' := H3) z0 z1') b3.gr b3.well⟩
    · refine ⟨_, rfl, b2.dip (by omega) (by decide) (by decide) fun r3 H3 z0 z1 b3 => ?_⟩
      exact ⟨_, _, rfl, rfl, wide_mul (a := 1) (b := 41) (by omega) (by omega) (by decide) (by decide) (by decide), k _ H3 (fin r3 (H' := H3) z0 (by omega)) b3.gr b3.well⟩
theorem ok_flowM {f : Addr} {fd : FuncData} (F : Fun K "_law_flow" "_law_flow" s_flow f fd) (T : Blt mg) (h_number : Fn P w K mg base "_law_number" 2 ["_law_well_here"] (Irr sp_numW)) : FnOk P w K mg base CX0 3 f fd ["_law_well_here", "_law_model_here", "_law_rings_here"] sp_flowM := by
  refine F.ok sc_flow (fun vs H Q E h => ?_) (fun cdv A outer s H vs Q E hr h => ?_)
  · obtain ⟨_, _, _, _, _, _, _, rfl, _⟩ := h
    rfl
  · obtain ⟨a, l, lr, n, M, more, ru, rfl, wl, hn, md, ok, o12, elr, rul, hru, k⟩ := h
    refine ⟨_, (pss_cons (ps_set (i := 3) sc_flow.nd rfl (Or.inr rfl) (pe_lc (own := [("_law_one", 6)]) (g := gName 6) (tt := tYes) rfl sc_flow.nd (pi_list (pe_ix ix_list (pv 1) pe_int (fun _ _ => rfl))) (blkOk_by (N := sc_flow_N) (sc := defScope s_flow) (by decide +kernel)) (fun _ _ _ _ _ => pg_name (i := 6) sc_flow.nd rfl (Or.inl rfl)) (fun _ _ _ _ _ => pts_nil) (fun _ _ _ _ _ => pe_int)))
      (pss_cons (ps_for PassesOwn.never rfl (pi_list (pv 2)) (pg_name (i := 4) sc_flow.nd rfl (Or.inr rfl)) (pss_cons (ps_set (i := 5) sc_flow.nd rfl (Or.inr rfl) (pe_fn h_number (hr.mono (by decide)) (pa_cons (pv 0) pa_nil))) (pss_one (ps_set (i := 3) sc_flow.nd rfl (Or.inr rfl) (pe_lc (own := [("_law_k", 7)]) (g := gName 7) (tt := tYes) rfl sc_flow.nd (pi_range1 rfl T.b_range (pa_cons (pe_callB call_len_seq (by rfl) T.b_len (by decide +kernel) (pa_cons (pv 3) pa_nil)) pa_nil)) (blkOk_by (N := sc_flow_N) (sc := defScope s_flow) (by decide +kernel)) (fun _ _ _ _ _ => pg_name (i := 7) sc_flow.nd rfl (Or.inl rfl)) (fun _ _ _ _ _ => pts_nil) (fun _ _ _ _ _ => (pe_op op_add (pe_ix (ix_listK (K := K)) (pv 3) (pv 7) (fun _ _ => rfl)) (pe_op op_mulW (pv 5) (pe_ix (ix_listK (K := K)) (pv 4) (pv 7) (fun _ _ => rfl))))))))))
      (pss_one (ps_ret (pv 3))))), ?_⟩
    have q5 := ok.qm
    obtain ⟨kp, kq, kg, pv, gv, f1, f2, kl⟩ := id md.ex
    have ekl : H l = some (.lst [.ref kp, .ref kq, .ref kg]) := kl (l, _) List.mem_cons_self
    have ekq : H kq = some (.lst (rf pv)) := kl (kq, _) (List.mem_cons_of_mem _ (List.mem_cons_of_mem _ List.mem_cons_self))
    have pvl : pv.length = M.qs.length := by rw [← f1, sn_len]
    have psl := ps_len (M := M)
    refine ⟨_, rfl, l, _, 1, _, rfl, rfl, SqL.of ekl, rfl, kq, rfl, ⟨_, SqL.of ekq⟩, fun D nD => ?_⟩
    refine lc_to (xs := rf pv) ((List.replicate M.qs.length (0 : Int)).map V.int) (by rw [List.length_map, List.length_replicate, rf_len, pvl]) walk_list nD (by rw [rf_len]; omega) (fun H' s' => SqL.of (s' _ _ ekq)) (fun _ => rfl) (fun c v y hv hy2 H2 s2 R hR => ?_) fun H1 s1 hD => ?_
    · rw [List.getElem?_map, List.getElem?_replicate] at hy2
      split at hy2
      · obtain rfl := Option.some.inj hy2
        exact hR H2 (Same.refl _)
      · cases hy2
    · dsimp only [gName]
      have z0 : ∀ k, ent (List.replicate M.qs.length (0 : Int)) k = 0 := fun k => by
        rw [ent, List.getD, List.getElem?_replicate]
        split <;> rfl
      refine ⟨_, rfl, lr, rfl, ⟨_, SqL.of (s1 _ _ elr)⟩, for_list (xs := rf ru) (fun j σ H' => ∃ (p : Addr) (fs : List Int) (o4 o5 o6 o7 : Option V), σ = [some (.ref a), some (.ref l), some (.ref lr), some (.ref p), o4, o5, o6, o7] ∧ Grow a H H' ∧ WellAt H' a (n + 3 * j) ∧ p ≠ a ∧ H' p = some (.lst (fs.map V.int)) ∧ fs.length = M.qs.length ∧ CutF (pS M.ps) (pE M.ps) (ent fs) M.ps.length ∧ ∀ k, (ent fs k).natAbs ≤ j * 10 ^ 12) ⟨D, _, none, none, none, none, rfl, fun b o _ e => s1 _ _ e, by obtain ⟨x, y, z, e, r⟩ := wl; exact ⟨x, y, z, s1 _ _ e, r⟩, (wl.ne nD).symm, hD, List.length_replicate, fun A => ?_, fun k => by rw [z0]; exact Nat.zero_le _⟩ (fun j σ H' _ z => by obtain ⟨_, _, _, _, _, _, _, g, _⟩ := z; exact SqL.of (wl.keep g elr (noW_rf _))) (fun j v σ H' hv z => ?_) (fun σ H' z => ?_)⟩
      · rw [cutFl, sumN_congr (g := fun _ => 0) fun k _ => by rw [z0, Int.zero_mul]]
        exact sumN_zero fun _ _ => rfl
      · obtain ⟨p, fs, o4, o5, o6, o7, rfl, g1, w1, pa, ep, fl, cf, fb⟩ := z
        obtain ⟨u, hu, rfl⟩ := rf_get hv
        have jl : j < 1215 := by have := (List.getElem?_eq_some_iff.mp hu).1; omega
        obtain ⟨ua, eu, ul, ut, uk⟩ := hru u (List.mem_of_getElem? hu)
        dsimp only [gName]
        refine ⟨_, rfl, irr ⟨a, _, rfl, w1, by omega, fun z H2 hz g2 w2 => ?_⟩⟩
        dsimp only [gName]
        have ep2 := g2 _ _ pa ep
        have eu2 := g2 _ _ ua (g1 _ _ ua eu)
        refine ⟨_, rfl, p, _, rfl, .inl (SqL.of ep2), M.qs.length, by rw [List.length_map, fl], by omega, by omega, fun D2 nD2 => lc_to (xs := rgL M.qs.length) ((addR fs u.2 z M.qs.length).map V.int) (by rw [rgL_len, List.length_map, addR_len]) walk_rgL nD2 (by rw [rgL_len]; omega) (fun _ _ => True.intro) (fun _ => rfl) (fun c v y hv hy H3 s3 R kR => ?_) fun H3 s3 hD2 => ?_⟩
        · obtain ⟨rfl, hc⟩ := rgL_get hv
          rw [List.getElem?_map, List.getElem?_eq_getElem (by rw [addR_len]; exact hc)] at hy
          have e1 : (addR fs u.2 z M.qs.length)[c]'(by rw [addR_len]; exact hc) = ent fs c + z * ent u.2 c := by rw [← addR_ent fs u.2 z hc, ent, getD_lt (by rw [addR_len]; exact hc)]
          rw [e1] at hy
          obtain rfl := Option.some.inj hy
          have b1 := ent_trit ut c
          have c41 : (10 : Nat) ^ 12 < 2 ^ 41 := by decide
          exact ⟨_, rfl, _, rfl, p, _, _, _, rfl, rfl, SqL.of (s3 _ _ ep2), atI_entM (by omega), _, rfl, _, rfl, _, rfl, u.1, _, _, _, rfl, rfl, SqL.of (s3 _ _ eu2), atI_entM (by omega), _, _, rfl, rfl, wide_mul (a := 41) (b := 1) (by omega) (by omega) (by decide) (by decide) (by decide), _, _, rfl, rfl, kR _ (Same.refl _)⟩
        · dsimp only [gName]
          refine ⟨D2, addR fs u.2 z M.qs.length, _, _, _, _, rfl, (g1.trans g2).trans fun b o _ e => s3 _ _ e, by obtain ⟨x, y, z, e, r⟩ := w2; exact ⟨x, y, z, s3 _ _ e, by omega, r.2.1, r.2.2.1, by omega⟩, (w2.ne nD2).symm, hD2, addR_len _ _ _ _, ?_, fun c => ?_⟩
          · refine (cf.add ((kept_cut ok uk).mul z)).congr fun c hc => ?_
            rw [addR_ent fs u.2 z (by omega)]
          · by_cases hc : c < M.qs.length
            · rw [addR_ent fs u.2 z hc]
              have h1 := Int.natAbs_add_le (ent fs c) (z * ent u.2 c)
              rw [Int.natAbs_mul] at h1
              have h2 := fb c
              have h3 := Nat.mul_le_mul hz (ent_trit ut c)
              omega
            · rw [ent_big (by rw [addR_len]; omega)]
              exact Nat.zero_le _
      · obtain ⟨p, fs, o4, o5, o6, o7, rfl, g1, w1, pa, ep, fl, cf, fb⟩ := z
        rw [rf_len] at w1 fb
        exact ⟨_, rfl, k p fs H' g1 (w1.mono (by omega)) ep pa fl cf fun c => Nat.le_trans (fb c) (by omega)⟩
end
end RV
/-! k31: what is shown -/
namespace RV
open PySem L2 TL
section
variable {P : Program} {w : World} {K : PySem.W.Frag} {mg : Str → Option Value} {base : Heap} {CN CP CM CS : Addr}
theorem ok_shownM {f : Addr} {fd : FuncData} (F : Fun K "_law_shown" "_law_shown" s_shown f fd) (T : Blt mg) (h_dip : Fn P w K mg base "_law_dip" 1 ["_law_well_here", "_law_many"] (Irr sp_dip)) (h_number : Fn P w K mg base "_law_number" 2 ["_law_well_here"] (Irr sp_numW)) : FnOk P w K mg base CX0 3 f fd ["_law_well_here", "_law_model_here", "_law_flow_here", "_law_other", "_law_bad", "_law_mute"] sp_shownM := by
  refine F.ok sc_shown (fun vs H Q E h => ?_) (fun cdv A outer s H vs Q E hr h => ?_)
  · obtain ⟨_, _, _, _, _, _, _, _, _, _, _, rfl, _⟩ := h
    rfl
  · obtain ⟨a, l, lf, lo, n, bad, mute, M, more, fs, os, rfl, wl, hn, b3, m3, md, ok, o12, fa, ef, oa, eo, fl, ol, fb, ob, k⟩ := h
    have hu := Nat.lt_of_le_of_lt (Nat.le_add_right _ 64) hr.units
    refine ⟨_, (pss_cons (ps_setLc (i := 6) (own := [("_law_k", 9)]) (g := gName 9) rfl sc_shown.nd rfl rfl (sw_true rfl rfl rfl (by decide +kernel)) (pi_range1 rfl T.b_range (pa_cons (pe_callB call_len_seq (by rfl) T.b_len (by decide +kernel) (pa_cons (pe_ix ix_list (pv 1) pe_int (fun _ _ => rfl)) pa_nil)) pa_nil)) (blkOk_by (N := sc_shown_N) (sc := defScope s_shown) (by decide +kernel)) (fun _ _ _ _ _ => pg_name (i := 9) sc_shown.nd rfl (Or.inl rfl)) (fun _ _ _ _ _ => pts_one (pt_not (pt_val (pe_ix (ix_tupK (K := K)) (pe_ix (ix_listK (K := K)) (pe_ix (ix_listK (K := K)) (pv 1) pe_int (fun _ _ => rfl)) (pv 9) (fun _ _ => rfl)) pe_int (fun _ _ => rfl))))) (fun _ _ _ _ _ => (pv 9)))
      (pss_cons (ps_setLc (i := 7) (own := [("_law_gauge", 11)]) (g := gName 11) (tt := tYes) rfl sc_shown.nd rfl rfl (sw_true rfl rfl rfl (by decide +kernel)) (pi_list (pe_ix ix_list (pv 1) pe_int (fun _ _ => rfl))) (blkOk_by (N := sc_shown_N) (sc := defScope s_shown) (by decide +kernel)) (fun _ _ _ _ _ => pg_name (i := 11) sc_shown.nd rfl (Or.inl rfl)) (fun _ _ _ _ _ => pts_nil) (fun _ _ _ _ _ => (pe_ix (ix_listK (K := K)) (pv 2) (pe_ix (ix_tupK (K := K)) (pv 11) pe_int (fun _ _ => rfl)) (fun _ _ => rfl))))
      (pss_cons (ps_for PassesOwn.never rfl (pi_range1 rfl T.b_range (pa_cons (pe_op op_add (pv 4) (pv 5)) pa_nil)) (pg_name (i := 8) sc_shown.nd rfl (Or.inl rfl)) (pss_one (ps_if (pt_cmpR (op_neE hu) (pv 6) (pe_lst pa_nil) (nomark _)) (pss_cons (ps_set (i := 9) sc_shown.nd rfl (Or.inr rfl) (pe_ix ix_list (pv 6) (pe_fn h_dip (hr.mono (by decide)) (pa_cons (pv 0) (pa_cons (pe_callB call_len_seq (by rfl) T.b_len (by decide +kernel) (pa_cons (pv 6) pa_nil)) pa_nil))) (fun _ _ => rfl))) (pss_cons (ps_setLc (i := 6) (own := [("_law_rest", 12)]) (g := gName 12) rfl sc_shown.nd rfl rfl (sw_true rfl rfl rfl (by decide +kernel)) (pi_list (pv 6)) (blkOk_by (N := sc_shown_N) (sc := defScope s_shown) (by decide +kernel)) (fun _ _ _ _ _ => pg_name (i := 12) sc_shown.nd rfl (Or.inl rfl)) (fun _ _ _ _ _ => pts_one (pt_cmpR op_ne (pv 12) (pv 9) (nomark _))) (fun _ _ _ _ _ => (pv 12))) (pss_cons (ps_set (i := 10) sc_shown.nd rfl (Or.inl rfl) (pe_ifExp (pt_cmpR op_gt (pe_fn h_dip (hr.mono (by decide)) (pa_cons (pv 0) (pa_cons pe_int pa_nil))) pe_int (nomark _)) (pe_ix ix_list (pv 3) (pe_ix ix_tup (pe_ix ix_list (pe_ix ix_list (pv 1) pe_int (fun _ _ => rfl)) (pv 9) (fun _ _ => rfl)) pe_int (fun _ _ => rfl)) (fun _ _ => rfl)) (pe_fn h_number (hr.mono (by decide)) (pa_cons (pv 0) pa_nil)))) (pss_one (ps_asg (pe_ifExp (pt_cmpR op_lt (pv 8) (pv 5) (nomark _)) pe_non (pv 10)) (pg_sub (pv 7) (pv 9) set_list)))))) pss_nil)))
      (pss_one (ps_ret (pv 7)))))), ?_⟩
    have q5 := ok.qm
    have g12 := ok.gm
    obtain ⟨kp, kq, kg, gv, i1, i2, i3, i4, i5⟩ := md.gau
    have gvk : ∀ {c : Nat}, c < M.gs.length → ∃ u : GU, gv[c]? = some u ∧ M.gs[c]? = some u.2 ∧ u.2.2.1 < M.qs.length ∧ H u.1 = some (oG u.2) ∧ atI (rf gv) ((c : Nat) : Int) = some (V.ref u.1) := fun {c} hc => by
      obtain ⟨u, hu2⟩ : ∃ u, gv[c]? = some u := ⟨_, List.getElem?_eq_getElem (by omega)⟩
      have e := sn_get hu2
      rw [i3] at e
      exact ⟨u, hu2, e, (ok.gn _ (List.mem_of_getElem? e)).2, (i5 u (List.mem_of_getElem? hu2)).1, atI_nat (by rw [rf, List.getElem?_map, hu2]; rfl)⟩
    refine ⟨_, rfl, l, _, 2, _, rfl, rfl, SqL.of i1, rfl, kg, _, rfl, .inl (SqL.of i2), M.gs.length, by rw [rf_len, i4], by omega, by omega, fun D nD => ?_⟩
    refine lc_idx (List.range M.gs.length) (fun c => !(M.gs.getD c ("", 0, false)).2.2) vI (by rw [← rgL_eq]; exact walk_rgL) nD (by rw [List.length_range]; omega) (fun _ _ => True.intro) (fun _ => rfl) (fun c hc H2 s2 R hR => ?_) (fun c hc pc H2 s2 R hR => ⟨_, rfl, hR H2 (Same.refl _)⟩) fun H1 s1 hD => ?_
    · obtain ⟨u, hu2, e, ug, eu, atu⟩ := gvk (List.mem_range.mp hc)
      refine ⟨_, rfl, l, _, 2, _, rfl, rfl, SqL.of (s2 _ _ i1), rfl, _, rfl, kg, _, _, _, rfl, rfl, SqL.of (s2 _ _ i2), atu, u.1, _, 2, _, rfl, rfl, SqT.of (s2 _ _ eu), rfl, u.2.2.2, rfl, ?_⟩
      have e2 : (M.gs.getD c ("", 0, false)).2.2 = u.2.2.2 := by rw [List.getD, e]; rfl
      rw [← e2]
      exact hR H2 (Same.refl _)
    · dsimp only [gName]
      obtain ⟨FR, hFR⟩ : ∃ FR : List Nat, FR = (List.range M.gs.length).filter fun c => !(M.gs.getD c ("", 0, false)).2.2 := ⟨_, rfl⟩
      rw [← hFR] at hD
      refine ⟨_, rfl, l, _, 2, _, rfl, rfl, SqL.of (s1 _ _ i1), rfl, kg, rfl, ⟨_, SqL.of (s1 _ _ i2)⟩, fun D7 nD7 => ?_⟩
      refine lc_to (xs := rf gv) (vR (M.gs.map fun g => some (ent fs g.2.1))) (by rw [vR, List.length_map, List.length_map, rf_len, i4]) walk_list nD7 (by rw [rf_len]; omega) (fun H' s' => SqL.of (s' _ _ (s1 _ _ i2))) (fun _ => rfl) (fun c v y hv hy2 H2 s2 R hR => ?_) fun H2 s2 hD7 => ?_
      · obtain ⟨u0, hu0, rfl⟩ := rf_get hv
        obtain ⟨u, hu2, e, ug, eu, atu⟩ := gvk (c := c) (by have := (List.getElem?_eq_some_iff.mp hu0).1; omega)
        obtain rfl : u0 = u := Option.some.inj (hu0.symm.trans hu2)
        rw [vR, List.getElem?_map, List.getElem?_map, e] at hy2
        obtain rfl := Option.some.inj hy2
        exact ⟨_, rfl, _, rfl, u0.1, _, 1, _, rfl, rfl, SqT.of (s2 _ _ (s1 _ _ eu)), rfl, lf, _, _, _, rfl, rfl, SqL.of (s2 _ _ (s1 _ _ ef)), atI_entM (by omega), hR H2 (Same.refl _)⟩
      · have s12 := s1.trans s2
        obtain ⟨rs0, hrs0⟩ : ∃ rs0, rs0 = M.gs.map fun g => some (ent fs g.2.1) := ⟨_, rfl⟩
        rw [← hrs0] at hD7
        have r0k : ∀ (c : Nat) (g : G3), M.gs[c]? = some g → rO rs0 c = some (ent fs g.2.1) := fun c g e => by
          rw [hrs0, rO, List.getD, List.getElem?_map, e]
          rfl
        have r0v : ∀ c v, rO rs0 c = some v → ∃ g, M.gs[c]? = some g ∧ v = ent fs g.2.1 := fun c v e => by
          cases z : M.gs[c]? with
          | none =>
            rw [hrs0, rO, List.getD, List.getElem?_map, z] at e
            cases e
          | some g => exact ⟨g, rfl, Option.some.inj (e.symm.trans (r0k c g z))⟩
        have b1 : Bag H a n [(D7, .lst (vR rs0))] [(D, .lst (FR.map vI))] H2 := by
          obtain ⟨x, y, z, e, r⟩ := id wl
          have n0 : H D7 = none := by
            cases q : H D7 with
            | none => rfl
            | some o => rw [s1 _ _ q] at nD7; cases nD7
          refine ⟨fun b o _ e => s12 _ _ e, ⟨x, y, z, s12 _ _ e, r⟩, fun p hp => ?_, by simp, fun q hq => ?_⟩
          · rw [List.mem_singleton.mp hp]
            exact ⟨n0, (wl.ne n0).symm, hD7⟩
          · rw [List.mem_singleton.mp hq]
            refine ⟨(wl.ne nD).symm, s2 _ _ hD, fun p hp => ?_⟩
            rw [List.mem_singleton.mp hp]
            exact ne_of_none hD nD7
        dsimp only [gName]
        refine ⟨_, rfl, _, rfl, _, _, rfl, rfl, (bad : Int) + mute, rfl, by omega, by omega, for_range (lo := 0) (n := ((bad : Int) + mute).toNat) (fun j σ H' => ∃ (q6 : Addr) (fr : List Nat) (rs : List (Option Int)) (o8 o9 o10 o11 o12 : Option V), σ = [some (.ref a), some (.ref l), some (.ref lf), some (.ref lo), some (.int (bad : Nat)), some (.int (mute : Nat)), some (.ref q6), some (.ref D7), o8, o9, o10, o11, o12] ∧ Bag H a (n + 10 * j) [(D7, .lst (vR rs))] [(q6, .lst (fr.map vI))] H' ∧ fr.length ≤ 12 ∧ rs.length = M.gs.length ∧ (∀ c ∈ fr, ∃ g : G3, M.gs[c]? = some g ∧ g.2.2 = false ∧ rO rs c = some (ent fs g.2.1)) ∧ (∀ (c : Nat) (g : G3), M.gs[c]? = some g → g.2.2 = true → rO rs c = some (ent fs g.2.1)) ∧ badN M fs rs ≤ j - mute ∧ ∀ c v, rO rs c = some v → v.natAbs ≤ 10 ^ 16) ⟨D, FR, rs0, _, _, _, _, _, rfl, b1, ?_, by rw [hrs0, List.length_map], fun c hc => ?_, fun c g e _ => r0k c g e, ?_, fun c v e => ?_⟩ ?_ ?_⟩
        · rw [hFR]
          exact Nat.le_trans (List.length_filter_le _ _) (by rw [List.length_range]; omega)
        · rw [hFR] at hc
          obtain ⟨h1, h2⟩ := List.mem_filter.mp hc
          obtain ⟨u, _, e, _⟩ := gvk (List.mem_range.mp h1)
          rw [List.getD, e] at h2
          exact ⟨u.2, e, by simpa using h2, r0k c _ e⟩
        · rw [badN, List.filter_eq_nil_iff.mpr fun c hc => ?_]
          · exact Nat.zero_le _
          · obtain ⟨u, _, e, _⟩ := gvk (List.mem_range.mp hc)
            rw [badB, r0k c _ e, List.getD, e]
            simp
        · obtain ⟨g, _, rfl⟩ := r0v c v e
          exact fb _
        · rintro j σ H3 hj ⟨q6, fr, rs, o8, o9, o10, o11, o12, rfl, b2, frl, rl, hfr, hse, hbd, hvb⟩
          dsimp only [gName]
          have eq6 := b2.at List.mem_cons_self
          refine ⟨_, rfl, (by show 0 ≤ sizeLine; decide), fun q nq => ⟨q6, q, _, rfl, rfl, SqL.of ((upd_ne (ne_of_none eq6 nq)).trans eq6), SqL.of upd_same, _, rfl, ?_⟩⟩
          have b3 := (b2.new (o := .lst []) nq).sub (F' := [(q6, .lst (fr.map vI))]) fun p hp => by rw [List.mem_singleton.mp hp]; exact List.mem_cons_of_mem _ List.mem_cons_self
          by_cases fe : fr = []
          · rw [show (fr.map vI).isEmpty = true from by rw [fe]; rfl]
            refine iteF ?_
            dsimp only [tNext]
            exact ⟨q6, fr, rs, _, _, _, _, _, rfl, b3.wm (by omega), frl, rl, hfr, hse, by omega, hvb⟩
          · rw [show (fr.map vI).isEmpty = false from by cases fr with | nil => exact absurd rfl fe | cons => rfl]
            refine iteT ?_
            have f0 : 0 < fr.length := by
              cases fr with
              | nil => exact absurd rfl fe
              | cons => exact Nat.succ_pos _
            refine ⟨_, rfl, _, rfl, _, rfl, q6, _, rfl, .inl (SqL.of (b3.at List.mem_cons_self)), b3.dip (by omega) (by rw [List.length_map]; omega) (by rw [List.length_map]; omega) fun r H4 r0 r1 b4 => ?_⟩
            rw [List.length_map] at r1
            obtain ⟨c0, rfl⟩ : ∃ c : Nat, r = c := ⟨r.toNat, by omega⟩
            have c0l : c0 < fr.length := by omega
            obtain ⟨k0, hk0⟩ : ∃ k0, fr[c0]? = some k0 := ⟨_, List.getElem?_eq_getElem c0l⟩
            obtain ⟨g0, hg0, gz0, hr0⟩ := hfr k0 (List.mem_of_getElem? hk0)
            have k0l : k0 < M.gs.length := (List.getElem?_eq_some_iff.mp hg0).1
            refine ⟨q6, _, c0, vI k0, rfl, rfl, SqL.of (b4.at List.mem_cons_self), atI_nat (by rw [List.getElem?_map, hk0]; rfl), ?_⟩
            dsimp only [gName]
            refine ⟨_, rfl, q6, rfl, ⟨_, SqL.of (b4.at List.mem_cons_self)⟩, fun D9 nD9 => ?_⟩
            refine lc_idx fr (fun c => !decide (c = k0)) vI walk_idx nD9 (by omega) (fun H' s' => SqL.of (s' _ _ (b4.at List.mem_cons_self))) (fun _ => rfl) (fun c hc H5 s5 R hR => ?_) (fun c hc pc H5 s5 R hR => ⟨_, rfl, hR H5 (Same.refl _)⟩) fun H5 s5 hD9 => ?_
            · refine ⟨_, rfl, _, rfl, rfl, !decide (c = k0), ?_, hR H5 (Same.refl _)⟩
              congr 2
              exact decide_eq_decide.mpr ⟨fun e => by have := V.int.inj e; omega, fun e => by rw [e]⟩
            · obtain ⟨fr2, hfr2⟩ : ∃ fr2, fr2 = fr.filter fun c => !decide (c = k0) := ⟨_, rfl⟩
              rw [← hfr2] at hD9
              have b5 := (b4.addN nD9 (b4.well.ne nD9).symm (fun b o _ e => s5 b o e) (b4.same s5).well hD9).sub (F' := [(D9, .lst (fr2.map vI))]) fun p hp => by rw [List.mem_singleton.mp hp]; exact List.mem_cons_self
              dsimp only [gName]
              refine seqval_of (fun v H' => ∃ z : Int, v = .int z ∧ z.natAbs ≤ 10 ^ 16 ∧ Bag H a (n + 10 * j + 5) [(D7, .lst (vR rs))] [(D9, .lst (fr2.map vI))] H') (fun v H6 z => ?_) fun Q' hQ => ?_
              · obtain ⟨z, rfl, zb, b6⟩ := z
                dsimp only [gName]
                have k0r : k0 < rs.length := by omega
                have ixk : ixN (vR rs).length (k0 : Int) = some k0 := ixN_nat (by rw [vR, List.length_map]; exact k0r)
                have fr2s : ∀ c ∈ fr2, c ∈ fr ∧ c ≠ k0 := fun c hc => by
                  rw [hfr2] at hc
                  obtain ⟨h1, h2⟩ := List.mem_filter.mp hc
                  exact ⟨h1, by simpa using h2⟩
                have fin : ∀ o : Option Int, (∀ v, o = some v → v.natAbs ≤ 10 ^ 16) → badN M fs (rs.set k0 o) ≤ j + 1 - mute → ∃ (q6 : Addr) (fr : List Nat) (rs' : List (Option Int)) (p8 p9 p10 p11 p12 : Option V), [some (.ref a), some (.ref l), some (.ref lf), some (.ref lo), some (.int (bad : Nat)), some (.int (mute : Nat)), some (.ref D9), some (.ref D7), some (.int (0 + (j : Int))), some (vI k0), some (.int z), o11, o12] = [some (.ref a), some (.ref l), some (.ref lf), some (.ref lo), some (.int (bad : Nat)), some (.int (mute : Nat)), some (.ref q6), some (.ref D7), p8, p9, p10, p11, p12] ∧ Bag H a (n + 10 * (j + 1)) [(D7, .lst (vR rs'))] [(q6, .lst (fr.map vI))] (upd H6 D7 (.lst ((vR rs).set k0 (vO o)))) ∧ fr.length ≤ 12 ∧ rs'.length = M.gs.length ∧ (∀ c ∈ fr, ∃ g : G3, M.gs[c]? = some g ∧ g.2.2 = false ∧ rO rs' c = some (ent fs g.2.1)) ∧ (∀ (c : Nat) (g : G3), M.gs[c]? = some g → g.2.2 = true → rO rs' c = some (ent fs g.2.1)) ∧ badN M fs rs' ≤ j + 1 - mute ∧ ∀ c v, rO rs' c = some v → v.natAbs ≤ 10 ^ 16 := fun o ho hb => by
                  refine ⟨D9, fr2, rs.set k0 o, _, _, _, _, _, rfl, ?_, ?_, by rw [List.length_set]; exact rl, fun c hc => ?_, fun c g e gz => ?_, hb, fun c v e => ?_⟩
                  · rw [vR_set]
                    exact b6.put0.wm (by omega)
                  · rw [hfr2]
                    exact Nat.le_trans (List.length_filter_le _ _) frl
                  · obtain ⟨h1, h2⟩ := fr2s c hc
                    rw [rO_set k0r, if_neg h2]
                    exact hfr c h1
                  · rw [rO_set k0r, if_neg fun z => ?_]
                    · exact hse c g e gz
                    · rw [z, hg0] at e
                      obtain rfl := Option.some.inj e
                      rw [gz0] at gz
                      cases gz
                  · rw [rO_set k0r] at e
                    by_cases q : c = k0
                    · rw [if_pos q] at e
                      exact ho v e
                    · rw [if_neg q] at e
                      exact hvb c v e
                have ed7 := b6.am List.mem_cons_self
                refine ⟨_, rfl, _, rfl, _, _, rfl, rfl, _, rfl, ?_⟩
                by_cases jm : (0 + (j : Int)) < (mute : Int)
                · rw [decide_eq_true jm]
                  refine iteT ⟨_, rfl, _, rfl, D7, _, _, k0, rfl, rfl, ed7, ixk, ?_⟩
                  exact fin none (fun v e => nomatch e) (Nat.le_trans (badN_non k0r) (by omega))
                · rw [decide_eq_false jm]
                  refine iteF ⟨_, rfl, _, rfl, _, rfl, D7, _, _, k0, rfl, rfl, ed7, ixk, ?_⟩
                  exact fin (some z) (fun v e => by obtain rfl := Option.some.inj e; exact zb) (Nat.le_trans (badN_int k0r) (by omega))
              · refine ⟨_, rfl, b5.dip (by omega) (by decide) (by decide) fun r6 H6 _ _ b6 => ⟨_, _, rfl, rfl, _, rfl, ?_⟩⟩
                refine ite2 (fun _ => ?_) fun _ => ?_
                · obtain ⟨u, hu2, e, ug, eu, atu⟩ := gvk k0l
                  have K6 : ∀ {p o}, H p = some o → noW o = true → H6 p = some o := fun e nw => wl.keep b6.gr e nw
                  refine ⟨_, rfl, _, rfl, l, _, 2, _, rfl, rfl, SqL.of (K6 i1 rfl), rfl, _, rfl, kg, _, _, _, rfl, rfl, SqL.of (K6 i2 (noW_rf _)), atu, u.1, _, 1, _, rfl, rfl, SqT.of (K6 eu rfl), rfl, lo, _, _, _, rfl, rfl, SqL.of (b6.gr _ _ oa eo), atI_entM (by omega), ?_⟩
                  exact hQ _ _ ⟨_, rfl, ob _, b6.wm (by omega)⟩
                · refine ⟨_, rfl, irr ⟨a, _, rfl, b6.well, by omega, fun z H7 hz g7 w7 => ?_⟩⟩
                  exact hQ _ _ ⟨z, rfl, Nat.le_trans hz (by decide), (b6.grow g7 w7).wm (by omega)⟩
        · rintro σ H3 ⟨q6, fr, rs, o8, o9, o10, o11, o12, rfl, b2, frl, rl, hfr, hse, hbd, hvb⟩
          exact ⟨_, rfl, k D7 rs H3 b2.gr (b2.well.mono (by omega)) (b2.am List.mem_cons_self) (b2.m _ List.mem_cons_self).2.1 rl hse (by omega) hvb⟩
end
end RV
/-! k31: the law's judge -/
namespace RV
open PySem L2 TL
section
variable {P : Program} {w : World} {K : PySem.W.Frag} {mg : Str → Option Value} {base : Heap} {CN CP CM CS : Addr}
theorem ok_right31 {f : Addr} {fd : FuncData} (F : Fun K "_law_right" "_law_right" s_right f fd) (T : Blt mg) (T2 : Blt2 mg) (NC : NClass K mg CN) (h_dip : Fn P w K mg base "_law_dip" 1 ["_law_well_here", "_law_many"] (Irr sp_dip)) (h_model : Fn P w K mg base "_law_model" 3 ["_law_well_here", "_law_most", "_law_more"] (Irr sp_model)) (h_text : Fn P w K mg base "_law_text" 1 ["_law_model_here"] (Irr sp_mtext)) (h_rings : Fn P w K mg base "_law_rings" 3 ["_law_model_here"] (Irr sp_ringsM))
    (h_flow : Fn P w K mg base "_law_flow" 3 ["_law_well_here", "_law_model_here", "_law_rings_here"] (Irr sp_flowM)) (h_shown : Fn P w K mg base "_law_shown" 3 ["_law_well_here", "_law_model_here", "_law_flow_here", "_law_other", "_law_bad", "_law_mute"] (Irr sp_shownM)) (h_read : ClsM P w K mg base CN "read" 8 ["cls", "text"] (Irr (sp_nread K CN CP CM))) (h_votes : Fn P w K mg base "votes" 9 ["net", "pipe"] (Irr (sp_votes K CN CP CM CS)))
    (h_strength : Fn P w K mg base "strength" 8 ["net", "pipe"] (Irr (sp_stren K CN CP CM))) (h_tally : Fn P w K mg base "tally" 10 ["net", "pipe", "readings"] (Irr (sp_tal K CN CP CM))) (h_value_of : Fn P w K mg base "value_of" 7 ["net", "total", "readings"] (Irr (sp_vof K CN CP CM CS))) : FnG P w K mg base 11 f fd ["_law_well_here"] sp_right23 := by
  refine gFun F sc_right (fun vs H Q E h => ?_) (fun cdv A outer s H vs Q E gs hr h => ?_)
  · obtain ⟨_, _, rfl, _⟩ := h
    rfl
  · obtain ⟨a, n, rfl, wl, hn, k⟩ := h
    refine ⟨_, (pss_cons (ps_set (i := 1) sc_right.nd rfl (Or.inl rfl) (pe_fn h_model (hr.mono (by decide)) (pa_cons (pv 0) (pa_cons pe_int (pa_cons pe_int pa_nil)))))
      (pss_cons (ps_asg (pe_tup (pa_cons (pe_cm h_read (hr.mono (by decide)) (pe_gC NC.k) (pa_cons (pe_fn h_text (hr.mono (by decide)) (pa_cons (pv 1) pa_nil)) pa_nil)) (pa_cons (pe_fn h_rings (hr.mono (by decide)) (pa_cons (pv 1) pa_nil)) pa_nil))) (pg_tup (by rfl) (pgs_cons (pg_name (i := 2) sc_right.nd rfl (Or.inr rfl)) (pgs_cons (pg_name (i := 3) sc_right.nd rfl (Or.inl rfl)) pgs_nil))))
      (pss_cons (ps_asg (pe_tup (pa_cons (pe_fn h_flow (hr.mono (by decide)) (pa_cons (pv 0) (pa_cons (pv 1) (pa_cons (pv 3) pa_nil)))) (pa_cons (pe_fn h_flow (hr.mono (by decide)) (pa_cons (pv 0) (pa_cons (pv 1) (pa_cons (pv 3) pa_nil)))) pa_nil))) (pg_tup (by rfl) (pgs_cons (pg_name (i := 4) sc_right.nd rfl (Or.inr rfl)) (pgs_cons (pg_name (i := 5) sc_right.nd rfl (Or.inl rfl)) pgs_nil))))
      (pss_cons (ps_par (i := 6) (j := 7) (by rfl) sc_right.nd rfl rfl (by decide) rfl rfl (pa_cons (pe_fn h_dip (hr.mono (by decide)) (pa_cons (pv 0) (pa_cons pe_int pa_nil))) (pa_cons (pe_fn h_dip (hr.mono (by decide)) (pa_cons (pv 0) (pa_cons pe_int pa_nil))) pa_nil)) (by rfl))
      (pss_cons (ps_set (i := 8) sc_right.nd rfl (Or.inr rfl) (pe_fn h_shown (hr.mono (by decide)) (pa_cons (pv 0) (pa_cons (pv 1) (pa_cons (pv 4) (pa_cons (pv 5) (pa_cons (pv 6) (pa_cons (pv 7) pa_nil))))))))
      (pss_cons (ps_set (i := 9) sc_right.nd rfl (Or.inl rfl) (pe_callB call_len_seq (by rfl) T.b_len (by decide +kernel) (pa_cons (pe_lc (own := [("_law_one", 15)]) (g := gName 15) rfl sc_right.nd (pi_list (pv 8)) (blkOk_by (N := sc_right_N) (sc := defScope s_right) (by decide +kernel)) (fun _ _ _ _ _ => pg_name (i := 15) sc_right.nd rfl (Or.inl rfl)) (fun _ _ _ _ _ => pts_one (pt_cmpR op_isN (pv 15) pe_non (nomark _))) (fun _ _ _ _ _ => (pv 15))) pa_nil)))
      (pss_cons (ps_for PassesOwn.never rfl (pi_range1 rfl T.b_range (pa_cons (pe_callB call_len_seq (by rfl) T.b_len (by decide +kernel) (pa_cons (pe_ix ix_list (pv 1) pe_int (fun _ _ => rfl)) pa_nil)) pa_nil)) (pg_name (i := 10) sc_right.nd rfl (Or.inr rfl)) (pss_cons (ps_set (i := 11) sc_right.nd rfl (Or.inl rfl) (pe_ix ix_tup (pe_ix ix_list (pe_ix ix_list (pv 1) pe_int (fun _ _ => rfl)) (pv 10) (fun _ _ => rfl)) pe_int (fun _ _ => rfl))) (pss_cons (ps_par (i := 12) (j := 13) (by rfl) sc_right.nd rfl rfl (by decide) rfl rfl (pa_cons (pe_fn h_tally (hr.mono (by decide)) (pa_cons (pv 2) (pa_cons (pv 11) (pa_cons (pe_callTy call_tuple_of (by rfl) T2.b_tuple (by decide +kernel) (pa_cons (pv 8) pa_nil)) pa_nil)))) (pa_cons (pe_fn h_strength (hr.mono (by decide)) (pa_cons (pv 2) (pa_cons (pv 11) pa_nil))) pa_nil)) (by rfl)) (pss_cons (ps_if (PW.pt (pw_or (pt_not (pt_val (pe_callB call_isi (by rfl) T.b_isinstance (by decide +kernel) (pa_cons (pv 12) (pa_cons (pe_bltn (v := .ty "tuple") (by rfl) T2.b_tuple (by decide +kernel) rfl) pa_nil))))) (pw_or1 (pt_cmpR op_ne (pe_callB call_len_seq (by rfl) T.b_len (by decide +kernel) (pa_cons (pv 12) pa_nil)) (pe_ifExp (pt_cmpR op_isN (pv 13) pe_non (nomark _)) pe_int (pv 13)) (nomark _))))) (pss_one (ps_ret pe_bl)) pss_nil) (pss_cons (ps_if (pt_not (pt_val (pe_callB (cr_all rfl) (by rfl) T.b_all (by decide +kernel) (pa_cons (pe_lc (own := [("_law_one", 15)]) (g := gName 15) (tt := tYes) rfl sc_right.nd (pi_tup (pv 12)) (blkOk_by (N := sc_right_N) (sc := defScope s_right) (by decide +kernel)) (fun _ _ _ _ _ => pg_name (i := 15) sc_right.nd rfl (Or.inl rfl)) (fun _ _ _ _ _ => pts_nil) (fun _ _ _ _ _ => (pe_or (pe_cmpR op_isN (pv 15) pe_non (nomark _)) (pe_one (pe_and (pe_callB (call_isiK (K := K)) (by rfl) T.b_isinstance (by decide +kernel) (pa_cons (pv 15) (pa_cons (pe_bltn (v := .ty "int") (by rfl) T.b_int (by decide +kernel) rfl) pa_nil))) (pe_one (pe_not (pe_callB (call_isiK (K := K)) (by rfl) T.b_isinstance (by decide +kernel) (pa_cons (pv 15) (pa_cons (pe_bltn (v := .ty "bool") (by rfl) T2.b_bool (by decide +kernel) rfl) pa_nil)))))))))) pa_nil)))) (pss_one (ps_ret pe_bl)) pss_nil) (pss_cons (ps_setLc (i := 14) (own := [("_law_one", 15)]) (g := gName 15) rfl sc_right.nd rfl rfl (sw_true rfl rfl rfl (by decide +kernel)) (pi_tup (pv 12)) (blkOk_by (N := sc_right_N) (sc := defScope s_right) (by decide +kernel)) (fun _ _ _ _ _ => pg_name (i := 15) sc_right.nd rfl (Or.inl rfl)) (fun _ _ _ _ _ => pts_one (pt_cmpR op_notN (pv 15) pe_non (nomark _))) (fun _ _ _ _ _ => (pv 15))) (pss_cons (ps_if (PW.pt (pw_or (pt_cmpR op_gt (pe_op op_sub (pe_callB call_len_seq (by rfl) T.b_len (by decide +kernel) (pa_cons (pv 12) pa_nil)) (pe_callB call_len_seq (by rfl) T.b_len (by decide +kernel) (pa_cons (pv 14) pa_nil))) (pv 9) (nomark _)) (pw_or1 (pt_cmpR op_gt (pe_callB call_len_seq (by rfl) T.b_len (by decide +kernel) (pa_cons (pe_lc (own := [("_law_one", 15)]) (g := gName 15) rfl sc_right.nd (pi_list (pv 14)) (blkOk_by (N := sc_right_N) (sc := defScope s_right) (by decide +kernel)) (fun _ _ _ _ _ => pg_name (i := 15) sc_right.nd rfl (Or.inl rfl)) (fun _ _ _ _ _ => pts_one (pt_cmpR op_ne (pv 15) (pe_ix (ix_listK (K := K)) (pv 4) (pv 10) (fun _ _ => rfl)) (nomark _))) (fun _ _ _ _ _ => (pv 15))) pa_nil)) (pv 6) (nomark _))))) (pss_one (ps_ret pe_bl)) pss_nil) (pss_cons (ps_if (PW.pt (pw_and (pt_cmpR op_isN (pv 13) pe_non (nomark _)) (pw_and1 (pt_cmpR (op_neD hr.units) (pv 12) (pe_tup (pa_cons (pe_ix ix_list (pv 4) (pv 10) (fun _ _ => rfl)) pa_nil)) (nomark _))))) (pss_one (ps_ret pe_bl)) pss_nil) (pss_one (ps_if (pt_cmpR op_ne (pe_callB (call_reprD hr.units gs) (by rfl) T.b_repr (by decide +kernel) (pa_cons (pv 12) pa_nil)) (pe_callB (call_reprD hr.units gs) (by rfl) T.b_repr (by decide +kernel) (pa_cons (pe_callTy call_tuple_of (by rfl) T2.b_tuple (by decide +kernel) (pa_cons (pe_lc (own := [("_law_total", 16)]) (g := gName 16) (tt := tYes) rfl sc_right.nd (pi_tup (pe_fn h_votes (hr.mono (by decide)) (pa_cons (pv 2) (pa_cons (pv 11) pa_nil)))) (blkOk_by (N := sc_right_N) (sc := defScope s_right) (by decide +kernel)) (fun _ _ _ _ _ => pg_name (i := 16) sc_right.nd rfl (Or.inl rfl)) (fun _ _ _ _ _ => pts_nil) (fun _ _ _ _ _ => (pe_fn h_value_of (hr.mono (by decide)) (pa_cons (pv 2) (pa_cons (pv 16) (pa_cons (pe_callTy (call_tuple_ofK (K := K)) (by rfl) T2.b_tuple (by decide +kernel) (pa_cons (pv 8) pa_nil)) pa_nil)))))) pa_nil)) pa_nil)) (nomark _)) (pss_one (ps_ret pe_bl)) pss_nil))))))))))
      (pss_one (ps_ret pe_bl))))))))), ?_⟩
    refine ⟨_, rfl, irr ⟨a, n, 5, 6, rfl, wl, hn, by decide, by decide, by decide, fun l lp lq lg pl pu gu H1 h1 ok => ?_⟩⟩
    generalize hM : Mod.mk pl (sn pu) (sn gu) = M at ok
    have md : MdAt H1 l M := by
      subst hM
      exact ⟨lp, lq, lg, pu, gu, rfl, rfl, fun p hp => h1.at hp⟩
    have gr1 : Grow a H H1 := h1.gr
    have w1 : WellAt H1 a (n + 2000) := h1.well
    clear h1 hM
    have po := ok.po (by decide)
    have mo := ok.mo (by decide)
    have qm := ok.qm
    have gm := ok.gm
    dsimp only [gName]
    refine ⟨rfl, _, rfl, irr ⟨l, M, 5, 6, rfl, md, ok, by decide, by decide, fun H2 s2 => irr ⟨M.ps, M.ms, rfl, po, mo, fun x H3 s3 nr3 => ?_⟩⟩⟩
    refine ⟨_, rfl, irr ⟨l, M, 6, rfl, (md.ext s2).ext s3, ok, fun lr ru H4 s4 eA eU uL nU hus => ?_⟩⟩
    refine ⟨(by show 2 ≤ sizeLine; decide), fun T0 nT0 => ⟨T0, _, rfl, SqT.of upd_same, rfl, ?_⟩⟩
    dsimp only [gName, gCons, gNil]
    refine ⟨_, _, rfl, _, _, rfl, rfl, ?_⟩
    have rA : ∀ u ∈ ru, u.1 ≠ a ∧ H4 u.1 = some (.lst (u.2.map V.int)) := fun u hu => by
      refine ⟨fun e => ?_, eU u hu⟩
      obtain ⟨_, _, _, e', _⟩ := (w1.sm s2).sm s3
      have := nU u hu
      rw [e, e'] at this
      cases this
    have s5 : Same H4 (upd H4 T0 (.tup [.ref x, .ref lr])) := fun b o e => (upd_ne (ne_of_none e nT0)).trans e
    revert s5
    generalize upd H4 T0 (.tup [.ref x, .ref lr]) = H5
    intro s5
    have w5 : WellAt H5 a (n + 2000) := (((w1.sm s2).sm s3).sm s4).sm s5
    have md5 : MdAt H5 l M := (((md.ext s2).ext s3).ext s4).ext s5
    have g5 : Grow a H H5 := gr1.trans fun b o _ e => s5 _ _ (s4 _ _ (s3 _ _ (s2 _ _ e)))
    have nr5 := (nr3.ext s4).ext s5
    have eA5 := s5 _ _ eA
    have ru5 : ∀ u ∈ ru, u.1 ≠ a ∧ H5 u.1 = some (.lst (u.2.map V.int)) ∧ u.2.length = M.qs.length ∧ (∀ c ∈ u.2, trit c) ∧ keptB M u.2 = true := fun u hu => by
      obtain ⟨⟨h1, h2, h3⟩, _⟩ := (hus u.2).mp (List.mem_map.mpr ⟨u, hu, rfl⟩)
      exact ⟨(rA u hu).1, s5 _ _ (rA u hu).2, h1, h2, h3⟩
    clear eU nU md nr3 gr1 w1 rA eA s2 s3 s4 s5 nT0
    refine ⟨_, rfl, _, rfl, _, rfl, irr ⟨a, l, lr, _, M, 6, ru, rfl, w5, by omega, md5, ok, by decide, eA5, uL, ru5, fun lf fs H6 g6 w6 ef fa fl cf fb => ?_⟩⟩
    have ru6 : ∀ u ∈ ru, u.1 ≠ a ∧ H6 u.1 = some (.lst (u.2.map V.int)) ∧ u.2.length = M.qs.length ∧ (∀ c ∈ u.2, trit c) ∧ keptB M u.2 = true := fun u hu => ⟨(ru5 u hu).1, g6 _ _ (ru5 u hu).1 (ru5 u hu).2.1, (ru5 u hu).2.2⟩
    have md6 := md5.gro w5 g6
    refine ⟨_, rfl, _, rfl, _, rfl, irr ⟨a, l, lr, _, M, 6, ru, rfl, w6, by omega, md6, ok, by decide, w5.keep g6 eA5 (noW_rf _), uL, ru6, fun lo os H7 g7 w7 eo oa ol _ ob => ?_⟩⟩
    have md7 := md6.gro w6 g7
    have nr7 := (nr5.gro w5 g6).gro w6 g7
    have ef7 := g7 _ _ fa ef
    have g07 := (g5.trans g6).trans g7
    clear ru5 ru6 eA5 md5 md6 nr5 hus uL g5 g6 g7 w5 w6 ef
    refine ⟨(by show 2 ≤ sizeLine; decide), fun T1 nT1 => ⟨T1, _, rfl, SqT.of upd_same, rfl, ?_⟩⟩
    dsimp only [gName, gCons, gNil]
    refine ⟨_, _, rfl, _, _, rfl, rfl, ?_⟩
    have s8 : Same H7 (upd H7 T1 (.tup [.ref lf, .ref lo])) := fun b o e => (upd_ne (ne_of_none e nT1)).trans e
    revert s8
    generalize upd H7 T1 (.tup [.ref lf, .ref lo]) = H8
    intro s8
    have w8 := w7.sm s8
    have md8 := md7.ext s8
    have nr8 := nr7.ext s8
    have ef8 := s8 _ _ ef7
    have eo8 := s8 _ _ eo
    have g8 : Grow a H H8 := g07.trans fun b o _ e => s8 _ _ e
    clear s8 nT1 md7 nr7 ef7 eo g07 w7
    have b8 := Bag.start w8
    refine ⟨_, rfl, b8.dip (by omega) (by decide) (by decide) fun r6 H9 p0 p1 b9 => ⟨_, rfl, b9.dip (by omega) (by decide) (by decide) fun r7 H10 q0 q1 b10 => ?_⟩⟩
    refine ⟨_, _, rfl, ?_⟩
    obtain ⟨bad, rfl⟩ : ∃ c : Nat, r6 = c := ⟨r6.toNat, by omega⟩
    obtain ⟨mute, rfl⟩ : ∃ c : Nat, r7 = c := ⟨r7.toNat, by omega⟩
    refine ⟨_, rfl, _, rfl, _, rfl, _, rfl, _, rfl, _, rfl, irr ⟨a, l, lf, lo, _, bad, mute, M, 6, fs, os, rfl, b10.well, by omega, by omega, by omega, md8.gro w8 b10.gr, ok, by decide, fa, b10.gr _ _ fa ef8, oa, b10.gr _ _ oa eo8, fl, ol, fb, ob, fun D rs H11 g11 w11 eD Da rl hse hbd hvb => ?_⟩⟩
    have md11 := (md8.gro w8 b10.gr).gro b10.well g11
    have nr11 := (nr8.gro w8 b10.gr).gro b10.well g11
    have ef11 := g11 _ _ fa (b10.gr _ _ fa ef8)
    have g011 : Grow a H H11 := (g8.trans b10.gr).trans g11
    have W : Wrld M fs rs := ⟨rl, hse, cf⟩
    have rdo : RdOk M.ms rs := ⟨by rw [msl]; exact rl, fun c hc z e => by
      have hc2 : c < M.gs.length := by rw [← msl]; exact hc
      have z2 : mZ M.ms c = (M.gs[c]).2.2 := by rw [mZ, getD_lt hc]; simp only [Mod.ms, List.getElem_map]
      have := hse c M.gs[c] (List.getElem?_eq_getElem hc2) (by rw [← z2]; exact z)
      rw [this] at e
      cases e⟩
    clear b8 b9 b10 md8 nr8 ef8 eo8 g8 w8 oa ol ob g11 hse
    dsimp only [gName]
    refine ⟨_, rfl, D, rfl, ⟨_, SqL.of eD⟩, fun D2 nD2 => lc_keepV (xs := vR rs) (fun v => decide (v = V.non)) walk_list nD2 (by rw [vR, List.length_map]; omega) (fun H' s' => SqL.of (s' _ _ eD)) (fun _ => rfl) (fun v hv H12 s12 R hR => ?_) (fun v hv H12 R hR => ⟨_, rfl, hR⟩) fun H12 s12 hD2 => ?_⟩
    · exact ⟨_, rfl, rfl, _, rfl, hR⟩
    have lostE : ((vR rs).filter fun v => decide (v = V.non)).length = (rs.filter (·.isNone)).length := by
      rw [vR, List.filter_map, List.length_map]
      congr 1
      refine List.filter_congr fun o _ => ?_
      exact vO_non o
    dsimp only
    refine ⟨D2, _, rfl, .inl (SqL.of hD2), ?_⟩
    rw [lostE]
    obtain ⟨lost, hlost⟩ : ∃ lost, lost = (rs.filter (·.isNone)).length := ⟨_, rfl⟩
    rw [← hlost]
    dsimp only [gName]
    have md12 := md11.ext s12
    have nr12 := nr11.ext s12
    have ef12 := s12 _ _ ef11
    have eD12 := s12 _ _ eD
    have g12 : Grow a H H12 := g011.trans fun b o _ e => s12 _ _ e
    clear md11 nr11 ef11 eD g011 hD2 nD2 s12
    obtain ⟨kp, kq, kg, pv, gv, f1, f2, kl⟩ := id md12.ex
    have ekl : H12 l = some (.lst [.ref kp, .ref kq, .ref kg]) := kl (l, _) List.mem_cons_self
    have ekq : H12 kq = some (.lst (rf pv)) := kl (kq, _) (List.mem_cons_of_mem _ (List.mem_cons_of_mem _ List.mem_cons_self))
    have pvl : pv.length = M.qs.length := by rw [← f1, sn_len]
    refine ⟨_, rfl, l, _, 1, _, rfl, rfl, SqL.of ekl, rfl, kq, _, rfl, .inl (SqL.of ekq), M.qs.length, by rw [rf_len, pvl], by omega, by omega, for_range (lo := 0) (n := M.qs.length) (fun j σ H' => ∃ (o10 o11 o12 o13 o14 o15 o16 : Option V), σ = [some (.ref a), some (.ref l), some (.ref x), some (.ref lr), some (.ref lf), some (.ref lo), some (.int (bad : Nat)), some (.int (mute : Nat)), some (.ref D), some (.int (lost : Nat)), o10, o11, o12, o13, o14, o15, o16] ∧ Same H12 H') ⟨_, _, _, _, _, _, _, rfl, Same.refl _⟩ ?_ ?_⟩
    · rintro i σ H13 hi ⟨o10, o11, o12, o13, o14, o15, o16, rfl, s13⟩
      dsimp only [gName]
      have md13 := md12.ext s13
      have nr13 := nr12.ext s13
      obtain ⟨jp, jq, jg, ju, jv, qa, qb, e1, e2, _, e4, e5⟩ := md13.pipe hi
      have hil : i < M.ps.length := by rw [ps_len]; exact hi
      have hy : pN M.ps i ∈ M.ps.map (·.1) := by
        rw [(pN_at (List.getElem?_eq_getElem hil)).1]
        exact List.mem_map.mpr ⟨_, List.getElem_mem hil, rfl⟩
      refine ⟨_, rfl, l, _, 1, _, rfl, rfl, SqL.of e1, rfl, _, rfl, jq, _, _, _, rfl, rfl, SqL.of e2, (by rw [Int.zero_add]; exact e4), ju, _, 0, .str (pN M.ps i), rfl, rfl, SqT.of e5, rfl, ?_⟩
      dsimp only [gName]
      have sb : ∀ y v, shR M.ms rs y = some v → v.natAbs ≤ 10 ^ 40 := fun y v e => Nat.le_trans (hvb _ v e) (by decide)
      refine ⟨_, rfl, _, rfl, _, rfl, D, vR rs, rfl, .inl ⟨SqL.of (s13 _ _ eD12), fun m nm => ?_⟩⟩
      have s14 : Same H13 (upd H13 m (.tup (vR rs))) := fun b o e => (upd_ne (ne_of_none e nm)).trans e
      refine irr ⟨x, m, M.ps, M.ms, i, rs, rfl, nr13.ext s14, po, mo, hil, SqT.of upd_same, rdo, sb, fun Tt us c H15 s15 hT hlen hmad hc => ?_⟩
      have VV : VotU M i c us := ⟨hlen, hmad, hc⟩
      have s1315 := s14.trans s15
      refine ⟨_, rfl, _, rfl, irr ⟨x, M.ps, M.ms, pN M.ps i, rfl, nr13.ext s1315, po, mo.ln, hy, fun H16 s16 => ⟨_, _, rfl, ?_⟩⟩⟩
      obtain ⟨vals, hvals⟩ : ∃ vals, vals = valsU M rs us := ⟨_, rfl⟩
      have k1 := VV.count W ok (by decide) hi
      have k2 := VV.silent W ok (by decide) hi
      have k3 := VV.wrong W ok (by decide) hi
      rw [← hvals] at k1 k2 k3
      have hT2 : H16 Tt = some (.tup (vR vals)) := by rw [hvals]; exact s16 _ _ hT
      have nr16 := (nr13.ext s1315).ext s16
      have s1316 : Same H13 H16 := s1315.trans s16
      have s1216 := s13.trans s1316
      have vl200 : vals.length ≤ 200 := by
        rw [hvals, valsU, List.length_map, hlen]
        exact votesF_len po.nd hil po.ln mo.ln c
      clear hT s14 s15 s16 nm hc hmad hlen
      refine ⟨_, rfl, _, _, .type "tuple", .type "tuple", true, rfl, .ty _, tyx_tup (SqT.of hT2), kit_ty (by decide +kernel), true, rfl, iteF ?_⟩
      refine tst_of (fun b H' => b = false ∧ H' = H16) (fun b H' z => ?_) fun Q' hQ => ?_
      · obtain ⟨rfl, rfl⟩ := z
        refine iteF ?_
        dsimp only [tNext]
        have hv : ∀ {c : Nat} {v : V}, (vR vals)[c]? = some v → ∃ o, o ∈ vals ∧ v = vO o := fun {c v} h => by
          rw [vR, List.getElem?_map] at h
          cases z : vals[c]? with
          | none => rw [z] at h; cases h
          | some o =>
            rw [z] at h
            exact ⟨o, List.mem_of_getElem? z, (Option.some.inj h).symm⟩
        refine ⟨_, rfl, Tt, rfl, ⟨_, SqT.of hT2⟩, fun D3 nD3 => ?_⟩
        refine lc_to (xs := vR vals) ((vals.map fun _ => true).map V.bl) (by rw [vR, List.length_map, List.length_map, List.length_map]) walk_tup nD3 (by rw [vR, List.length_map]; omega) (fun H' s' => SqT.of (s' _ _ hT2)) (fun _ => rfl) (fun c v y h1 h2 H17 s17 R hR => ?_) fun H17 s17 hD3 => ?_
        · obtain ⟨o, _, rfl⟩ := hv h1
          rw [List.getElem?_map, List.getElem?_map] at h2
          obtain rfl : V.bl true = y := by
            cases z : vals[c]? with
            | none => rw [z] at h2; cases h2
            | some o => rw [z] at h2; exact Option.some.inj h2
          cases o with
          | none => exact ⟨_, rfl, rfl, true, rfl, iteT (hR _ (Same.refl _))⟩
          | some v =>
            refine ⟨_, rfl, rfl, false, rfl, iteF ⟨_, rfl, _, _, .type "int", .type "int", true, rfl, .ty _, .base (.int v), kit_ty (by decide +kernel), true, rfl, ?_⟩⟩
            exact iteT ⟨_, rfl, _, _, .type "int", .type "bool", false, rfl, .ty _, .base (.int v), kit_ty (by decide +kernel), false, rfl, hR _ (Same.refl _)⟩
        · dsimp only
          refine ⟨D3, vals.map fun _ => true, rfl, SqL.of hD3, ?_⟩
          rw [show (vals.map fun _ => true).all id = true from by rw [List.all_map]; exact List.all_eq_true.mpr fun _ _ => rfl]
          refine ⟨_, rfl, iteF ?_⟩
          dsimp only [tNext]
          have hT17 := s17 _ _ hT2
          obtain ⟨f, hf⟩ : ∃ f, f = ent fs i := ⟨_, rfl⟩
          rw [← hf] at k1 k3
          have ef17 := s17 _ _ (s1216 _ _ ef12)
          have atf : atI (fs.map V.int) (0 + (i : Int)) = some (V.int f) := by rw [Int.zero_add, hf]; exact atI_entM (by omega)
          refine ⟨_, rfl, Tt, rfl, ⟨_, SqT.of hT17⟩, fun D4 nD4 => ?_⟩
          refine lc_keepV (xs := vR vals) (fun v => !decide (v = V.non)) walk_tup nD4 (by rw [vR, List.length_map]; omega) (fun H' s' => SqT.of (s' _ _ hT17)) (fun _ => rfl) (fun v hv H18 s18 R hR => ⟨_, rfl, rfl, _, rfl, hR⟩) (fun v hv H18 R hR => ⟨_, rfl, hR⟩) fun H18 s18 hD4 => ?_
          obtain ⟨S, hS⟩ : ∃ S, S = vals.filter (·.isSome) := ⟨_, rfl⟩
          have eS : (vR vals).filter (fun v => !decide (v = V.non)) = vR S := by
            rw [hS, vR, vR, List.filter_map]
            congr 1
            refine List.filter_congr fun o _ => ?_
            show (!decide (vO o = V.non)) = o.isSome
            rw [vO_non]
            cases o <;> rfl
          rw [eS] at hD4
          have two := filt_two vals
          rw [← hS] at two
          dsimp only [gName]
          have hT18 := s18 _ _ hT17
          have ef18 := s18 _ _ ef17
          refine seqif_of (fun b H' => b = false ∧ Same H18 H') (fun b H' z => ?_) fun Q' hQ => ?_
          · obtain ⟨rfl, s19⟩ := z
            refine iteF ?_
            dsimp only [tNext]
            have hT19 := s19 _ _ hT18
            have ef19 := s19 _ _ ef18
            refine seqif_of (fun b H20 => b = false ∧ Same H' H20) (fun b H20 z => ?_) fun Q' hQ => ?_
            · obtain ⟨rfl, s20⟩ := z
              refine iteF ?_
              dsimp only [tNext]
              have hT20 := s20 _ _ hT19
              have s1320 : Same H13 H20 := fun b o e => s20 _ _ (s19 _ _ (s18 _ _ (s17 _ _ (s1316 _ _ e))))
              have nr20 := nr13.ext s1320
              have hsh : Shw (.tuple (vals.map dR)) 60 500000 := shw_RI (by rw [hvals]; exact VV.small ok (by decide) hi hvb) vl200
              refine ⟨_, rfl, rRepr_of (.tup (SqT.of hT20) (dps_R vals)) hsh (by decide) ?_⟩
              refine ⟨_, rfl, _, rfl, irr ⟨x, M.ps, M.ms, i, rfl, nr20, po, mo, hil, fun t2 us2 c2 H21 s21 ht2 hsum2 hmad2 hc2 => ?_⟩⟩
              have V2 : VotU M i c2 (us2.map (·.2)) := ⟨by rw [List.length_map]; exact hmad2.1, fun k2 T qs h1 h2 => by
                rw [List.getElem?_map] at h2
                cases e : us2[k2]? with
                | none => rw [e] at h2; cases h2
                | some u =>
                  rw [e] at h2
                  obtain rfl := Option.some.inj h2
                  exact hmad2.2 k2 T u h1 e, hc2⟩
              have us2l : us2.length ≤ 200 := by
                rw [hmad2.1]
                exact votesF_len po.nd hil po.ln mo.ln c2
              have s1321 := s1320.trans s21
              refine ⟨t2, rfl, ⟨_, SqT.of ht2⟩, fun D6 nD6 => ?_⟩
              refine lc_to (xs := rf us2) (vR (us2.map fun u => tval M.ms rs u.2)) (by rw [vR, List.length_map, List.length_map, rf_len]) walk_tup nD6 (by rw [rf_len]; omega) (fun H' s' => SqT.of (s' _ _ ht2)) (fun _ => rfl) (fun j v y h1 h2 H22 s22 R kR => ?_) fun H22 s22 hD6 => ?_
              · obtain ⟨u, hu, rfl⟩ := rf_get h1
                have um := List.mem_of_getElem? hu
                have hj : j < us2.length := (List.getElem?_eq_some_iff.mp hu).1
                rw [vR, List.getElem?_map, List.getElem?_map, hu] at h2
                obtain rfl := Option.some.inj h2
                obtain ⟨T', hT'⟩ : ∃ T', (votesF M.ps M.ms i c2)[j]? = some T' := ⟨_, List.getElem?_eq_getElem (by rw [← hmad2.1]; exact hj)⟩
                obtain ⟨u', hu', _, md5, tp, hn5, ul, ub⟩ := V2.at (rs := rs) ok (by decide) hi hT'
                rw [List.getElem?_map, hu] at hu'
                obtain rfl := Option.some.inj hu'
                have s1322 := s1321.trans s22
                refine ⟨_, rfl, _, rfl, _, rfl, D, vR rs, rfl, .inl ⟨SqL.of (s1322 _ _ (s13 _ _ eD12)), fun m2 nm2 => ?_⟩⟩
                have s23 : Same H22 (upd H22 m2 (.tup (vR rs))) := fun b o e => (upd_ne (ne_of_none e nm2)).trans e
                exact irr ⟨x, u.1, m2, M.ps, M.ms, rs, u.2, rfl, (nr13.ext s1322).ext s23, mo.ln, mo.nd, SqT.of upd_same, rdo, ((hsum2 u um).ext s22).ext s23, Nat.le_trans ul (by decide), fun q hq => ⟨hn5 q hq, Nat.le_trans (ub q hq) (by decide), fun v hv => sb _ v hv⟩, fun H24 s24 => kR H24 (s23.trans s24)⟩
              · have eV : us2.map (fun u => tval M.ms rs u.2) = vals := by
                  have e1 : us2.map (fun u => tval M.ms rs u.2) = valsU M rs (us2.map (·.2)) := by rw [valsU, List.map_map]; rfl
                  rw [e1, hvals]
                  exact (VV.same V2 W ok (by decide) hi).symm
                rw [eV] at hD6
                dsimp only
                refine ⟨D6, _, rfl, .inl ⟨SqL.of hD6, fun m3 nm3 => ?_⟩⟩
                refine rRepr_of (.tup (SqT.of upd_same) (dps_R vals)) hsh (by decide) ?_
                refine ⟨rfl, false, by rw [decide_eq_true rfl]; rfl, iteF ?_⟩
                have s24 : Same H22 (upd H22 m3 (.tup (vR vals))) := fun b o e => (upd_ne (ne_of_none e nm3)).trans e
                exact ⟨_, _, _, _, _, _, _, rfl, s13.trans ((s1321.trans s22).trans s24)⟩
            · refine ⟨_, rfl, rfl, ?_⟩
              cases ho : strP M.ps M.ms (pN M.ps i) with
              | some d => exact ⟨false, rfl, iteF (hQ _ _ ⟨rfl, Same.refl _⟩)⟩
              | none =>
                rw [ho] at k1
                dsimp only at k1
                refine ⟨true, rfl, iteT ?_⟩
                refine ⟨_, rfl, _, rfl, _, rfl, lf, _, _, _, rfl, rfl, SqL.of ef19, atf, (by show 1 ≤ sizeLine; decide), fun T3 nT3 => ?_⟩
                have e3 := (upd_ne (o := .tup [V.int f]) (ne_of_none hT19 nT3)).trans hT19
                rw [k1] at e3
                refine ⟨.tuple [dR (some f)], .tuple [dR (some f)], .tup (SqT.of e3) (dps_R [some f]), .tup (SqT.of upd_same) (dps_R [some f]), shaped_oi, shaped_oi, _, rfl, ?_⟩
                rw [SeqAt.eqv_refl _ (SeqAt.canLay_of_shaped shaped_oi)]
                exact hQ _ _ ⟨rfl, fun b o e => (upd_ne (ne_of_none e nT3)).trans e⟩
          · refine ⟨_, rfl, Tt, _, rfl, .inr (SqT.of hT18), _, rfl, D4, _, rfl, .inl (SqL.of hD4), _, _, rfl, rfl, _, rfl, _, _, rfl, rfl, _, rfl, ?_⟩
            rw [decide_eq_false (show ¬ ((lost : Nat) : Int) < (((vR vals).length : Nat) : Int) - ((vR S).length : Nat) by rw [vR, vR, List.length_map, List.length_map]; omega)]
            refine iteF ?_
            refine ⟨_, rfl, D4, rfl, ⟨_, SqL.of hD4⟩, fun D5 nD5 => ?_⟩
            refine lc_keepV (xs := vR S) (fun v => !decide (v = V.int f)) walk_list nD5 (by rw [vR, List.length_map]; omega) (fun H' s' => SqL.of (s' _ _ hD4)) (fun _ => rfl) (fun v hv H19 s19 R hR => ?_) (fun v hv H19 R hR => ⟨_, rfl, hR⟩) fun H19 s19 hD5 => ?_
            · obtain ⟨o, _, rfl⟩ := List.mem_map.mp hv
              cases o with
              | none => exact ⟨_, rfl, _, rfl, _, rfl, lf, _, _, _, rfl, rfl, SqL.of (s19 _ _ ef18), atf, rfl, _, rfl, hR⟩
              | some v => exact ⟨_, rfl, _, rfl, _, rfl, lf, _, _, _, rfl, rfl, SqL.of (s19 _ _ ef18), atf, rfl, _, rfl, hR⟩
            · dsimp only
              have eW : ((vR S).filter fun v => !decide (v = V.int f)).length = (vals.filter (wrongB f)).length := by
                rw [hS, vR, List.filter_map, List.length_map, List.filter_filter]
                congr 1
                refine List.filter_congr fun o _ => ?_
                cases o with
                | none => rfl
                | some v =>
                  show (!decide (V.int v = V.int f) && true) = decide (v ≠ f)
                  by_cases e : v = f
                  · rw [e]; simp
                  · rw [decide_eq_false fun z => e (V.int.inj z), decide_eq_true e]; rfl
              refine ⟨D5, _, rfl, .inl (SqL.of hD5), _, rfl, _, _, rfl, rfl, _, rfl, ?_⟩
              rw [eW, decide_eq_false (show ¬ ((bad : Nat) : Int) < (((vals.filter (wrongB f)).length : Nat) : Int) by omega)]
              exact hQ _ _ ⟨rfl, s19⟩
      · cases ho : strP M.ps M.ms (pN M.ps i) with
        | none =>
          rw [ho] at k1
          dsimp only at k1
          refine ⟨_, rfl, Tt, _, rfl, .inr (SqT.of hT2), _, rfl, rfl, _, rfl, iteT ⟨rfl, ?_⟩⟩
          rw [vR, List.length_map, k1]
          exact ⟨_, rfl, hQ _ _ ⟨by rfl, rfl⟩⟩
        | some d =>
          rw [ho] at k1
          dsimp only at k1
          refine ⟨_, rfl, Tt, _, rfl, .inr (SqT.of hT2), _, rfl, rfl, _, rfl, iteF ⟨_, rfl, rfl, ?_⟩⟩
          rw [vR, List.length_map, k1]
          refine ⟨_, rfl, hQ _ _ ⟨?_, rfl⟩⟩
          rw [show decide (V.int (d : Int) = vN (some d)) = true from decide_eq_true rfl]
          rfl
    · rintro σ H13 ⟨o10, o11, o12, o13, o14, o15, o16, rfl, s13⟩
      exact k H13 fun b o hb e => s13 _ _ (g12 b o hb e)
end
end RV
namespace RV
open PySem L2 TL
section
variable {P : Program} {w : World} {K : PySem.W.Frag} {mg : Str → Option Value} {base : Heap}
theorem ok_law31 {f : Addr} {fd : FuncData} (F : Fun K "law" "law" s_law f fd) (T : Blt mg)
    (h_well : Fn P w K mg base "_law_well" 1 ["_law_script", "_law_k"] (sp_well K)) (h_right : FnGd P w K mg base "_law_right" 11 ["_law_well_here"] sp_right23) : FnG P w K mg base 12 f fd ["_law_script"] (spLaw K) := by
  refine gFun F sc_law (fun vs H Q E h => ?_) (fun cdv A outer s H vs Q E gs hr h => ?_)
  · obtain ⟨_, _, rfl, _⟩ := h
    rfl
  · obtain ⟨c, ns, rfl, hS, hl, k⟩ := h
    refine ⟨_, (pss_cons (ps_for PassesOwn.never rfl (pi_range1 rfl T.b_range (pa_cons (pe_callB (call_max2 rfl) (by rfl) T.b_max (by decide +kernel) (pa_cons pe_int (pa_cons (pe_callB (call_min2 rfl) (by rfl) T.b_min (by decide +kernel) (pa_cons (pe_callB call_len_seq (by rfl) T.b_len (by decide +kernel) (pa_cons (pv 0) pa_nil)) (pa_cons pe_int pa_nil))) pa_nil))) pa_nil)) (pg_name (i := 1) sc_law.nd rfl (Or.inl rfl)) (pss_one (ps_if (pt_not (pt_val (pe_fnG h_right gs (hr.mono (by decide)) (pa_cons (pe_fn h_well (hr.mono (by decide)) (pa_cons (pv 0) (pa_cons (pv 1) pa_nil))) pa_nil)))) (pss_one (ps_ret pe_bl)) pss_nil)))
      (pss_one (ps_ret pe_bl))), ?_⟩
    refine ⟨_, rfl, c, _, rfl, .inl hS, _, _, rfl, _, _, rfl, ?_⟩
    rw [List.length_map]
    generalize hj : (if (if (5 : Int) < (ns.length : Int) then (5 : Int) else (ns.length : Int)) > 2 then (if (5 : Int) < (ns.length : Int) then (5 : Int) else (ns.length : Int)) else 2) = j
    have hj2 : 2 ≤ j ∧ j ≤ 5 := by
      subst hj
      constructor <;> (repeat' split) <;> omega
    clear hj
    refine ⟨j, rfl, by omega, by omega, for_range (lo := 0) (n := j.toNat) (fun i σ H' => Same H H' ∧ ∃ o1, σ = [some (.ref c), o1]) ⟨Same.refl H, none, rfl⟩ ?_ ?_⟩
    · rintro i σ H1 hi ⟨s1, o1, rfl⟩
      refine ⟨_, rfl, _, rfl, c, ns, i, by rw [Int.zero_add]; rfl, hS.ext s1, hl, by omega, fun a H3 na s3 w3 => ?_⟩
      refine ⟨a, _, rfl, w3, by omega, fun H5 g5 => ?_⟩
      exact ⟨true, rfl, iteF ⟨fun b o e => g5 b o (ne_of_none (s1 b o e) na) (s3 b o (s1 b o e)), _, rfl⟩⟩
    · rintro σ H1 ⟨s1, o1, rfl⟩
      exact k H1
end
end RV
namespace RV
open PySem L2
theorem all_mk {l : PySem.W.OpenLaw} {w : World} {K : PySem.W.Frag} {h : Heap} {mg : Str → Option Value} {fa : Addr} (X : K.In h) (G : h.Ns mainGlobals mg) (hfa : mg "law" = some (.ref fa))
    {tkA : Tok}
    {tkB : Tok}
    {tkC : Tok}
    {tkF : Tok}
    {tkG : Tok}
    {fIn : Addr}
    {odIn anIn : Option Addr} {slIn : Array (Option Value)} {ocIn kVIn dcIn pmIn cdIn ctIn : Value}
    {fCn : Addr}
    {odCn anCn : Option Addr} {slCn : Array (Option Value)} {ocCn kVCn dcCn pmCn cdCn ctCn : Value}
    {CP : Addr}
    {CM : Addr}
    {fPi : Addr}
    {odPi anPi : Option Addr} {slPi : Array (Option Value)} {ocPi kVPi dcPi pmPi cdPi ctPi : Value}
    {fMi : Addr}
    {odMi anMi : Option Addr} {slMi : Array (Option Value)} {ocMi dcMi pmMi cdMi ctMi : Value} {kDMi : Addr}
    {ppn : Addr}
    {fpn : Addr}
    {rpn : List Value}
    {odpn anpn : Option Addr} {slpn : Array (Option Value)} {ocpn kVpn dcpn pmpn cdpn ctpn : Value}
    {pps : Addr}
    {fps : Addr}
    {rps : List Value}
    {odps anps : Option Addr} {slps : Array (Option Value)} {ocps kVps dcps pmps cdps ctps : Value}
    {ppe : Addr}
    {fpe : Addr}
    {rpe : List Value}
    {odpe anpe : Option Addr} {slpe : Array (Option Value)} {ocpe kVpe dcpe pmpe cdpe ctpe : Value}
    {pmn : Addr}
    {fmn : Addr}
    {rmn : List Value}
    {odmn anmn : Option Addr} {slmn : Array (Option Value)} {ocmn kVmn dcmn pmmn cdmn ctmn : Value}
    {pma : Addr}
    {fma : Addr}
    {rma : List Value}
    {odma anma : Option Addr} {slma : Array (Option Value)} {ocma kVma dcma pmma cdma ctma : Value}
    {pmz : Addr}
    {fmz : Addr}
    {rmz : List Value}
    {odmz anmz : Option Addr} {slmz : Array (Option Value)} {ocmz kVmz dcmz pmmz cdmz ctmz : Value}
    {fPq : Addr}
    {odPq anPq : Option Addr} {slPq : Array (Option Value)} {ocPq kVPq dcPq pmPq cdPq ctPq : Value}
    {fMq : Addr}
    {odMq anMq : Option Addr} {slMq : Array (Option Value)} {ocMq kVMq dcMq pmMq cdMq ctMq : Value}
    {CN : Addr}
    {fIo : Addr}
    {odIo anIo : Option Addr} {slIo : Array (Option Value)} {ocIo kVIo dcIo pmIo cdIo ctIo : Value}
    {fCp : Addr}
    {odCp anCp : Option Addr} {slCp : Array (Option Value)} {ocCp kVCp dcCp pmCp cdCp ctCp : Value}
    {fCm : Addr}
    {odCm anCm : Option Addr} {slCm : Array (Option Value)} {ocCm kVCm dcCm pmCm cdCm ctCm : Value}
    {fPl : Addr}
    {odPl anPl : Option Addr} {slPl : Array (Option Value)} {ocPl kVPl dcPl pmPl cdPl ctPl : Value}
    {fMl : Addr}
    {odMl anMl : Option Addr} {slMl : Array (Option Value)} {ocMl kVMl dcMl pmMl cdMl ctMl : Value}
    {fLs : Addr}
    {odLs anLs : Option Addr} {slLs : Array (Option Value)} {ocLs kVLs dcLs pmLs cdLs ctLs : Value}
    {fNi : Addr}
    {tD : Addr}
    {t0 : Addr}
    {odNi anNi odT : Option Addr} {slNi slT : Array (Option Value)} {ocNi kVNi dcNi pmNi cdNi ctNi : Value} {nT : Nat}
    {pnp : Addr}
    {fnp : Addr}
    {rnp : List Value}
    {odnp annp : Option Addr} {slnp : Array (Option Value)} {ocnp kVnp dcnp pmnp cdnp ctnp : Value}
    {pnm : Addr}
    {fnm : Addr}
    {rnm : List Value}
    {odnm annm : Option Addr} {slnm : Array (Option Value)} {ocnm kVnm dcnm pmnm cdnm ctnm : Value}
    {fNl : Addr}
    {odNl anNl : Option Addr} {slNl : Array (Option Value)} {ocNl kVNl dcNl pmNl cdNl ctNl : Value}
    {fNs : Addr}
    {odNs anNs : Option Addr} {slNs : Array (Option Value)} {ocNs kVNs dcNs pmNs cdNs ctNs : Value}
    {fNq : Addr}
    {odNq anNq : Option Addr} {slNq : Array (Option Value)} {ocNq kVNq dcNq pmNq cdNq ctNq : Value}
    {fRw : Addr}
    {odRw anRw : Option Addr} {slRw : Array (Option Value)} {ocRw kVRw dcRw pmRw cdRw ctRw : Value}
    {fPn : Addr}
    {odPn anPn : Option Addr} {slPn : Array (Option Value)} {ocPn kVPn dcPn pmPn cdPn ctPn : Value}
    {fMn : Addr}
    {odMn anMn : Option Addr} {slMn : Array (Option Value)} {ocMn kVMn dcMn pmMn cdMn ctMn : Value}
    {pNr : Addr}
    {fNr : Addr}
    {rNr : List Value}
    {odNr anNr : Option Addr} {slNr : Array (Option Value)} {ocNr kVNr dcNr pmNr cdNr ctNr : Value}
    {fPp : Addr}
    {odPp anPp : Option Addr} {slPp : Array (Option Value)} {ocPp kVPp dcPp pmPp cdPp ctPp : Value}
    {fKn : Addr}
    {odKn anKn : Option Addr} {slKn : Array (Option Value)} {ocKn kVKn dcKn pmKn cdKn ctKn : Value}
    {fKp : Addr}
    {odKp anKp : Option Addr} {slKp : Array (Option Value)} {ocKp kVKp dcKp pmKp cdKp ctKp : Value}
    {fMa : Addr}
    {odMa anMa : Option Addr} {slMa : Array (Option Value)} {ocMa kVMa dcMa pmMa cdMa ctMa : Value}
    {fSa : Addr}
    {odSa anSa : Option Addr} {slSa : Array (Option Value)} {ocSa kVSa dcSa pmSa cdSa ctSa : Value}
    {fAm : Addr}
    {odAm anAm : Option Addr} {slAm : Array (Option Value)} {ocAm kVAm dcAm pmAm cdAm ctAm : Value}
    {fLk : Addr}
    {odLk anLk : Option Addr} {slLk : Array (Option Value)} {ocLk kVLk dcLk pmLk cdLk ctLk : Value}
    {fLd : Addr}
    {odLd anLd : Option Addr} {slLd : Array (Option Value)} {ocLd kVLd dcLd pmLd cdLd ctLd : Value}
    {fSw : Addr}
    {odSw anSw : Option Addr} {slSw : Array (Option Value)} {ocSw kVSw dcSw pmSw cdSw ctSw : Value}
    {fWb : Addr}
    {odWb anWb : Option Addr} {slWb : Array (Option Value)} {ocWb kVWb dcWb pmWb cdWb ctWb : Value}
    {fSt : Addr}
    {odSt anSt : Option Addr} {slSt : Array (Option Value)} {ocSt kVSt dcSt pmSt cdSt ctSt : Value}
    {fNu : Addr}
    {odNu anNu : Option Addr} {slNu : Array (Option Value)} {ocNu kVNu dcNu pmNu cdNu ctNu : Value}
    {fIt : Addr}
    {odIt anIt : Option Addr} {slIt : Array (Option Value)} {ocIt kVIt dcIt pmIt cdIt ctIt : Value}
    {fCk : Addr}
    {odCk anCk : Option Addr} {slCk : Array (Option Value)} {ocCk kVCk dcCk pmCk cdCk ctCk : Value}
    {fCo : Addr}
    {odCo anCo : Option Addr} {slCo : Array (Option Value)} {ocCo kVCo dcCo pmCo cdCo ctCo : Value}
    {CS : Addr}
    {fSi : Addr}
    {tDS : Addr}
    {t0S : Addr}
    {odSi anSi odTS : Option Addr} {slSi slTS : Array (Option Value)} {ocSi kVSi dcSi pmSi cdSi ctSi : Value} {nTS : Nat} {od0S : Option Addr} {sl0S : Array (Option Value)} {n0S : Nat}
    {fSg : Addr}
    {odSg anSg : Option Addr} {slSg : Array (Option Value)} {ocSg kVSg dcSg pmSg cdSg ctSg : Value}
    {pSx : Addr}
    {fSx : Addr}
    {rSx : List Value}
    {odSx anSx : Option Addr} {slSx : Array (Option Value)} {ocSx kVSx dcSx pmSx cdSx ctSx : Value}
    {pSo : Addr}
    {fSo : Addr}
    {rSo : List Value}
    {odSo anSo : Option Addr} {slSo : Array (Option Value)} {ocSo kVSo dcSo pmSo cdSo ctSo : Value}
    {fWi : Addr}
    {odWi anWi : Option Addr} {slWi : Array (Option Value)} {ocWi kVWi dcWi pmWi cdWi ctWi : Value}
    {fMx : Addr}
    {odMx anMx : Option Addr} {slMx : Array (Option Value)} {ocMx kVMx dcMx pmMx cdMx ctMx : Value}
    {fLy : Addr}
    {odLy anLy : Option Addr} {slLy : Array (Option Value)} {ocLy kVLy dcLy pmLy cdLy ctLy : Value}
    {fVo : Addr}
    {odVo anVo : Option Addr} {slVo : Array (Option Value)} {ocVo kVVo dcVo pmVo cdVo ctVo : Value}
    {fNc : Addr}
    {odNc anNc : Option Addr} {slNc : Array (Option Value)} {ocNc kVNc dcNc pmNc cdNc ctNc : Value}
    {fKm : Addr}
    {odKm anKm : Option Addr} {slKm : Array (Option Value)} {ocKm kVKm dcKm pmKm cdKm ctKm : Value}
    {fKt : Addr}
    {odKt anKt : Option Addr} {slKt : Array (Option Value)} {ocKt kVKt dcKt pmKt cdKt ctKt : Value}
    {fIr : Addr}
    {odIr anIr : Option Addr} {slIr : Array (Option Value)} {ocIr kVIr dcIr pmIr cdIr ctIr : Value}
    {fKr : Addr}
    {odKr anKr : Option Addr} {slKr : Array (Option Value)} {ocKr kVKr dcKr pmKr cdKr ctKr : Value}
    {fBn : Addr}
    {odBn anBn : Option Addr} {slBn : Array (Option Value)} {ocBn kVBn dcBn pmBn cdBn ctBn : Value}
    {fVn : Addr}
    {odVn anVn : Option Addr} {slVn : Array (Option Value)} {ocVn kVVn dcVn pmVn cdVn ctVn : Value}
    {fVf : Addr}
    {odVf anVf : Option Addr} {slVf : Array (Option Value)} {ocVf kVVf dcVf pmVf cdVf ctVf : Value}
    {fTy : Addr}
    {odTy anTy : Option Addr} {slTy : Array (Option Value)} {ocTy kVTy dcTy pmTy cdTy ctTy : Value}
    {fWe : Addr}
    {odWe anWe : Option Addr} {slWe : Array (Option Value)} {ocWe kVWe dcWe pmWe cdWe ctWe : Value}
    {fDi : Addr}
    {odDi anDi : Option Addr} {slDi : Array (Option Value)} {ocDi kVDi dcDi pmDi cdDi ctDi : Value}
    {fNa : Addr}
    {odNa anNa : Option Addr} {slNa : Array (Option Value)} {ocNa kVNa dcNa pmNa cdNa ctNa : Value}
    {fMo : Addr}
    {odMo anMo : Option Addr} {slMo : Array (Option Value)} {ocMo kVMo dcMo pmMo cdMo ctMo : Value}
    {fTx : Addr}
    {odTx anTx : Option Addr} {slTx : Array (Option Value)} {ocTx kVTx dcTx pmTx cdTx ctTx : Value}
    {fKe : Addr}
    {odKe anKe : Option Addr} {slKe : Array (Option Value)} {ocKe kVKe dcKe pmKe cdKe ctKe : Value}
    {fFl : Addr}
    {odFl anFl : Option Addr} {slFl : Array (Option Value)} {ocFl kVFl dcFl pmFl cdFl ctFl : Value}
    {fRg : Addr}
    {odRg anRg : Option Addr} {slRg : Array (Option Value)} {ocRg kVRg dcRg pmRg cdRg ctRg : Value}
    {fNb : Addr}
    {odNb anNb : Option Addr} {slNb : Array (Option Value)} {ocNb kVNb dcNb pmNb cdNb ctNb : Value}
    {fFw : Addr}
    {odFw anFw : Option Addr} {slFw : Array (Option Value)} {ocFw kVFw dcFw pmFw cdFw ctFw : Value}
    {fSh : Addr}
    {odSh anSh : Option Addr} {slSh : Array (Option Value)} {ocSh kVSh dcSh pmSh cdSh ctSh : Value}
    {fRi : Addr}
    {odRi anRi : Option Addr} {slRi : Array (Option Value)} {ocRi kVRi dcRi pmRi cdRi ctRi : Value}
    {fLa : Addr}
    {odLa anLa : Option Addr} {slLa : Array (Option Value)} {ocLa kVLa dcLa pmLa cdLa ctLa : Value}
    (b_len : PySem.W.nsIn K mainGlobals "len" = some none)
    (b_int : PySem.W.nsIn K mainGlobals "int" = some none)
    (b_abs : PySem.W.nsIn K mainGlobals "abs" = some none)
    (b_max : PySem.W.nsIn K mainGlobals "max" = some none)
    (b_min : PySem.W.nsIn K mainGlobals "min" = some none)
    (b_all : PySem.W.nsIn K mainGlobals "all" = some none)
    (b_any : PySem.W.nsIn K mainGlobals "any" = some none)
    (b_repr : PySem.W.nsIn K mainGlobals "repr" = some none)
    (b_range : PySem.W.nsIn K mainGlobals "range" = some none)
    (b_divmod : PySem.W.nsIn K mainGlobals "divmod" = some none)
    (b_isinstance : PySem.W.nsIn K mainGlobals "isinstance" = some none)
    (b_str : PySem.W.nsIn K mainGlobals "str" = some none)
    (b_sum : PySem.W.nsIn K mainGlobals "sum" = some none)
    (b_sorted : PySem.W.nsIn K mainGlobals "sorted" = some none)
    (b_set : PySem.W.nsIn K mainGlobals "set" = some none)
    (b_tuple : PySem.W.nsIn K mainGlobals "tuple" = some none)
    (b_enumerate : PySem.W.nsIn K mainGlobals "enumerate" = some none)
    (b_bool : PySem.W.nsIn K mainGlobals "bool" = some none)
    (g__LETTERS : PySem.W.nsIn K mainGlobals "_LETTERS" = some (some (.str "abcdefghijklmnopqrstuvwxyz" tkA)))
    (g__DIGITS : PySem.W.nsIn K mainGlobals "_DIGITS" = some (some (.str "0123456789" tkB)))
    (g__LONGEST_NAME : PySem.W.nsIn K mainGlobals "_LONGEST_NAME" = some (some (.int 8 tkC)))
    (g_MOST_PIPES : PySem.W.nsIn K mainGlobals "MOST_PIPES" = some (some (.int 12 tkF)))
    (g_MOST_METERS : PySem.W.nsIn K mainGlobals "MOST_METERS" = some (some (.int 12 tkG)))
    (aIn : PySem.W.nsIn K mainGlobals "is_name" = some (some (.ref fIn)))
    (lIn : K.lookup fIn = some ⟨ocIn, odIn, .func (PySem.W.fnOf "is_name" "is_name" (defArgs s_is_name) (defBody s_is_name) (defScope s_is_name) .none kVIn dcIn pmIn anIn cdIn ctIn), slIn⟩)
    (cIn : PySem.W.codeIn K cdIn "is_name" = true)
    (kIn : PySem.W.keepIn K (.ref fIn) = true)
    (aCn : PySem.W.nsIn K mainGlobals "_check_names" = some (some (.ref fCn)))
    (lCn : K.lookup fCn = some ⟨ocCn, odCn, .func (PySem.W.fnOf "_check_names" "_check_names" (defArgs s_check_names) (defBody s_check_names) (defScope s_check_names) .none kVCn dcCn pmCn anCn cdCn ctCn), slCn⟩)
    (cCn : PySem.W.codeIn K cdCn "_check_names" = true)
    (kCn : PySem.W.keepIn K (.ref fCn) = true)
    (nP : PySem.W.nsIn K mainGlobals "Pipe" = some (some (.ref CP)))
    (pgP : PySem.W.plainGet K CP Str.empty = true)
    (hdP : PySem.W.hasDictIn K CP = true)
    (poP : PySem.W.plainOver K CP = true)
    (saP : PySem.W.findIn K (.ref CP) "__setattr__" = some (some (.builtin "object.__setattr__")))
    (mkP : PySem.W.makesIn K CP = true)
    (kcP : PySem.W.keepIn K (.ref CP) = true)
    (haP : PySem.W.findIn K (.ref CP) "__class__" = some (some (.builtin "object.__class__")))
    (hmP : PySem.W.mroIn K CP (.type "object") = some true)
    (tyP : PySem.W.typeIn K (.ref CP) = some (.type "type"))
    (suP : PySem.W.subIn K (.ref CP) (.ref CP) = some true)
    (obP : PySem.W.subIn K (.ref CP) (.type "object") = some true)
    (noP0 : PySem.W.findIn K (.ref CP) "_name" = some none)
    (noP1 : PySem.W.findIn K (.ref CP) "_start" = some none)
    (noP2 : PySem.W.findIn K (.ref CP) "_end" = some none)
    (nM : PySem.W.nsIn K mainGlobals "Meter" = some (some (.ref CM)))
    (pgM : PySem.W.plainGet K CM Str.empty = true)
    (hdM : PySem.W.hasDictIn K CM = true)
    (poM : PySem.W.plainOver K CM = true)
    (saM : PySem.W.findIn K (.ref CM) "__setattr__" = some (some (.builtin "object.__setattr__")))
    (mkM : PySem.W.makesIn K CM = true)
    (kcM : PySem.W.keepIn K (.ref CM) = true)
    (haM : PySem.W.findIn K (.ref CM) "__class__" = some (some (.builtin "object.__class__")))
    (hmM : PySem.W.mroIn K CM (.type "object") = some true)
    (tyM : PySem.W.typeIn K (.ref CM) = some (.type "type"))
    (suM : PySem.W.subIn K (.ref CM) (.ref CM) = some true)
    (obM : PySem.W.subIn K (.ref CM) (.type "object") = some true)
    (noM0 : PySem.W.findIn K (.ref CM) "_name" = some none)
    (noM1 : PySem.W.findIn K (.ref CM) "_at" = some none)
    (noM2 : PySem.W.findIn K (.ref CM) "_sealed" = some none)
    (hn : PySem.W.specialIn K (.builtin "object.__class__") "__get__" = some (some (.builtin "getset_descriptor.__get__")))
    (htk : PySem.W.takesIn K (.builtin "object.__class__") = some true)
    (neP : PySem.W.findIn K (.ref CP) "__ne__" = some (some (.builtin "object.__ne__")))
    (neM : PySem.W.findIn K (.ref CM) "__ne__" = some (some (.builtin "object.__ne__")))
    (aPi : PySem.W.findIn K (.ref CP) "__init__" = some (some (.ref fPi)))
    (iPi : PySem.W.isFn K (.ref fPi) = true)
    (lPi : K.lookup fPi = some ⟨ocPi, odPi, .func (PySem.W.fnOf "__init__" "Pipe.__init__" (defArgs s_Pipe___init__) (defBody s_Pipe___init__) (defScope s_Pipe___init__) .none kVPi dcPi pmPi anPi cdPi ctPi), slPi⟩)
    (cPi : PySem.W.codeIn K cdPi "Pipe.__init__" = true)
    (kPi : PySem.W.keepIn K (.ref fPi) = true)
    (aMi : PySem.W.findIn K (.ref CM) "__init__" = some (some (.ref fMi)))
    (iMi : PySem.W.isFn K (.ref fMi) = true)
    (lMi : K.lookup fMi = some ⟨ocMi, odMi, .func (PySem.W.fnOf "__init__" "Meter.__init__" (defArgs s_Meter___init__) (defBody s_Meter___init__) (defScope s_Meter___init__) .none (.ref kDMi) dcMi pmMi anMi cdMi ctMi), slMi⟩)
    (cMi : PySem.W.codeIn K cdMi "Meter.__init__" = true)
    (kMi : PySem.W.keepIn K (.ref fMi) = true)
    (kd : PySem.W.nsIn K kDMi "sealed" = some (some (.bool false)))
    (apn : PySem.W.findIn K (.ref CP) "name" = some (some (.ref ppn)))
    (gpn : PySem.W.specialIn K (.ref ppn) "__get__" = some (some (.builtin "property.__get__")))
    (tpn : PySem.W.takesIn K (.ref ppn) = some true)
    (rpn_ : PySem.W.recIn K ppn "property" = some (.ref fpn :: rpn))
    (lpn : K.lookup fpn = some ⟨ocpn, odpn, .func (PySem.W.fnOf "name" "Pipe.name" (defArgs s_Pipe_name) (defBody s_Pipe_name) (defScope s_Pipe_name) .none kVpn dcpn pmpn anpn cdpn ctpn), slpn⟩)
    (cpn : PySem.W.codeIn K cdpn "Pipe.name" = true)
    (kpn : PySem.W.keepIn K (.ref fpn) = true)
    (aps : PySem.W.findIn K (.ref CP) "start" = some (some (.ref pps)))
    (gps : PySem.W.specialIn K (.ref pps) "__get__" = some (some (.builtin "property.__get__")))
    (tps : PySem.W.takesIn K (.ref pps) = some true)
    (rps_ : PySem.W.recIn K pps "property" = some (.ref fps :: rps))
    (lps : K.lookup fps = some ⟨ocps, odps, .func (PySem.W.fnOf "start" "Pipe.start" (defArgs s_Pipe_start) (defBody s_Pipe_start) (defScope s_Pipe_start) .none kVps dcps pmps anps cdps ctps), slps⟩)
    (cps : PySem.W.codeIn K cdps "Pipe.start" = true)
    (kps : PySem.W.keepIn K (.ref fps) = true)
    (ape : PySem.W.findIn K (.ref CP) "end" = some (some (.ref ppe)))
    (gpe : PySem.W.specialIn K (.ref ppe) "__get__" = some (some (.builtin "property.__get__")))
    (tpe : PySem.W.takesIn K (.ref ppe) = some true)
    (rpe_ : PySem.W.recIn K ppe "property" = some (.ref fpe :: rpe))
    (lpe : K.lookup fpe = some ⟨ocpe, odpe, .func (PySem.W.fnOf "end" "Pipe.end" (defArgs s_Pipe_end) (defBody s_Pipe_end) (defScope s_Pipe_end) .none kVpe dcpe pmpe anpe cdpe ctpe), slpe⟩)
    (cpe : PySem.W.codeIn K cdpe "Pipe.end" = true)
    (kpe : PySem.W.keepIn K (.ref fpe) = true)
    (amn : PySem.W.findIn K (.ref CM) "name" = some (some (.ref pmn)))
    (gmn : PySem.W.specialIn K (.ref pmn) "__get__" = some (some (.builtin "property.__get__")))
    (tmn : PySem.W.takesIn K (.ref pmn) = some true)
    (rmn_ : PySem.W.recIn K pmn "property" = some (.ref fmn :: rmn))
    (lmn : K.lookup fmn = some ⟨ocmn, odmn, .func (PySem.W.fnOf "name" "Meter.name" (defArgs s_Meter_name) (defBody s_Meter_name) (defScope s_Meter_name) .none kVmn dcmn pmmn anmn cdmn ctmn), slmn⟩)
    (cmn : PySem.W.codeIn K cdmn "Meter.name" = true)
    (kmn : PySem.W.keepIn K (.ref fmn) = true)
    (ama : PySem.W.findIn K (.ref CM) "at" = some (some (.ref pma)))
    (gma : PySem.W.specialIn K (.ref pma) "__get__" = some (some (.builtin "property.__get__")))
    (tma : PySem.W.takesIn K (.ref pma) = some true)
    (rma_ : PySem.W.recIn K pma "property" = some (.ref fma :: rma))
    (lma : K.lookup fma = some ⟨ocma, odma, .func (PySem.W.fnOf "at" "Meter.at" (defArgs s_Meter_at) (defBody s_Meter_at) (defScope s_Meter_at) .none kVma dcma pmma anma cdma ctma), slma⟩)
    (cma : PySem.W.codeIn K cdma "Meter.at" = true)
    (kma : PySem.W.keepIn K (.ref fma) = true)
    (amz : PySem.W.findIn K (.ref CM) "sealed" = some (some (.ref pmz)))
    (gmz : PySem.W.specialIn K (.ref pmz) "__get__" = some (some (.builtin "property.__get__")))
    (tmz : PySem.W.takesIn K (.ref pmz) = some true)
    (rmz_ : PySem.W.recIn K pmz "property" = some (.ref fmz :: rmz))
    (lmz : K.lookup fmz = some ⟨ocmz, odmz, .func (PySem.W.fnOf "sealed" "Meter.sealed" (defArgs s_Meter_sealed) (defBody s_Meter_sealed) (defScope s_Meter_sealed) .none kVmz dcmz pmmz anmz cdmz ctmz), slmz⟩)
    (cmz : PySem.W.codeIn K cdmz "Meter.sealed" = true)
    (kmz : PySem.W.keepIn K (.ref fmz) = true)
    (aPq : PySem.W.findIn K (.ref CP) "__eq__" = some (some (.ref fPq)))
    (iPq : PySem.W.isFn K (.ref fPq) = true)
    (lPq : K.lookup fPq = some ⟨ocPq, odPq, .func (PySem.W.fnOf "__eq__" "Pipe.__eq__" (defArgs s_Pipe___eq__) (defBody s_Pipe___eq__) (defScope s_Pipe___eq__) .none kVPq dcPq pmPq anPq cdPq ctPq), slPq⟩)
    (cPq : PySem.W.codeIn K cdPq "Pipe.__eq__" = true)
    (kPq : PySem.W.keepIn K (.ref fPq) = true)
    (fiPq : PySem.W.fnIn K fPq = true)
    (aMq : PySem.W.findIn K (.ref CM) "__eq__" = some (some (.ref fMq)))
    (iMq : PySem.W.isFn K (.ref fMq) = true)
    (lMq : K.lookup fMq = some ⟨ocMq, odMq, .func (PySem.W.fnOf "__eq__" "Meter.__eq__" (defArgs s_Meter___eq__) (defBody s_Meter___eq__) (defScope s_Meter___eq__) .none kVMq dcMq pmMq anMq cdMq ctMq), slMq⟩)
    (cMq : PySem.W.codeIn K cdMq "Meter.__eq__" = true)
    (kMq : PySem.W.keepIn K (.ref fMq) = true)
    (fiMq : PySem.W.fnIn K fMq = true)
    (nN : PySem.W.nsIn K mainGlobals "Net" = some (some (.ref CN)))
    (pgN : PySem.W.plainGet K CN Str.empty = true)
    (hdN : PySem.W.hasDictIn K CN = true)
    (poN : PySem.W.plainOver K CN = true)
    (saN : PySem.W.findIn K (.ref CN) "__setattr__" = some (some (.builtin "object.__setattr__")))
    (mkN : PySem.W.makesIn K CN = true)
    (kcN : PySem.W.keepIn K (.ref CN) = true)
    (haN : PySem.W.findIn K (.ref CN) "__class__" = some (some (.builtin "object.__class__")))
    (hmN : PySem.W.mroIn K CN (.type "object") = some true)
    (tyN : PySem.W.typeIn K (.ref CN) = some (.type "type"))
    (suN : PySem.W.subIn K (.ref CN) (.ref CN) = some true)
    (obN : PySem.W.subIn K (.ref CN) (.type "object") = some true)
    (noN0 : PySem.W.findIn K (.ref CN) "_pipes" = some none)
    (noN1 : PySem.W.findIn K (.ref CN) "_meters" = some none)
    (neN : PySem.W.findIn K (.ref CN) "__ne__" = some (some (.builtin "object.__ne__")))
    (aIo : PySem.W.nsIn K mainGlobals "_index_of" = some (some (.ref fIo)))
    (lIo : K.lookup fIo = some ⟨ocIo, odIo, .func (PySem.W.fnOf "_index_of" "_index_of" (defArgs s_index_of) (defBody s_index_of) (defScope s_index_of) .none kVIo dcIo pmIo anIo cdIo ctIo), slIo⟩)
    (cIo : PySem.W.codeIn K cdIo "_index_of" = true)
    (kIo : PySem.W.keepIn K (.ref fIo) = true)
    (aCp : PySem.W.nsIn K mainGlobals "_check_pipes" = some (some (.ref fCp)))
    (lCp : K.lookup fCp = some ⟨ocCp, odCp, .func (PySem.W.fnOf "_check_pipes" "_check_pipes" (defArgs s_check_pipes) (defBody s_check_pipes) (defScope s_check_pipes) .none kVCp dcCp pmCp anCp cdCp ctCp), slCp⟩)
    (cCp : PySem.W.codeIn K cdCp "_check_pipes" = true)
    (kCp : PySem.W.keepIn K (.ref fCp) = true)
    (aCm : PySem.W.nsIn K mainGlobals "_check_meters" = some (some (.ref fCm)))
    (lCm : K.lookup fCm = some ⟨ocCm, odCm, .func (PySem.W.fnOf "_check_meters" "_check_meters" (defArgs s_check_meters) (defBody s_check_meters) (defScope s_check_meters) .none kVCm dcCm pmCm anCm cdCm ctCm), slCm⟩)
    (cCm : PySem.W.codeIn K cdCm "_check_meters" = true)
    (kCm : PySem.W.keepIn K (.ref fCm) = true)
    (aPl : PySem.W.nsIn K mainGlobals "_pipe_line" = some (some (.ref fPl)))
    (lPl : K.lookup fPl = some ⟨ocPl, odPl, .func (PySem.W.fnOf "_pipe_line" "_pipe_line" (defArgs s_pipe_line) (defBody s_pipe_line) (defScope s_pipe_line) .none kVPl dcPl pmPl anPl cdPl ctPl), slPl⟩)
    (cPl : PySem.W.codeIn K cdPl "_pipe_line" = true)
    (kPl : PySem.W.keepIn K (.ref fPl) = true)
    (aMl : PySem.W.nsIn K mainGlobals "_meter_line" = some (some (.ref fMl)))
    (lMl : K.lookup fMl = some ⟨ocMl, odMl, .func (PySem.W.fnOf "_meter_line" "_meter_line" (defArgs s_meter_line) (defBody s_meter_line) (defScope s_meter_line) .none kVMl dcMl pmMl anMl cdMl ctMl), slMl⟩)
    (cMl : PySem.W.codeIn K cdMl "_meter_line" = true)
    (kMl : PySem.W.keepIn K (.ref fMl) = true)
    (aLs : PySem.W.nsIn K mainGlobals "_lines" = some (some (.ref fLs)))
    (lLs : K.lookup fLs = some ⟨ocLs, odLs, .func (PySem.W.fnOf "_lines" "_lines" (defArgs s_lines) (defBody s_lines) (defScope s_lines) .none kVLs dcLs pmLs anLs cdLs ctLs), slLs⟩)
    (cLs : PySem.W.codeIn K cdLs "_lines" = true)
    (kLs : PySem.W.keepIn K (.ref fLs) = true)
    (aNi : PySem.W.findIn K (.ref CN) "__init__" = some (some (.ref fNi)))
    (iNi : PySem.W.isFn K (.ref fNi) = true)
    (lNi : K.lookup fNi = some ⟨ocNi, odNi, .func (PySem.W.fnOf "__init__" "Net.__init__" (defArgs s_Net___init__) (defBody s_Net___init__) (defScope s_Net___init__) (.ref tD) kVNi dcNi pmNi anNi cdNi ctNi), slNi⟩)
    (cNi : PySem.W.codeIn K cdNi "Net.__init__" = true)
    (kNi : PySem.W.keepIn K (.ref fNi) = true)
    (lT : K.lookup tD = some ⟨.type "tuple", odT, .seq #[.ref t0] nT, slT⟩)
    (anp : PySem.W.findIn K (.ref CN) "pipes" = some (some (.ref pnp)))
    (gnp : PySem.W.specialIn K (.ref pnp) "__get__" = some (some (.builtin "property.__get__")))
    (tnp : PySem.W.takesIn K (.ref pnp) = some true)
    (rnp_ : PySem.W.recIn K pnp "property" = some (.ref fnp :: rnp))
    (lnp : K.lookup fnp = some ⟨ocnp, odnp, .func (PySem.W.fnOf "pipes" "Net.pipes" (defArgs s_Net_pipes) (defBody s_Net_pipes) (defScope s_Net_pipes) .none kVnp dcnp pmnp annp cdnp ctnp), slnp⟩)
    (cnp : PySem.W.codeIn K cdnp "Net.pipes" = true)
    (knp : PySem.W.keepIn K (.ref fnp) = true)
    (anm : PySem.W.findIn K (.ref CN) "meters" = some (some (.ref pnm)))
    (gnm : PySem.W.specialIn K (.ref pnm) "__get__" = some (some (.builtin "property.__get__")))
    (tnm : PySem.W.takesIn K (.ref pnm) = some true)
    (rnm_ : PySem.W.recIn K pnm "property" = some (.ref fnm :: rnm))
    (lnm : K.lookup fnm = some ⟨ocnm, odnm, .func (PySem.W.fnOf "meters" "Net.meters" (defArgs s_Net_meters) (defBody s_Net_meters) (defScope s_Net_meters) .none kVnm dcnm pmnm annm cdnm ctnm), slnm⟩)
    (cnm : PySem.W.codeIn K cdnm "Net.meters" = true)
    (knm : PySem.W.keepIn K (.ref fnm) = true)
    (aNl : PySem.W.findIn K (.ref CN) "__len__" = some (some (.ref fNl)))
    (iNl : PySem.W.isFn K (.ref fNl) = true)
    (lNl : K.lookup fNl = some ⟨ocNl, odNl, .func (PySem.W.fnOf "__len__" "Net.__len__" (defArgs s_Net___len__) (defBody s_Net___len__) (defScope s_Net___len__) .none kVNl dcNl pmNl anNl cdNl ctNl), slNl⟩)
    (cNl : PySem.W.codeIn K cdNl "Net.__len__" = true)
    (kNl : PySem.W.keepIn K (.ref fNl) = true)
    (fiNl : PySem.W.fnIn K fNl = true)
    (aNs : PySem.W.findIn K (.ref CN) "__str__" = some (some (.ref fNs)))
    (iNs : PySem.W.isFn K (.ref fNs) = true)
    (lNs : K.lookup fNs = some ⟨ocNs, odNs, .func (PySem.W.fnOf "__str__" "Net.__str__" (defArgs s_Net___str__) (defBody s_Net___str__) (defScope s_Net___str__) .none kVNs dcNs pmNs anNs cdNs ctNs), slNs⟩)
    (cNs : PySem.W.codeIn K cdNs "Net.__str__" = true)
    (kNs : PySem.W.keepIn K (.ref fNs) = true)
    (fiNs : PySem.W.fnIn K fNs = true)
    (aNq : PySem.W.findIn K (.ref CN) "__eq__" = some (some (.ref fNq)))
    (iNq : PySem.W.isFn K (.ref fNq) = true)
    (lNq : K.lookup fNq = some ⟨ocNq, odNq, .func (PySem.W.fnOf "__eq__" "Net.__eq__" (defArgs s_Net___eq__) (defBody s_Net___eq__) (defScope s_Net___eq__) .none kVNq dcNq pmNq anNq cdNq ctNq), slNq⟩)
    (cNq : PySem.W.codeIn K cdNq "Net.__eq__" = true)
    (kNq : PySem.W.keepIn K (.ref fNq) = true)
    (fiNq : PySem.W.fnIn K fNq = true)
    (aRw : PySem.W.nsIn K mainGlobals "_rows_in" = some (some (.ref fRw)))
    (lRw : K.lookup fRw = some ⟨ocRw, odRw, .func (PySem.W.fnOf "_rows_in" "_rows_in" (defArgs s_rows_in) (defBody s_rows_in) (defScope s_rows_in) .none kVRw dcRw pmRw anRw cdRw ctRw), slRw⟩)
    (cRw : PySem.W.codeIn K cdRw "_rows_in" = true)
    (kRw : PySem.W.keepIn K (.ref fRw) = true)
    (aPn : PySem.W.nsIn K mainGlobals "_pipes_in" = some (some (.ref fPn)))
    (lPn : K.lookup fPn = some ⟨ocPn, odPn, .func (PySem.W.fnOf "_pipes_in" "_pipes_in" (defArgs s_pipes_in) (defBody s_pipes_in) (defScope s_pipes_in) .none kVPn dcPn pmPn anPn cdPn ctPn), slPn⟩)
    (cPn : PySem.W.codeIn K cdPn "_pipes_in" = true)
    (kPn : PySem.W.keepIn K (.ref fPn) = true)
    (aMn : PySem.W.nsIn K mainGlobals "_meters_in" = some (some (.ref fMn)))
    (lMn : K.lookup fMn = some ⟨ocMn, odMn, .func (PySem.W.fnOf "_meters_in" "_meters_in" (defArgs s_meters_in) (defBody s_meters_in) (defScope s_meters_in) .none kVMn dcMn pmMn anMn cdMn ctMn), slMn⟩)
    (cMn : PySem.W.codeIn K cdMn "_meters_in" = true)
    (kMn : PySem.W.keepIn K (.ref fMn) = true)
    (rdN : PySem.W.readsIn K CN (.type "type") = true)
    (gaN : PySem.W.specialIn K (.ref CN) "__getattribute__" = some (some (.builtin "type.__getattribute__")))
    (aNr : PySem.W.findCls K (.ref CN) (.type "type") "read" = some (.get (.builtin "classmethod.__get__") (.ref pNr) .none (.ref CN)))
    (rNr_ : PySem.W.recIn K pNr "classmethod" = some (.ref fNr :: rNr))
    (fiNr : PySem.W.fnIn K fNr = true)
    (lNr : K.lookup fNr = some ⟨ocNr, odNr, .func (PySem.W.fnOf "read" "Net.read" (defArgs s_Net_read) (defBody s_Net_read) (defScope s_Net_read) .none kVNr dcNr pmNr anNr cdNr ctNr), slNr⟩)
    (cNr : PySem.W.codeIn K cdNr "Net.read" = true)
    (kNr : PySem.W.keepIn K (.ref fNr) = true)
    (b_list : PySem.W.nsIn K mainGlobals "list" = some none)
    (b_zip : PySem.W.nsIn K mainGlobals "zip" = some none)
    (aPp : PySem.W.findIn K (.ref CN) "pipe" = some (some (.ref fPp)))
    (iPp : PySem.W.isFn K (.ref fPp) = true)
    (lPp : K.lookup fPp = some ⟨ocPp, odPp, .func (PySem.W.fnOf "pipe" "Net.pipe" (defArgs s_Net_pipe) (defBody s_Net_pipe) (defScope s_Net_pipe) .none kVPp dcPp pmPp anPp cdPp ctPp), slPp⟩)
    (cPp : PySem.W.codeIn K cdPp "Net.pipe" = true)
    (kPp : PySem.W.keepIn K (.ref fPp) = true)
    (aKn : PySem.W.nsIn K mainGlobals "check_net" = some (some (.ref fKn)))
    (lKn : K.lookup fKn = some ⟨ocKn, odKn, .func (PySem.W.fnOf "check_net" "check_net" (defArgs s_check_net) (defBody s_check_net) (defScope s_check_net) .none kVKn dcKn pmKn anKn cdKn ctKn), slKn⟩)
    (cKn : PySem.W.codeIn K cdKn "check_net" = true)
    (kKn : PySem.W.keepIn K (.ref fKn) = true)
    (aKp : PySem.W.nsIn K mainGlobals "check_pipe" = some (some (.ref fKp)))
    (lKp : K.lookup fKp = some ⟨ocKp, odKp, .func (PySem.W.fnOf "check_pipe" "check_pipe" (defArgs s_check_pipe) (defBody s_check_pipe) (defScope s_check_pipe) .none kVKp dcKp pmKp anKp cdKp ctKp), slKp⟩)
    (cKp : PySem.W.codeIn K cdKp "check_pipe" = true)
    (kKp : PySem.W.keepIn K (.ref fKp) = true)
    (aMa : PySem.W.nsIn K mainGlobals "meters_at" = some (some (.ref fMa)))
    (lMa : K.lookup fMa = some ⟨ocMa, odMa, .func (PySem.W.fnOf "meters_at" "meters_at" (defArgs s_meters_at) (defBody s_meters_at) (defScope s_meters_at) .none kVMa dcMa pmMa anMa cdMa ctMa), slMa⟩)
    (cMa : PySem.W.codeIn K cdMa "meters_at" = true)
    (kMa : PySem.W.keepIn K (.ref fMa) = true)
    (aSa : PySem.W.nsIn K mainGlobals "sealed_at" = some (some (.ref fSa)))
    (lSa : K.lookup fSa = some ⟨ocSa, odSa, .func (PySem.W.fnOf "sealed_at" "sealed_at" (defArgs s_sealed_at) (defBody s_sealed_at) (defScope s_sealed_at) .none kVSa dcSa pmSa anSa cdSa ctSa), slSa⟩)
    (cSa : PySem.W.codeIn K cdSa "sealed_at" = true)
    (kSa : PySem.W.keepIn K (.ref fSa) = true)
    (aAm : PySem.W.nsIn K mainGlobals "_amounts" = some (some (.ref fAm)))
    (lAm : K.lookup fAm = some ⟨ocAm, odAm, .func (PySem.W.fnOf "_amounts" "_amounts" (defArgs s_amounts) (defBody s_amounts) (defScope s_amounts) .none kVAm dcAm pmAm anAm cdAm ctAm), slAm⟩)
    (cAm : PySem.W.codeIn K cdAm "_amounts" = true)
    (kAm : PySem.W.keepIn K (.ref fAm) = true)
    (aLk : PySem.W.nsIn K mainGlobals "_links" = some (some (.ref fLk)))
    (lLk : K.lookup fLk = some ⟨ocLk, odLk, .func (PySem.W.fnOf "_links" "_links" (defArgs s_links) (defBody s_links) (defScope s_links) .none kVLk dcLk pmLk anLk cdLk ctLk), slLk⟩)
    (cLk : PySem.W.codeIn K cdLk "_links" = true)
    (kLk : PySem.W.keepIn K (.ref fLk) = true)
    (aLd : PySem.W.nsIn K mainGlobals "_lead_on" = some (some (.ref fLd)))
    (lLd : K.lookup fLd = some ⟨ocLd, odLd, .func (PySem.W.fnOf "_lead_on" "_lead_on" (defArgs s_lead_on) (defBody s_lead_on) (defScope s_lead_on) .none kVLd dcLd pmLd anLd cdLd ctLd), slLd⟩)
    (cLd : PySem.W.codeIn K cdLd "_lead_on" = true)
    (kLd : PySem.W.keepIn K (.ref fLd) = true)
    (aSw : PySem.W.nsIn K mainGlobals "shortest_ways" = some (some (.ref fSw)))
    (lSw : K.lookup fSw = some ⟨ocSw, odSw, .func (PySem.W.fnOf "shortest_ways" "shortest_ways" (defArgs s_shortest_ways) (defBody s_shortest_ways) (defScope s_shortest_ways) .none kVSw dcSw pmSw anSw cdSw ctSw), slSw⟩)
    (cSw : PySem.W.codeIn K cdSw "shortest_ways" = true)
    (kSw : PySem.W.keepIn K (.ref fSw) = true)
    (aWb : PySem.W.nsIn K mainGlobals "_way_back" = some (some (.ref fWb)))
    (lWb : K.lookup fWb = some ⟨ocWb, odWb, .func (PySem.W.fnOf "_way_back" "_way_back" (defArgs s_way_back) (defBody s_way_back) (defScope s_way_back) .none kVWb dcWb pmWb anWb cdWb ctWb), slWb⟩)
    (cWb : PySem.W.codeIn K cdWb "_way_back" = true)
    (kWb : PySem.W.keepIn K (.ref fWb) = true)
    (aSt : PySem.W.nsIn K mainGlobals "strength" = some (some (.ref fSt)))
    (lSt : K.lookup fSt = some ⟨ocSt, odSt, .func (PySem.W.fnOf "strength" "strength" (defArgs s_strength) (defBody s_strength) (defScope s_strength) .none kVSt dcSt pmSt anSt cdSt ctSt), slSt⟩)
    (cSt : PySem.W.codeIn K cdSt "strength" = true)
    (kSt : PySem.W.keepIn K (.ref fSt) = true)
    (aNu : PySem.W.nsIn K mainGlobals "is_number" = some (some (.ref fNu)))
    (lNu : K.lookup fNu = some ⟨ocNu, odNu, .func (PySem.W.fnOf "is_number" "is_number" (defArgs s_is_number) (defBody s_is_number) (defScope s_is_number) .none kVNu dcNu pmNu anNu cdNu ctNu), slNu⟩)
    (cNu : PySem.W.codeIn K cdNu "is_number" = true)
    (kNu : PySem.W.keepIn K (.ref fNu) = true)
    (aIt : PySem.W.nsIn K mainGlobals "_is_term" = some (some (.ref fIt)))
    (lIt : K.lookup fIt = some ⟨ocIt, odIt, .func (PySem.W.fnOf "_is_term" "_is_term" (defArgs s_is_term) (defBody s_is_term) (defScope s_is_term) .none kVIt dcIt pmIt anIt cdIt ctIt), slIt⟩)
    (cIt : PySem.W.codeIn K cdIt "_is_term" = true)
    (kIt : PySem.W.keepIn K (.ref fIt) = true)
    (aCk : PySem.W.nsIn K mainGlobals "_check_terms" = some (some (.ref fCk)))
    (lCk : K.lookup fCk = some ⟨ocCk, odCk, .func (PySem.W.fnOf "_check_terms" "_check_terms" (defArgs s_check_terms) (defBody s_check_terms) (defScope s_check_terms) .none kVCk dcCk pmCk anCk cdCk ctCk), slCk⟩)
    (cCk : PySem.W.codeIn K cdCk "_check_terms" = true)
    (kCk : PySem.W.keepIn K (.ref fCk) = true)
    (aCo : PySem.W.nsIn K mainGlobals "_collected" = some (some (.ref fCo)))
    (lCo : K.lookup fCo = some ⟨ocCo, odCo, .func (PySem.W.fnOf "_collected" "_collected" (defArgs s_collected) (defBody s_collected) (defScope s_collected) .none kVCo dcCo pmCo anCo cdCo ctCo), slCo⟩)
    (cCo : PySem.W.codeIn K cdCo "_collected" = true)
    (kCo : PySem.W.keepIn K (.ref fCo) = true)
    (nS : PySem.W.nsIn K mainGlobals "Sum" = some (some (.ref CS)))
    (pgS : PySem.W.plainGet K CS Str.empty = true)
    (hdS : PySem.W.hasDictIn K CS = true)
    (poS : PySem.W.plainOver K CS = true)
    (saS : PySem.W.findIn K (.ref CS) "__setattr__" = some (some (.builtin "object.__setattr__")))
    (mkS : PySem.W.makesIn K CS = true)
    (kcS : PySem.W.keepIn K (.ref CS) = true)
    (haS : PySem.W.findIn K (.ref CS) "__class__" = some (some (.builtin "object.__class__")))
    (hmS : PySem.W.mroIn K CS (.type "object") = some true)
    (tyS : PySem.W.typeIn K (.ref CS) = some (.type "type"))
    (suS : PySem.W.subIn K (.ref CS) (.ref CS) = some true)
    (obS : PySem.W.subIn K (.ref CS) (.type "object") = some true)
    (noS0 : PySem.W.findIn K (.ref CS) "_terms" = some none)
    (aSi : PySem.W.findIn K (.ref CS) "__init__" = some (some (.ref fSi)))
    (iSi : PySem.W.isFn K (.ref fSi) = true)
    (lSi : K.lookup fSi = some ⟨ocSi, odSi, .func (PySem.W.fnOf "__init__" "Sum.__init__" (defArgs s_Sum___init__) (defBody s_Sum___init__) (defScope s_Sum___init__) (.ref tDS) kVSi dcSi pmSi anSi cdSi ctSi), slSi⟩)
    (cSi : PySem.W.codeIn K cdSi "Sum.__init__" = true)
    (kSi : PySem.W.keepIn K (.ref fSi) = true)
    (lTS : K.lookup tDS = some ⟨.type "tuple", odTS, .seq #[.ref t0S] nTS, slTS⟩)
    (l0S : K.lookup t0S = some ⟨.type "tuple", od0S, .seq #[] n0S, sl0S⟩)
    (aSg : PySem.W.findIn K (.ref CS) "__getitem__" = some (some (.ref fSg)))
    (iSg : PySem.W.isFn K (.ref fSg) = true)
    (lSg : K.lookup fSg = some ⟨ocSg, odSg, .func (PySem.W.fnOf "__getitem__" "Sum.__getitem__" (defArgs s_Sum___getitem__) (defBody s_Sum___getitem__) (defScope s_Sum___getitem__) .none kVSg dcSg pmSg anSg cdSg ctSg), slSg⟩)
    (cSg : PySem.W.codeIn K cdSg "Sum.__getitem__" = true)
    (kSg : PySem.W.keepIn K (.ref fSg) = true)
    (fiSg : PySem.W.fnIn K fSg = true)
    (aSx : PySem.W.findIn K (.ref CS) "terms" = some (some (.ref pSx)))
    (gSx : PySem.W.specialIn K (.ref pSx) "__get__" = some (some (.builtin "property.__get__")))
    (tSx : PySem.W.takesIn K (.ref pSx) = some true)
    (rSx_ : PySem.W.recIn K pSx "property" = some (.ref fSx :: rSx))
    (lSx : K.lookup fSx = some ⟨ocSx, odSx, .func (PySem.W.fnOf "terms" "Sum.terms" (defArgs s_Sum_terms) (defBody s_Sum_terms) (defScope s_Sum_terms) .none kVSx dcSx pmSx anSx cdSx ctSx), slSx⟩)
    (cSx : PySem.W.codeIn K cdSx "Sum.terms" = true)
    (kSx : PySem.W.keepIn K (.ref fSx) = true)
    (rdS : PySem.W.readsIn K CS (.type "type") = true)
    (gaS : PySem.W.specialIn K (.ref CS) "__getattribute__" = some (some (.builtin "type.__getattribute__")))
    (aSo : PySem.W.findCls K (.ref CS) (.type "type") "of" = some (.get (.builtin "classmethod.__get__") (.ref pSo) .none (.ref CS)))
    (rSo_ : PySem.W.recIn K pSo "classmethod" = some (.ref fSo :: rSo))
    (fiSo : PySem.W.fnIn K fSo = true)
    (lSo : K.lookup fSo = some ⟨ocSo, odSo, .func (PySem.W.fnOf "of" "Sum.of" (defArgs s_Sum_of) (defBody s_Sum_of) (defScope s_Sum_of) .none kVSo dcSo pmSo anSo cdSo ctSo), slSo⟩)
    (cSo : PySem.W.codeIn K cdSo "Sum.of" = true)
    (kSo : PySem.W.keepIn K (.ref fSo) = true)
    (aWi : PySem.W.nsIn K mainGlobals "_is_within" = some (some (.ref fWi)))
    (lWi : K.lookup fWi = some ⟨ocWi, odWi, .func (PySem.W.fnOf "_is_within" "_is_within" (defArgs s_is_within) (defBody s_is_within) (defScope s_is_within) .none kVWi dcWi pmWi anWi cdWi ctWi), slWi⟩)
    (cWi : PySem.W.codeIn K cdWi "_is_within" = true)
    (kWi : PySem.W.keepIn K (.ref fWi) = true)
    (aMx : PySem.W.nsIn K mainGlobals "_meter_in_layer" = some (some (.ref fMx)))
    (lMx : K.lookup fMx = some ⟨ocMx, odMx, .func (PySem.W.fnOf "_meter_in_layer" "_meter_in_layer" (defArgs s_meter_in_layer) (defBody s_meter_in_layer) (defScope s_meter_in_layer) .none kVMx dcMx pmMx anMx cdMx ctMx), slMx⟩)
    (cMx : PySem.W.codeIn K cdMx "_meter_in_layer" = true)
    (kMx : PySem.W.keepIn K (.ref fMx) = true)
    (aLy : PySem.W.nsIn K mainGlobals "_layer" = some (some (.ref fLy)))
    (lLy : K.lookup fLy = some ⟨ocLy, odLy, .func (PySem.W.fnOf "_layer" "_layer" (defArgs s_layer) (defBody s_layer) (defScope s_layer) .none kVLy dcLy pmLy anLy cdLy ctLy), slLy⟩)
    (cLy : PySem.W.codeIn K cdLy "_layer" = true)
    (kLy : PySem.W.keepIn K (.ref fLy) = true)
    (aVo : PySem.W.nsIn K mainGlobals "votes" = some (some (.ref fVo)))
    (lVo : K.lookup fVo = some ⟨ocVo, odVo, .func (PySem.W.fnOf "votes" "votes" (defArgs s_votes) (defBody s_votes) (defScope s_votes) .none kVVo dcVo pmVo anVo cdVo ctVo), slVo⟩)
    (cVo : PySem.W.codeIn K cdVo "votes" = true)
    (kVo : PySem.W.keepIn K (.ref fVo) = true)
    (aNc : PySem.W.findIn K (.ref CN) "__contains__" = some (some (.ref fNc)))
    (iNc : PySem.W.isFn K (.ref fNc) = true)
    (lNc : K.lookup fNc = some ⟨ocNc, odNc, .func (PySem.W.fnOf "__contains__" "Net.__contains__" (defArgs s_Net___contains__) (defBody s_Net___contains__) (defScope s_Net___contains__) .none kVNc dcNc pmNc anNc cdNc ctNc), slNc⟩)
    (cNc : PySem.W.codeIn K cdNc "Net.__contains__" = true)
    (kNc : PySem.W.keepIn K (.ref fNc) = true)
    (fiNc : PySem.W.fnIn K fNc = true)
    (aKm : PySem.W.nsIn K mainGlobals "check_meters" = some (some (.ref fKm)))
    (lKm : K.lookup fKm = some ⟨ocKm, odKm, .func (PySem.W.fnOf "check_meters" "check_meters" (defArgs s_check_metersP) (defBody s_check_metersP) (defScope s_check_metersP) .none kVKm dcKm pmKm anKm cdKm ctKm), slKm⟩)
    (cKm : PySem.W.codeIn K cdKm "check_meters" = true)
    (kKm : PySem.W.keepIn K (.ref fKm) = true)
    (aKt : PySem.W.nsIn K mainGlobals "check_total" = some (some (.ref fKt)))
    (lKt : K.lookup fKt = some ⟨ocKt, odKt, .func (PySem.W.fnOf "check_total" "check_total" (defArgs s_check_total) (defBody s_check_total) (defScope s_check_total) .none kVKt dcKt pmKt anKt cdKt ctKt), slKt⟩)
    (cKt : PySem.W.codeIn K cdKt "check_total" = true)
    (kKt : PySem.W.keepIn K (.ref fKt) = true)
    (aIr : PySem.W.nsIn K mainGlobals "is_reading" = some (some (.ref fIr)))
    (lIr : K.lookup fIr = some ⟨ocIr, odIr, .func (PySem.W.fnOf "is_reading" "is_reading" (defArgs s_is_reading) (defBody s_is_reading) (defScope s_is_reading) .none kVIr dcIr pmIr anIr cdIr ctIr), slIr⟩)
    (cIr : PySem.W.codeIn K cdIr "is_reading" = true)
    (kIr : PySem.W.keepIn K (.ref fIr) = true)
    (aKr : PySem.W.nsIn K mainGlobals "check_readings" = some (some (.ref fKr)))
    (lKr : K.lookup fKr = some ⟨ocKr, odKr, .func (PySem.W.fnOf "check_readings" "check_readings" (defArgs s_check_readings) (defBody s_check_readings) (defScope s_check_readings) .none kVKr dcKr pmKr anKr cdKr ctKr), slKr⟩)
    (cKr : PySem.W.codeIn K cdKr "check_readings" = true)
    (kKr : PySem.W.keepIn K (.ref fKr) = true)
    (aBn : PySem.W.nsIn K mainGlobals "by_name" = some (some (.ref fBn)))
    (lBn : K.lookup fBn = some ⟨ocBn, odBn, .func (PySem.W.fnOf "by_name" "by_name" (defArgs s_by_name) (defBody s_by_name) (defScope s_by_name) .none kVBn dcBn pmBn anBn cdBn ctBn), slBn⟩)
    (cBn : PySem.W.codeIn K cdBn "by_name" = true)
    (kBn : PySem.W.keepIn K (.ref fBn) = true)
    (aVn : PySem.W.nsIn K mainGlobals "value_in" = some (some (.ref fVn)))
    (lVn : K.lookup fVn = some ⟨ocVn, odVn, .func (PySem.W.fnOf "value_in" "value_in" (defArgs s_value_in) (defBody s_value_in) (defScope s_value_in) .none kVVn dcVn pmVn anVn cdVn ctVn), slVn⟩)
    (cVn : PySem.W.codeIn K cdVn "value_in" = true)
    (kVn : PySem.W.keepIn K (.ref fVn) = true)
    (aVf : PySem.W.nsIn K mainGlobals "value_of" = some (some (.ref fVf)))
    (lVf : K.lookup fVf = some ⟨ocVf, odVf, .func (PySem.W.fnOf "value_of" "value_of" (defArgs s_value_of) (defBody s_value_of) (defScope s_value_of) .none kVVf dcVf pmVf anVf cdVf ctVf), slVf⟩)
    (cVf : PySem.W.codeIn K cdVf "value_of" = true)
    (kVf : PySem.W.keepIn K (.ref fVf) = true)
    (aTy : PySem.W.nsIn K mainGlobals "tally" = some (some (.ref fTy)))
    (lTy : K.lookup fTy = some ⟨ocTy, odTy, .func (PySem.W.fnOf "tally" "tally" (defArgs s_tally) (defBody s_tally) (defScope s_tally) .none kVTy dcTy pmTy anTy cdTy ctTy), slTy⟩)
    (cTy : PySem.W.codeIn K cdTy "tally" = true)
    (kTy : PySem.W.keepIn K (.ref fTy) = true)
    (aWe : PySem.W.nsIn K mainGlobals "_law_well" = some (some (.ref fWe)))
    (lWe : K.lookup fWe = some ⟨ocWe, odWe, .func (PySem.W.fnOf "_law_well" "_law_well" (defArgs s_well) (defBody s_well) (defScope s_well) .none kVWe dcWe pmWe anWe cdWe ctWe), slWe⟩)
    (cWe : PySem.W.codeIn K cdWe "_law_well" = true)
    (kWe : PySem.W.keepIn K (.ref fWe) = true)
    (aDi : PySem.W.nsIn K mainGlobals "_law_dip" = some (some (.ref fDi)))
    (lDi : K.lookup fDi = some ⟨ocDi, odDi, .func (PySem.W.fnOf "_law_dip" "_law_dip" (defArgs s_dip) (defBody s_dip) (defScope s_dip) .none kVDi dcDi pmDi anDi cdDi ctDi), slDi⟩)
    (cDi : PySem.W.codeIn K cdDi "_law_dip" = true)
    (kDi : PySem.W.keepIn K (.ref fDi) = true)
    (aNa : PySem.W.nsIn K mainGlobals "_law_names" = some (some (.ref fNa)))
    (lNa : K.lookup fNa = some ⟨ocNa, odNa, .func (PySem.W.fnOf "_law_names" "_law_names" (defArgs s_names) (defBody s_names) (defScope s_names) .none kVNa dcNa pmNa anNa cdNa ctNa), slNa⟩)
    (cNa : PySem.W.codeIn K cdNa "_law_names" = true)
    (kNa : PySem.W.keepIn K (.ref fNa) = true)
    (aMo : PySem.W.nsIn K mainGlobals "_law_model" = some (some (.ref fMo)))
    (lMo : K.lookup fMo = some ⟨ocMo, odMo, .func (PySem.W.fnOf "_law_model" "_law_model" (defArgs s_model) (defBody s_model) (defScope s_model) .none kVMo dcMo pmMo anMo cdMo ctMo), slMo⟩)
    (cMo : PySem.W.codeIn K cdMo "_law_model" = true)
    (kMo : PySem.W.keepIn K (.ref fMo) = true)
    (aTx : PySem.W.nsIn K mainGlobals "_law_text" = some (some (.ref fTx)))
    (lTx : K.lookup fTx = some ⟨ocTx, odTx, .func (PySem.W.fnOf "_law_text" "_law_text" (defArgs s_text) (defBody s_text) (defScope s_text) .none kVTx dcTx pmTx anTx cdTx ctTx), slTx⟩)
    (cTx : PySem.W.codeIn K cdTx "_law_text" = true)
    (kTx : PySem.W.keepIn K (.ref fTx) = true)
    (aKe : PySem.W.nsIn K mainGlobals "_law_kept" = some (some (.ref fKe)))
    (lKe : K.lookup fKe = some ⟨ocKe, odKe, .func (PySem.W.fnOf "_law_kept" "_law_kept" (defArgs s_kept) (defBody s_kept) (defScope s_kept) .none kVKe dcKe pmKe anKe cdKe ctKe), slKe⟩)
    (cKe : PySem.W.codeIn K cdKe "_law_kept" = true)
    (kKe : PySem.W.keepIn K (.ref fKe) = true)
    (aFl : PySem.W.nsIn K mainGlobals "_law_flows" = some (some (.ref fFl)))
    (lFl : K.lookup fFl = some ⟨ocFl, odFl, .func (PySem.W.fnOf "_law_flows" "_law_flows" (defArgs s_flows) (defBody s_flows) (defScope s_flows) .none kVFl dcFl pmFl anFl cdFl ctFl), slFl⟩)
    (cFl : PySem.W.codeIn K cdFl "_law_flows" = true)
    (kFl : PySem.W.keepIn K (.ref fFl) = true)
    (aRg : PySem.W.nsIn K mainGlobals "_law_rings" = some (some (.ref fRg)))
    (lRg : K.lookup fRg = some ⟨ocRg, odRg, .func (PySem.W.fnOf "_law_rings" "_law_rings" (defArgs s_rings) (defBody s_rings) (defScope s_rings) .none kVRg dcRg pmRg anRg cdRg ctRg), slRg⟩)
    (cRg : PySem.W.codeIn K cdRg "_law_rings" = true)
    (kRg : PySem.W.keepIn K (.ref fRg) = true)
    (aNb : PySem.W.nsIn K mainGlobals "_law_number" = some (some (.ref fNb)))
    (lNb : K.lookup fNb = some ⟨ocNb, odNb, .func (PySem.W.fnOf "_law_number" "_law_number" (defArgs s_number) (defBody s_number) (defScope s_number) .none kVNb dcNb pmNb anNb cdNb ctNb), slNb⟩)
    (cNb : PySem.W.codeIn K cdNb "_law_number" = true)
    (kNb : PySem.W.keepIn K (.ref fNb) = true)
    (aFw : PySem.W.nsIn K mainGlobals "_law_flow" = some (some (.ref fFw)))
    (lFw : K.lookup fFw = some ⟨ocFw, odFw, .func (PySem.W.fnOf "_law_flow" "_law_flow" (defArgs s_flow) (defBody s_flow) (defScope s_flow) .none kVFw dcFw pmFw anFw cdFw ctFw), slFw⟩)
    (cFw : PySem.W.codeIn K cdFw "_law_flow" = true)
    (kFw : PySem.W.keepIn K (.ref fFw) = true)
    (aSh : PySem.W.nsIn K mainGlobals "_law_shown" = some (some (.ref fSh)))
    (lSh : K.lookup fSh = some ⟨ocSh, odSh, .func (PySem.W.fnOf "_law_shown" "_law_shown" (defArgs s_shown) (defBody s_shown) (defScope s_shown) .none kVSh dcSh pmSh anSh cdSh ctSh), slSh⟩)
    (cSh : PySem.W.codeIn K cdSh "_law_shown" = true)
    (kSh : PySem.W.keepIn K (.ref fSh) = true)
    (aRi : PySem.W.nsIn K mainGlobals "_law_right" = some (some (.ref fRi)))
    (lRi : K.lookup fRi = some ⟨ocRi, odRi, .func (PySem.W.fnOf "_law_right" "_law_right" (defArgs s_right) (defBody s_right) (defScope s_right) .none kVRi dcRi pmRi anRi cdRi ctRi), slRi⟩)
    (cRi : PySem.W.codeIn K cdRi "_law_right" = true)
    (kRi : PySem.W.keepIn K (.ref fRi) = true)
    (aLa : PySem.W.nsIn K mainGlobals "law" = some (some (.ref fLa)))
    (lLa : K.lookup fLa = some ⟨ocLa, odLa, .func (PySem.W.fnOf "law" "law" (defArgs s_law) (defBody s_law) (defScope s_law) .none kVLa dcLa pmLa anLa cdLa ctLa), slLa⟩)
    (cLa : PySem.W.codeIn K cdLa "law" = true)
    (kLa : PySem.W.keepIn K (.ref fLa) = true)
    : ∃ fd : FuncData, (∀ (s : Shared) (v : Value), BindsTo s fd ⟨[v], []⟩ [("_law_script", v)]) ∧ ∀ base : Heap, K.In base → base.Ns mainGlobals mg → FnG l.prog w K mg base 12 fa fd ["_law_script"] (spLaw K) := by
  have e := hfa.symm.trans (PySem.W.mg_of X G aLa)
  cases e
  have T : Blt mg := ⟨PySem.W.mg_none_of X G b_len, PySem.W.mg_none_of X G b_int, PySem.W.mg_none_of X G b_abs, PySem.W.mg_none_of X G b_max, PySem.W.mg_none_of X G b_min, PySem.W.mg_none_of X G b_all, PySem.W.mg_none_of X G b_any, PySem.W.mg_none_of X G b_repr, PySem.W.mg_none_of X G b_range, PySem.W.mg_none_of X G b_divmod, PySem.W.mg_none_of X G b_isinstance, PySem.W.mg_none_of X G b_str⟩
  have T2 : Blt2 mg := ⟨PySem.W.mg_none_of X G b_sum, PySem.W.mg_none_of X G b_sorted, PySem.W.mg_none_of X G b_set, PySem.W.mg_none_of X G b_tuple, PySem.W.mg_none_of X G b_enumerate, PySem.W.mg_none_of X G b_bool⟩
  have Cs : Cst mg := ⟨⟨_, PySem.W.mg_of X G g__LETTERS, _, rfl⟩, ⟨_, PySem.W.mg_of X G g__DIGITS, _, rfl⟩, ⟨_, PySem.W.mg_of X G g__LONGEST_NAME, _, rfl⟩⟩
  have Cs3 : Cst3 mg := ⟨⟨_, PySem.W.mg_of X G g_MOST_PIPES, _, rfl⟩, ⟨_, PySem.W.mg_of X G g_MOST_METERS, _, rfl⟩⟩
  have FIn := fun_mk (st := s_is_name) lIn cIn kIn
  have bIn : Binds K _ ["value"] [] := FIn.binds (ps := ["value"]) fun _ _ _ _ _ _ us hl => match us, hl with | [_], _ => rfl
  have FCn := fun_mk (st := s_check_names) lCn cCn kCn
  have bCn : Binds K _ ["values"] [] := FCn.binds (ps := ["values"]) fun _ _ _ _ _ _ us hl => match us, hl with | [_], _ => rfl
  have clP : Cls K CP := ⟨pgP, hdP, poP, saP⟩
  have clM : Cls K CM := ⟨pgM, hdM, poM, saM⟩
  have PC : PClass K mg CP := ⟨⟨clP, haP, hn, htk, hmP⟩, PySem.W.mg_of X G nP, noP0, noP1, noP2, kit_self K CP⟩
  have MC : MClass K mg CM := ⟨⟨clM, haM, hn, htk, hmM⟩, PySem.W.mg_of X G nM, noM0, noM1, noM2, kit_self K CM⟩
  have FPi := fun_mk (st := s_Pipe___init__) lPi cPi kPi
  have bPi : Binds K _ ["self", "name", "start", "end"] [] := FPi.binds (ps := ["self", "name", "start", "end"]) fun _ _ _ _ _ _ us hl => match us, hl with | [_, _, _, _], _ => rfl
  have MkP : Mk K CP fPi := ⟨mkP, aPi, iPi, kcP⟩
  have FMi : FunD K "__init__" "Meter.__init__" (defArgs s_Meter___init__) (defBody s_Meter___init__) (defScope s_Meter___init__) [] [("sealed", V.bl false)] fMi _ := ⟨⟨_, _, _, _, _, _, _, _, _, _, rfl, lMi, cMi, .inl ⟨rfl, rfl⟩, .inr ⟨kDMi, rfl, fun q hq => by
    rw [List.mem_singleton.mp hq]
    exact ⟨_, kd, rfl⟩⟩⟩, kMi⟩
  have MkM : Mk K CM fMi := ⟨mkM, aMi, iMi, kcM⟩
  have Fpn := fun_mk (st := s_Pipe_name) lpn cpn kpn
  have bpn : Binds K _ ["self"] [] := Fpn.binds (ps := ["self"]) fun _ _ _ _ _ _ us hl => match us, hl with | [_], _ => rfl
  have Fps := fun_mk (st := s_Pipe_start) lps cps kps
  have bps : Binds K _ ["self"] [] := Fps.binds (ps := ["self"]) fun _ _ _ _ _ _ us hl => match us, hl with | [_], _ => rfl
  have Fpe := fun_mk (st := s_Pipe_end) lpe cpe kpe
  have bpe : Binds K _ ["self"] [] := Fpe.binds (ps := ["self"]) fun _ _ _ _ _ _ us hl => match us, hl with | [_], _ => rfl
  have Fmn := fun_mk (st := s_Meter_name) lmn cmn kmn
  have bmn : Binds K _ ["self"] [] := Fmn.binds (ps := ["self"]) fun _ _ _ _ _ _ us hl => match us, hl with | [_], _ => rfl
  have Fma := fun_mk (st := s_Meter_at) lma cma kma
  have bma : Binds K _ ["self"] [] := Fma.binds (ps := ["self"]) fun _ _ _ _ _ _ us hl => match us, hl with | [_], _ => rfl
  have Fmz := fun_mk (st := s_Meter_sealed) lmz cmz kmz
  have bmz : Binds K _ ["self"] [] := Fmz.binds (ps := ["self"]) fun _ _ _ _ _ _ us hl => match us, hl with | [_], _ => rfl
  have FPq := fun_mk (st := s_Pipe___eq__) lPq cPq kPq
  have bPq : Binds K _ ["self", "other"] [] := FPq.binds (ps := ["self", "other"]) fun _ _ _ _ _ _ us hl => match us, hl with | [_, _], _ => rfl
  have FMq := fun_mk (st := s_Meter___eq__) lMq cMq kMq
  have bMq : Binds K _ ["self", "other"] [] := FMq.binds (ps := ["self", "other"]) fun _ _ _ _ _ _ us hl => match us, hl with | [_, _], _ => rfl
  have clN : Cls K CN := ⟨pgN, hdN, poN, saN⟩
  have NC : NClass K mg CN := ⟨⟨clN, haN, hn, htk, hmN⟩, PySem.W.mg_of X G nN, noN0, noN1, kit_self K CN⟩
  have FIo := fun_mk (st := s_index_of) lIo cIo kIo
  have bIo : Binds K _ ["parts", "name"] [] := FIo.binds (ps := ["parts", "name"]) fun _ _ _ _ _ _ us hl => match us, hl with | [_, _], _ => rfl
  have FCp := fun_mk (st := s_check_pipes) lCp cCp kCp
  have bCp : Binds K _ ["pipes"] [] := FCp.binds (ps := ["pipes"]) fun _ _ _ _ _ _ us hl => match us, hl with | [_], _ => rfl
  have FCm := fun_mk (st := s_check_meters) lCm cCm kCm
  have bCm : Binds K _ ["meters", "pipes"] [] := FCm.binds (ps := ["meters", "pipes"]) fun _ _ _ _ _ _ us hl => match us, hl with | [_, _], _ => rfl
  have FPl := fun_mk (st := s_pipe_line) lPl cPl kPl
  have bPl : Binds K _ ["part"] [] := FPl.binds (ps := ["part"]) fun _ _ _ _ _ _ us hl => match us, hl with | [_], _ => rfl
  have FMl := fun_mk (st := s_meter_line) lMl cMl kMl
  have bMl : Binds K _ ["part"] [] := FMl.binds (ps := ["part"]) fun _ _ _ _ _ _ us hl => match us, hl with | [_], _ => rfl
  have FLs := fun_mk (st := s_lines) lLs cLs kLs
  have bLs : Binds K _ ["pipes", "meters"] [] := FLs.binds (ps := ["pipes", "meters"]) fun _ _ _ _ _ _ us hl => match us, hl with | [_, _], _ => rfl
  have FNi : FunD K "__init__" "Net.__init__" (defArgs s_Net___init__) (defBody s_Net___init__) (defScope s_Net___init__) [.ref t0] [] fNi _ := ⟨⟨_, _, _, _, _, _, _, _, _, _, rfl, lNi, cNi, .inr ⟨by simp, tD, _, [.ref t0], nT, rfl, lT, rfl, .cons rfl .nil⟩, .inl rfl⟩, kNi⟩
  obtain ⟨dsN, vdN, bdN⟩ := chainN FNi
  have MkN : Mk K CN fNi := ⟨mkN, aNi, iNi, kcN⟩
  have Fnp := fun_mk (st := s_Net_pipes) lnp cnp knp
  have bnp : Binds K _ ["self"] [] := Fnp.binds (ps := ["self"]) fun _ _ _ _ _ _ us hl => match us, hl with | [_], _ => rfl
  have Fnm := fun_mk (st := s_Net_meters) lnm cnm knm
  have bnm : Binds K _ ["self"] [] := Fnm.binds (ps := ["self"]) fun _ _ _ _ _ _ us hl => match us, hl with | [_], _ => rfl
  have FNl := fun_mk (st := s_Net___len__) lNl cNl kNl
  have bNl : Binds K _ ["self"] [] := FNl.binds (ps := ["self"]) fun _ _ _ _ _ _ us hl => match us, hl with | [_], _ => rfl
  have FNs := fun_mk (st := s_Net___str__) lNs cNs kNs
  have bNs : Binds K _ ["self"] [] := FNs.binds (ps := ["self"]) fun _ _ _ _ _ _ us hl => match us, hl with | [_], _ => rfl
  have FNq := fun_mk (st := s_Net___eq__) lNq cNq kNq
  have bNq : Binds K _ ["self", "other"] [] := FNq.binds (ps := ["self", "other"]) fun _ _ _ _ _ _ us hl => match us, hl with | [_, _], _ => rfl
  have FRw := fun_mk (st := s_rows_in) lRw cRw kRw
  have bRw : Binds K _ ["text"] [] := FRw.binds (ps := ["text"]) fun _ _ _ _ _ _ us hl => match us, hl with | [_], _ => rfl
  have FPn := fun_mk (st := s_pipes_in) lPn cPn kPn
  have bPn : Binds K _ ["text"] [] := FPn.binds (ps := ["text"]) fun _ _ _ _ _ _ us hl => match us, hl with | [_], _ => rfl
  have FMn := fun_mk (st := s_meters_in) lMn cMn kMn
  have bMn : Binds K _ ["text"] [] := FMn.binds (ps := ["text"]) fun _ _ _ _ _ _ us hl => match us, hl with | [_], _ => rfl
  have RN : ClX.CRead K CN (.type "type") := ⟨rdN, gaN⟩
  have FNr := fun_mk (st := s_Net_read) lNr cNr kNr
  have bNr : Binds K _ ["cls", "text"] [] := FNr.binds (ps := ["cls", "text"]) fun _ _ _ _ _ _ us hl => match us, hl with | [_, _], _ => rfl
  have FPp := fun_mk (st := s_Net_pipe) lPp cPp kPp
  have bPp : Binds K _ ["self", "name"] [] := FPp.binds (ps := ["self", "name"]) fun _ _ _ _ _ _ us hl => match us, hl with | [_, _], _ => rfl
  have FKn := fun_mk (st := s_check_net) lKn cKn kKn
  have bKn : Binds K _ ["net"] [] := FKn.binds (ps := ["net"]) fun _ _ _ _ _ _ us hl => match us, hl with | [_], _ => rfl
  have FKp := fun_mk (st := s_check_pipe) lKp cKp kKp
  have bKp : Binds K _ ["net", "pipe"] [] := FKp.binds (ps := ["net", "pipe"]) fun _ _ _ _ _ _ us hl => match us, hl with | [_, _], _ => rfl
  have FMa := fun_mk (st := s_meters_at) lMa cMa kMa
  have bMa : Binds K _ ["net", "name"] [] := FMa.binds (ps := ["net", "name"]) fun _ _ _ _ _ _ us hl => match us, hl with | [_, _], _ => rfl
  have FSa := fun_mk (st := s_sealed_at) lSa cSa kSa
  have bSa : Binds K _ ["net", "name"] [] := FSa.binds (ps := ["net", "name"]) fun _ _ _ _ _ _ us hl => match us, hl with | [_, _], _ => rfl
  have FAm := fun_mk (st := s_amounts) lAm cAm kAm
  have bAm : Binds K _ ["net", "index", "amount"] [] := FAm.binds (ps := ["net", "index", "amount"]) fun _ _ _ _ _ _ us hl => match us, hl with | [_, _, _], _ => rfl
  have FLk := fun_mk (st := s_links) lLk cLk kLk
  have bLk : Binds K _ ["net", "pipe"] [] := FLk.binds (ps := ["net", "pipe"]) fun _ _ _ _ _ _ us hl => match us, hl with | [_, _], _ => rfl
  have FLd := fun_mk (st := s_lead_on) lLd cLd kLd
  have bLd : Binds K _ ["ways", "start", "end", "many", "amounts"] [] := FLd.binds (ps := ["ways", "start", "end", "many", "amounts"]) fun _ _ _ _ _ _ us hl => match us, hl with | [_, _, _, _, _], _ => rfl
  have FSw := fun_mk (st := s_shortest_ways) lSw cSw kSw
  have bSw : Binds K _ ["net", "pipe"] [] := FSw.binds (ps := ["net", "pipe"]) fun _ _ _ _ _ _ us hl => match us, hl with | [_, _], _ => rfl
  have FWb := fun_mk (st := s_way_back) lWb cWb kWb
  have bWb : Binds K _ ["net", "pipe"] [] := FWb.binds (ps := ["net", "pipe"]) fun _ _ _ _ _ _ us hl => match us, hl with | [_, _], _ => rfl
  have FSt := fun_mk (st := s_strength) lSt cSt kSt
  have bSt : Binds K _ ["net", "pipe"] [] := FSt.binds (ps := ["net", "pipe"]) fun _ _ _ _ _ _ us hl => match us, hl with | [_, _], _ => rfl
  have FNu := fun_mk (st := s_is_number) lNu cNu kNu
  have bNu : Binds K _ ["value"] [] := FNu.binds (ps := ["value"]) fun _ _ _ _ _ _ us hl => match us, hl with | [_], _ => rfl
  have FIt := fun_mk (st := s_is_term) lIt cIt kIt
  have bIt : Binds K _ ["value"] [] := FIt.binds (ps := ["value"]) fun _ _ _ _ _ _ us hl => match us, hl with | [_], _ => rfl
  have FCk := fun_mk (st := s_check_terms) lCk cCk kCk
  have bCk : Binds K _ ["terms"] [] := FCk.binds (ps := ["terms"]) fun _ _ _ _ _ _ us hl => match us, hl with | [_], _ => rfl
  have FCo := fun_mk (st := s_collected) lCo cCo kCo
  have bCo : Binds K _ ["terms"] [] := FCo.binds (ps := ["terms"]) fun _ _ _ _ _ _ us hl => match us, hl with | [_], _ => rfl
  have clS : Cls K CS := ⟨pgS, hdS, poS, saS⟩
  have SC : SClass K mg CS := ⟨⟨clS, haS, hn, htk, hmS⟩, PySem.W.mg_of X G nS, noS0, kit_self K CS⟩
  have FSi : FunD K "__init__" "Sum.__init__" (defArgs s_Sum___init__) (defBody s_Sum___init__) (defScope s_Sum___init__) [.ref t0S] [] fSi _ := ⟨⟨_, _, _, _, _, _, _, _, _, _, rfl, lSi, cSi, .inr ⟨by simp, tDS, _, [.ref t0S], nTS, rfl, lTS, rfl, .cons rfl .nil⟩, .inl rfl⟩, kSi⟩
  have ht0S : ∀ H, SqT K H t0S [] := fun H => .inr ⟨_, #[], n0S, l0S, rfl, rfl, by decide, .nil⟩
  obtain ⟨dsA, vdA, bA⟩ := chainA FSi
  obtain ⟨dsB, vdB, bB⟩ := chainB FSi
  have MkS : Mk K CS fSi := ⟨mkS, aSi, iSi, kcS⟩
  have FSg := fun_mk (st := s_Sum___getitem__) lSg cSg kSg
  have bSg : Binds K _ ["self", "at"] [] := FSg.binds (ps := ["self", "at"]) fun _ _ _ _ _ _ us hl => match us, hl with | [_, _], _ => rfl
  have FSx := fun_mk (st := s_Sum_terms) lSx cSx kSx
  have bSx : Binds K _ ["self"] [] := FSx.binds (ps := ["self"]) fun _ _ _ _ _ _ us hl => match us, hl with | [_], _ => rfl
  have RS : ClX.CRead K CS (.type "type") := ⟨rdS, gaS⟩
  have FSo := fun_mk (st := s_Sum_of) lSo cSo kSo
  have FWi := fun_mk (st := s_is_within) lWi cWi kWi
  have bWi : Binds K _ ["distances", "place", "distance"] [] := FWi.binds (ps := ["distances", "place", "distance"]) fun _ _ _ _ _ _ us hl => match us, hl with | [_, _, _], _ => rfl
  have FMx := fun_mk (st := s_meter_in_layer) lMx cMx kMx
  have bMx : Binds K _ ["net", "part", "distances", "distance"] [] := FMx.binds (ps := ["net", "part", "distances", "distance"]) fun _ _ _ _ _ _ us hl => match us, hl with | [_, _, _, _], _ => rfl
  have FLy := fun_mk (st := s_layer) lLy cLy kLy
  have bLy : Binds K _ ["net", "pipe", "distances", "distance"] [] := FLy.binds (ps := ["net", "pipe", "distances", "distance"]) fun _ _ _ _ _ _ us hl => match us, hl with | [_, _, _, _], _ => rfl
  have FVo := fun_mk (st := s_votes) lVo cVo kVo
  have bVo : Binds K _ ["net", "pipe"] [] := FVo.binds (ps := ["net", "pipe"]) fun _ _ _ _ _ _ us hl => match us, hl with | [_, _], _ => rfl
  have FNc := fun_mk (st := s_Net___contains__) lNc cNc kNc
  have bNc : Binds K _ ["self", "x"] [] := FNc.binds (ps := ["self", "x"]) fun _ _ _ _ _ _ us hl => match us, hl with | [_, _], _ => rfl
  have FKm := fun_mk (st := s_check_metersP) lKm cKm kKm
  have bKm : Binds K _ ["net", "names"] [] := FKm.binds (ps := ["net", "names"]) fun _ _ _ _ _ _ us hl => match us, hl with | [_, _], _ => rfl
  have FKt := fun_mk (st := s_check_total) lKt cKt kKt
  have bKt : Binds K _ ["net", "total"] [] := FKt.binds (ps := ["net", "total"]) fun _ _ _ _ _ _ us hl => match us, hl with | [_, _], _ => rfl
  have FIr := fun_mk (st := s_is_reading) lIr cIr kIr
  have bIr : Binds K _ ["part", "value"] [] := FIr.binds (ps := ["part", "value"]) fun _ _ _ _ _ _ us hl => match us, hl with | [_, _], _ => rfl
  have FKr := fun_mk (st := s_check_readings) lKr cKr kKr
  have bKr : Binds K _ ["net", "readings"] [] := FKr.binds (ps := ["net", "readings"]) fun _ _ _ _ _ _ us hl => match us, hl with | [_, _], _ => rfl
  have FBn := fun_mk (st := s_by_name) lBn cBn kBn
  have bBn : Binds K _ ["net", "readings"] [] := FBn.binds (ps := ["net", "readings"]) fun _ _ _ _ _ _ us hl => match us, hl with | [_, _], _ => rfl
  have FVn := fun_mk (st := s_value_in) lVn cVn kVn
  have bVn : Binds K _ ["shown", "total"] [] := FVn.binds (ps := ["shown", "total"]) fun _ _ _ _ _ _ us hl => match us, hl with | [_, _], _ => rfl
  have FVf := fun_mk (st := s_value_of) lVf cVf kVf
  have bVf : Binds K _ ["net", "total", "readings"] [] := FVf.binds (ps := ["net", "total", "readings"]) fun _ _ _ _ _ _ us hl => match us, hl with | [_, _, _], _ => rfl
  have FTy := fun_mk (st := s_tally) lTy cTy kTy
  have bTy : Binds K _ ["net", "pipe", "readings"] [] := FTy.binds (ps := ["net", "pipe", "readings"]) fun _ _ _ _ _ _ us hl => match us, hl with | [_, _, _], _ => rfl
  have FWe := fun_mk (st := s_well) lWe cWe kWe
  have bWe : Binds K _ ["_law_script", "_law_k"] [] := FWe.binds (ps := ["_law_script", "_law_k"]) fun _ _ _ _ _ _ us hl => match us, hl with | [_, _], _ => rfl
  have FDi := fun_mk (st := s_dip) lDi cDi kDi
  have bDi : Binds K _ ["_law_well_here", "_law_many"] [] := FDi.binds (ps := ["_law_well_here", "_law_many"]) fun _ _ _ _ _ _ us hl => match us, hl with | [_, _], _ => rfl
  have FNa := fun_mk (st := s_names) lNa cNa kNa
  have bNa : Binds K _ ["_law_well_here", "_law_many"] [] := FNa.binds (ps := ["_law_well_here", "_law_many"]) fun _ _ _ _ _ _ us hl => match us, hl with | [_, _], _ => rfl
  have FMo := fun_mk (st := s_model) lMo cMo kMo
  have bMo : Binds K _ ["_law_well_here", "_law_most", "_law_more"] [] := FMo.binds (ps := ["_law_well_here", "_law_most", "_law_more"]) fun _ _ _ _ _ _ us hl => match us, hl with | [_, _, _], _ => rfl
  have FTx := fun_mk (st := s_text) lTx cTx kTx
  have bTx : Binds K _ ["_law_model_here"] [] := FTx.binds (ps := ["_law_model_here"]) fun _ _ _ _ _ _ us hl => match us, hl with | [_], _ => rfl
  have FKe := fun_mk (st := s_kept) lKe cKe kKe
  have bKe : Binds K _ ["_law_model_here", "_law_row"] [] := FKe.binds (ps := ["_law_model_here", "_law_row"]) fun _ _ _ _ _ _ us hl => match us, hl with | [_, _], _ => rfl
  have FFl := fun_mk (st := s_flows) lFl cFl kFl
  have bFl : Binds K _ ["_law_model_here"] [] := FFl.binds (ps := ["_law_model_here"]) fun _ _ _ _ _ _ us hl => match us, hl with | [_], _ => rfl
  have FRg := fun_mk (st := s_rings) lRg cRg kRg
  have bRg : Binds K _ ["_law_model_here"] [] := FRg.binds (ps := ["_law_model_here"]) fun _ _ _ _ _ _ us hl => match us, hl with | [_], _ => rfl
  have FNb := fun_mk (st := s_number) lNb cNb kNb
  have bNb : Binds K _ ["_law_well_here"] [] := FNb.binds (ps := ["_law_well_here"]) fun _ _ _ _ _ _ us hl => match us, hl with | [_], _ => rfl
  have FFw := fun_mk (st := s_flow) lFw cFw kFw
  have bFw : Binds K _ ["_law_well_here", "_law_model_here", "_law_rings_here"] [] := FFw.binds (ps := ["_law_well_here", "_law_model_here", "_law_rings_here"]) fun _ _ _ _ _ _ us hl => match us, hl with | [_, _, _], _ => rfl
  have FSh := fun_mk (st := s_shown) lSh cSh kSh
  have bSh : Binds K _ ["_law_well_here", "_law_model_here", "_law_flow_here", "_law_other", "_law_bad", "_law_mute"] [] := FSh.binds (ps := ["_law_well_here", "_law_model_here", "_law_flow_here", "_law_other", "_law_bad", "_law_mute"]) fun _ _ _ _ _ _ us hl => match us, hl with | [_, _, _, _, _, _], _ => rfl
  have FRi := fun_mk (st := s_right) lRi cRi kRi
  have bRi : Binds K _ ["_law_well_here"] [] := FRi.binds (ps := ["_law_well_here"]) fun _ _ _ _ _ _ us hl => match us, hl with | [_], _ => rfl
  refine ⟨PySem.W.fnOf "law" "law" (defArgs s_law) (defBody s_law) (defScope s_law) .none kVLa dcLa pmLa anLa cdLa ctLa, fun s v => .of_eq rfl, fun base _ _ => ?_⟩
  have GIn : Fn l.prog w K mg base "is_name" 1 ["value"] (sp_is_name K) := ⟨_, _, PySem.W.mg_of X G aIn, kIn, bIn, ok_is_name FIn T Cs⟩
  have GCn : Fn l.prog w K mg base "_check_names" 2 ["values"] (sp_check K) := ⟨_, _, PySem.W.mg_of X G aCn, kCn, bCn, ok_check_names FCn GIn.irr⟩
  have OPi : FnOk l.prog w K mg base CX0 3 fPi _ ["self", "name", "start", "end"] (sp_Pipe CP) := ok_Pipe_i FPi PC GCn.irr
  have P0 : Mkr l.prog w K mg base "Pipe" CP 3 (sp_Pipe CP) [] := ⟨PC.k, _, _, _, [], MkP, bPi, .nil, OPi⟩
  have OMi : FnOk l.prog w K mg base CX0 3 fMi _ ["self", "name", "at", "sealed"] (sp_Meter CM) := ok_Meter_i FMi MC GCn.irr
  have M2 : MkrK l.prog w K mg base "Meter" CM 3 2 ["sealed"] (sp_Meter CM) gM2 := ⟨MC.k, _, _, _, _, MkM, kbM2 FMi, OMi⟩
  have Gpn : Prp l.prog w K mg base CP "name" 1 (sp_pn CP) := ⟨clP, _, _, _, _, ⟨apn, gpn, tpn, _, rpn_⟩, bpn, ok_Pipe_name Fpn PC⟩
  have Gps : Prp l.prog w K mg base CP "start" 1 (sp_ps CP) := ⟨clP, _, _, _, _, ⟨aps, gps, tps, _, rps_⟩, bps, ok_Pipe_start Fps PC⟩
  have Gpe : Prp l.prog w K mg base CP "end" 1 (sp_pe CP) := ⟨clP, _, _, _, _, ⟨ape, gpe, tpe, _, rpe_⟩, bpe, ok_Pipe_end Fpe PC⟩
  have Gmn : Prp l.prog w K mg base CM "name" 1 (sp_mn CM) := ⟨clM, _, _, _, _, ⟨amn, gmn, tmn, _, rmn_⟩, bmn, ok_Meter_name Fmn MC⟩
  have Gma : Prp l.prog w K mg base CM "at" 1 (sp_ma CM) := ⟨clM, _, _, _, _, ⟨ama, gma, tma, _, rma_⟩, bma, ok_Meter_at Fma MC⟩
  have Gmz : Prp l.prog w K mg base CM "sealed" 1 (sp_mz CM) := ⟨clM, _, _, _, _, ⟨amz, gmz, tmz, _, rmz_⟩, bmz, ok_Meter_sealed Fmz MC⟩
  have GPq : OwnM l.prog w K mg base CP "__eq__" 1 (sp_Peq CP) := ⟨_, _, _, aPq, iPq, fiPq, bPq, ok_Pipe_q FPq PC T⟩
  have GMq : OwnM l.prog w K mg base CM "__eq__" 1 (sp_Meq CM) := ⟨_, _, _, aMq, iMq, fiMq, bMq, ok_Meter_q FMq MC T⟩
  have qP : OwnEq l.prog w K mg base CP 1 (sp_Peq CP) := ⟨⟨_, _, _, aPq, iPq, bPq, ok_Pipe_q FPq PC T⟩, neP, obP⟩
  have qM : OwnEq l.prog w K mg base CM 1 (sp_Meq CM) := ⟨⟨_, _, _, aMq, iMq, bMq, ok_Meter_q FMq MC T⟩, neM, obM⟩
  have GIo : Fn l.prog w K mg base "_index_of" 3 ["parts", "name"] (sp_index K CP) := ⟨_, _, PySem.W.mg_of X G aIo, kIo, bIo, ok_index_of FIo T T2 Gpn.irr⟩
  have GCp : Fn l.prog w K mg base "_check_pipes" 3 ["pipes"] (sp_chkP K CP) := ⟨_, _, PySem.W.mg_of X G aCp, kCp, bCp, ok_check_pipes FCp T T2 Cs3 PC Gpn.irr⟩
  have GCm : Fn l.prog w K mg base "_check_meters" 4 ["meters", "pipes"] (sp_chkM K CP CM) := ⟨_, _, PySem.W.mg_of X G aCm, kCm, bCm, ok_check_meters FCm T T2 Cs3 MC Gmn.irr Gma.irr GIo.irr⟩
  have GPl : Fn l.prog w K mg base "_pipe_line" 3 ["part"] (sp_pline CP) := ⟨_, _, PySem.W.mg_of X G aPl, kPl, bPl, ok_pipe_line FPl Gpn.irr Gps.irr Gpe.irr⟩
  have GMl : Fn l.prog w K mg base "_meter_line" 3 ["part"] (sp_mline CM) := ⟨_, _, PySem.W.mg_of X G aMl, kMl, bMl, ok_meter_line FMl Gmn.irr Gma.irr Gmz.irr⟩
  have GLs : Fn l.prog w K mg base "_lines" 4 ["pipes", "meters"] (sp_lines K CP CM) := ⟨_, _, PySem.W.mg_of X G aLs, kLs, bLs, ok_lines FLs GPl.irr GMl.irr⟩
  have ONi : FnOk l.prog w K mg base CX0 5 fNi _ ["self", "pipes", "meters"] (sp_Net K CN CP CM) := ok_Net_i FNi NC GCp.irr GCm.irr
  have N1 : Mkr l.prog w K mg base "Net" CN 5 (sp_Net K CN CP CM) [] := ⟨NC.k, _, _, _, dsN, MkN, bdN, vdN, ONi⟩
  have Gnp : Prp l.prog w K mg base CN "pipes" 1 (sp_npi CN) := ⟨clN, _, _, _, _, ⟨anp, gnp, tnp, _, rnp_⟩, bnp, ok_Net_p Fnp NC⟩
  have Gnm : Prp l.prog w K mg base CN "meters" 1 (sp_nme CN) := ⟨clN, _, _, _, _, ⟨anm, gnm, tnm, _, rnm_⟩, bnm, ok_Net_m Fnm NC⟩
  have GNl : OwnM l.prog w K mg base CN "__len__" 1 (sp_nlen K CN) := ⟨_, _, _, aNl, iNl, fiNl, bNl, ok_Net_l FNl NC T⟩
  have GNs : OwnM l.prog w K mg base CN "__str__" 5 (sp_nstr K CN CP CM) := ⟨_, _, _, aNs, iNs, fiNs, bNs, ok_Net_s FNs NC GLs.irr⟩
  have GNq : OwnM l.prog w K mg base CN "__eq__" 4 (sp_Neq K CN CP CM) := ⟨_, _, _, aNq, iNq, fiNq, bNq, ok_Net_q FNq NC T qP qM⟩
  have qN : OwnEq l.prog w K mg base CN 4 (sp_Neq K CN CP CM) := ⟨⟨_, _, _, aNq, iNq, bNq, ok_Net_q FNq NC T qP qM⟩, neN, obN⟩
  have GRw : Fn l.prog w K mg base "_rows_in" 1 ["text"] (sp_rows) := ⟨_, _, PySem.W.mg_of X G aRw, kRw, bRw, ok_rows_in (K := K) FRw ⟩
  have GPn : Fn l.prog w K mg base "_pipes_in" 5 ["text"] (sp_pin K CP) := ⟨_, _, PySem.W.mg_of X G aPn, kPn, bPn, ok_pipes_in FPn T T2 GRw.irr P0.irr⟩
  have GMn : Fn l.prog w K mg base "_meters_in" 5 ["text"] (sp_min K CM) := ⟨_, _, PySem.W.mg_of X G aMn, kMn, bMn, ok_meters_in FMn T T2 GRw.irr M2.irr⟩
  have ONr := ok_Net_r (P := l.prog) (w := w) (mg := mg) (base := base) FNr T N1.irr GPn.irr GMn.irr GNs.irr
  have GNr : ClsM l.prog w K mg base CN "read" 8 ["cls", "text"] (sp_nread K CN CP CM) := ⟨.type "type", pNr, fNr, _, RN, ⟨aNr, ⟨_, rNr_⟩, fiNr⟩, bNr, ONr⟩
  have GNk : ClsMK l.prog w K mg base CN "read" 8 ["text"] (sp_nread K CN CP CM) gR := ⟨.type "type", pNr, fNr, _, _, _, RN, ⟨aNr, ⟨_, rNr_⟩, fiNr⟩, kbNR FNr, ONr⟩
  have GPp : Mtd l.prog w K mg base CN "pipe" 4 ["self", "name"] (sp_gpipe K CN CP CM) := ⟨clN, _, _, ⟨aPp, iPp, kPp⟩, bPp, ok_gpipe FPp NC GIo.irr⟩
  have GKn : Fn l.prog w K mg base "check_net" 1 ["net"] (sp_chkn K CN CP CM) := ⟨_, _, PySem.W.mg_of X G aKn, kKn, bKn, ok_chkn FKn T NC⟩
  have GKp : Fn l.prog w K mg base "check_pipe" 5 ["net", "pipe"] (sp_chkp K CN CP CM) := ⟨_, _, PySem.W.mg_of X G aKp, kKp, bKp, ok_chkp FKp GPp.irr⟩
  have GMa : Fn l.prog w K mg base "meters_at" 3 ["net", "name"] (sp_mat K CN CP CM) := ⟨_, _, PySem.W.mg_of X G aMa, kMa, bMa, ok_mat FMa Gnm.irr Gma.irr⟩
  have GSa : Fn l.prog w K mg base "sealed_at" 4 ["net", "name"] (sp_sat K CN CP CM) := ⟨_, _, PySem.W.mg_of X G aSa, kSa, bSa, ok_sat FSa GMa.irr Gmn.irr Gmz.irr⟩
  have GAm : Fn l.prog w K mg base "_amounts" 3 ["net", "index", "amount"] (sp_amt K CN CP CM) := ⟨_, _, PySem.W.mg_of X G aAm, kAm, bAm, ok_amt FAm T T2 Gnp.irr⟩
  have GLk : Fn l.prog w K mg base "_links" 5 ["net", "pipe"] (sp_lnks K CN CP CM) := ⟨_, _, PySem.W.mg_of X G aLk, kLk, bLk, ok_lnks FLk T T2 Gnp.irr Gpn.irr Gps.irr Gpe.irr GSa.irr GMa.irr GAm.irr⟩
  have GLd : Fn l.prog w K mg base "_lead_on" 1 ["ways", "start", "end", "many", "amounts"] (sp_lead) := ⟨_, _, PySem.W.mg_of X G aLd, kLd, bLd, ok_lead FLd (PySem.W.mg_none_of X G b_zip) T2⟩
  have GSw : Fn l.prog w K mg base "shortest_ways" 6 ["net", "pipe"] (sp_ways K CN CP CM) := ⟨_, _, PySem.W.mg_of X G aSw, kSw, bSw, ok_ways FSw GPp.irr Gnp.irr Gpe.irr GAm.irr GLk.irr GLd.irr⟩
  have GWb : Fn l.prog w K mg base "_way_back" 7 ["net", "pipe"] (sp_back K CN CP CM) := ⟨_, _, PySem.W.mg_of X G aWb, kWb, bWb, ok_back FWb GPp.irr Gps.irr GSa.irr GSw.irr⟩
  have GSt : Fn l.prog w K mg base "strength" 8 ["net", "pipe"] (sp_stren K CN CP CM) := ⟨_, _, PySem.W.mg_of X G aSt, kSt, bSt, ok_stren FSt T GKn.irr GKp.irr GWb.irr GMa.irr⟩
  have GNu : Fn l.prog w K mg base "is_number" 1 ["value"] (sp_is_number K) := ⟨_, _, PySem.W.mg_of X G aNu, kNu, bNu, ok_is_number FNu T T2⟩
  have GIt : Fn l.prog w K mg base "_is_term" 2 ["value"] (sp_is_term K) := ⟨_, _, PySem.W.mg_of X G aIt, kIt, bIt, ok_is_term FIt T T2 GIn.irr GNu.irr⟩
  have GCk : Fn l.prog w K mg base "_check_terms" 3 ["terms"] (sp_check_terms K) := ⟨_, _, PySem.W.mg_of X G aCk, kCk, bCk, ok_check_terms FCk T T2 GIt.irr⟩
  have GCo : Fn l.prog w K mg base "_collected" 1 ["terms"] (sp_collected K) := ⟨_, _, PySem.W.mg_of X G aCo, kCo, bCo, ok_collected FCo T2⟩
  have OSi : FnOk l.prog w K mg base CX0 4 fSi _ ["self", "terms"] (sp_Sum K CS) := ok_Sum_i FSi SC GCk.irr GCo.irr
  have S1 : Mkr l.prog w K mg base "Sum" CS 4 (sp_Sum K CS) [] := ⟨SC.k, _, _, _, dsB, MkS, bB, vdB, OSi⟩
  have GSg : OwnM l.prog w K mg base CS "__getitem__" 2 (sp_get CS) := ⟨_, _, _, aSg, iSg, fiSg, bSg, ok_Sum_g FSg SC GIn.irr⟩
  have GSx : Prp l.prog w K mg base CS "terms" 1 (sp_terms CS) := ⟨clS, _, _, _, _, ⟨aSx, gSx, tSx, _, rSx_⟩, bSx, ok_Sum_t FSx SC⟩
  have GSo : ClsR l.prog w K mg base CS "of" 6 (sp_of CS) := ⟨.type "type", pSo, fSo, RS, ⟨aSo, ⟨_, rSo_⟩, fiSo⟩, ok_Sum_of FSo T2 GIn.irr S1.irr⟩
  have GSaN : Fn l.prog w K mg base "sealed_at" 4 ["net", "name"] (sp_satN K CN CP CM) := ⟨_, _, PySem.W.mg_of X G aSa, kSa, bSa, ok_satN FSa GMa.irr Gmn.irr Gmz.irr⟩
  have GWi : Fn l.prog w K mg base "_is_within" 1 ["distances", "place", "distance"] (sp_wit) := ⟨_, _, PySem.W.mg_of X G aWi, kWi, bWi, ok_wit FWi ⟩
  have GMx : Fn l.prog w K mg base "_meter_in_layer" 5 ["net", "part", "distances", "distance"] (sp_mil K CN CP CM) := ⟨_, _, PySem.W.mg_of X G aMx, kMx, bMx, ok_mil FMx T GMa.irr GSaN.irr Gmn.irr Gpn.irr Gps.irr Gpe.irr⟩
  have GLy : Fn l.prog w K mg base "_layer" 6 ["net", "pipe", "distances", "distance"] (sp_lay K CN CP CM CS) := ⟨_, _, PySem.W.mg_of X G aLy, kLy, bLy, ok_lay FLy T2 Gnp.irr Gpn.irr Gps.irr Gpe.irr GWi.irr GMx.irr S1.irr⟩
  have GVo : Fn l.prog w K mg base "votes" 9 ["net", "pipe"] (sp_votes K CN CP CM CS) := ⟨_, _, PySem.W.mg_of X G aVo, kVo, bVo, ok_votes FVo T T2 SC GKn.irr GKp.irr GSaN.irr GSw.irr GSt.irr GLy.irr GPp.irr Gps.irr GMa.irr Gmn.irr GSo.irr⟩
  have GIoM : Fn l.prog w K mg base "_index_of" 3 ["parts", "name"] (sp_indexM K CM) := ⟨_, _, PySem.W.mg_of X G aIo, kIo, bIo, ok_index_ofM FIo T T2 Gmn.irr⟩
  have GNc : OwnM l.prog w K mg base CN "__contains__" 4 (sp_nhas K CN CP CM) := ⟨_, _, _, aNc, iNc, fiNc, bNc, ok_Net_c FNc NC GIoM.irr⟩
  have GKm : Fn l.prog w K mg base "check_meters" 5 ["net", "names"] (sp_chkms K CN CP CM) := ⟨_, _, PySem.W.mg_of X G aKm, kKm, bKm, ok_chkms FKm GNc.irr⟩
  have GKt : Fn l.prog w K mg base "check_total" 6 ["net", "total"] (sp_chkt K CN CP CM CS) := ⟨_, _, PySem.W.mg_of X G aKt, kKt, bKt, ok_chkt FKt T SC GSx.irr GKm.irr⟩
  have GIr : Fn l.prog w K mg base "is_reading" 3 ["part", "value"] (sp_isr CM) := ⟨_, _, PySem.W.mg_of X G aIr, kIr, bIr, ok_isr FIr Gmz.irr GNu.irr⟩
  have GKr : Fn l.prog w K mg base "check_readings" 4 ["net", "readings"] (sp_chr K CN CP CM) := ⟨_, _, PySem.W.mg_of X G aKr, kKr, bKr, ok_chr FKr T T2 Gnm.irr GIr.irr⟩
  have GBn : Fn l.prog w K mg base "by_name" 3 ["net", "readings"] (sp_byn K CN CP CM) := ⟨_, _, PySem.W.mg_of X G aBn, kBn, bBn, ok_byn FBn (PySem.W.mg_none_of X G b_zip) Gnm.irr Gmn.irr⟩
  have GVn : Fn l.prog w K mg base "value_in" 3 ["shown", "total"] (sp_vin CS) := ⟨_, _, PySem.W.mg_of X G aVn, kVn, bVn, ok_vin FVn T T2 GSx.irr⟩
  have GVf : Fn l.prog w K mg base "value_of" 7 ["net", "total", "readings"] (sp_vof K CN CP CM CS) := ⟨_, _, PySem.W.mg_of X G aVf, kVf, bVf, ok_vof FVf GKn.irr GKt.irr GKr.irr GVn.irr GBn.irr⟩
  have GTy : Fn l.prog w K mg base "tally" 10 ["net", "pipe", "readings"] (sp_tal K CN CP CM) := ⟨_, _, PySem.W.mg_of X G aTy, kTy, bTy, ok_tal FTy T2 GKn.irr GKp.irr GKr.irr GVn.irr GBn.irr GVo.irr⟩
  have GWe : Fn l.prog w K mg base "_law_well" 1 ["_law_script", "_law_k"] (sp_well K) := ⟨_, _, PySem.W.mg_of X G aWe, kWe, bWe, ok_well2 FWe T⟩
  have GDi : Fn l.prog w K mg base "_law_dip" 1 ["_law_well_here", "_law_many"] (sp_dip) := ⟨_, _, PySem.W.mg_of X G aDi, kDi, bDi, ok_dip2 FDi T⟩
  have GNa : Fn l.prog w K mg base "_law_names" 2 ["_law_well_here", "_law_many"] (sp_names) := ⟨_, _, PySem.W.mg_of X G aNa, kNa, bNa, ok_names FNa T GDi.irr⟩
  have GMo : Fn l.prog w K mg base "_law_model" 3 ["_law_well_here", "_law_most", "_law_more"] (sp_model) := ⟨_, _, PySem.W.mg_of X G aMo, kMo, bMo, ok_model FMo T GDi.irr GNa.irr⟩
  have GTx : Fn l.prog w K mg base "_law_text" 1 ["_law_model_here"] (sp_mtext) := ⟨_, _, PySem.W.mg_of X G aTx, kTx, bTx, ok_mtext FTx ⟩
  have GKe : Fn l.prog w K mg base "_law_kept" 1 ["_law_model_here", "_law_row"] (sp_kept) := ⟨_, _, PySem.W.mg_of X G aKe, kKe, bKe, ok_kept FKe T⟩
  have GFl : Fn l.prog w K mg base "_law_flows" 2 ["_law_model_here"] (sp_flows) := ⟨_, _, PySem.W.mg_of X G aFl, kFl, bFl, ok_flows FFl GKe.irr⟩
  have GRg : Fn l.prog w K mg base "_law_rings" 3 ["_law_model_here"] (sp_ringsM) := ⟨_, _, PySem.W.mg_of X G aRg, kRg, bRg, ok_ringsM FRg T (PySem.W.mg_none_of X G b_list) GFl.irr⟩
  have GNb : Fn l.prog w K mg base "_law_number" 2 ["_law_well_here"] (sp_numW) := ⟨_, _, PySem.W.mg_of X G aNb, kNb, bNb, ok_numW FNb GDi.irr⟩
  have GFw : Fn l.prog w K mg base "_law_flow" 3 ["_law_well_here", "_law_model_here", "_law_rings_here"] (sp_flowM) := ⟨_, _, PySem.W.mg_of X G aFw, kFw, bFw, ok_flowM FFw T GNb.irr⟩
  have GSh : Fn l.prog w K mg base "_law_shown" 3 ["_law_well_here", "_law_model_here", "_law_flow_here", "_law_other", "_law_bad", "_law_mute"] (sp_shownM) := ⟨_, _, PySem.W.mg_of X G aSh, kSh, bSh, ok_shownM FSh T GDi.irr GNb.irr⟩
  have GRi : FnGd l.prog w K mg base "_law_right" 11 ["_law_well_here"] (sp_right23) := ⟨_, _, PySem.W.mg_of X G aRi, kRi, bRi, ok_right31 FRi T T2 NC GDi.irr GMo.irr GTx.irr GRg.irr GFw.irr GSh.irr GNr.irr GVo.irr GSt.irr GTy.irr GVf.irr⟩
  exact ok_law31 (fun_mk (st := s_law) lLa cLa kLa) T GWe GRi
end RV
namespace HV
open PySem PySem.W PySem.Calls PyProof.Rows
def hview : Program := { PySem.Challenge.pw_ringvotes_k31_whole_votes_outvote with main := { PySem.Challenge.pw_ringvotes_k31_whole_votes_outvote.main with body := [PySem.Challenge.pw_ringvotes_k31_whole_votes_outvote.main.body.getD 94 (.Pass ⟨0, 0, 0, 0⟩)] } }
def hloose0 : List PySem.Str := [PySem.Str.ofString "_LETTERS", PySem.Str.ofString "_DIGITS", PySem.Str.ofString "_LONGEST_NAME", PySem.Str.ofString "_PIECE", PySem.Str.ofString "_PIECE_WORTH", PySem.Str.ofString "is_number", PySem.Str.ofString "is_name", PySem.Str.ofString "is_digits", PySem.Str.ofString "written_number", PySem.Str.ofString "read_number", PySem.Str.ofString "BadValue", PySem.Str.ofString "InvalidName", PySem.Str.ofString "InvalidEnd", PySem.Str.ofString "InvalidFlag", PySem.Str.ofString "InvalidText", PySem.Str.ofString "InvalidNumber", PySem.Str.ofString "NotAMeter", PySem.Str.ofString "NotANet", PySem.Str.ofString "NotASum", PySem.Str.ofString "InvalidPipes", PySem.Str.ofString "InvalidMeters", PySem.Str.ofString "InvalidTerms", PySem.Str.ofString "InvalidReadings", PySem.Str.ofString "BadName", PySem.Str.ofString "UnknownName", PySem.Str.ofString "MOST_PIPES", PySem.Str.ofString "MOST_METERS", PySem.Str.ofString "Pipe", PySem.Str.ofString "Meter", PySem.Str.ofString "Net"]
def hloose1 : List PySem.Str := [PySem.Str.ofString "_check_names", PySem.Str.ofString "_check_pipes", PySem.Str.ofString "_check_meters", PySem.Str.ofString "_index_of", PySem.Str.ofString "_lines", PySem.Str.ofString "_pipe_line", PySem.Str.ofString "_meter_line", PySem.Str.ofString "_rows_in", PySem.Str.ofString "_pipes_in", PySem.Str.ofString "_meters_in", PySem.Str.ofString "Sum", PySem.Str.ofString "_check_terms", PySem.Str.ofString "_is_term", PySem.Str.ofString "_collected", PySem.Str.ofString "_written_terms", PySem.Str.ofString "_written_further", PySem.Str.ofString "_without_sign", PySem.Str.ofString "_terms_in", PySem.Str.ofString "_with_sign_apart", PySem.Str.ofString "_read_term", PySem.Str.ofString "check_net", PySem.Str.ofString "check_pipe", PySem.Str.ofString "check_total", PySem.Str.ofString "check_meters", PySem.Str.ofString "meters_at", PySem.Str.ofString "sealed_at", PySem.Str.ofString "shortest_ways", PySem.Str.ofString "_links", PySem.Str.ofString "_amounts", PySem.Str.ofString "_lead_on"]
def hloose2 : List PySem.Str := [PySem.Str.ofString "value_of", PySem.Str.ofString "check_readings", PySem.Str.ofString "is_reading", PySem.Str.ofString "by_name", PySem.Str.ofString "value_in", PySem.Str.ofString "strength", PySem.Str.ofString "_way_back", PySem.Str.ofString "votes", PySem.Str.ofString "tally", PySem.Str.ofString "_layer", PySem.Str.ofString "_is_within", PySem.Str.ofString "_meter_in_layer", PySem.Str.ofString "_law_well", PySem.Str.ofString "_law_dip", PySem.Str.ofString "_law_names", PySem.Str.ofString "_law_model", PySem.Str.ofString "_law_text", PySem.Str.ofString "_law_kept", PySem.Str.ofString "_law_flows", PySem.Str.ofString "_law_rings", PySem.Str.ofString "_law_number", PySem.Str.ofString "_law_flow", PySem.Str.ofString "_law_shown", PySem.Str.ofString "_law_right"]
def hloose : List PySem.Str := hloose0 ++ hloose1 ++ hloose2
end HV
set_option hygiene false in
open PySem PySem.W PySem.Calls PyProof.Rows in
local macro_rules | `(tactic| o_head $H) => `(tactic| ((refine holds_open (q := HV.hview) (loose := HV.hloose) (Xt := fun s => xlAt HV.hview [] s && recOk (RowW.records (OpenRow.toRowW (OpenLaw.row PySem.Challenge.rw_ringvotes_k31_whole_votes_outvote))) s) (XP := XL HV.hview []) (Yf := Hook.obs $H) (Ya := Hook.val $H) (YP := Hook.says $H) (N := 17802) ?hl (Hook.of $H) (Hook.keeps $H) (fun s e => xl_of s (Bool.and_eq_true_iff.mp e).1) XL.keeps (by rfl) (by rfl) (by rfl) (fun s e => recFacts_of (Bool.and_eq_true_iff.mp e).2) (by rfl) (by first | assumption | decide +kernel) (by decide +kernel) ⟨rfl, rfl, rfl, rfl, rfl, by decide +kernel⟩ ?hw ?hc); (case hl => exact hvT); (all_goals exact hvF.elim)))
set_option maxRecDepth 100000 in
set_option maxHeartbeats 0 in
open PySem PySem.W PySem.Calls PyProof.Rows in
def HV.LT : Prop := by
  refine' (fun (T : Prop) (_ : T → False → PySem.Challenge.rw_ringvotes_k31_whole_votes_outvote.Holds) => T) _ ?h
  case h =>
    intro hvT hvF
    w_on; o_law; k_head
set_option maxRecDepth 100000 in
set_option maxHeartbeats 0 in
open PySem PySem.W PySem.Calls PyProof.Rows in
theorem HV.left : HV.LT := by
  refine HeadRun.left_oneK (M := 17102) (by kernel_rfl) (by rfl) (fun s => by kernel_rfl) (by rfl) ?_
  intro w os
  kernel_rfl
set_option hygiene false in
open PySem PySem.W PySem.Calls PyProof.Rows in
local macro_rules | `(tactic| o_head $H) => `(tactic| ((refine holds_open (q := HV.hview) (loose := HV.hloose) (Xt := fun s => xlAt HV.hview [] s && recOk (RowW.records (OpenRow.toRowW (OpenLaw.row PySem.Challenge.rw_ringvotes_k31_whole_votes_outvote))) s) (XP := XL HV.hview []) (Yf := Hook.obs $H) (Ya := Hook.val $H) (YP := Hook.says $H) (N := 17802) ?hl (Hook.of $H) (Hook.keeps $H) (fun s e => xl_of s (Bool.and_eq_true_iff.mp e).1) XL.keeps (by rfl) (by rfl) (by rfl) (fun s e => recFacts_of (Bool.and_eq_true_iff.mp e).2) (by rfl) (by first | assumption | decide +kernel) (by decide +kernel) ⟨rfl, rfl, rfl, rfl, rfl, by decide +kernel⟩ ?hw ?hc); (case hl => exact HV.left)))
open PySem PySem.W PyProof.Rows in
set_option maxRecDepth 100000 in
set_option maxHeartbeats 0 in
theorem PySem.Challenge.cw_ringvotes_k31_whole_votes_outvote_holds : PySem.Challenge.rw_ringvotes_k31_whole_votes_outvote.Holds := by
  w_on; o_law; k_head; (case hw => w_witness2)
  k_fill
  refine RV.walkGx "_law_script" 12 (l := PySem.Challenge.rw_ringvotes_k31_whole_votes_outvote) ⟨rfl, by decide, by decide⟩ rfl rfl (fun w h Y => PySem.W.kIn_of Y) ?F
  case F =>
    intro w mg fa h KX G hmg
    refine' RV.all_mk KX G hmg ?b_len ?b_int ?b_abs ?b_max ?b_min ?b_all ?b_any ?b_repr ?b_range ?b_divmod ?b_isinstance ?b_str ?b_sum ?b_sorted ?b_set ?b_tuple ?b_enumerate ?b_bool ?g__LETTERS ?g__DIGITS ?g__LONGEST_NAME ?g_MOST_PIPES ?g_MOST_METERS ?aIn ?lIn ?cIn ?kIn ?aCn ?lCn ?cCn ?kCn ?nP ?pgP ?hdP ?poP ?saP ?mkP ?kcP ?haP ?hmP ?tyP ?suP ?obP ?noP0 ?noP1 ?noP2 ?nM ?pgM ?hdM ?poM ?saM ?mkM ?kcM ?haM ?hmM ?tyM ?suM ?obM ?noM0 ?noM1 ?noM2 ?hn ?htk ?neP ?neM ?aPi ?iPi ?lPi ?cPi ?kPi ?aMi ?iMi ?lMi ?cMi ?kMi ?kd ?apn ?gpn ?tpn ?rpn_ ?lpn ?cpn ?kpn ?aps ?gps ?tps ?rps_ ?lps ?cps ?kps ?ape ?gpe ?tpe ?rpe_ ?lpe ?cpe ?kpe ?amn ?gmn ?tmn ?rmn_ ?lmn ?cmn ?kmn ?ama ?gma ?tma ?rma_ ?lma ?cma ?kma ?amz ?gmz ?tmz ?rmz_ ?lmz ?cmz ?kmz ?aPq ?iPq ?lPq ?cPq ?kPq ?fiPq ?aMq ?iMq ?lMq ?cMq ?kMq ?fiMq ?nN ?pgN ?hdN ?poN ?saN ?mkN ?kcN ?haN ?hmN ?tyN ?suN ?obN ?noN0 ?noN1 ?neN ?aIo ?lIo ?cIo ?kIo ?aCp ?lCp ?cCp ?kCp ?aCm ?lCm ?cCm ?kCm ?aPl ?lPl ?cPl ?kPl ?aMl ?lMl ?cMl ?kMl ?aLs ?lLs ?cLs ?kLs ?aNi ?iNi ?lNi ?cNi ?kNi ?lT ?anp ?gnp ?tnp ?rnp_ ?lnp ?cnp ?knp ?anm ?gnm ?tnm ?rnm_ ?lnm ?cnm ?knm ?aNl ?iNl ?lNl ?cNl ?kNl ?fiNl ?aNs ?iNs ?lNs ?cNs ?kNs ?fiNs ?aNq ?iNq ?lNq ?cNq ?kNq ?fiNq ?aRw ?lRw ?cRw ?kRw ?aPn ?lPn ?cPn ?kPn ?aMn ?lMn ?cMn ?kMn ?rdN ?gaN ?aNr ?rNr_ ?fiNr ?lNr ?cNr ?kNr ?b_list ?b_zip ?aPp ?iPp ?lPp ?cPp ?kPp ?aKn ?lKn ?cKn ?kKn ?aKp ?lKp ?cKp ?kKp ?aMa ?lMa ?cMa ?kMa ?aSa ?lSa ?cSa ?kSa ?aAm ?lAm ?cAm ?kAm ?aLk ?lLk ?cLk ?kLk ?aLd ?lLd ?cLd ?kLd ?aSw ?lSw ?cSw ?kSw ?aWb ?lWb ?cWb ?kWb ?aSt ?lSt ?cSt ?kSt ?aNu ?lNu ?cNu ?kNu ?aIt ?lIt ?cIt ?kIt ?aCk ?lCk ?cCk ?kCk ?aCo ?lCo ?cCo ?kCo ?nS ?pgS ?hdS ?poS ?saS ?mkS ?kcS ?haS ?hmS ?tyS ?suS ?obS ?noS0 ?aSi ?iSi ?lSi ?cSi ?kSi ?lTS ?l0S ?aSg ?iSg ?lSg ?cSg ?kSg ?fiSg ?aSx ?gSx ?tSx ?rSx_ ?lSx ?cSx ?kSx ?rdS ?gaS ?aSo ?rSo_ ?fiSo ?lSo ?cSo ?kSo ?aWi ?lWi ?cWi ?kWi ?aMx ?lMx ?cMx ?kMx ?aLy ?lLy ?cLy ?kLy ?aVo ?lVo ?cVo ?kVo ?aNc ?iNc ?lNc ?cNc ?kNc ?fiNc ?aKm ?lKm ?cKm ?kKm ?aKt ?lKt ?cKt ?kKt ?aIr ?lIr ?cIr ?kIr ?aKr ?lKr ?cKr ?kKr ?aBn ?lBn ?cBn ?kBn ?aVn ?lVn ?cVn ?kVn ?aVf ?lVf ?cVf ?kVf ?aTy ?lTy ?cTy ?kTy ?aWe ?lWe ?cWe ?kWe ?aDi ?lDi ?cDi ?kDi ?aNa ?lNa ?cNa ?kNa ?aMo ?lMo ?cMo ?kMo ?aTx ?lTx ?cTx ?kTx ?aKe ?lKe ?cKe ?kKe ?aFl ?lFl ?cFl ?kFl ?aRg ?lRg ?cRg ?kRg ?aNb ?lNb ?cNb ?kNb ?aFw ?lFw ?cFw ?kFw ?aSh ?lSh ?cSh ?kSh ?aRi ?lRi ?cRi ?kRi ?aLa ?lLa ?cLa ?kLa
    (case b_len => k_is)
    (case b_int => k_is)
    (case b_abs => k_is)
    (case b_max => k_is)
    (case b_min => k_is)
    (case b_all => k_is)
    (case b_any => k_is)
    (case b_repr => k_is)
    (case b_range => k_is)
    (case b_divmod => k_is)
    (case b_isinstance => k_is)
    (case b_str => k_is)
    (case b_sum => k_is)
    (case b_sorted => k_is)
    (case b_set => k_is)
    (case b_tuple => k_is)
    (case b_enumerate => k_is)
    (case b_bool => k_is)
    (case g__LETTERS => k_is)
    (case g__DIGITS => k_is)
    (case g__LONGEST_NAME => k_is)
    (case g_MOST_PIPES => k_is)
    (case g_MOST_METERS => k_is)
    (case aIn => k_is)
    (case lIn => k_is)
    (case cIn => k_is)
    (case kIn => k_is)
    (case aCn => k_is)
    (case lCn => k_is)
    (case cCn => k_is)
    (case kCn => k_is)
    (case nP => k_is)
    (case pgP => k_is)
    (case hdP => k_is)
    (case poP => k_is)
    (case saP => k_is)
    (case mkP => k_is)
    (case kcP => k_is)
    (case haP => k_is)
    (case hmP => k_is)
    (case tyP => k_is)
    (case suP => k_is)
    (case obP => k_is)
    (case noP0 => k_is)
    (case noP1 => k_is)
    (case noP2 => k_is)
    (case nM => k_is)
    (case pgM => k_is)
    (case hdM => k_is)
    (case poM => k_is)
    (case saM => k_is)
    (case mkM => k_is)
    (case kcM => k_is)
    (case haM => k_is)
    (case hmM => k_is)
    (case tyM => k_is)
    (case suM => k_is)
    (case obM => k_is)
    (case noM0 => k_is)
    (case noM1 => k_is)
    (case noM2 => k_is)
    (case hn => k_is)
    (case htk => k_is)
    (case neP => k_is)
    (case neM => k_is)
    (case aPi => k_is)
    (case iPi => k_is)
    (case lPi => k_is)
    (case cPi => k_is)
    (case kPi => k_is)
    (case aMi => k_is)
    (case iMi => k_is)
    (case lMi => k_is)
    (case cMi => k_is)
    (case kMi => k_is)
    (case kd => k_is)
    (case apn => k_is)
    (case gpn => k_is)
    (case tpn => k_is)
    (case rpn_ => k_is)
    (case lpn => k_is)
    (case cpn => k_is)
    (case kpn => k_is)
    (case aps => k_is)
    (case gps => k_is)
    (case tps => k_is)
    (case rps_ => k_is)
    (case lps => k_is)
    (case cps => k_is)
    (case kps => k_is)
    (case ape => k_is)
    (case gpe => k_is)
    (case tpe => k_is)
    (case rpe_ => k_is)
    (case lpe => k_is)
    (case cpe => k_is)
    (case kpe => k_is)
    (case amn => k_is)
    (case gmn => k_is)
    (case tmn => k_is)
    (case rmn_ => k_is)
    (case lmn => k_is)
    (case cmn => k_is)
    (case kmn => k_is)
    (case ama => k_is)
    (case gma => k_is)
    (case tma => k_is)
    (case rma_ => k_is)
    (case lma => k_is)
    (case cma => k_is)
    (case kma => k_is)
    (case amz => k_is)
    (case gmz => k_is)
    (case tmz => k_is)
    (case rmz_ => k_is)
    (case lmz => k_is)
    (case cmz => k_is)
    (case kmz => k_is)
    (case aPq => k_is)
    (case iPq => k_is)
    (case lPq => k_is)
    (case cPq => k_is)
    (case kPq => k_is)
    (case fiPq => k_is)
    (case aMq => k_is)
    (case iMq => k_is)
    (case lMq => k_is)
    (case cMq => k_is)
    (case kMq => k_is)
    (case fiMq => k_is)
    (case nN => k_is)
    (case pgN => k_is)
    (case hdN => k_is)
    (case poN => k_is)
    (case saN => k_is)
    (case mkN => k_is)
    (case kcN => k_is)
    (case haN => k_is)
    (case hmN => k_is)
    (case tyN => k_is)
    (case suN => k_is)
    (case obN => k_is)
    (case noN0 => k_is)
    (case noN1 => k_is)
    (case neN => k_is)
    (case aIo => k_is)
    (case lIo => k_is)
    (case cIo => k_is)
    (case kIo => k_is)
    (case aCp => k_is)
    (case lCp => k_is)
    (case cCp => k_is)
    (case kCp => k_is)
    (case aCm => k_is)
    (case lCm => k_is)
    (case cCm => k_is)
    (case kCm => k_is)
    (case aPl => k_is)
    (case lPl => k_is)
    (case cPl => k_is)
    (case kPl => k_is)
    (case aMl => k_is)
    (case lMl => k_is)
    (case cMl => k_is)
    (case kMl => k_is)
    (case aLs => k_is)
    (case lLs => k_is)
    (case cLs => k_is)
    (case kLs => k_is)
    (case aNi => k_is)
    (case iNi => k_is)
    (case lNi => k_is)
    (case cNi => k_is)
    (case kNi => k_is)
    (case lT => k_is)
    (case anp => k_is)
    (case gnp => k_is)
    (case tnp => k_is)
    (case rnp_ => k_is)
    (case lnp => k_is)
    (case cnp => k_is)
    (case knp => k_is)
    (case anm => k_is)
    (case gnm => k_is)
    (case tnm => k_is)
    (case rnm_ => k_is)
    (case lnm => k_is)
    (case cnm => k_is)
    (case knm => k_is)
    (case aNl => k_is)
    (case iNl => k_is)
    (case lNl => k_is)
    (case cNl => k_is)
    (case kNl => k_is)
    (case fiNl => k_is)
    (case aNs => k_is)
    (case iNs => k_is)
    (case lNs => k_is)
    (case cNs => k_is)
    (case kNs => k_is)
    (case fiNs => k_is)
    (case aNq => k_is)
    (case iNq => k_is)
    (case lNq => k_is)
    (case cNq => k_is)
    (case kNq => k_is)
    (case fiNq => k_is)
    (case aRw => k_is)
    (case lRw => k_is)
    (case cRw => k_is)
    (case kRw => k_is)
    (case aPn => k_is)
    (case lPn => k_is)
    (case cPn => k_is)
    (case kPn => k_is)
    (case aMn => k_is)
    (case lMn => k_is)
    (case cMn => k_is)
    (case kMn => k_is)
    (case rdN => k_is)
    (case gaN => k_is)
    (case aNr => k_is)
    (case rNr_ => k_is)
    (case fiNr => k_is)
    (case lNr => k_is)
    (case cNr => k_is)
    (case kNr => k_is)
    (case b_list => k_is)
    (case b_zip => k_is)
    (case aPp => k_is)
    (case iPp => k_is)
    (case lPp => k_is)
    (case cPp => k_is)
    (case kPp => k_is)
    (case aKn => k_is)
    (case lKn => k_is)
    (case cKn => k_is)
    (case kKn => k_is)
    (case aKp => k_is)
    (case lKp => k_is)
    (case cKp => k_is)
    (case kKp => k_is)
    (case aMa => k_is)
    (case lMa => k_is)
    (case cMa => k_is)
    (case kMa => k_is)
    (case aSa => k_is)
    (case lSa => k_is)
    (case cSa => k_is)
    (case kSa => k_is)
    (case aAm => k_is)
    (case lAm => k_is)
    (case cAm => k_is)
    (case kAm => k_is)
    (case aLk => k_is)
    (case lLk => k_is)
    (case cLk => k_is)
    (case kLk => k_is)
    (case aLd => k_is)
    (case lLd => k_is)
    (case cLd => k_is)
    (case kLd => k_is)
    (case aSw => k_is)
    (case lSw => k_is)
    (case cSw => k_is)
    (case kSw => k_is)
    (case aWb => k_is)
    (case lWb => k_is)
    (case cWb => k_is)
    (case kWb => k_is)
    (case aSt => k_is)
    (case lSt => k_is)
    (case cSt => k_is)
    (case kSt => k_is)
    (case aNu => k_is)
    (case lNu => k_is)
    (case cNu => k_is)
    (case kNu => k_is)
    (case aIt => k_is)
    (case lIt => k_is)
    (case cIt => k_is)
    (case kIt => k_is)
    (case aCk => k_is)
    (case lCk => k_is)
    (case cCk => k_is)
    (case kCk => k_is)
    (case aCo => k_is)
    (case lCo => k_is)
    (case cCo => k_is)
    (case kCo => k_is)
    (case nS => k_is)
    (case pgS => k_is)
    (case hdS => k_is)
    (case poS => k_is)
    (case saS => k_is)
    (case mkS => k_is)
    (case kcS => k_is)
    (case haS => k_is)
    (case hmS => k_is)
    (case tyS => k_is)
    (case suS => k_is)
    (case obS => k_is)
    (case noS0 => k_is)
    (case aSi => k_is)
    (case iSi => k_is)
    (case lSi => k_is)
    (case cSi => k_is)
    (case kSi => k_is)
    (case lTS => k_is)
    (case l0S => k_is)
    (case aSg => k_is)
    (case iSg => k_is)
    (case lSg => k_is)
    (case cSg => k_is)
    (case kSg => k_is)
    (case fiSg => k_is)
    (case aSx => k_is)
    (case gSx => k_is)
    (case tSx => k_is)
    (case rSx_ => k_is)
    (case lSx => k_is)
    (case cSx => k_is)
    (case kSx => k_is)
    (case rdS => k_is)
    (case gaS => k_is)
    (case aSo => k_is)
    (case rSo_ => k_is)
    (case fiSo => k_is)
    (case lSo => k_is)
    (case cSo => k_is)
    (case kSo => k_is)
    (case aWi => k_is)
    (case lWi => k_is)
    (case cWi => k_is)
    (case kWi => k_is)
    (case aMx => k_is)
    (case lMx => k_is)
    (case cMx => k_is)
    (case kMx => k_is)
    (case aLy => k_is)
    (case lLy => k_is)
    (case cLy => k_is)
    (case kLy => k_is)
    (case aVo => k_is)
    (case lVo => k_is)
    (case cVo => k_is)
    (case kVo => k_is)
    (case aNc => k_is)
    (case iNc => k_is)
    (case lNc => k_is)
    (case cNc => k_is)
    (case kNc => k_is)
    (case fiNc => k_is)
    (case aKm => k_is)
    (case lKm => k_is)
    (case cKm => k_is)
    (case kKm => k_is)
    (case aKt => k_is)
    (case lKt => k_is)
    (case cKt => k_is)
    (case kKt => k_is)
    (case aIr => k_is)
    (case lIr => k_is)
    (case cIr => k_is)
    (case kIr => k_is)
    (case aKr => k_is)
    (case lKr => k_is)
    (case cKr => k_is)
    (case kKr => k_is)
    (case aBn => k_is)
    (case lBn => k_is)
    (case cBn => k_is)
    (case kBn => k_is)
    (case aVn => k_is)
    (case lVn => k_is)
    (case cVn => k_is)
    (case kVn => k_is)
    (case aVf => k_is)
    (case lVf => k_is)
    (case cVf => k_is)
    (case kVf => k_is)
    (case aTy => k_is)
    (case lTy => k_is)
    (case cTy => k_is)
    (case kTy => k_is)
    (case aWe => k_is)
    (case lWe => k_is)
    (case cWe => k_is)
    (case kWe => k_is)
    (case aDi => k_is)
    (case lDi => k_is)
    (case cDi => k_is)
    (case kDi => k_is)
    (case aNa => k_is)
    (case lNa => k_is)
    (case cNa => k_is)
    (case kNa => k_is)
    (case aMo => k_is)
    (case lMo => k_is)
    (case cMo => k_is)
    (case kMo => k_is)
    (case aTx => k_is)
    (case lTx => k_is)
    (case cTx => k_is)
    (case kTx => k_is)
    (case aKe => k_is)
    (case lKe => k_is)
    (case cKe => k_is)
    (case kKe => k_is)
    (case aFl => k_is)
    (case lFl => k_is)
    (case cFl => k_is)
    (case kFl => k_is)
    (case aRg => k_is)
    (case lRg => k_is)
    (case cRg => k_is)
    (case kRg => k_is)
    (case aNb => k_is)
    (case lNb => k_is)
    (case cNb => k_is)
    (case kNb => k_is)
    (case aFw => k_is)
    (case lFw => k_is)
    (case cFw => k_is)
    (case kFw => k_is)
    (case aSh => k_is)
    (case lSh => k_is)
    (case cSh => k_is)
    (case kSh => k_is)
    (case aRi => k_is)
    (case lRi => k_is)
    (case cRi => k_is)
    (case kRi => k_is)
    (case aLa => k_is)
    (case lLa => k_is)
    (case cLa => k_is)
    (case kLa => k_is)
