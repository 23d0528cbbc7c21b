import PyProof.Rows.All
import Wide.All
import OpenK.AllK
import Wide.FinOn
import HandS.ForMost
import HandS.WideBits
import HandS.Wide
import HandS.IsInst
import HandS.Property
import HandS.MakeKwOnly
import HandS.Defaults
import HandS.OwnEq
import HandS.Steps
import HandS.TupLe
import KE.GoesMore
import HandS.TupSets
import HandS.SetFor
import HandS.Strs
import PyProof.Rows.SortShellAny
import HandS.Words
import HandS.Style
import HandS.WordsDict
import HandS.More
import PyProof.Rows.RegStrFacts
import HandS.RaiseMore
import HandS.Text
import HandS.StrMore
import HandS.FStr
import KE.KCallOwn
import PyProof.EqKinds
import PyProof.Raises
import HandS.ClsMeth
import HandS.CallLocal
import HandS.Walk
import HandS.Iter
import KE.KOpsOwn
import PyProof.TwoTypes
import HandS.TupAny
import HandS.Star
import HandS.Zip
import KE.KTupSum
import HandS.SetBool
import KE.GoesNew
import HandS.DictComp
import HandS.ExcInit
import HandS.ExcIs
import HandS.ExcField
import HandS.TryMany
import HandS.WordsExc
import HandS.CallSlots
import KE.KExcIs
import KE.KExcInit
import HandS.HotCalls
import HandS.Lambda
import HandS.EndTab
import KE.KExcLine
import KE.OsRun
import PySem.Challenge.RW_ringvotes_k10_pipes_and_meters_refused
set_option Elab.async false
set_option maxRecDepth 100000
set_option maxHeartbeats 8000000
/-! What every law of this program shares: the well from which it draws, what is known of the heap, the end. -/
namespace RV
open PySem L2

/-! ### what is known of the heap -/
/-- a list of three ints from which numbers are drawn, at a; at most n draws so far -/
def WellAt (H : Hp) (a : Addr) (n : Nat) : Prop :=
  ∃ x y z : Int, H a = some (.lst [.int x, .int y, .int z]) ∧ (0 ≤ x ∧ x < 2147483629) ∧ 0 ≤ y ∧ (0 ≤ z ∧ z ≤ n)
/-- all but the well stands as it stood -/
def Grow (a : Addr) (H H' : Hp) : Prop := ∀ b o, b ≠ a → H b = some o → H' b = some o
theorem Grow.refl (a : Addr) (H : Hp) : Grow a H H := fun _ _ _ h => h
theorem Grow.trans {a : Addr} {H H1 H2 : Hp} (g : Grow a H H1) (k : Grow a H1 H2) : Grow a H H2 := fun b o n h => k b o n (g b o n h)
theorem Grow.new {a p : Addr} {H : Hp} {o : HO} (np : H p = none) : Grow a H (upd H p o) := fun b u _ h => by
  rw [upd_ne (ne_of_none h np)]
  exact h
/-- from the heap H0 on all but the well at a is kept; the well; things that stand elsewhere -/
structure Has (H0 : Hp) (a : Addr) (n : Nat) (L : List (Addr × HO)) (H : Hp) : Prop where
  gr : Grow a H0 H
  well : WellAt H a n
  here : ∀ p ∈ L, p.1 ≠ a ∧ H p.1 = some p.2
section
variable {a p : Addr} {n m : Nat} {L : List (Addr × HO)} {H0 H H' : Hp} {o : HO}
theorem Has.start (w : WellAt H a n) : Has H a n [] H := ⟨Grow.refl a H, w, fun _ hp => nomatch hp⟩
theorem Has.grow (h : Has H0 a n L H) (g : Grow a H H') (w : WellAt H' a m) : Has H0 a m L H' := ⟨h.gr.trans g, w, fun p hp => ⟨(h.here p hp).1, g _ _ (h.here p hp).1 (h.here p hp).2⟩⟩
theorem Has.new (h : Has H0 a n L H) (np : H p = none) : Has H0 a n ((p, o) :: L) (upd H p o) := by
  obtain ⟨g, ⟨x, y, z, e, r⟩, k⟩ := h
  refine ⟨g.trans (Grow.new np), ⟨x, y, z, by rw [upd_ne (ne_of_none e np)]; exact e, r⟩, fun q hq => ?_⟩
  rcases List.mem_cons.mp hq with rfl | hq
  · refine ⟨?_, upd_same⟩
    intro w
    have w' : p = a := w
    rw [w', e] at np
    cases np
  · exact ⟨(k q hq).1, by rw [upd_ne (ne_of_none (k q hq).2 np)]; exact (k q hq).2⟩
theorem Has.at (h : Has H0 a n L H) (hp : (p, o) ∈ L) : H p = some o := (h.here _ hp).2
theorem Has.sub {L' : List (Addr × HO)} (h : Has H0 a n L H) (s : ∀ p ∈ L', p ∈ L) : Has H0 a n L' H := ⟨h.gr, h.well, fun p hp => h.here p (s p hp)⟩
end

/-! ### the end -/
def spLaw (K : PySem.W.Frag) : Sp := fun vs H Q _ => ∃ (a : Addr) (ns : List Int), vs = [.ref a] ∧ SqL K H a (ns.map V.int) ∧ ns.length ≤ 63 ∧ ∀ H', Q (.bl true) H'
end RV
namespace RV
open PySem L2
section
variable {σ : L2.St} {H : Hp} {t : TT} {ta tb : TE} {Q : VK} {b : Bool}
/-- an int on either way: what follows is shown once -/
theorem tif_int (ht : Ans t σ H b) (ha : b = true → ∃ z : Int, Val ta σ H (.int z)) (hb : b = false → ∃ z : Int, Val tb σ H (.int z)) (k : ∀ z : Int, Q (.int z) H) : tIf t ta tb σ H Q := by
  refine ht _ ?_
  cases b with
  | true => exact iteT (let ⟨z, h⟩ := ha rfl; h _ (k z))
  | false => exact iteF (let ⟨z, h⟩ := hb rfl; h _ (k z))
end
/-- a function of the module, as its callers see it -/
def Fn (P : Program) (w : World) (K : PySem.W.Frag) (mg : Str → Option Value) (base : Heap) (x : Str) (k : Nat) (ps : List Str) (sp : Sp) : Prop :=
  ∃ f fd, mg x = some (.ref f) ∧ PySem.W.keepIn K (.ref f) = true ∧ Binds K fd ps [] ∧ FnOk P w K mg base CX0 k f fd ps sp
section
variable {X : Cx} {x : Str} {k : Nat} {ps : List Str} {sp : Sp} {e : Expr} {es : List Expr} {t : TA} {p pos : Pos}
theorem pe_fn (h : Fn X.prog X.w X.K X.mg X.base x k ps sp) (hr : Room k X.A) (ha : PA X (e :: es) t) (hg : Gl X x := by rfl) (hdb : (x == ("__debug__" : Str)) = false := by decide)
    (he : starEach (e :: es) X.env = (false, eval e X.env) :: starEach es X.env := by rfl) (hpl : (backTo pos (starEach es X.env)).any (·.1) = false := by rfl) :
    PE X (.Call (.Name x p) (e :: es) [] pos) (tCall sp [] E0 t) := by
  obtain ⟨f, fd, hm, hk, hb, F⟩ := h
  exact pe_call F hr hg hm hk hb .nil pass0 ha hdb he hpl
/-- a text, an int of the module's top -/
theorem pe_gS {z : Str} (h : ∃ u, X.mg x = some u ∧ RelV (.str z) u) (hg : Gl X x := by rfl) (hd : (x == ("__debug__" : Str)) = false := by decide) : PE X (.Name x pos) (tC (.str z)) := by
  obtain ⟨u, hm, r⟩ := h
  exact pe_glob hg hm r hd
theorem pe_gI {z : Int} (h : ∃ u, X.mg x = some u ∧ RelV (.int z) u) (hg : Gl X x := by rfl) (hd : (x == ("__debug__" : Str)) = false := by decide) : PE X (.Name x pos) (tC (.int z)) := by
  obtain ⟨u, hm, r⟩ := h
  exact pe_glob hg hm r hd
theorem pe_gC {C : Addr} (hm : X.mg x = some (.ref C)) (hg : Gl X x := by rfl) (hd : (x == ("__debug__" : Str)) = false := by decide) : PE X (.Name x pos) (tC (.ref C)) := pe_glob hg hm rfl hd
end
end RV
namespace RV
open PySem L2
/-! the same rules where the written part is a letter (within a comprehension's block) -/
section
variable {X : Cx} {K : PySem.W.Frag}
theorem call_isiK (h : X.K = K := by rfl) : CallR X (.builtin "isinstance") (rIsi K) := h ▸ call_isi
def rLenQ (K : PySem.W.Frag) : List V → Hp → VK → Prop := fun xs H Q => ∃ p ys, xs = [.ref p] ∧ (SqL K H p ys ∨ SqT K H p ys) ∧ Q (.int ys.length) H
end
end RV
/-! Names: what they are, by their signs. -/
namespace RV
open PySem L2
def lowC (c : Nat) : Bool := decide (97 ≤ c) && decide (c ≤ 122)
def digC (c : Nat) : Bool := decide (48 ≤ c) && decide (c ≤ 57)
def tailC (c : Nat) : Bool := lowC c || digC c
/-- one to eight signs, letters and digits, a letter first -/
def isNm : List Nat → Bool
  | [] => false
  | c :: r => lowC c && r.all tailC && decide (r.length ≤ 7)
def IsNm (x : Str) : Prop := isNm x.cps.toList = true
abbrev cd (x : Str) : List Nat := x.cps.toList
theorem cd_app (x y : Str) : cd (x ++ y) = cd x ++ cd y := by
  show (x ++ y).cps.toList = _
  exact Array.toList_append
theorem cd_len (x : Str) : x.length = (cd x).length := by
  show x.cps.size = x.cps.toList.length
  rw [Array.length_toList]
theorem cd_one (c : Nat) : cd ⟨#[c]⟩ = [c] := rfl
theorem isNm_iff {l : List Nat} : isNm l = true ↔ ∃ c r, l = c :: r ∧ lowC c = true ∧ r.all tailC = true ∧ r.length ≤ 7 := by
  cases l with
  | nil => simp [isNm]
  | cons c r =>
    constructor
    · intro h
      simp only [isNm, Bool.and_eq_true, decide_eq_true_eq] at h
      exact ⟨c, r, rfl, h.1.1, h.1.2, h.2⟩
    · rintro ⟨c', r', e, h1, h2, h3⟩
      cases e
      simp [isNm, h1, h2, h3]
theorem isNm_len {l : List Nat} (h : isNm l = true) : 1 ≤ l.length ∧ l.length ≤ 8 := by
  obtain ⟨c, r, rfl, _, _, h3⟩ := isNm_iff.mp h
  simp
  omega
theorem isNm_snoc {l : List Nat} {c : Nat} (h : isNm l = true) (hl : l.length ≤ 7) (hc : tailC c = true) : isNm (l ++ [c]) = true := by
  obtain ⟨d, r, rfl, h1, h2, _⟩ := isNm_iff.mp h
  refine isNm_iff.mpr ⟨d, r ++ [c], rfl, h1, ?_, ?_⟩
  · rw [List.all_append, h2]
    simp [hc]
  · simp at hl ⊢
    omega
theorem tail_of_low {c : Nat} (h : lowC c = true) : tailC c = true := by simp [tailC, h]
theorem isNm_all {l : List Nat} (h : isNm l = true) : l.all tailC = true := by
  obtain ⟨d, r, rfl, h1, h2, _⟩ := isNm_iff.mp h
  simp only [List.all_cons, tail_of_low h1, h2, Bool.and_self]
def signs : Str := "abcdefghijklmnopqrstuvwxyz0123456789"
theorem cd_signs : cd signs = [97, 98, 99, 100, 101, 102, 103, 104, 105, 106, 107, 108, 109, 110, 111, 112, 113, 114, 115, 116, 117, 118, 119, 120, 121, 122, 48, 49, 50, 51, 52, 53, 54, 55, 56, 57] := by decide +kernel
theorem sign_low : ∀ i : Fin 26, ∃ c, (cd signs)[i.val]? = some c ∧ lowC c = true := by
  rw [cd_signs]
  intro i
  have h : ∀ i : Fin 26, (match ([97, 98, 99, 100, 101, 102, 103, 104, 105, 106, 107, 108, 109, 110, 111, 112, 113, 114, 115, 116, 117, 118, 119, 120, 121, 122, 48, 49, 50, 51, 52, 53, 54, 55, 56, 57] : List Nat)[i.val]? with | some c => lowC c | none => false) = true := by decide
  have hi := h i
  split at hi
  · rename_i c e
    exact ⟨c, e, hi⟩
  · cases hi
theorem sign_tail : ∀ i : Fin 36, ∃ c, (cd signs)[i.val]? = some c ∧ tailC c = true := by
  rw [cd_signs]
  intro i
  have h : ∀ i : Fin 36, (match ([97, 98, 99, 100, 101, 102, 103, 104, 105, 106, 107, 108, 109, 110, 111, 112, 113, 114, 115, 116, 117, 118, 119, 120, 121, 122, 48, 49, 50, 51, 52, 53, 54, 55, 56, 57] : List Nat)[i.val]? with | some c => tailC c | none => false) = true := by decide
  have hi := h i
  split at hi
  · rename_i c e
    exact ⟨c, e, hi⟩
  · cases hi
theorem at_low {r : Int} (h0 : 0 ≤ r) (h : r < 26) : ∃ c, atI (cd signs) r = some c ∧ lowC c = true := by
  obtain ⟨n, rfl⟩ := Int.eq_ofNat_of_zero_le h0
  obtain ⟨c, e, hc⟩ := sign_low ⟨n, by omega⟩
  exact ⟨c, atI_nat e, hc⟩
theorem at_tail {r : Int} (h0 : 0 ≤ r) (h : r < 36) : ∃ c, atI (cd signs) r = some c ∧ tailC c = true := by
  obtain ⟨n, rfl⟩ := Int.eq_ofNat_of_zero_le h0
  obtain ⟨c, e, hc⟩ := sign_tail ⟨n, by omega⟩
  exact ⟨c, atI_nat e, hc⟩
theorem at_of_list {α : Type} {l : List α} {P : α → Prop} (h : ∀ x ∈ l, P x) {r : Int} (h0 : 0 ≤ r) (h1 : r < l.length) : ∃ c, atI l r = some c ∧ P c ∧ c ∈ l := by
  obtain ⟨n, rfl⟩ := Int.eq_ofNat_of_zero_le h0
  have hn : n < l.length := by omega
  exact ⟨l[n], atI_nat (List.getElem?_eq_getElem hn), h _ (List.getElem_mem hn), List.getElem_mem hn⟩
/-! slices of texts -/
theorem cd_cutS (z : Str) (lo hi : Option Int) : cd (cutS z lo hi) = ((cd z).drop (HT.sIx z.length 0 lo)).take (HT.sIx z.length z.length hi - HT.sIx z.length 0 lo) := by
  show (((z.cps.toList.drop _).take _).toArray).toList = _
  rfl
theorem sIx_some (n d : Nat) (k : Nat) : HT.sIx n d (some (k : Int)) = min k n := by
  unfold HT.sIx
  simp
  omega
theorem sIx_none (n d : Nat) : HT.sIx n d none = d := rfl
/-! walks over any thing that is walked in order -/
theorem lc_it {J : It} {n : Nat} {g : TG} {tt : TT} {te : TE} {vs : List Nat} {σ : L2.St} {H1 : Hp} {D : Addr} {Qd : Hp → Prop} (Pv : Nat → Hp → Prop)
    (hgo : ∀ i H, i < n → Pv i H → J.go i H) (hst : ∀ H, Pv n H → J.stop n H) (h0 : Pv 0 (upd H1 D (.lst [])))
    (hs : ∀ i x H H', i < n → Pv i H → J.yld i H x H' → g x (wipe σ vs) H' fun σ2 H2 => wipe σ2 vs = wipe σ vs ∧ tt σ2 H2 fun b H3 =>
      if b = true then te σ2 H3 fun y H4 => ∃ acc, H4 D = some (.lst acc) ∧ acc.length < sizeLine ∧ Pv (i + 1) (upd H4 D (.lst (acc ++ [y]))) else Pv (i + 1) H3) (hd : ∀ H, Pv n H → Qd H) :
    ∃ W : Nat → Nat → Hp → Prop, (∃ m, W 0 m (upd H1 D (.lst []))) ∧ ∀ i m H, W i m H →
      (J.stop i H ∧ Qd H) ∨ (J.go i H ∧ ∃ Nx : Hp → Prop, (∀ H', Nx H' → ∃ m', m' < m ∧ W (i + 1) m' H') ∧ ∀ x H', J.yld i H x H' → g x (wipe σ vs) H' fun σ2 H2 => wipe σ2 vs = wipe σ vs ∧ tt σ2 H2 fun b H3 =>
        if b = true then te σ2 H3 fun y H4 => ∃ acc, H4 D = some (.lst acc) ∧ acc.length < sizeLine ∧ Nx (upd H4 D (.lst (acc ++ [y]))) else Nx H3) := by
  refine ⟨fun i m H => m = n - i ∧ i ≤ n ∧ Pv i H, ⟨n, by simp, Nat.zero_le _, h0⟩, ?_⟩
  rintro i m H ⟨rfl, hi, p⟩
  by_cases hlt : i < n
  · refine .inr ⟨hgo i H hlt p, Pv (i + 1), fun H' p' => ⟨n - (i + 1), by omega, rfl, hlt, p'⟩, fun x H' y => ?_⟩
    exact hs i x H H' hlt p y
  · have e : i = n := by omega
    subst e
    exact .inl ⟨hst H p, hd H p⟩
theorem lc_str {z : Str} {g : TG} {tt : TT} {te : TE} {vs : List Nat} {σ : L2.St} {H1 : Hp} {D : Addr} {Qd : Hp → Prop} (Pv : Nat → Hp → Prop) (h0 : Pv 0 (upd H1 D (.lst [])))
    (hs : ∀ i c H, (cd z)[i]? = some c → Pv i H → g (.str ⟨#[c]⟩) (wipe σ vs) H fun σ2 H2 => wipe σ2 vs = wipe σ vs ∧ tt σ2 H2 fun b H3 =>
      if b = true then te σ2 H3 fun y H4 => ∃ acc, H4 D = some (.lst acc) ∧ acc.length < sizeLine ∧ Pv (i + 1) (upd H4 D (.lst (acc ++ [y]))) else Pv (i + 1) H3) (hd : ∀ H, Pv (cd z).length H → Qd H) :
    ∃ W : Nat → Nat → Hp → Prop, (∃ m, W 0 m (upd H1 D (.lst []))) ∧ ∀ i m H, W i m H →
      ((Its z).stop i H ∧ Qd H) ∨ ((Its z).go i H ∧ ∃ Nx : Hp → Prop, (∀ H', Nx H' → ∃ m', m' < m ∧ W (i + 1) m' H') ∧ ∀ x H', (Its z).yld i H x H' → g x (wipe σ vs) H' fun σ2 H2 => wipe σ2 vs = wipe σ vs ∧ tt σ2 H2 fun b H3 =>
        if b = true then te σ2 H3 fun y H4 => ∃ acc, H4 D = some (.lst acc) ∧ acc.length < sizeLine ∧ Nx (upd H4 D (.lst (acc ++ [y]))) else Nx H3) :=
  lc_it (J := Its z) (n := (cd z).length) Pv (fun i _ h _ => by
    show i < z.cps.size
    rwa [← Array.length_toList]) (fun _ _ => by
    show z.cps.size ≤ (cd z).length
    rw [← Array.length_toList]
    exact Nat.le_refl _) h0 (fun i x H H' hi p y => by
    obtain ⟨e, c, hc, ex⟩ := y
    subst e ex
    exact hs i c H' (by rw [← hc]; exact Array.getElem?_toList ..) p) hd
end RV
namespace RV
open PySem L2
/-- what follows a statement is shown once, from what the statement leaves -/
theorem seq_of {t R : TS} {D : Ends} {σ : L2.St} {H : Hp} (mid : L2.St → Hp → Prop) (h2 : ∀ σ' H', mid σ' H' → R D σ' H') (h1 : ∀ N : L2.St → Hp → Prop, (∀ σ' H', mid σ' H' → N σ' H') → t { D with nx := N } σ H) : tSeq t R D σ H := h1 (R D) h2
theorem szn {n : Nat} (h : n ≤ 1000) : n ≤ sizeLine := Nat.le_trans h (by decide)
end RV
/-! Rules for own classes: ==, !=, truth; repr of data. -/
namespace PySem.W
open PySem PySem.Calls PyProof.Rows Builtin
section
variable {prog : Program} {w : World} {A : Around} {E : Value → Shared → Prop} {s : Shared} {K : Frag} {x C L f : Addr} {h₀ : Heap} {m : Str → Option Value} {ox : Obj} {od : Option Obj} {b tb : Value}
/-- the default !=, by the class's own == that gives a bool -/
theorem rv_ne_K {Q : Value → Shared → Prop} (hu : A.units + 1 < cLine) (F : Fr h₀ L s.heap m) (X₀ : K.In h₀) (I : InstAt s.heap x ox C od) (hb : Looks (model prog w) s.heap (typeOf b) tb) (hn : notFirst K C tb = true)
    (hs : findIn K (.ref C) "__eq__" = some (some (.ref f))) (hf : isFn K (.ref f) = true) (hne : findIn K (.ref C) "__ne__" = some (some (.builtin "object.__ne__"))) (hob : subIn K (.ref C) (.type "object") = some true)
    (h : wpAny (model prog w) A.in1 (call (.ref f) [.ref x, b]) (fun v s' => ∃ c, v = .bool c ∧ Q (.bool (!c)) s') E s) : wpAny (model prog w) A (richCompare .NotEq (.ref x) b) Q E s := by
  have X := X₀.keeps F.keep
  have entry : wpAny (model prog w) A.in1 (Builtin.«object.__ne__» ⟨[.ref x, b], []⟩) (fun fin s' => ∃ v, fin = .done (.ret v) ∧ ∃ c, v = .bool (!c) ∧ Q (.bool (!c)) s') E s := by
    unfold Builtin.«object.__ne__»
    refine wpAny_bind (m := slotArgs "__ne__" 1 _) (wpAny_pure ?_)
    refine wpAny_bind (wpAny_cRoomFor (show A.units + 1 < cLine from hu) ?_)
    refine wpAny_bind (m := callSpecialIfBound? (.ref x) (Str.ofString "__eq__") [b]) (ifBound_K X I hs hf (wpAny_mono h (fun v s' hv => ?_) fun _ _ e => e))
    obtain ⟨c, rfl, hq⟩ := hv
    refine wpAny_bind (m := truthy (.bool c)) (wpAny_truthy_bool ?_)
    exact wpAny_pure ⟨_, rfl, c, rfl, hq⟩
  have chk : wpAny (model prog w) A.in1 (checkBuiltinCall "object.__ne__" ⟨[.ref x, b], []⟩) (fun _ s1 => s1 = s) E s := by
    simp only [checkBuiltinCall, PySem.F.cmpKind_ne, PySem.F.cmpSplit_ne]
    refine wpAny_bind ?_
    unfold isInstance
    refine wpAny_bind (I.type.here ?_)
    refine (looks_subIn X hob).here ?_
    have ha : argsOk "object.__ne__" ⟨[.ref x, b], []⟩ := PySem.F.cmpArgs_ne _ _
    cases hsig : Manifest.signature? "object.__ne__" with
    | none => exact wpAny_pure rfl
    | some sig =>
      simp only [argsOk, hsig] at ha
      have h2 : Bind.checkArgs "object.__ne__" sig ⟨[.ref x, b], []⟩ = pure () := ha
      show wpAny _ A.in1 (Bind.checkArgs "object.__ne__" sig ⟨[.ref x, b], []⟩) _ E _
      rw [h2]
      exact wpAny_pure rfl
  have callne : wpAny (model prog w) A (call (.builtin "object.__ne__") [.ref x, b]) (fun v s' => ∃ c, v = .bool (!c) ∧ Q (.bool (!c)) s') E s := by
    refine wpAny_call (codeAny_call_builtin PySem.F.slot_object_ne.plain PySem.F.cmpEntry_ne (wpAny_mono chk (fun _ s1 e => ?_) fun _ _ e => e))
    subst e
    refine wpAny_mono entry (fun fin s' hq => ?_) fun _ _ e => e
    obtain ⟨v, rfl, c, rfl, q⟩ := hq
    exact ⟨c, rfl, q⟩
  have one : wpAny (model prog w) A (tryCompare (.ref x) "__ne__" b) (fun r s' => ∃ v, r = some v ∧ Q v s') E s := by
    unfold tryCompare
    refine wpAny_bind (m := callSpecialIfBound? (.ref x) (Str.ofString "__ne__") [b]) ?_
    simp only [callSpecialIfBound?, bindSpecialIfBound?]
    refine wpAny_holding (wpAny_bind (wpAny_bind (wpAny_bind (I.type.here ((looks_findIn X hne).here ?_)))))
    simp only [PySem.F.slot_object_ne.bind]
    refine wpAny_bind (wpAny_askSetting (wpAny_ite ?_))
    have fin : ∀ R : Option Value → Shared → Prop, (∀ (c : Bool) s', Q (.bool (!c)) s' → R (some (.bool (!c))) s') → wpAny (model prog w) A (call (.builtin "object.__ne__") ([.ref x] ++ [b]) >>= fun v => pure (some v)) R E s := by
      intro R hR
      refine wpAny_bind (wpAny_mono callne (fun v s' hq => ?_) fun _ _ e => e)
      obtain ⟨c, rfl, q⟩ := hq
      exact wpAny_pure (hR c s' q)
    split
    · exact wpAny_bind (wpAny_pure (wpAny_pure (fin _ fun c s' q => wpAny_pure ⟨_, rfl, q⟩)))
    · exact wpAny_tryCatch (wpAny_bind (wpAny_pure (wpAny_pure (fin _ fun c s' q => wpAny_pure ⟨_, rfl, q⟩))))
  unfold richCompare
  simp only [oneThing_ref]
  refine wpAny_holding (wpAny_bind (wpAny_cRoomFor (Nat.lt_of_succ_lt hu) ?_))
  rw [cmpInfo_NotEq]
  dsimp only
  refine wpAny_bind (I.type.here (wpAny_bind (hb.here ?_)))
  split
  · rename_i q
    have e : subIn K tb (.ref C) = some false := by
      rcases Bool.or_eq_true_iff.mp hn with e | e
      · rw [beq_iff_eq.mp e] at q; simp at q
      · exact beq_iff_eq.mp e
    refine wpAny_bind ((looks_subIn X e).here ?_)
    simp only [Bool.false_eq_true, if_false]
    refine wpAny_bind (wpAny_mono one (fun r s' z => ?_) fun _ _ e => e)
    obtain ⟨v, rfl, hq⟩ := z
    exact wpAny_pure hq
  · refine wpAny_bind (wpAny_pure ?_)
    simp only [Bool.false_eq_true, if_false]
    refine wpAny_bind (wpAny_mono one (fun r s' z => ?_) fun _ _ e => e)
    obtain ⟨v, rfl, hq⟩ := z
    exact wpAny_pure hq
end
end PySem.W

namespace RV
open PySem L2
/-- the kind of a value, for a comparison -/
inductive TyL (H : Hp) : V → Value → Prop where
  | non : TyL H .non (.type "NoneType")
  | bl (b : Bool) : TyL H (.bl b) (.type "bool")
  | int (i : Int) : TyL H (.int i) (.type "int")
  | str (x : Str) : TyL H (.str x) (.type "str")
  | lst {a : Addr} {xs : List V} (e : H a = some (.lst xs)) : TyL H (.ref a) (.type "list")
  | tup {a : Addr} {xs : List V} (e : H a = some (.tup xs)) : TyL H (.ref a) (.type "tuple")
  | dK {a : Addr} {kvs : List (Key × V)} (e : H a = some (.dK kvs)) : TyL H (.ref a) (.type "dict")
  | ins {a C dx : Addr} {fs : List (Str × V)} (e : H a = some (.ins C dx fs)) : TyL H (.ref a) (.ref C)
section
variable {X : Cx} {pins : List (Addr × Obj)} {σ : L2.St} {H : Hp} {s : Shared}
/-- the class C has an own == that promises sp, and no own != -/
structure OwnEq (P : Program) (w : World) (K : PySem.W.Frag) (mg : Str → Option Value) (base : Heap) (C : Addr) (k : Nat) (sp : Sp) : Prop where
  fn : ∃ f fd ps, PySem.W.findIn K (.ref C) "__eq__" = some (some (.ref f)) ∧ PySem.W.isFn K (.ref f) = true ∧ Binds K fd ps [] ∧ FnOk P w K mg base CX0 k f fd ps sp
  ne : PySem.W.findIn K (.ref C) "__ne__" = some (some (.builtin "object.__ne__"))
  ob : PySem.W.subIn K (.ref C) (.type "object") = some true
@[irreducible] def rEqO (neg : Bool) (K : PySem.W.Frag) (C : Addr) (sp : Sp) : R2 := fun x y H Q => ∃ a dx fs t, x = .ref a ∧ H a = some (.ins C dx fs) ∧ TyL H y t ∧ PySem.W.notFirst K C t = true ∧
  sp [x, y] H (fun v H' => ∃ b, v = .bl b ∧ Q (.bl (if neg then !b else b)) H') E0
variable {P : Program} {w : World} {K : PySem.W.Frag} {mg : Str → Option Value} {base : Heap} {C : Addr} {k : Nat} {sp : Sp}
/-- an instance of a class without a truth or a length of its own is true -/
def rTrO (C : Addr) : V → Hp → (Bool → Hp → Prop) → Prop := fun x H Q => ∃ a dx fs, x = .ref a ∧ H a = some (.ins C dx fs) ∧ Q true H
/-! ### repr -/
mutual
theorem Dp.noDict {K : PySem.W.Frag} {H : Hp} : ∀ {v : V} {d : PyData}, Dp K H v d → d.hasDict = false
  | _, _, .non => by simp [PyData.hasDict]
  | _, _, .bl _ => by simp [PyData.hasDict]
  | _, _, .int _ => by simp [PyData.hasDict]
  | _, _, .str _ => by simp [PyData.hasDict]
  | _, _, .lst _ h => by simp [PyData.hasDict, DpAll.noDict h]
  | _, _, .tup _ h => by simp [PyData.hasDict, DpAll.noDict h]
theorem DpAll.noDict {K : PySem.W.Frag} {H : Hp} : ∀ {vs : List V} {ds : List PyData}, DpAll K H vs ds → PyData.hasDictAll ds = false
  | _, _, .nil => by simp [PyData.hasDictAll]
  | _, _, .cons h t => by simp [PyData.hasDictAll, Dp.noDict h, DpAll.noDict t]
end
@[irreducible] def rRepr (K : PySem.W.Frag) : List V → Hp → VK → Prop := fun xs H Q => ∃ a d, xs = [.ref a] ∧ Dp K H (.ref a) d ∧ d.showable = true ∧ d.depth ≤ 60 ∧ d.shown.length ≤ sizeLine ∧ Q (.str d.shown) H
end
end RV
/-! Defs that must not run within a repr: as FnOk, but only where no repr is under way. -/
namespace RV
open PySem L2 PyProof.Rows
section
variable {P : Program} {w : World} {K : PySem.W.Frag} {mg : Str → Option Value} {base : Heap}
structure FnG (P : Program) (w : World) (K : PySem.W.Frag) (mg : Str → Option Value) (base : Heap) (k : Nat) (f : Addr) (fd : FuncData) (ps : List Str) (sp : Sp) : Prop where
  len : ∀ vs H Q E, sp vs H Q E → vs.length = ps.length
  run : ∀ (A : Around) (outer : List Env) (s : Shared) (H : Hp) (args : Args) (us : List Value) (vs : List V) (Q : VK) (E : XK), A.guards = some [] → Room k A → Env0 P w K mg base A outer s H → BindsTo s fd args (ps.zip us) → Vals vs us → sp vs H Q E →
    codeAny (model P w) A (.call (.ref f) args) (CR CX0 outer P w H s Q E) s
theorem gFun {x qual : Str} {st : Stmt} {f : Addr} {fd : FuncData} {N ps : List Str} {k : Nat} {sp : Sp} (F : Fun K x qual st f fd) (S : FnScope N ps (defScope st)) (len : ∀ vs H Q E, sp vs H Q E → vs.length = ps.length)
    (hbody : ∀ (cdv : Value) (A : Around) (outer : List Env) (s : Shared) (H : Hp) (vs : List V) (Q : VK) (E : XK), (A.deeper (envOfC qual (defScope st) s.heap.objs.size f cdv)).guards = some [] → Room k (A.deeper (envOfC qual (defScope st) s.heap.objs.size f cdv)) → sp vs H Q E →
      ∃ t, PSs (cxOf CX0 P w K mg base N qual (defScope st) f cdv A outer s H E).nox (defBody st) t ∧ t { nx := fun _ H' => Q .non H', rt := Q } (start N vs) H) : FnG P w K mg base (k + 1) f fd ps sp := by
  refine ⟨len, fun A outer s H args us vs Q E gs hr e0 hb r hsp => ?_⟩


  obtain ⟨oc, od, kV, doc, pm, an, cdv, ct, osl, rfl, lk, hcd⟩ := F.ex
  have hl := len _ _ _ _ hsp
  have KX : K.In s.heap := e0.mod.kin.keeps fun b o e => (e0.bs b o e).1
  have lim := e0.mod.nolimit.keeps fun b o e => (e0.bs b o e).1
  refine codeAny_call_function hr.depth (KX _ _ lk) rfl S.co S.gen rfl (PySem.W.codeRec_of KX hcd) (hb _ _ _ _ ?_)
  refine wpAny_newFunctionEnv_cells S.kind (fun y hy => ?_) fun env he s1 x => ?_
  · have hin : y.1 ∈ ps := by
      obtain ⟨n, v⟩ := y
      exact (List.of_mem_zip hy).1
    exact (S.par _ hin).imp id fun q => ⟨q, PySem.W.cellsFrom_some _ _ _ (.inl q)⟩
  subst he
  refine ⟨lim.keeps x.toInCall.keep, codeAny_func ?_⟩
  obtain ⟨t, ht, hq⟩ := hbody cdv A outer s H vs Q E gs (hr.deeper _) hsp
  have I := inv_start (CX := CX0) (cd := cdv) (E := E) S hr.hd e0 hl r x
  refine wpAny_mono (ht.nox.run [] s1 (start N vs) H _ I hq) (fun fl s' hs => ?_) fun _ _ hs => hs
  match fl, hs with
  | .ret u, ⟨v, _, H', J, rv, q⟩ => exact ⟨v, H', J.os, J.bare, J.base, J.hok, rv, q⟩
  | .next, ⟨_, H', J, q⟩ => exact ⟨V.non, H', J.os, J.bare, J.base, J.hok, rfl, q⟩
  | .brk, ⟨_, _, _, q⟩ => exact q.elim
  | .cont, ⟨_, _, _, q⟩ => exact q.elim
/-- such a function of the module, as its callers see it -/
def FnGd (P : Program) (w : World) (K : PySem.W.Frag) (mg : Str → Option Value) (base : Heap) (x : Str) (k : Nat) (ps : List Str) (sp : Sp) : Prop :=
  ∃ f fd, mg x = some (.ref f) ∧ PySem.W.keepIn K (.ref f) = true ∧ Binds K fd ps [] ∧ FnG P w K mg base k f fd ps sp
end
section
variable {X : Cx} {x : Str} {k : Nat} {ps : List Str} {sp : Sp} {e : Expr} {es : List Expr} {t : TA} {p pos : Pos}
theorem pe_fnG (h : FnGd X.prog X.w X.K X.mg X.base x k ps sp) (gs : X.A.guards = some []) (hr : Room k X.A) (ha : PA X (e :: es) t) (hg : Gl X x := by rfl) (hdb : (x == ("__debug__" : Str)) = false := by decide)
    (he : starEach (e :: es) X.env = (false, eval e X.env) :: starEach es X.env := by rfl) (hpl : (backTo pos (starEach es X.env)).any (·.1) = false := by rfl) :
    PE X (.Call (.Name x p) (e :: es) [] pos) (tCall sp [] E0 t) := by
  obtain ⟨f, fd, hm, hk, hb, F⟩ := h
  refine ⟨fun pins s σ H Q I h => wpAny_Call_Name_kw (ld_glob I hg hm ?_ hdb)⟩
  refine PySem.W.callWith_K (h₀ := X.base) I.ok.mod.kin hk (thn (ha.run pos pins s σ H _ I h) fun us s1 ⟨vs, H1, I1, r, q⟩ => ⟨I1.kIn, ?_⟩) he hpl
  have q' : sp vs H1 Q E0 := by rw [← List.append_nil vs]; exact q
  have hl : us.length = ps.length := r.length ▸ F.len _ _ _ _ q'
  have hbb : BindsTo s1 fd ⟨us, []⟩ (ps.zip us) := by
    have z := hb s1 us I1.kIn (by rw [List.append_nil]; exact hl)
    rwa [List.append_nil] at z
  refine wpAny_call (codeAny_mono (F.run X.A X.stack s1 H1 ⟨us, []⟩ us vs Q E0 gs hr I1.env0 hbb r q') fun res s' hq => ?_)
  match res, hq with
  | .ok (.ret u), hq => exact I1.after hq
  | .ok .next, hq => exact False.elim hq
  | .ok .brk, hq => exact False.elim hq
  | .ok .cont, hq => exact False.elim hq
  | .error e, hq => exact False.elim hq
end
/-- the law's own call: nothing is tracked but the script -/
theorem callG {P : Program} {w : World} {K : PySem.W.Frag} {mg mb : Str → Option Value} {k : Nat} {fa a : Addr} {fd : FuncData} {x : Str} {sp : Sp} {s₁ : Shared} {vs : List Value} {ns : List Int}
    (KX : K.In s₁.heap) (hns : s₁.heap.Ns mainGlobals mg) (hb : s₁.heap.Ns builtinsNs mb) (hbb : ∀ x : Str, x ≠ "__name__" → mb x = bootBuiltins x) (hlim : s₁.heap.NoLimit) (hg : s₁.gens = #[])
    (ha : s₁.heap.get? a = some { cls := .type "list", data := .seq vs.toArray }) (hi : IntsAre vs ns) (hl : ns.length ≤ sizeLine) (hr : Room k callerA)
    (F : ∀ base : Heap, K.In base → base.Ns mainGlobals mg → FnG P w K mg base k fa fd [x] sp) (hbind : ∀ (s : Shared) (u : Value), BindsTo s fd ⟨[u], []⟩ [(x, u)])
    (hsp : ∀ H : Hp, SqL K H a (ns.map V.int) → sp [.ref a] H (fun v _ => v = .bl true) E0) :
    codeAny (model P w) callerA (.call (.ref fa) ⟨[.ref a], []⟩) (fun r s' => r = .ok (.ret (.bool true)) ∧ OldK s₁.heap s'.heap ∧ s'.os = s₁.os ∧ AllBare s'.gens) s₁ := by
  have rv := vals_ints hi
  let scr : Obj := { cls := .type "list", data := .seq vs.toArray }
  -- H tracks at most the script, locked
  have core : ∀ H : Hp, (∀ b u, H b = some u → b = a ∧ u = .frz scr (.lst (ns.map V.int)) ∧ K.lookup a = none) → SqL K H a (ns.map V.int) →
      codeAny (model P w) callerA (.call (.ref fa) ⟨[.ref a], []⟩) (fun r s' => r = .ok (.ret (.bool true)) ∧ OldK s₁.heap s'.heap ∧ s'.os = s₁.os ∧ AllBare s'.gens) s₁ := by
    intro H hO hS
    have hok : HOk P w H s₁.heap := fun b u e => by
      obtain ⟨rfl, rfl, _⟩ := hO b u e
      exact ⟨ha, by rw [List.length_map]; exact hl, vs, _, rv, ha⟩
    have other : ∀ {b : Addr} {o : Obj}, s₁.heap.get? b = some o → o ≠ scr → H b = none := fun {b o} e d => by
      cases q : H b with
      | none => rfl
      | some u =>
        obtain ⟨rfl, _, _⟩ := hO b u q
        rw [ha] at e
        exact absurd (Option.some.inj e).symm d
    have spaces : ∀ {b : Addr} {m : Str → Option Value}, s₁.heap.Ns b m → (hidT s₁.heap H).Ns b m := fun {b m} z => by
      obtain ⟨o, es, ep, e, d, r⟩ := z
      refine ⟨o, es, ep, hidT_get e (other e fun q => ?_), d, r⟩
      subst q
      obtain ⟨_, d'⟩ := d
    have kin : K.In (hidT s₁.heap H) := fun b o e => hidT_get (KX b o e) (by
      cases q : H b with
      | none => rfl
      | some u =>
        obtain ⟨rfl, _, z⟩ := hO b u q
        rw [z] at e
        cases e)
    obtain ⟨mc, l1, l2⟩ := hlim
    have e0 : Env0 P w K mg (hidT s₁.heap H) callerA [] s₁ H :=
      { frames := rfl, mod := ⟨kin, spaces hns, ⟨mb, spaces hb, hbb⟩, ⟨mc, spaces l1, l2⟩⟩, bs := fun _ _ e => of_hidT e, bsz := Nat.le_of_eq (hidT_size _ _), funs := trivial, frf := fun _ hb => (nomatch hb), hok := hok, bare := .of_eq hg }
    refine codeAny_mono ((F _ kin (spaces hns)).run callerA [] s₁ H ⟨[.ref a], []⟩ [.ref a] [.ref a] _ _ rfl hr e0 (hbind s₁ (.ref a)) (.cons rfl .nil) (hsp H hS)) fun res s' z => ?_
    match res, z with
    | .ok (.ret u), ⟨v, H', os, bare, un, hok', rel, ev⟩ =>
      have ev' : v = .bl true := ev
      subst ev'
      have eu : u = Value.bool true := rel
      subst eu
      refine ⟨rfl, OldK.of_keep fun b o e => ?_, os, bare⟩
      cases q : H b with
      | none => exact un.keep b o e q (fun z => nomatch z) (fun z => nomatch z)
      | some u =>
        obtain ⟨rfl, rfl, _⟩ := hO b u q
        have z1 := (hok' b _ (un.frzs b _ _ q)).1
        rw [ha] at e
        rw [← e]
        exact z1
    | .ok .next, z => exact False.elim z
    | .ok .brk, z => exact False.elim z
    | .ok .cont, z => exact False.elim z
    | .error e, z => exact False.elim z
  cases hk : K.lookup a with
  | some o =>
    have e := KX a o hk
    rw [ha] at e
    cases e
    exact core (fun _ => none) (fun _ _ z => nomatch z) (.inr ⟨_, vs.toArray, _, hk, rfl, rfl, rfl, by rw [List.size_toArray, hi.length]; exact hl, by simpa using rv⟩)
  | none =>
    refine core (fun b => if b = a then some (.frz scr (.lst (ns.map V.int))) else none) (fun b u z => ?_) (.inl (.inr ⟨scr, if_pos rfl⟩))
    by_cases hb : b = a
    · rw [if_pos hb] at z
      exact ⟨hb, (Option.some.inj z).symm, hk⟩
    · rw [if_neg hb] at z
      cases z
theorem walkG (k : Nat) {l : PySem.W.OpenLaw} {q : Program} {loose : List Str} {XP : (Str → Option Value) → Heap → Prop} {YP : World → Heap → Prop} {d : DefRec} {K : Params → PySem.W.Frag} (hr : Room k callerA) (hn : l.most = some 63) (hdf : d.params.defaults = [])
    (hY : ∀ (w : World) (h : Heap), YP w h → (K w.params).In h)
    (F : ∀ (w : World) (mg : Str → Option Value) (fa : Addr) (h : Heap), (K w.params).In h → h.Ns mainGlobals mg → mg d.name = some (.ref fa) →
      ∃ fd : FuncData, (∀ (s : Shared) (u : Value), BindsTo s fd ⟨[u], []⟩ [("_law_cells", u)]) ∧ ∀ base : Heap, (K w.params).In base → base.Ns mainGlobals mg → FnG l.prog w (K w.params) mg base k fa fd ["_law_cells"] (spLaw (K w.params))) :
    PySem.W.WalkO q loose XP YP l.row.toRowW d [] (fun f vs => PySem.call f vs) := by
  refine Att.attach_call hn hdf fun w s₀ s₁ mg mb fa o pm cd doc a vs ns G Y ho hd hcd hmg hobj hints hlen hg => ?_
  obtain ⟨fd, hb, hF⟩ := F w mg fa _ (hY w _ Y) G.T.g hmg
  exact callG (hY w _ Y) G.T.g G.T.b G.T.builtins G.T.nolimit hg hobj hints (Nat.le_trans hlen (by decide)) hr hF hb fun H hS => ⟨a, ns, rfl, hS, hlen, fun _ => rfl⟩
end RV
/-! Classes of the text, as their callers see them. -/
namespace RV
open PySem L2 PyProof.Rows
/-- the class x of the module stands at C; C(..) of positional values, the defaults dvs behind them -/
def Mkr (P : Program) (w : World) (K : PySem.W.Frag) (mg : Str → Option Value) (base : Heap) (x : Str) (C : Addr) (k : Nat) (sp : Sp) (dvs : List V) : Prop :=
  mg x = some (.ref C) ∧ ∃ f fd ps ds, Mk K C f ∧ Binds K fd ps ds ∧ Vals dvs ds ∧ FnOk P w K mg base CX0 k f fd ps sp
def MkrK (P : Program) (w : World) (K : PySem.W.Frag) (mg : Str → Option Value) (base : Heap) (x : Str) (C : Addr) (k n : Nat) (ks : List Str) (sp : Sp) (gV : List V → List V → List V) : Prop :=
  mg x = some (.ref C) ∧ ∃ f fd ps g, Mk K C f ∧ KBn K fd ps (n + 1) ks g gV ∧ FnOk P w K mg base CX0 k f fd ps sp
/-- what isinstance asks of a class of the text -/
structure ClsX (K : PySem.W.Frag) (C : Addr) : Prop where
  cl : Cls K C
  ha : PySem.W.findIn K (.ref C) "__class__" = some (some (.builtin "object.__class__"))
  hn : PySem.W.specialIn K (.builtin "object.__class__") "__get__" = some (some (.builtin "getset_descriptor.__get__"))
  htk : PySem.W.takesIn K (.builtin "object.__class__") = some true
  hm : PySem.W.mroIn K C (.type "object") = some true
theorem ClsX.ty {K : PySem.W.Frag} {C a dx : Addr} {H : Hp} {fs : List (Str × V)} (c : ClsX K C) (e : H a = some (.ins C dx fs)) : TyX K H (.ref a) (.ref C) := .base (.ins e c.cl c.ha c.hn c.htk c.hm)
/-- a property -/
def Prp (P : Program) (w : World) (K : PySem.W.Frag) (mg : Str → Option Value) (base : Heap) (C : Addr) (f : Str) (k : Nat) (sp : Sp) : Prop :=
  Cls K C ∧ ∃ p g fd ps, PropOf K C f p g ∧ Binds K fd ps [] ∧ FnOk P w K mg base CX0 k g fd ps sp
section
variable {X : Cx} {x f : Str} {C : Addr} {k n : Nat} {ks : List Str} {sp : Sp} {dvs : List V} {gV : List V → List V → List V} {e : Expr} {es : List Expr} {kws : List Keyword} {t tk : TA} {ta : TE} {p pos : Pos}
theorem pe_propN (h : Prp X.prog X.w X.K X.mg X.base C f k sp) (hr : Room (k + 1) X.A) (he : PE X e ta) (hab : attributeBase e f X.env (eval e X.env) = eval e X.env := by rfl) : PE X (.Attribute e f pos) (tProp C sp [] E0 ta) := by
  obtain ⟨c, q, g, fd, ps, hp, hb, F⟩ := h
  exact pe_prop he c hp F hr hb .nil pass0 hab
end
end RV
/-! What is known of the heap, step by step; repr of lists of short things. -/
namespace RV
open PySem L2 PyProof.Rows
/-- the built-in names that the text uses are still the built-ins -/
structure Blt (mg : Str → Option Value) : Prop where
  b_len : mg "len" = none
  b_int : mg "int" = none
  b_abs : mg "abs" = none
  b_max : mg "max" = none
  b_min : mg "min" = none
  b_all : mg "all" = none
  b_any : mg "any" = none
  b_repr : mg "repr" = none
  b_range : mg "range" = none
  b_divmod : mg "divmod" = none
  b_isinstance : mg "isinstance" = none
  b_str : mg "str" = none

/-! ### the well -/
def sp_well (K : PySem.W.Frag) : Sp := fun vs H Q _ => ∃ (c : Addr) (ns : List Int) (k : Nat), vs = [.ref c, .int k] ∧ SqL K H c (ns.map V.int) ∧ ns.length ≤ 63 ∧ k ≤ 100 ∧
  ∀ a H', H a = none → Same H H' → WellAt H' a 0 → Q (.ref a) H'
def sp_dip : Sp := fun vs H Q _ => ∃ (a : Addr) (m : Int) (n : Nat), vs = [.ref a, .int m] ∧ WellAt H a n ∧ n < 1000000 ∧ 0 < m ∧ m ≤ 10 ^ 60 ∧
  ∀ (r : Int) H', 0 ≤ r → r < m → Grow a H H' → WellAt H' a (n + 1) → Q (.int r) H'
theorem WellAt.mono {H : Hp} {a : Addr} {n m : Nat} (w : WellAt H a n) (h : n ≤ m) : WellAt H a m := by
  obtain ⟨x, y, z, e, hx, hy, hz⟩ := w
  exact ⟨x, y, z, e, hx, hy, by omega, by omega⟩
theorem WellAt.new {H : Hp} {a p : Addr} {n : Nat} {o : HO} (w : WellAt H a n) (np : H p = none) : WellAt (upd H p o) a n := by
  obtain ⟨x, y, z, e, hx, hy, hz⟩ := w
  exact ⟨x, y, z, by rw [upd_ne (ne_of_none e np)]; exact e, hx, hy, hz⟩
theorem WellAt.ne {H : Hp} {a p : Addr} {n : Nat} (w : WellAt H a n) (np : H p = none) : a ≠ p := by
  obtain ⟨x, y, z, e, _⟩ := w
  exact ne_of_none e np
def sp_name : Sp := fun vs H Q _ => ∃ (a : Addr) (n : Nat), vs = [.ref a] ∧ WellAt H a n ∧ n < 900000 ∧
  ∀ (x : Str) H', IsNm x → Grow a H H' → WellAt H' a (n + 10) → Q (.str x) H'
def sp_fresh : Sp := fun vs H Q _ => ∃ (a t : Addr) (n : Nat) (xs : List Str), vs = [.ref a, .ref t] ∧ WellAt H a n ∧ n < 800000 ∧ H t = some (.lst (xs.map V.str)) ∧ t ≠ a ∧ (∀ x ∈ xs, IsNm x) ∧ xs.length ≤ 35 ∧
  ∀ (x : Str) H', IsNm x → x ∉ xs → Grow a H H' → WellAt H' a (n + 13) → Q (.str x) H'
/-- the names that differ from x in their last sign alone -/
def cands (x : Str) : List Str := (cd signs).map fun c => cutS x none (some 7) ++ ⟨#[c]⟩
/-- what is_name says of any value whose kind is known -/
def sp_is_name (K : PySem.W.Frag) : Sp := fun vs H Q _ => ∃ v, vs = [v] ∧ ((∃ x : Str, v = .str x ∧ x.length ≤ sizeLine ∧ ∀ H', Same H H' → Q (.bl (isNm (cd x))) H') ∨
  (∃ t, TyX K H v t ∧ PySem.W.kitOne K t (.type "str") = some false ∧ Q (.bl false) H))
structure Cst (mg : Str → Option Value) : Prop where
  c__LETTERS : ∃ u, mg "_LETTERS" = some u ∧ RelV (.str "abcdefghijklmnopqrstuvwxyz") u
  c__DIGITS : ∃ u, mg "_DIGITS" = some u ∧ RelV (.str "0123456789") u
  c__LONGEST_NAME : ∃ u, mg "_LONGEST_NAME" = some u ∧ RelV (.int 8) u
theorem cd_letters : cd "abcdefghijklmnopqrstuvwxyz" = [97, 98, 99, 100, 101, 102, 103, 104, 105, 106, 107, 108, 109, 110, 111, 112, 113, 114, 115, 116, 117, 118, 119, 120, 121, 122] := by decide +kernel
theorem cd_digits : cd "0123456789" = [48, 49, 50, 51, 52, 53, 54, 55, 56, 57] := by decide +kernel
theorem low_in (c : Nat) : decide (c ∈ cd "abcdefghijklmnopqrstuvwxyz") = lowC c := by
  rw [cd_letters]
  simp only [lowC]
  by_cases h : 97 ≤ c ∧ c ≤ 122
  · have : c = 97 ∨ c = 98 ∨ c = 99 ∨ c = 100 ∨ c = 101 ∨ c = 102 ∨ c = 103 ∨ c = 104 ∨ c = 105 ∨ c = 106 ∨ c = 107 ∨ c = 108 ∨ c = 109 ∨ c = 110 ∨ c = 111 ∨ c = 112 ∨ c = 113 ∨ c = 114 ∨ c = 115 ∨ c = 116 ∨ c = 117 ∨ c = 118 ∨ c = 119 ∨ c = 120 ∨ c = 121 ∨ c = 122 := by omega
    rcases this with e | e | e | e | e | e | e | e | e | e | e | e | e | e | e | e | e | e | e | e | e | e | e | e | e | e <;> subst e <;> decide
  · have h1 : (decide (97 ≤ c) && decide (c ≤ 122)) = false := by
      simp only [Bool.and_eq_false_iff, decide_eq_false_iff_not]
      omega
    rw [h1]
    simp only [decide_eq_false_iff_not, List.mem_cons, List.not_mem_nil, or_false]
    omega
theorem tail_in (c : Nat) : decide (c ∈ cd (("abcdefghijklmnopqrstuvwxyz" : Str) ++ ("0123456789" : Str))) = tailC c := by
  rw [cd_app]
  have h2 : decide (c ∈ cd "0123456789") = digC c := by
    rw [cd_digits]
    simp only [digC]
    by_cases h : 48 ≤ c ∧ c ≤ 57
    · have : c = 48 ∨ c = 49 ∨ c = 50 ∨ c = 51 ∨ c = 52 ∨ c = 53 ∨ c = 54 ∨ c = 55 ∨ c = 56 ∨ c = 57 := by omega
      rcases this with e | e | e | e | e | e | e | e | e | e <;> subst e <;> decide
    · have h1 : (decide (48 ≤ c) && decide (c ≤ 57)) = false := by
        simp only [Bool.and_eq_false_iff, decide_eq_false_iff_not]
        omega
      rw [h1]
      simp only [decide_eq_false_iff_not, List.mem_cons, List.not_mem_nil, or_false]
      omega
  rw [tailC, ← low_in, ← h2]
  by_cases a : c ∈ cd "abcdefghijklmnopqrstuvwxyz" <;> by_cases b : c ∈ cd "0123456789" <;> simp [a, b]
/-- a promise that the unifier does not open -/
@[irreducible] def Irr (sp : Sp) : Sp := sp
theorem irr {sp : Sp} {vs : List V} {H : Hp} {Q : VK} {E : XK} (h : sp vs H Q E) : Irr sp vs H Q E := by unfold Irr; exact h
theorem irr_of {sp : Sp} {vs : List V} {H : Hp} {Q : VK} {E : XK} (h : Irr sp vs H Q E) : sp vs H Q E := by unfold Irr at h; exact h
theorem Fn.irr {P : Program} {w : World} {K : PySem.W.Frag} {mg : Str → Option Value} {base : Heap} {x : Str} {k : Nat} {ps : List Str} {sp : Sp} (h : Fn P w K mg base x k ps sp) : Fn P w K mg base x k ps (Irr sp) := by
  obtain ⟨f, fd, a, b, c, F⟩ := h
  exact ⟨f, fd, a, b, c, F.imp fun _ _ _ _ z => irr_of z⟩
section
variable {a p x : Addr} {n m : Nat} {L : List (Addr × HO)} {H0 H : Hp} {o : HO} {Q : VK} {E : XK}
theorem Has.same (h : Has H0 a n L H) {H' : Hp} (g : Same H H') : Has H0 a n L H' := by
  obtain ⟨g0, ⟨x, y, z, e, r⟩, k⟩ := h
  exact ⟨fun b u hb eb => g _ _ (g0 b u hb eb), ⟨x, y, z, g _ _ e, r⟩, fun q hq => ⟨(k q hq).1, g _ _ (k q hq).2⟩⟩
theorem name_step (h : Has H0 a n L H) (hn : n < 900000) (k : ∀ x H', IsNm x → Has H0 a (n + 10) L H' → Q (.str x) H') : Irr sp_name [.ref a] H Q E :=
  irr ⟨a, n, rfl, h.well, hn, fun x H' hx g w => k x H' hx (h.grow g w)⟩
theorem dip_step {q : Int} (h : Has H0 a n L H) (hn : n < 1000000) (h0 : 0 < q) (h1 : q ≤ 10 ^ 60) (k : ∀ (r : Int) H', 0 ≤ r → r < q → Has H0 a (n + 1) L H' → Q (.int r) H') : Irr sp_dip [.ref a, .int q] H Q E :=
  irr ⟨a, q, n, rfl, h.well, hn, h0, h1, fun r H' r0 r1 g w => k r H' r0 r1 (h.grow g w)⟩
end
/-! ### short data -/
structure Short (d : PyData) : Prop where
  sh : d.showable = true
  dp : d.depth = 0
  ln : d.shown.length ≤ 100
end RV
/-! for i, x in enumerate(t), t a tuple. -/
namespace PySem
open AutoSeq1 (wpAny_loadPart')
set_option maxHeartbeats 4000000 in
theorem rv_meets_enum_tuple (l : Addr) (items : Array Value) (n : Nat) (dct : Option Addr) (sl : Array (Option Value)) :
    Meets (Builtin.«enumerate.__new__» ⟨[.type "enumerate", .ref l], []⟩) (fun _ R s => s.heap.get? l = some { cls := .type "tuple", dict := dct, data := .seq items n, slots := sl } ∧
      R (.ok (.ret (.ref (s.heap.push { cls := .type "tuple_iterator", data := .fields #[.ref l, .int 0 0] }).objs.size)))
        { s with heap := (s.heap.push { cls := .type "tuple_iterator", data := .fields #[.ref l, .int 0 0] }).push { cls := .type "enumerate", data := .fields #[.none, .bool false, .ref s.heap.objs.size, rawInt 0, .none, .none] } }) :=
  .of_wp fun prog w A R s h => by
    obtain ⟨hp, g, d, tk, os⟩ := s
    obtain ⟨hl, h⟩ := h
    have q := sub_enumerate
    have hT : Heap.IsTuple (Shared.heap ⟨hp, g, d, tk, os⟩) l items := ⟨_, hl, rfl, n, rfl⟩
    wp_walk using wpAny_loadPart' hl
    refine wpAny_stack_any fun st => wpAny_pure ?_
    split
    · rename_i c _ _ _ _ _
      cases (c == Value.type "enumerate") <;> (wp_walk using wpAny_loadPart' hl, wpAny_pyIter_tuple hT; exact ⟨_, rfl, h⟩)
    · wp_walk using wpAny_loadPart' hl, wpAny_pyIter_tuple hT
      exact ⟨_, rfl, h⟩
section
variable {prog : Program} {w : World} {A : Around} {E : Value → Shared → Prop} {s : Shared}
theorem rv_call_enum_tuple {l : Addr} {items : Array Value} {Q : Value → Shared → Prop} (hT : s.heap.IsTuple l items)
    (h : ∀ h', IsEnum h' (s.heap.objs.size + 1) s.heap.objs.size 0 .none → h'.IsTupleIter s.heap.objs.size l 0 → h'.objs.size = s.heap.objs.size + 2 → (∀ b o, s.heap.get? b = some o → h'.get? b = some o) → Q (.ref (s.heap.objs.size + 1)) { s with heap := h' }) :
    wpAny (model prog w) A (call (.type "enumerate") [.ref l]) Q E s := by
  obtain ⟨⟨c, dct, dt, sl⟩, hl, hc, n, hd⟩ := hT
  obtain rfl : c = .type "tuple" := hc
  obtain rfl : dt = .seq items n := hd
  refine callType_new F.called_enumerate (by decide) (F.typeCall_enumerate_1 _) (F.newCall_enumerate_1 _) (fun obj => F.args_object_init_2 obj _) F.entry_enumerate_new (rv_meets_enum_tuple l items n dct sl) ⟨hl, ?_⟩
  let h1 := s.heap.push { cls := .type "tuple_iterator", data := .fields #[.ref l, .int 0 0] }
  have z1 : h1.objs.size = s.heap.objs.size + 1 := Heap.size_push ..
  show _ ∧ _
  rw [show (s.heap.push { cls := .type "tuple_iterator", data := .fields #[.ref l, .int 0 0] }).objs.size = s.heap.objs.size + 1 from z1]
  have he : IsEnum (h1.push { cls := .type "enumerate", data := .fields #[.none, .bool false, .ref s.heap.objs.size, rawInt 0, .none, .none] }) (s.heap.objs.size + 1) s.heap.objs.size 0 .none := by
    have t := Heap.get?_push_size h1 (o := { cls := .type "enumerate", data := .fields #[.none, .bool false, .ref s.heap.objs.size, rawInt 0, .none, .none] }) rfl
    rw [z1] at t
    exact t
  exact ⟨⟨_, he, rfl⟩, h _ he ⟨_, Heap.get?_push_of_some _ (Heap.get?_push_size _ rfl), rfl, rfl⟩ (by rw [Heap.size_push, z1]) fun b o x => Heap.get?_push_of_some _ (Heap.get?_push_of_some _ x)⟩
end
end PySem
namespace RV
open PySem L2 PyProof.Rows
/-- the tuple at a, each item in a new pair with its number -/
def Iet (K : PySem.W.Frag) (a : Addr) : It :=
  ⟨fun i H => ∃ (xs : List V) (x : V), SqT K H a xs ∧ xs[i]? = some x, fun i H v H' => ∃ T x, v = .ref T ∧ H T = none ∧ H' = upd H T (.tup [.int (i : Nat), x]) ∧ ∀ xs, SqT K H a xs → xs[i]? = some x, fun i H => ∃ xs : List V, SqT K H a xs ∧ xs.length = i⟩
def iEnumT (K : PySem.W.Frag) (ta : TA) : TI := fun σ H R => ta σ H fun vs H1 => ∃ a xs, vs = [.ref a] ∧ SqT K H1 a xs ∧ R (Iet K a) H1
end RV
set_option linter.all false
/-! Sets of keys of one kind that can be walked and sorted: set(list of texts), sorted(set of texts). -/
namespace RV
open PySem L2 PySem.Spec PyProof.Rows
section
variable {P : Program} {w : World} {κ : Type} [DecidableEq κ] {knd : KeyKind P w κ}
/-- no two of them are the same key -/
def Apart (knd : KeyKind P w κ) (l : List (Int × Value)) : Prop := l.Pairwise fun e f => ∀ k, ¬ (knd.is k e.2 = true ∧ knd.is k f.2 = true)
/-- a set at a with the members S, n of them, whose table rises -/
def SetX (knd : KeyKind P w κ) (h : Heap) (a : Addr) (S : κ → Bool) (n : Nat) : Prop :=
  ∃ o es ep t, (h.get? a = some o ∧ o.ExactSet ∧ o.data = .set es ep t) ∧ (ElemsOf knd es.toList ∧ Apart knd es.toList ∧ ∀ k, S k = true ↔ ∃ e ∈ es.toList, knd.is k e.2 = true) ∧
    es.size < scanBound ∧ t.fits es.size = true ∧ es.size = n ∧ Ris t.place.toList ∧ (w.params.followText "set-order" = true ∨ t.led = true)
variable {A : Around} {E : Value → Shared → Prop} {s : Shared} {a : Addr}
end
end RV
set_option linter.all false
/-! set(list of texts), sorted(set of texts). -/
namespace RV
open PySem L2 PySem.Spec PyProof.Rows
section
variable {P : Program} {w : World} {A : Around} {E : Value → Shared → Prop} {s : Shared}
abbrev SetS (P : Program) (w : World) (h : Heap) (a : Addr) (S : Str → Bool) (n : Nat) : Prop := SetX (PySem.strKind P w) h a S n
abbrev emptySet (w : World) : Obj := { cls := .type "set", dict := none, data := .set #[] 0 (.fresh 0 0 (!w.params.followText "set-order")) }
set_option maxHeartbeats 8000000 in
end
end RV
set_option linter.all false
/-! the rules: set(list of texts), sorted(set of texts) -/
namespace RV
open PySem L2 PySem.Spec PyProof.Rows
section
variable {P : Program} {w : World} {A : Around} {E : Value → Shared → Prop} {s : Shared}
end
/-- a set of texts in the ledger -/
def SetT (P : Program) (w : World) (a : Addr) (S : Str → Bool) (n : Nat) : HO := .ext fun h => SetS P w h a S n
section
variable {X : Cx}
def rSetS (K : PySem.W.Frag) (P : Program) (w : World) : List V → Hp → VK → Prop := fun vs H Q => ∃ (l : Addr) (xs : List Str), vs = [V.ref l] ∧ SqL K H l (xs.map V.str) ∧ xs.length < 4000 ∧
  ∀ a n, H a = none → n ≤ xs.length → Q (.ref a) (upd H a (SetT P w a (fun x => decide (x ∈ xs)) n))
def rSortS (P : Program) (w : World) : List V → Hp → VK → Prop := fun vs H Q => ∃ (a : Addr) (S : Str → Bool) (n : Nat), vs = [V.ref a] ∧ H a = some (SetT P w a S n) ∧
  ∀ (xs : List Str) (p : Addr), sortedS xs = true → xs.Nodup → (∀ k, k ∈ xs ↔ S k = true) → xs.length = n → H p = none → Q (.ref p) (upd H p (.lst (xs.map V.str)))
end
end RV
/-! promises of the laws about sums; pairs of a name and an integer -/
namespace RV
open PySem L2
structure Blt2 (mg : Str → Option Value) : Prop where
  b_sum : mg "sum" = none
  b_sorted : mg "sorted" = none
  b_set : mg "set" = none
  b_tuple : mg "tuple" = none
  b_enumerate : mg "enumerate" = none
  b_bool : mg "bool" = none
def big : Int := 10 ^ 30
def sp_number : Sp := fun vs H Q _ => ∃ (a : Addr) (n : Nat), vs = [.ref a] ∧ WellAt H a n ∧ n < 900000 ∧
  ∀ (z : Int) H', -big < z → z < big → Grow a H H' → WellAt H' a (n + 5) → Q (.int z) H'
/-! ### lists of pairs of a text and an integer, each at its address -/
abbrev TP := Addr × Str × Int
def vP (us : List TP) : List V := us.map fun u => .ref u.1
def prs (us : List TP) : List (Str × Int) := us.map (·.2)
def oP (q : Str × Int) : HO := .tup [.str q.1, .int q.2]
def lP (us : List TP) : List (Addr × HO) := us.map fun u => (u.1, oP u.2)
def TPs (K : PySem.W.Frag) (H : Hp) (us : List TP) : Prop := ∀ u ∈ us, SqT K H u.1 [.str u.2.1, .int u.2.2]
abbrev gPr (K : PySem.W.Frag) (i j : Nat) : TG := gTup K 2 (gCons (gName i) (gCons (gName j) gNil))
/-! ### how great they are -/
def tot (qs : List (Str × Int)) : Nat := (qs.map fun q => q.2.natAbs).sum
end RV
/-! drawn pairs -/
namespace RV
open PySem L2
structure Pairs (us : List TP) (m : Nat) : Prop where
  nm : ∀ q ∈ prs us, IsNm q.1
  gr : (tot (prs us) : Int) ≤ big * 2 ^ m
  ln : us.length ≤ m
/-- drawn pairs; at most ten -/
def sp_pairs : Sp := fun vs H Q _ => ∃ (a : Addr) (n m : Nat), vs = [.ref a, .int m] ∧ WellAt H a n ∧ n < 700000 ∧ m ≤ 20 ∧
  ∀ (us : List TP) (l : Addr) H', Pairs us m → (∀ p ∈ (l, HO.lst (vP us)) :: lP us, p.1 ≠ a ∧ H' p.1 = some p.2) → H l = none → Grow a H H' → WellAt H' a (n + 1000) → Q (.ref l) H'
end RV
namespace RV
open PySem L2
end RV
/-! the order of texts; sums as ascending pairs; things made by a function that keeps all that stood -/
namespace RV
open PySem L2
open PySem.Spec (ltCps)
open PyProof.Rows (sortedS risingS)
def Lt (a b : Str) : Prop := ltCps (cd a) (cd b) = true
/-! ### the coefficient of a name -/
def co (qs : List (Str × Int)) (x : Str) : Int := ((qs.filter fun q => decide (q.1 = x)).map fun q => q.2).sum
/-- ascending pairs, none with 0 -/
structure Nrm (rs : List (Str × Int)) : Prop where
  asc : (rs.map (·.1)).Pairwise Lt
  no0 : ∀ q ∈ rs, q.2 ≠ 0
/-! ### what a function that keeps all that stood leaves -/
structure Kp (H0 : Hp) (L : List (Addr × HO)) (H : Hp) : Prop where
  sm : Same H0 H
  nw : ∀ p ∈ L, H0 p.1 = none ∧ H p.1 = some p.2
section
variable {H0 H H' : Hp} {L L' : List (Addr × HO)} {p q a : Addr} {o o' : HO} {n : Nat}
end
/-! ### merged -/
def sp_merged (K : PySem.W.Frag) : Sp := fun vs H Q _ => ∃ (l : Addr) (us : List TP), vs = [.ref l] ∧ SqL K H l (vP us) ∧ TPs K H us ∧ us.length ≤ 120 ∧
  ∀ (ds : List TP) (m : Addr) H', Nrm (prs ds) → (∀ x, co (prs ds) x = co (prs us) x) → (∀ q ∈ prs ds, q.1 ∈ (prs us).map (·.1)) → ds.length ≤ us.length → Kp H ((m, .lst (vP ds)) :: lP ds) H' → Q (.ref m) H'
end RV
/-! numbers, terms, what a sum makes of its terms -/
namespace RV
open PySem L2
theorem tyx_tup {K : PySem.W.Frag} {H : Hp} {a : Addr} {xs : List V} (h : SqT K H a xs) : TyX K H (.ref a) (.type "tuple") := by
  rcases h with (h | ⟨o, h⟩) | ⟨o, its, n, h, hc, _⟩
  · exact .base (.tup h)
  · exact .fTuple h
  · exact .kTuple h hc
def sp_is_number (K : PySem.W.Frag) : Sp := fun vs H Q _ => ∃ v, vs = [v] ∧ ((∃ z : Int, v = .int z ∧ Q (.bl true) H) ∨ (∃ b : Bool, v = .bl b ∧ Q (.bl false) H) ∨
  (∃ t, TyX K H v t ∧ PySem.W.kitOne K t (.type "int") = some false ∧ Q (.bl false) H))
/-- a pair of a name and an integer -/
def sp_is_term (K : PySem.W.Frag) : Sp := fun vs H Q _ => ∃ (t : Addr) (x : Str) (z : Int), vs = [.ref t] ∧ SqT K H t [.str x, .int z] ∧ IsNm x ∧ ∀ H', Same H H' → Q (.bl true) H'
/-- a tuple of such pairs -/
def sp_check_terms (K : PySem.W.Frag) : Sp := fun vs H Q _ => ∃ (t : Addr) (us : List TP), vs = [.ref t] ∧ SqT K H t (vP us) ∧ TPs K H us ∧ (∀ q ∈ prs us, IsNm q.1) ∧ us.length ≤ 120 ∧ ∀ H', Same H H' → Q .non H'
/-- at most 120, with at most 60 different names -/
def Few (qs : List (Str × Int)) : Prop := qs.length ≤ 120 ∧ ∃ pool : List Str, pool.length ≤ 60 ∧ ∀ q ∈ qs, q.1 ∈ pool
def sp_collected (K : PySem.W.Frag) : Sp := fun vs H Q _ => ∃ (t : Addr) (us : List TP), vs = [.ref t] ∧ SqT K H t (vP us) ∧ TPs K H us ∧ Few (prs us) ∧
  ∀ (ds : List TP) (m : Addr) H', Nrm (prs ds) → (∀ x, co (prs ds) x = co (prs us) x) → (∀ q ∈ prs ds, q.1 ∈ (prs us).map (·.1)) → ds.length ≤ us.length → Kp H ((m, .tup (vP ds)) :: lP ds) H' → Q (.ref m) H'
end RV
/-! a dict that counts -/
namespace RV
open PySem L2
structure Dct (kvs : List (Key × V)) (qs : List (Str × Int)) (ks : List Str) : Prop where
  keys : kvs.map (·.1) = ks.map Sum.inr
  nd : ks.Nodup
  mem : ∀ x, x ∈ ks ↔ x ∈ qs.map (·.1)
  val : ∀ x, valV kvs (.inr x) = if x ∈ ks then some (.int (co qs x)) else none
  ln : ks.length ≤ qs.length
end RV
/-! what an own class says of len, x in o, o[x], truth -/
namespace RV
open PySem L2 PyProof.Rows
/-- the class C has an own method m that promises sp -/
def OwnM (P : Program) (w : World) (K : PySem.W.Frag) (mg : Str → Option Value) (base : Heap) (C : Addr) (m : String) (k : Nat) (sp : Sp) : Prop :=
  ∃ f fd ps, PySem.W.findIn K (.ref C) m = some (some (.ref f)) ∧ PySem.W.isFn K (.ref f) = true ∧ PySem.W.fnIn K f = true ∧ Binds K fd ps [] ∧ FnOk P w K mg base CX0 k f fd ps sp
section
variable {X : Cx} {pins : List (Addr × Obj)} {σ : L2.St} {H : Hp} {s : Shared} {C : Addr} {k : Nat} {sp : Sp}
def rLenO (C : Addr) (sp : Sp) : List V → Hp → VK → Prop := fun xs H Q => ∃ a dx fs, xs = [.ref a] ∧ H a = some (.ins C dx fs) ∧ sp [.ref a] H (fun v H' => ∃ n : Nat, v = .int n ∧ n < 100000 ∧ Q (.int n) H') E0
def rInO (neg : Bool) (C : Addr) (sp : Sp) : R2 := fun x y H Q => ∃ a dx fs, y = .ref a ∧ H a = some (.ins C dx fs) ∧ sp [.ref a, x] H (fun v H' => ∃ b, v = .bl b ∧ Q (.bl (if neg then !b else b)) H') E0
/-- truth by the class's own __bool__ -/
def rTrM (C : Addr) (sp : Sp) : V → Hp → (Bool → Hp → Prop) → Prop := fun x H Q => ∃ a dx fs, x = .ref a ∧ H a = some (.ins C dx fs) ∧ sp [.ref a] H (fun v H' => ∃ b, v = .bl b ∧ Q b H') E0
def rIxO (C : Addr) (sp : Sp) : R2 := fun x y H Q => ∃ a dx fs, x = .ref a ∧ H a = some (.ins C dx fs) ∧ sp [.ref a, y] H Q E0
end
end RV
/-! sums as they stand in the heap, and what their methods promise -/
namespace RV
open PySem L2
/-- the things of a sum at a whose terms are the tuple at t -/
def lS (C a dx t : Addr) (us : List TP) : List (Addr × HO) := (a, .ins C dx [("_terms", .ref t)]) :: (t, .tup (vP us)) :: lP us
def SumR (C : Addr) (H : Hp) (a : Addr) (qs : List (Str × Int)) : Prop := ∃ dx t us, prs us = qs ∧ ∀ p ∈ lS C a dx t us, H p.1 = some p.2
structure SClass (K : PySem.W.Frag) (mg : Str → Option Value) (C : Addr) : Prop where
  x : ClsX K C
  k : mg "Sum" = some (.ref C)
  n1 : NoAttr K C "_terms"
  me : PySem.W.kitOne K (.ref C) (.ref C) = some true
/-- terms that may be given -/
structure Trm (K : PySem.W.Frag) (H : Hp) (t : Addr) (us : List TP) : Prop where
  tp : SqT K H t (vP us)
  ps : TPs K H us
  nm : ∀ q ∈ prs us, IsNm q.1
  ln : us.length ≤ 60
structure TrmF (K : PySem.W.Frag) (H : Hp) (t : Addr) (us : List TP) : Prop where
  tp : SqT K H t (vP us)
  ps : TPs K H us
  nm : ∀ q ∈ prs us, IsNm q.1
  ln : Few (prs us)
/-- what a sum of these terms is -/
structure Mad (qs rs : List (Str × Int)) : Prop where
  nr : Nrm rs
  co : ∀ x, co rs x = co qs x
  nm : ∀ q ∈ rs, q.1 ∈ qs.map (·.1)
  ln : rs.length ≤ qs.length
def sp_Sum (K : PySem.W.Frag) (C : Addr) : Sp := fun vs H Q _ => ∃ (x dx t : Addr) (us : List TP), vs = [.ref x, .ref t] ∧ H x = some (.ins C dx []) ∧ TrmF K H t us ∧
  ∀ (ds : List TP) (m dx' : Addr) H', Mad (prs us) (prs ds) → (∀ b o, b ≠ x → H b = some o → H' b = some o) → (∀ p ∈ (m, HO.tup (vP ds)) :: lP ds, H p.1 = none) → (∀ p ∈ lS C x dx' m ds, H' p.1 = some p.2) → Q .non H'
def sp_len (C : Addr) : Sp := fun vs H Q _ => ∃ (a : Addr) (qs : List (Str × Int)), vs = [.ref a] ∧ SumR C H a qs ∧ Q (.int (qs.length : Nat)) H
def sp_yes : Sp := fun vs H Q _ => ∃ (a : Addr), vs = [.ref a] ∧ Q (.bl true) H
def sp_terms (C : Addr) : Sp := fun vs H Q _ => ∃ (a dx t : Addr) (us : List TP), vs = [.ref a] ∧ (∀ p ∈ lS C a dx t us, H p.1 = some p.2) ∧ Q (.ref t) H
def sp_get (C : Addr) : Sp := fun vs H Q _ => ∃ (a : Addr) (x : Str) (qs : List (Str × Int)), vs = [.ref a, .str x] ∧ IsNm x ∧ SumR C H a qs ∧ Nrm qs ∧ ∀ H', Same H H' → Q (.int (co qs x)) H'
def sp_has (C : Addr) : Sp := fun vs H Q _ => ∃ (a : Addr) (x : Str) (qs : List (Str × Int)), vs = [.ref a, .str x] ∧ IsNm x ∧ SumR C H a qs ∧ Nrm qs ∧ ∀ H', Same H H' → Q (.bl (!decide (co qs x = 0))) H'
end RV
/-! pairs as data -/
namespace RV
open PySem L2
def dq (q : Str × Int) : PyData := .tuple [.str q.1, .int q.2]
def dQ (qs : List (Str × Int)) : PyData := .tuple (qs.map dq)
def sp_eqS (K : PySem.W.Frag) (C : Addr) : Sp := fun vs H Q _ => ∃ (a : Addr) (y : V) (qs : List (Str × Int)), vs = [.ref a, y] ∧ SumR C H a qs ∧ (∀ q ∈ qs, IsNm q.1) ∧
  ((∃ b rs, y = .ref b ∧ SumR C H b rs ∧ (∀ q ∈ rs, IsNm q.1) ∧ Q (.bl (decide (qs = rs))) H) ∨ (∃ t, TyX K H y t ∧ PySem.W.kitOne K t (.ref C) = some false ∧ Q (.bl false) H))
end RV
/-! the same pairs in another order, some in two parts -/
namespace RV
open PySem L2
structure Oth (us vs : List TP) : Prop where
  co : ∀ x, co (prs vs) x = co (prs us) x
  nm : ∀ q ∈ prs vs, q.1 ∈ (prs us).map (·.1)
  ln : vs.length ≤ 2 * us.length
def sp_parted : Sp := fun vs H Q _ => ∃ (a l : Addr) (n : Nat) (us : List TP), vs = [.ref a, .ref l] ∧ WellAt H a n ∧ n < 600000 ∧ us.length ≤ 20 ∧ (∀ p ∈ (l, HO.lst (vP us)) :: lP us, p.1 ≠ a ∧ H p.1 = some p.2) ∧
  ∀ (vs : List TP) (m : Addr) H', Oth us vs → H m = none → Has H a (n + 1000) ((m, .lst (vP vs)) :: lP vs) H' → Q (.ref m) H'
end RV
/-! texts of pairs -/
namespace RV
open PySem L2 PyProof.Rows
/-- a sum shows these pairs, a list of them -/
def sp_shows (K : PySem.W.Frag) (C : Addr) : Sp := fun vs H Q _ => ∃ (a l : Addr) (ds : List TP), vs = [.ref a, .ref l] ∧ SumR C H a (prs ds) ∧ SqL K H l (vP ds) ∧ TPs K H ds ∧ Nrm (prs ds) ∧ (∀ q ∈ prs ds, IsNm q.1) ∧ tot (prs ds) ≤ 10 ^ 45 ∧ ds.length ≤ 60 ∧
  ∀ H', Same H H' → Q (.bl true) H'
/-- names that are much like a name -/
def nearL (x : Str) : List Str := [cutS x none (some (-1)), cutS (x ++ "a") none (some 8), cutS (x ++ "0") none (some 8), ("z" : Str) ++ cutS x (some 1) none]
end RV
/-! written numbers and terms -/
namespace RV
open PySem L2
structure Cst2 (mg : Str → Option Value) : Prop where
  worth : ∃ u, mg "_PIECE_WORTH" = some u ∧ RelV (.int (10 ^ 64)) u
  piece : ∃ u, mg "_PIECE" = some u ∧ RelV (.int 64) u
def num (z : Int) : Str := Str.ofString (toString z)
/-- a written number of at most 64 digits -/
def sp_written : Sp := fun vs H Q _ => ∃ z : Int, vs = [.int z] ∧ 0 ≤ z ∧ z < 10 ^ 64 ∧ ∀ H', Same H H' → Q (.str (num z)) H'
def ab (z : Int) : Int := if z < 0 then -z else z
/-- a term without its sign -/
def wo (x : Str) (z : Int) : Str := if ab z = 1 then x else ((Str.empty ++ num (ab z)) ++ ("*" : Str)) ++ x
/-- a term that is not the first -/
def fu (q : Str × Int) : Str := (((Str.empty ++ (" " : Str)) ++ (if q.2 < 0 then ("-" : Str) else "+")) ++ (" " : Str)) ++ wo q.1 q.2
def fi (q : Str × Int) : Str := (if q.2 < 0 then ("-" : Str) else "") ++ wo q.1 q.2
def pieces : List (Str × Int) → List Str
  | [] => ["0"]
  | q :: qs => fi q :: qs.map fu
/-- the text of a sum -/
def txt (qs : List (Str × Int)) : Str := Txt.join "" (pieces qs)
theorem sl_app (a b : Str) : (a ++ b).length = a.length + b.length := by rw [cd_len, cd_app, List.length_append, ← cd_len, ← cd_len]
def sp_without : Sp := fun vs H Q _ => ∃ (x : Str) (z : Int), vs = [.str x, .int z] ∧ IsNm x ∧ z.natAbs < 10 ^ 64 ∧ ∀ H', Same H H' → Q (.str (wo x z)) H'
def sp_further : Sp := fun vs H Q _ => ∃ (q : Str × Int), vs = [.str q.1, .int q.2] ∧ IsNm q.1 ∧ q.2.natAbs < 10 ^ 64 ∧ ∀ H', Same H H' → Q (.str (fu q)) H'
def sp_wterms (K : PySem.W.Frag) : Sp := fun vs H Q _ => ∃ (t : Addr) (us : List TP), vs = [.ref t] ∧ SqT K H t (vP us) ∧ TPs K H us ∧ (∀ q ∈ prs us, IsNm q.1 ∧ q.2.natAbs < 10 ^ 64) ∧ us.length ≤ 100 ∧
  ∀ m H', Kp H [(m, .lst ((pieces (prs us)).map V.str))] H' → Q (.ref m) H'
def sp_text (C : Addr) : Sp := fun vs H Q _ => ∃ (a : Addr) (qs : List (Str × Int)), vs = [.ref a] ∧ SumR C H a qs ∧ (∀ q ∈ qs, IsNm q.1 ∧ q.2.natAbs < 10 ^ 64) ∧ qs.length ≤ 100 ∧ ∀ H', Same H H' → Q (.str (txt qs)) H'
end RV
/-! str(o) of an own class -/
namespace RV
open PySem L2 PyProof.Rows
section
variable {X : Cx} {C : Addr} {k : Nat} {sp : Sp}
def rStrO (C : Addr) (sp : Sp) : List V → Hp → VK → Prop := fun xs H Q => ∃ a dx fs, xs = [.ref a] ∧ H a = some (.ins C dx fs) ∧ sp [.ref a] H (fun v H' => ∃ y : Str, v = .str y ∧ Q (.str y) H') E0
end
end RV
/-! sums made -/
namespace RV
open PySem L2
end RV
/-! an int == an own object: the class's own == answers -/
namespace PySem
open AutoSeq1 (wpAny_loadPart')
set_option maxHeartbeats 4000000 in
theorem rv_int_eq_inst (b : Int) (u : Tok) (l C dx : Addr) :
    Meets (Builtin.«int.__eq__» ⟨[.int b u, .ref l], []⟩) (fun _ R s => s.heap.get? l = some (PySem.W.instObj C dx) ∧ R (.ok (.ret .notImplemented)) s) :=
  .of_wp fun prog w A R s h => by
    obtain ⟨hp, g, d, tk, os⟩ := s
    obtain ⟨hl, h⟩ := h
    unfold PySem.W.instObj at hl
    wp_walk using wpAny_loadPart' hl, wpAny_load hl
    exact ⟨_, rfl, h⟩
end PySem
namespace RV
open PySem L2 PyProof.Rows
section
variable {prog : Program} {w : World} {A : Around} {E : Value → Shared → Prop} {s : Shared} {K : PySem.W.Frag} {x C dx L f : Addr} {h₀ : Heap} {m : Str → Option Value} {od : Option Obj} {i : Int} {t : Tok}
open PySem.W in
end
section
variable {X : Cx} {C : Addr} {k : Nat} {sp : Sp}
/-- i == o -/
def rEqI (C : Addr) (sp : Sp) : R2 := fun x y H Q => ∃ (i : Int) (a dx : Addr) (fs : List (Str × V)), x = .int i ∧ y = .ref a ∧ H a = some (.ins C dx fs) ∧ sp [.ref a, .int i] H (fun v H' => ∃ b, v = .bl b ∧ Q (.bl b) H') E0
end
end RV
namespace RV
open PySem L2
def sp_rightS : Sp := fun vs H Q _ => ∃ (a : Addr) (n : Nat), vs = [.ref a] ∧ WellAt H a n ∧ n < 500000 ∧ ∀ H', Grow a H H' → WellAt H' a (n + 3000) → Q (.bl true) H'
def gS (vs zs : List V) : List V := match vs, zs with
  | [x], [t] => [x, t]
  | _, _ => []
/-- what sums and other values are to each other -/
structure SKinds (K : PySem.W.Frag) (C : Addr) : Prop where
  sI : PySem.W.subIn K (.ref C) (.type "int") = some false
  nS : PySem.W.notFirst K C (.ref C) = true
  nT : PySem.W.notFirst K C (.type "tuple") = true
  nX : PySem.W.notFirst K C (.type "str") = true
  nN : PySem.W.notFirst K C (.type "NoneType") = true
  kT : PySem.W.kitOne K (.type "tuple") (.ref C) = some false
  kX : PySem.W.kitOne K (.type "str") (.ref C) = some false
  kN : PySem.W.kitOne K (.type "NoneType") (.ref C) = some false
  kI : PySem.W.kitOne K (.type "int") (.ref C) = some false
section
variable {K : PySem.W.Frag} {C a : Addr} {H : Hp} {Q : VK} {neg : Bool} {qs rs : List (Str × Int)} {y : V} {t : Value}
end
end RV
/-! a ledger in parts; steps of the sums' own methods over it -/
namespace RV
open PySem L2
abbrev lT (l : Addr) (us : List TP) : List (Addr × HO) := (l, .lst (vP us)) :: lP us
/-- pairs that a sum shows -/
structure Due (qs : List (Str × Int)) : Prop where
  nr : Nrm qs
  nm : ∀ q ∈ qs, IsNm q.1
  tt : tot qs ≤ 10 ^ 45
  ln : qs.length ≤ 60
section
variable {K : PySem.W.Frag} {C a l x dx m t : Addr} {n n' : Nat} {L L' L2 : List (Addr × HO)} {H0 H H' : Hp} {us ds : List TP} {Q : VK} {E : XK}
end
theorem FnG.imp {P : Program} {w : World} {K : PySem.W.Frag} {mg : Str → Option Value} {base : Heap} {k : Nat} {f : Addr} {fd : FuncData} {ps : List Str} {sp sp' : Sp} (F : FnG P w K mg base k f fd ps sp) (h : ∀ vs H Q E, sp' vs H Q E → sp vs H Q E) : FnG P w K mg base k f fd ps sp' :=
  ⟨fun vs H Q E z => F.len vs H Q E (h _ _ _ _ z), fun A o s H args us vs Q E gs hr e0 hb r z => F.run A o s H args us vs Q E gs hr e0 hb r (h _ _ _ _ z)⟩
theorem FnGd.irr {P : Program} {w : World} {K : PySem.W.Frag} {mg : Str → Option Value} {base : Heap} {x : Str} {k : Nat} {ps : List Str} {sp : Sp} (h : FnGd P w K mg base x k ps sp) : FnGd P w K mg base x k ps (Irr sp) := by
  obtain ⟨f, fd, a, b, c, F⟩ := h
  exact ⟨f, fd, a, b, c, F.imp fun _ _ _ _ z => irr_of z⟩
theorem Prp.irr {P : Program} {w : World} {K : PySem.W.Frag} {mg : Str → Option Value} {base : Heap} {C : Addr} {m : Str} {k : Nat} {sp : Sp} (h : Prp P w K mg base C m k sp) : Prp P w K mg base C m k (Irr sp) := by
  obtain ⟨c, p, g, fd, ps, a, b, F⟩ := h
  exact ⟨c, p, g, fd, ps, a, b, F.imp fun _ _ _ _ z => irr_of z⟩
theorem kit_self (K : PySem.W.Frag) (C : Addr) : PySem.W.kitOne K (.ref C) (.ref C) = some true := by
  unfold PySem.W.kitOne
  rw [if_pos (by simp)]
end RV
/-! rpartition; xs[i::2]; a class in a slot, called; class methods -/
namespace RV
open PySem L2 PyProof.Rows Builtin TL
section
variable {X : Cx} {pins : List (Addr × Obj)} {σ : L2.St} {H : Hp} {s : Shared}
end
/-! ### every other item of a list -/
def step2 {α : Type} (i : Nat) (xs : List α) : List α := (sliceRange (min i xs.length : Nat) xs.length 2).filterMap (xs[·]?)
def tSl2 (K : PySem.W.Frag) (i : Nat) (te : TE) : TE := fun σ H Q => te σ H fun x H1 => ∃ a xs, x = .ref a ∧ SqL K H1 a xs ∧ ∀ p, H1 p = none → Q (.ref p) (upd H1 p (.lst (step2 i xs)))
/-! ### a class in a slot -/
end RV
/-! class methods; repr of a text; texts of sums, cut again -/
namespace RV
open PySem L2 PyProof.Rows ClX
/-- the class C has a class method m that promises sp -/
def ClsM (P : Program) (w : World) (K : PySem.W.Frag) (mg : Str → Option Value) (base : Heap) (C : Addr) (m : Str) (k : Nat) (ps : List Str) (sp : Sp) : Prop :=
  ∃ mc p g fd, CRead K C mc ∧ CMet K C mc m p g ∧ Binds K fd ps [] ∧ FnOk P w K mg base CX0 k g fd ps sp
/-- .. called by keywords -/
def ClsMK (P : Program) (w : World) (K : PySem.W.Frag) (mg : Str → Option Value) (base : Heap) (C : Addr) (m : Str) (k : Nat) (ks : List Str) (sp : Sp) (gV : List V → List V → List V) : Prop :=
  ∃ mc p g fd ps gg, CRead K C mc ∧ CMet K C mc m p g ∧ KBn K fd ps 1 ks gg gV ∧ FnOk P w K mg base CX0 k g fd ps sp
section
variable {X : Cx} {C : Addr} {k : Nat} {m : Str} {ps ks : List Str} {sp : Sp} {gV : List V → List V → List V} {o e : Expr} {es : List Expr} {kws : List Keyword} {t tk : TA} {ta : TE} {pos apos : Pos} {pl : Sem Bool}
def tCMethK (C : Addr) (n : Nat) (sp : Sp) (gV : List V → List V → List V) (ta : TE) (tk : TA) : TE := fun σ H Q => ta σ H fun x H1 => x = .ref C ∧ tk σ H1 fun zs H2 => zs.length = n ∧ sp (gV [.ref C] zs) H2 Q E0
@[irreducible] def rReprS : List V → Hp → VK → Prop := fun xs H Q => ∃ x : Str, xs = [.str x] ∧ (reprText x).length ≤ sizeLine ∧ Q (.str (reprText x)) H
end
end RV
/-! the text of a sum, cut into its words -/
namespace RV
open PySem L2 PyProof.Rows TL
def sgn (q : Str × Int) : Str := if q.2 < 0 then "-" else "+"
def parts (qs : List (Str × Int)) : List Str := qs.flatMap fun q => [sgn q, wo q.1 q.2]
def partsZ (qs : List (Str × Int)) : List Str := if qs = [] then ["+", "0"] else parts qs
def apart (z : Str) : Str := if Txt.startswith z "-" then ("- " : Str) ++ cutS z (some 1) none else ("+ " : Str) ++ z
/-! the signs of words -/
def okC (c : Nat) : Bool := tailC c || c == 42
/-! a word, cut at its star -/
/-! every other of the words -/
end RV
/-! what reading a text promises -/
namespace RV
open PySem L2 PyProof.Rows TL
def sp_digits : Sp := fun vs H Q _ => ∃ z : Int, vs = [.str (num z)] ∧ 0 ≤ z ∧ Q (.bl true) H
def sp_readnum : Sp := fun vs H Q _ => ∃ z : Int, vs = [.str (num z)] ∧ 0 ≤ z ∧ z < 10 ^ 60 ∧ Q (.int z) H
def sp_apart : Sp := fun vs H Q _ => ∃ z : Str, vs = [.str z] ∧ z.length ≤ 1000000 ∧ Q (.str (apart z)) H
/-- a word of a sum's text -/
def sp_rterm (_K : PySem.W.Frag) : Sp := fun vs H Q _ => (∃ q : Str × Int, vs = [.str (sgn q), .str (wo q.1 q.2)] ∧ IsNm q.1 ∧ q.2.natAbs < 10 ^ 60 ∧ ∀ t H', Kp H [(t, oP q)] H' → Q (.ref t) H') ∨
  (vs = [.str "+", .str "0"] ∧ ∀ H', Same H H' → Q .non H')
def sp_termsin (_K : PySem.W.Frag) : Sp := fun vs H Q _ => ∃ qs : List (Str × Int), vs = [.str (txt qs)] ∧ Due qs ∧ ∀ (us : List TP) (m : Addr) H', prs us = qs → Kp H ((m, .tup (vP us)) :: lP us) H' → Q (.ref m) H'
def sp_read (C : Addr) : Sp := fun vs H Q _ => ∃ qs : List (Str × Int), vs = [.ref C, .str (txt qs)] ∧ Due qs ∧ ∀ (x dx m : Addr) (us : List TP) H', prs us = qs → Kp H (lS C x dx m us) H' → Q (.ref x) H'
end RV
/-! the text of a sum, term by term -/
namespace RV
open PySem L2 PyProof.Rows TL
/-- the line behind some terms -/
def line (qs : List (Str × Int)) : Str := if qs = [] then "" else txt qs
def sp_sumtext (K : PySem.W.Frag) : Sp := fun vs H Q _ => ∃ (l : Addr) (ds : List TP), vs = [.ref l] ∧ SqL K H l (vP ds) ∧ TPs K H ds ∧ Due (prs ds) ∧ Q (.str (txt (prs ds))) H
end RV
/-! steps over a ledger: sums read, texts shown -/
namespace RV
open PySem L2 PyProof.Rows TL
def gR (vs zs : List V) : List V := match vs, zs with
  | [x], [t] => [x, t]
  | _, _ => []
section
variable {K : PySem.W.Frag} {C a l x : Addr} {n : Nat} {L : List (Addr × HO)} {H0 H : Hp} {us ds : List TP} {Q : VK} {E : XK} {qs : List (Str × Int)}
end
end RV
/-! -o, o + p, o - p, o * n, n * o of own classes -/
namespace PySem
open AutoSeq1 (wpAny_loadPart')
set_option maxHeartbeats 4000000 in
theorem rv_int_mul_inst (b : Int) (u : Tok) (l C dx : Addr) :
    Meets (Builtin.«int.__mul__» ⟨[.int b u, .ref l], []⟩) (fun _ R s => s.heap.get? l = some (PySem.W.instObj C dx) ∧ R (.ok (.ret .notImplemented)) s) :=
  .of_wp fun prog w A R s h => by
    obtain ⟨hp, g, d, tk, os⟩ := s
    obtain ⟨hl, h⟩ := h
    unfold PySem.W.instObj at hl
    wp_walk using wpAny_loadPart' hl, wpAny_load hl
    exact ⟨_, rfl, h⟩
end PySem
namespace PySem.W
open PySem PySem.Calls PyProof.Rows
section
variable {prog : Program} {w : World} {A : Around} {E : Value → Shared → Prop} {s : Shared} {K : Frag} {x C dx L f g : Addr} {h₀ : Heap} {m : Str → Option Value} {od : Option Obj} {i : Int} {t : Tok} {fo ro : Option Value}
theorem rv_mulI {Q : Value → Shared → Prop} (F : Fr h₀ L s.heap m) (X₀ : K.In h₀) (I : InstAt s.heap x (instObj C dx) C od) (hc : selfFirst K C = true)
    (hs : findIn K (.ref C) (PySem.dunder "mul") = some (some (.ref f))) (hr : findIn K (.ref C) (dunderR "mul") = some (some (.ref g))) (hg : isFn K (.ref g) = true)
    (h1 : findIn K (.type "int") (PySem.dunder "mul") = some fo) (h2 : findIn K (.type "int") (dunderR "mul") = some ro) (hsub : subIn K (.ref C) (.type "int") = some false)
    (h : wpAny (model prog w) A (call (.ref g) [.ref x, .int i t]) (CmpBack Q) E s) : wpAny (model prog w) A (binaryOp .Mult (.int i t) (.ref x)) Q E s := by
  have X := X₀.keeps F.keep
  obtain ⟨cd, rest, hcd, hm⟩ := ksp_first hc
  have one := ksp_try X I hr hg h
  have decl : wpAny (model prog w) A (tryMethod (.int i t) (PySem.dunder "mul") (.ref x)) (fun r s' => r = none ∧ s' = s) E s :=
    wpAny_tryMethod_declines (Q := fun r s' => r = none ∧ s' = s) (typeIs_int _ _ _) PySem.F.slot_int_mul (call_meets PySem.F.slot_int_mul (typeIs_int _ _ _) PySem.F.entry_int_mul (PySem.F.args_int_mul_2 _ _) (PySem.rv_int_mul_inst i t x C dx) ⟨I.at_, rfl, rfl, rfl⟩)
  obtain ⟨hh, g', d, tt, os⟩ := s
  have L1 : Looks (model prog w) hh (typeOf (.int i t)) (.type "int") := Looks.of_pure rfl
  have L2 : Looks (model prog w) hh (typeOf (.ref x)) (.ref C) := I.type
  have L3 : Looks (model prog w) hh (fillsNumberSlot (.ref C) "mul") true := fills_K X hcd hm hs
  have L4 : Looks (model prog w) hh (fillsNumberSlot (.type "int") "mul") ((fo.isSome && !isSeqSlot fo) || (ro.isSome && !isSeqSlot ro)) := ksp_fillsT X h1 h2
  have L5 : Looks (model prog w) hh (isSubtype (.ref C) (.type "int")) false := looks_subIn X hsub
  have L7 : Looks (model prog w) hh (numberSlotInPython (.type "int") "mul") false := Looks.of_pure rfl
  generalize ((fo.isSome && !isSeqSlot fo) || (ro.isSome && !isSeqSlot ro)) = left at L4
  have hne : (Value.type "int" == Value.ref C) = false := Bool.eq_false_iff.mpr fun q => by cases beq_iff_eq.mp q
  simp only [binaryOp, show Operator.info .Mult = ("*", "mul") from rfl]
  refine wpAny_holding (wpAny_bind ?_)
  unfold binaryOp1
  refine wpAny_bind (L1.at (wpAny_bind (L2.at (wpAny_bind (L4.at ?_)))))
  simp only [hne, Bool.false_eq_true, if_false]
  cases left with
  | false =>
    ksp_lk
    refine wpAny_mono one (fun r s' hr' => ?_) fun _ _ e => e
    obtain ⟨v, rfl, hq⟩ := hr'
    ksp_lk
    exact hq
  | true =>
    ksp_lk
    refine wpAny_mono decl (fun r s' hd => ?_) fun _ _ e => e
    obtain ⟨rfl, rfl⟩ := hd
    ksp_lk
    refine wpAny_mono one (fun r s' hr' => ?_) fun _ _ e => e
    obtain ⟨v, rfl, hq⟩ := hr'
    ksp_lk
    exact hq
end
end PySem.W
namespace RV
open PySem L2 PyProof.Rows
section
variable {X : Cx} {C : Addr} {k : Nat} {sp : Sp}
@[irreducible] def rBinO (C : Addr) (sp : Sp) : R2 := fun x y H Q => ∃ a b dx fs dy gs, x = .ref a ∧ y = .ref b ∧ H a = some (.ins C dx fs) ∧ H b = some (.ins C dy gs) ∧ sp [.ref a, .ref b] H (fun v H' => ∃ p, v = .ref p ∧ Q (.ref p) H') E0
@[irreducible] def rMulO (C : Addr) (sp : Sp) : R2 := fun x y H Q => ∃ (a : Addr) (i : Int) (dx : Addr) (fs : List (Str × V)), x = .ref a ∧ y = .int i ∧ H a = some (.ins C dx fs) ∧ sp [.ref a, .int i] H (fun v H' => ∃ p, v = .ref p ∧ Q (.ref p) H') E0
@[irreducible] def rMulI (C : Addr) (sp : Sp) : R2 := fun x y H Q => ∃ (a : Addr) (i : Int) (dx : Addr) (fs : List (Str × V)), x = .int i ∧ y = .ref a ∧ H a = some (.ins C dx fs) ∧ sp [.ref a, .int i] H (fun v H' => ∃ p, v = .ref p ∧ Q (.ref p) H') E0
@[irreducible] def rNegO (C : Addr) (sp : Sp) : V → Hp → VK → Prop := fun x H Q => ∃ a dx fs, x = .ref a ∧ H a = some (.ins C dx fs) ∧ sp [.ref a] H Q E0
end
end RV
/-! sums by operators -/
namespace RV
open PySem L2 PyProof.Rows TL
def scl (i : Int) (qs : List (Str × Int)) : List (Str × Int) := qs.map fun q => (q.1, i * q.2)
/-- numbers small enough -/
structure Lit (qs : List (Str × Int)) : Prop where
  nm : ∀ q ∈ qs, IsNm q.1
  sm : ∀ q ∈ qs, q.2.natAbs < 10 ^ 60
  ln : qs.length ≤ 60
section
variable {K : PySem.W.Frag} {a D : Addr} {us : List TP} {i j : Nat} {te : TE} {vs : List Nat} {σ : L2.St} {H1 : Hp} {Qd : Hp → Prop}
end
/-- [(x, n * z) for x, z in xs] -/
def sp_times (K : PySem.W.Frag) : Sp := fun vs H Q _ => ∃ (l : Addr) (us : List TP) (i : Int), vs = [.ref l, .int i] ∧ SqL K H l (vP us) ∧ TPs K H us ∧ (∀ q ∈ prs us, q.2.natAbs < 10 ^ 60) ∧ us.length ≤ 60 ∧ i.natAbs < 10 ^ 60 ∧
  ∀ (ws : List TP) (m : Addr) H', prs ws = scl i (prs us) → Kp H (lT m ws) H' → Q (.ref m) H'
def sp_mulS (C : Addr) : Sp := fun vs H Q _ => ∃ (a : Addr) (qs : List (Str × Int)) (i : Int), vs = [.ref a, .int i] ∧ SumR C H a qs ∧ Lit qs ∧ i.natAbs < 10 ^ 60 ∧
  ∀ (x dx m : Addr) (ds : List TP) H', Mad (scl i qs) (prs ds) → Kp H (lS C x dx m ds) H' → Q (.ref x) H'
def sp_negS (C : Addr) : Sp := fun vs H Q _ => ∃ (a : Addr) (qs : List (Str × Int)), vs = [.ref a] ∧ SumR C H a qs ∧ Lit qs ∧
  ∀ (x dx m : Addr) (ds : List TP) H', Mad (scl (-1) qs) (prs ds) → Kp H (lS C x dx m ds) H' → Q (.ref x) H'
def sp_addS (C : Addr) : Sp := fun vs H Q _ => ∃ (a b : Addr) (qs rs : List (Str × Int)), vs = [.ref a, .ref b] ∧ SumR C H a qs ∧ SumR C H b rs ∧ (∀ q ∈ qs ++ rs, IsNm q.1) ∧ Few (qs ++ rs) ∧
  ∀ (x dx m : Addr) (ds : List TP) H', Mad (qs ++ rs) (prs ds) → Kp H (lS C x dx m ds) H' → Q (.ref x) H'
def sp_subS (C : Addr) : Sp := fun vs H Q _ => ∃ (a b : Addr) (qs rs : List (Str × Int)), vs = [.ref a, .ref b] ∧ SumR C H a qs ∧ SumR C H b rs ∧ (∀ q ∈ qs, IsNm q.1) ∧ Lit rs ∧ Few (qs ++ rs) ∧
  ∀ (x dx m : Addr) (ds : List TP) H', Mad (qs ++ scl (-1) rs) (prs ds) → Kp H (lS C x dx m ds) H' → Q (.ref x) H'
/-- a sum is the one of these pairs -/
def sp_is (K : PySem.W.Frag) (C : Addr) : Sp := fun vs H Q _ => ∃ (x l : Addr) (qs : List (Str × Int)) (us : List TP), vs = [.ref x, .ref l] ∧ SumR C H x qs ∧ Nrm qs ∧ SqL K H l (vP us) ∧ TPs K H us ∧ (∀ q ∈ prs us, IsNm q.1) ∧ us.length ≤ 60 ∧ tot (prs us) ≤ 10 ^ 42 ∧ (∀ y, co qs y = co (prs us) y) ∧
  ∀ H', Same H H' → Q (.bl true) H'
end RV
/-! sums of names -/
namespace RV
open PySem L2 PyProof.Rows ClX
def ones (ns : List Str) : List (Str × Int) := ns.map fun x => (x, 1)
def sp_ofB (K : PySem.W.Frag) (C : Addr) : Sp := fun vs H Q _ => ∃ (p : Addr) (ns : List Str), vs = [.ref C, .ref p] ∧ SqT K H p (ns.map V.str) ∧ (∀ x ∈ ns, IsNm x) ∧ ns.length ≤ 60 ∧
  ∀ (x dx m : Addr) (ds : List TP) H', Mad (ones ns) (prs ds) → Kp H (lS C x dx m ds) H' → Q (.ref x) H'
def sp_of (C : Addr) : Sp := fun vs H Q _ => ∃ ns : List Str, vs = .ref C :: ns.map V.str ∧ (∀ x ∈ ns, IsNm x) ∧ ns.length ≤ 60 ∧
  ∀ (x dx m : Addr) (ds : List TP) H', Mad (ones ns) (prs ds) → Kp H (lS C x dx m ds) H' → Q (.ref x) H'
/-- a class method that takes any number of values -/
def ClsR (P : Program) (w : World) (K : PySem.W.Frag) (mg : Str → Option Value) (base : Heap) (C : Addr) (m : Str) (k : Nat) (sp : Sp) : Prop :=
  ∃ mc p g, CRead K C mc ∧ CMet K C mc m p g ∧ FnR P w K mg base CX0 k g sp
end RV
/-! steps with sums over a heap that only grows -/
namespace RV
open PySem L2 PyProof.Rows TL
/-- pairs of names, so many, so great in all -/
structure Raw (qs : List (Str × Int)) (n b : Nat) : Prop where
  nm : ∀ q ∈ qs, IsNm q.1
  ln : qs.length ≤ n
  tt : tot qs ≤ b
/-- a sum of these pairs, as they were given -/
def Own (C : Addr) (H : Hp) (x : Addr) (qs : List (Str × Int)) : Prop := ∃ rs, SumR C H x rs ∧ Mad qs rs
section
variable {K : PySem.W.Frag} {C a b l x : Addr} {H H' : Hp} {qs rs : List (Str × Int)} {n m c d : Nat} {Q : VK} {E : XK} {us : List TP}
/-- a list of pairs -/
structure Lsp (K : PySem.W.Frag) (H : Hp) (l : Addr) (us : List TP) : Prop where
  hd : H l = some (.lst (vP us))
  ps : TPs K H us
end
def sp_mults : Sp := fun vs H Q _ => ∃ (a : Addr) (n : Nat), vs = [.ref a] ∧ WellAt H a n ∧ n < 800000 ∧ ∀ H', Grow a H H' → WellAt H' a (n + 100) → Q (.bl true) H'
end RV
/-! rows of sums beside their models -/
namespace RV
open PySem L2 PyProof.Rows TL
/-! ### data that are equal -/
/-! ### what stands, where a list is changed -/
section
variable {K : PySem.W.Frag} {C t p l x : Addr} {H H' : Hp} {xs ys : List V} {us : List TP} {qs : List (Str × Int)}
end
/-! ### a sum and its model -/
abbrev Rw := Addr × Addr × List TP
structure One (K : PySem.W.Frag) (C : Addr) (H : Hp) (r : Rw) : Prop where
  sr : SumR C H r.1 (prs r.2.2)
  ls : Lsp K H r.2.1 r.2.2
/-- no coefficient of a model is greater -/
def lim : Nat := 3 * 10 ^ 33
structure Fit (pool : List Str) (us : List TP) : Prop where
  nr : Nrm (prs us)
  nm : ∀ q ∈ prs us, IsNm q.1
  pl : ∀ q ∈ prs us, q.1 ∈ pool
  sm : ∀ q ∈ prs us, q.2.natAbs ≤ lim
section
variable {pool pool' : List Str} {us ds : List TP} {K : PySem.W.Frag} {C x : Addr} {H : Hp} {qs rs : List (Str × Int)}
end
/-! ### steps with greater sums -/
section
variable {K : PySem.W.Frag} {C a b : Addr} {H : Hp} {qs rs : List (Str × Int)} {n m c d : Nat} {Q : VK}
end
section
variable {K : PySem.W.Frag} {l D : Addr} {us : List TP} {i j : Nat} {te : TE} {vs : List Nat} {σ : L2.St} {H1 : Hp} {Qd : Hp → Prop}
end
def rTupOf (K : PySem.W.Frag) : List V → Hp → VK → Prop := fun xs H Q => ∃ p ys, xs = [V.ref p] ∧ ((SqL K H p ys ∧ ∀ l, H l = none → Q (.ref l) (upd H l (.tup ys))) ∨ (SqT K H p ys ∧ Q (.ref p) H))
/-! ### promises -/
def vS (rs : List Rw) : List V := rs.map fun r => .ref r.1
def vM (rs : List Rw) : List V := rs.map fun r => .ref r.2.1
section
variable {K : PySem.W.Frag} {a D : Addr} {rs : List Rw} {i : Nat} {te : TE} {vs : List Nat} {σ : L2.St} {H1 : Hp} {Qd : Hp → Prop}
end
/-- the greatest size -/
def sp_much (K : PySem.W.Frag) : Sp := fun vs H Q _ => ∃ (l : Addr) (us : List TP), vs = [.ref l] ∧ Lsp K H l us ∧ us.length ≤ 60 ∧ ∀ (m : Int) H', (∀ q ∈ prs us, (q.2.natAbs : Int) ≤ m) → Same H H' → Q (.int m) H'
def sp_allr (K : PySem.W.Frag) (C : Addr) : Sp := fun vs H Q _ => ∃ (S M : Addr) (rs : List Rw), vs = [.ref S, .ref M] ∧ SqL K H S (vS rs) ∧ SqL K H M (vM rs) ∧ (∀ r ∈ rs, One K C H r ∧ Due (prs r.2.2)) ∧ rs.length ≤ 20 ∧ ∀ H', Same H H' → Q (.bl true) H'
def sp_turn (K : PySem.W.Frag) (C : Addr) : Sp := fun vs H Q _ => ∃ (a S M : Addr) (n : Nat) (rs : List Rw) (pool : List Str), vs = [.ref a, .ref S, .ref M] ∧ WellAt H a n ∧ n < 600000 ∧ S ≠ a ∧ M ≠ a ∧ H S = some (.lst (vS rs)) ∧ H M = some (.lst (vM rs)) ∧ rs.length = 4 ∧
  (∀ r ∈ rs, One K C H r ∧ Fit pool r.2.2 ∧ r.2.1 ≠ a) ∧ pool.length ≤ 57 ∧
  ∀ (p x l : Addr) (us : List TP) (new : List Str) H', H' p = some (.lst [.ref x, .ref l]) → Own C H' x (prs us) → Lsp K H' l us → us.length ≤ 120 → (∀ q ∈ prs us, IsNm q.1 ∧ q.1 ∈ pool ++ new) → new.length ≤ 3 → (∀ y, (co (prs us) y).natAbs ≤ lim) →
    Grow a H H' → WellAt H' a (n + 1010) → Q (.ref p) H'
def sp_row : Sp := fun vs H Q _ => ∃ (a : Addr) (n : Nat), vs = [.ref a] ∧ WellAt H a n ∧ n < 1000 ∧ ∀ H', Grow a H H' → Q (.bl true) H'
end RV
/-! a row: a list of sums and a list of their models, both changed in place; older ones -/
namespace RV
open PySem L2 PyProof.Rows TL
structure RowAt (K : PySem.W.Frag) (C : Addr) (H0 H : Hp) (a : Addr) (n : Nat) (S M : Addr) (rs os : List Rw) (pool : List Str) (L : List (Addr × HO)) : Prop where
  hs : Has H0 a n ((S, .lst (vS rs)) :: (M, .lst (vM rs)) :: L) H
  s0 : H0 S = none
  m0 : H0 M = none
  sm : S ≠ M
  off : ∀ p ∈ L, p.1 ≠ S ∧ p.1 ≠ M
  ln : rs.length = 4
  on : ∀ r ∈ rs ++ os, One K C H r ∧ Fit pool r.2.2 ∧ r.2.1 ≠ a ∧ r.2.1 ≠ S ∧ r.2.1 ≠ M
section
variable {K : PySem.W.Frag} {C : Addr} {H0 H H' : Hp} {a S M p : Addr} {n m : Nat} {rs os os' : List Rw} {pool pool' : List Str} {L L' : List (Addr × HO)} {o : HO}
end
end RV
/-! nets: pipes, meters, nets in the heap; promises of their methods -/
namespace RV
open PySem L2 PyProof.Rows TL
def sp_check (K : PySem.W.Frag) : Sp := fun vs H Q _ => ∃ (t : Addr) (xs : List Str), vs = [.ref t] ∧ SqT K H t (xs.map V.str) ∧ (∀ x ∈ xs, IsNm x) ∧ ∀ H', Same H H' → Q .non H'
theorem k12 : ¬ (("_name" : Str) = "_start") := by decide +kernel
theorem k13 : ¬ (("_name" : Str) = "_end") := by decide +kernel
theorem k23 : ¬ (("_start" : Str) = "_end") := by decide +kernel
theorem k14 : ¬ (("_name" : Str) = "_at") := by decide +kernel
theorem k15 : ¬ (("_name" : Str) = "_sealed") := by decide +kernel
theorem k45 : ¬ (("_at" : Str) = "_sealed") := by decide +kernel
def pipeF (n s e : Str) : List (Str × V) := putF "_end" (.str e) (putF "_start" (.str s) (putF "_name" (.str n) []))
theorem pipeF_n (n s e : Str) : (pipeF n s e).lookup ("_name" : Str) = some (.str n) := by
  unfold pipeF
  rw [lookup_putF, if_neg k13, lookup_putF, if_neg k12, lookup_putF, if_pos rfl]
theorem pipeF_s (n s e : Str) : (pipeF n s e).lookup ("_start" : Str) = some (.str s) := by
  unfold pipeF
  rw [lookup_putF, if_neg k23, lookup_putF, if_pos rfl]
theorem pipeF_e (n s e : Str) : (pipeF n s e).lookup ("_end" : Str) = some (.str e) := by
  unfold pipeF
  rw [lookup_putF, if_pos rfl]
theorem putF_len (f : Str) (v : V) : ∀ fs : List (Str × V), (putF f v fs).length ≤ fs.length + 1
  | [] => Nat.le_refl _
  | (g, x) :: r => by
    show (if g = f then (g, v) :: r else (g, x) :: putF f v r).length ≤ _
    split
    · simp
    · have := putF_len f v r
      simp only [List.length_cons]
      omega
def metF (n a : Str) (z : Bool) : List (Str × V) := putF "_sealed" (.bl z) (putF "_at" (.str a) (putF "_name" (.str n) []))
theorem metF_n (n a : Str) (z : Bool) : (metF n a z).lookup ("_name" : Str) = some (.str n) := by
  unfold metF
  rw [lookup_putF, if_neg k15, lookup_putF, if_neg k14, lookup_putF, if_pos rfl]
theorem metF_a (n a : Str) (z : Bool) : (metF n a z).lookup ("_at" : Str) = some (.str a) := by
  unfold metF
  rw [lookup_putF, if_neg k45, lookup_putF, if_pos rfl]
theorem metF_z (n a : Str) (z : Bool) : (metF n a z).lookup ("_sealed" : Str) = some (.bl z) := by
  unfold metF
  rw [lookup_putF, if_pos rfl]
def sp_Pipe (C : Addr) : Sp := fun vs H Q _ => ∃ (x dx : Addr) (n s e : Str), vs = [.ref x, .str n, .str s, .str e] ∧ H x = some (.ins C dx []) ∧ IsNm n ∧ IsNm s ∧ IsNm e ∧ e ≠ s ∧
  ∀ H', (∀ b o, b ≠ x → H b = some o → H' b = some o) → (∃ dx, H' x = some (.ins C dx (pipeF n s e))) → Q .non H'
def sp_Meter (C : Addr) : Sp := fun vs H Q _ => ∃ (x dx : Addr) (n a : Str) (z : Bool), vs = [.ref x, .str n, .str a, .bl z] ∧ H x = some (.ins C dx []) ∧ IsNm n ∧ IsNm a ∧
  ∀ H', (∀ b o, b ≠ x → H b = some o → H' b = some o) → (∃ dx, H' x = some (.ins C dx (metF n a z))) → Q .non H'
abbrev P3 := Str × Str × Str
abbrev M3 := Str × Str × Bool
def PipeAt (C : Addr) (H : Hp) (p : Addr) (q : P3) : Prop := ∃ dx, H p = some (.ins C dx (pipeF q.1 q.2.1 q.2.2))
def MetAt (C : Addr) (H : Hp) (p : Addr) (q : M3) : Prop := ∃ dx, H p = some (.ins C dx (metF q.1 q.2.1 q.2.2))
/-- a pipe's, a meter's own properties -/
def sp_pn (C : Addr) : Sp := fun vs H Q _ => ∃ (a : Addr) (q : P3), vs = [.ref a] ∧ PipeAt C H a q ∧ Q (.str q.1) H
def sp_ps (C : Addr) : Sp := fun vs H Q _ => ∃ (a : Addr) (q : P3), vs = [.ref a] ∧ PipeAt C H a q ∧ Q (.str q.2.1) H
def sp_pe (C : Addr) : Sp := fun vs H Q _ => ∃ (a : Addr) (q : P3), vs = [.ref a] ∧ PipeAt C H a q ∧ Q (.str q.2.2) H
def sp_mn (C : Addr) : Sp := fun vs H Q _ => ∃ (a : Addr) (q : M3), vs = [.ref a] ∧ MetAt C H a q ∧ Q (.str q.1) H
def sp_ma (C : Addr) : Sp := fun vs H Q _ => ∃ (a : Addr) (q : M3), vs = [.ref a] ∧ MetAt C H a q ∧ Q (.str q.2.1) H
def sp_mz (C : Addr) : Sp := fun vs H Q _ => ∃ (a : Addr) (q : M3), vs = [.ref a] ∧ MetAt C H a q ∧ Q (.bl q.2.2) H
/-- two of a kind are compared -/
def sp_Peq (C : Addr) : Sp := fun vs H Q _ => ∃ (a b : Addr) (q r : P3), vs = [.ref a, .ref b] ∧ PipeAt C H a q ∧ PipeAt C H b r ∧ Q (.bl (decide (q = r))) H
def sp_Meq (C : Addr) : Sp := fun vs H Q _ => ∃ (a b : Addr) (q r : M3), vs = [.ref a, .ref b] ∧ MetAt C H a q ∧ MetAt C H b r ∧ Q (.bl (decide (q = r))) H
structure PClass (K : PySem.W.Frag) (mg : Str → Option Value) (C : Addr) : Prop where
  x : ClsX K C
  k : mg "Pipe" = some (.ref C)
  n1 : NoAttr K C "_name"
  n2 : NoAttr K C "_start"
  n3 : NoAttr K C "_end"
  me : PySem.W.kitOne K (.ref C) (.ref C) = some true
structure MClass (K : PySem.W.Frag) (mg : Str → Option Value) (C : Addr) : Prop where
  x : ClsX K C
  k : mg "Meter" = some (.ref C)
  n1 : NoAttr K C "_name"
  n2 : NoAttr K C "_at"
  n3 : NoAttr K C "_sealed"
  me : PySem.W.kitOne K (.ref C) (.ref C) = some true
structure NClass (K : PySem.W.Frag) (mg : Str → Option Value) (C : Addr) : Prop where
  x : ClsX K C
  k : mg "Net" = some (.ref C)
  n1 : NoAttr K C "_pipes"
  n2 : NoAttr K C "_meters"
  me : PySem.W.kitOne K (.ref C) (.ref C) = some true
section
variable {H : Hp} {R : Hp → Prop} {E : XK} {C x dx : Addr} {n s e : Str} {z : Bool}
end
/-! ### nets -/
def netF (tp tm : Addr) : List (Str × V) := putF "_meters" (.ref tm) (putF "_pipes" (.ref tp) [])
abbrev PU := Addr × P3
abbrev MU := Addr × M3
def rf {α : Type} (us : List (Addr × α)) : List V := us.map fun u => .ref u.1
def sn {α : Type} (us : List (Addr × α)) : List α := us.map (·.2)
/-- a tuple of pipes, of meters -/
structure Tps (K : PySem.W.Frag) (C : Addr) (H : Hp) (t : Addr) (us : List PU) : Prop where
  t : SqT K H t (rf us)
  o : ∀ u ∈ us, PipeAt C H u.1 u.2
structure Tms (K : PySem.W.Frag) (C : Addr) (H : Hp) (t : Addr) (us : List MU) : Prop where
  t : SqT K H t (rf us)
  o : ∀ u ∈ us, MetAt C H u.1 u.2
/-- what a net's pipes, a net's meters are -/
structure POk (ps : List P3) : Prop where
  n0 : ps ≠ []
  ln : ps.length ≤ 12
  nm : ∀ p ∈ ps, IsNm p.1 ∧ IsNm p.2.1 ∧ IsNm p.2.2 ∧ p.2.2 ≠ p.2.1
  nd : (ps.map (·.1)).Nodup
structure MOk (ps : List P3) (ms : List M3) : Prop where
  ln : ms.length ≤ 12
  nm : ∀ m ∈ ms, IsNm m.1 ∧ IsNm m.2.1
  nd : (ms.map (·.1)).Nodup
  on : ∀ m ∈ ms, m.2.1 ∈ ps.map (·.1)
/-- a net in the heap -/
structure NetR (K : PySem.W.Frag) (CN CP CM : Addr) (H : Hp) (x : Addr) (ps : List P3) (ms : List M3) : Prop where
  ex : ∃ (dx tp tm : Addr) (pu : List PU) (mu : List MU), H x = some (.ins CN dx (netF tp tm)) ∧ Tps K CP H tp pu ∧ Tms K CM H tm mu ∧ sn pu = ps ∧ sn mu = ms
def sp_index (K : PySem.W.Frag) (CP : Addr) : Sp := fun vs H Q _ => ∃ (t : Addr) (us : List PU) (y : Str), vs = [.ref t, .str y] ∧ Tps K CP H t us ∧ us.length ≤ 12 ∧ y ∈ (sn us).map (·.1) ∧ ∀ (i : Nat) H', ((sn us)[i]?).map (·.1) = some y → Same H H' → Q (.int (i : Nat)) H'
def sp_chkP (K : PySem.W.Frag) (CP : Addr) : Sp := fun vs H Q _ => ∃ (t : Addr) (us : List PU), vs = [.ref t] ∧ Tps K CP H t us ∧ POk (sn us) ∧ ∀ H', Same H H' → Q .non H'
def sp_chkM (K : PySem.W.Frag) (CP CM : Addr) : Sp := fun vs H Q _ => ∃ (t tp : Addr) (us : List MU) (pu : List PU), vs = [.ref t, .ref tp] ∧ Tms K CM H t us ∧ Tps K CP H tp pu ∧ pu.length ≤ 12 ∧ MOk (sn pu) (sn us) ∧ ∀ H', Same H H' → Q .non H'
def sp_Net (K : PySem.W.Frag) (CN CP CM : Addr) : Sp := fun vs H Q _ => ∃ (x dx tp tm : Addr) (pu : List PU) (mu : List MU), vs = [.ref x, .ref tp, .ref tm] ∧ H x = some (.ins CN dx []) ∧ Tps K CP H tp pu ∧ Tms K CM H tm mu ∧ POk (sn pu) ∧ MOk (sn pu) (sn mu) ∧
  ∀ H', (∀ b o, b ≠ x → H b = some o → H' b = some o) → (∃ dx, H' x = some (.ins CN dx (netF tp tm))) → Q .non H'
section
variable {K : PySem.W.Frag} {CN CP CM x dx tp tm : Addr} {H : Hp} {pu : List PU} {mu : List MU} {R : Hp → Prop} {E : XK}
end
end RV
/-! comprehensions: one thing for each item; the items that fit -/
namespace RV
open PySem L2 PyProof.Rows TL
section
variable {α β : Type} {K : PySem.W.Frag} {D : Addr} {xs : List V} {i : Nat} {te : TE} {tt : TT} {vs : List Nat} {σ : L2.St} {H1 : Hp} {Qd : Hp → Prop} {J : It} {GG : Hp → Prop}
end
/-! ### the lines of a net -/
def pline (q : P3) : Str := Str.empty ++ "pipe " ++ q.1 ++ " " ++ q.2.1 ++ " " ++ q.2.2
def mseal (z : Bool) : Str := if z then " sealed" else ""
def mline (q : M3) : Str := Str.empty ++ "meter " ++ q.1 ++ " " ++ q.2.1 ++ mseal q.2.2
def netL (ps : List P3) (ms : List M3) : List Str := ps.map pline ++ ms.map mline
def netT (ps : List P3) (ms : List M3) : Str := Txt.join "\n" (netL ps ms)
def sp_pline (CP : Addr) : Sp := fun vs H Q _ => ∃ (a : Addr) (q : P3), vs = [.ref a] ∧ PipeAt CP H a q ∧ IsNm q.1 ∧ IsNm q.2.1 ∧ IsNm q.2.2 ∧ Q (.str (pline q)) H
def sp_mline (CM : Addr) : Sp := fun vs H Q _ => ∃ (a : Addr) (q : M3), vs = [.ref a] ∧ MetAt CM H a q ∧ IsNm q.1 ∧ IsNm q.2.1 ∧ Q (.str (mline q)) H
/-- names that a text is made of -/
def PNm (ps : List P3) : Prop := ∀ p ∈ ps, IsNm p.1 ∧ IsNm p.2.1 ∧ IsNm p.2.2
def MNm (ms : List M3) : Prop := ∀ p ∈ ms, IsNm p.1 ∧ IsNm p.2.1
def sp_lines (K : PySem.W.Frag) (CP CM : Addr) : Sp := fun vs H Q _ => ∃ (tp tm : Addr) (pu : List PU) (mu : List MU), vs = [.ref tp, .ref tm] ∧ Tps K CP H tp pu ∧ Tms K CM H tm mu ∧ PNm (sn pu) ∧ MNm (sn mu) ∧ pu.length ≤ 20 ∧ mu.length ≤ 20 ∧
  ∀ l H', Kp H [(l, .lst ((netL (sn pu) (sn mu)).map V.str))] H' → Q (.ref l) H'
def sp_nstr (K : PySem.W.Frag) (CN CP CM : Addr) : Sp := fun vs H Q _ => ∃ (x : Addr) (ps : List P3) (ms : List M3), vs = [.ref x] ∧ NetR K CN CP CM H x ps ms ∧ PNm ps ∧ MNm ms ∧ ps.length ≤ 20 ∧ ms.length ≤ 20 ∧ ∀ H', Same H H' → Q (.str (netT ps ms)) H'
end RV
set_option linter.all false
/-! == of tuples of own objects: all equal, or one of them empty -/
namespace GQ
open PySem PySem.SeqAt
open AutoSeq1 (wpAny_loadPart')
open MeetsSeq MeetsSeq2 MeetsSeq3 SeqRoads2
section
variable {prog : Program} {w : World} {A : Around} {R : Result → Shared → Prop}
theorem rv_tuple_eq0 (l b : Addr) (items items2 : Array Value) (n n2 : Nat) (dd dd2 : Option Addr) (sl sl2 : Array (Option Value)) (h0 : items.size = 0 ∨ items2.size = 0) (hne : items.size ≠ items2.size)
    {s : Shared} (fin : R (.ok (.ret (.bool false))) s) (hl1 : s.heap.get? l = some { cls := .type "tuple", dict := dd, data := .seq items n, slots := sl }) (hb1 : s.heap.get? b = some { cls := .type "tuple", dict := dd2, data := .seq items2 n2, slots := sl2 }) :
    wpAny (model prog w) A.in1 (Builtin.«tuple.__eq__» ⟨[.ref l, .ref b], []⟩) (FinOf prog w A R) (fun e s' => R (.error e) s') s := by
  have f2 := AutoSeq1.sub_tuple_tuple
  have hZ : items.toList.zip items2.toList = [] := by
    rcases h0 with h | h
    · rw [show items = #[] from Array.eq_empty_of_size_eq_zero h]
      rfl
    · rw [show items2 = #[] from Array.eq_empty_of_size_eq_zero h]
      simp
  have hs : ∃ t, t = s := ⟨s, rfl⟩
  obtain ⟨t, ht⟩ := hs
  obtain ⟨hp, g, d, tk, os⟩ := s
  wp_walk using wpAny_loadPart' hl1, wpAny_loadPart' hb1, wpAny_forIn_list _ (fun rest b s' => b.1 = none ∧ rest = [] ∧ s' = t) _
  case turn =>
    rintro ⟨y, x⟩ rest b s' ⟨_, hz, _⟩
    cases hz
  case fin =>
    rintro ⟨b1, b2⟩ s' ⟨hb', _, hs'⟩
    simp only at hb'
    subst hb'
    subst hs'
    subst ht
    wp_walk
    have e : (items.size == items2.size) = false := by simpa using hne
    simp only [Builtin.Tuple.tupleCompareSizes]
    show R (.ok (.ret (.bool (items.size == items2.size)))) _
    rw [e]
    exact fin
  case h =>
    exact ⟨rfl, hZ, ht.symm⟩
end
section
variable {prog : Program} {w : World} {A : Around} {E : Value → Shared → Prop} {s : Shared}
theorem rv_rc_tup0 {l b : Addr} {items items2 : Array Value} {Q : Value → Shared → Prop} (h0 : items.size = 0 ∨ items2.size = 0) (hne : items.size ≠ items2.size) (hu : A.units < cLine)
    (hl : s.heap.IsTuple l items) (hb : s.heap.IsTuple b items2) (fin : Q (.bool false) s) : wpAny (model prog w) A (richCompare .Eq (.ref l) (.ref b)) Q E s := by
  obtain ⟨⟨cls, dd, data, sl⟩, ho, hc, n, hd⟩ := id hl
  obtain ⟨⟨cls2, dd2, data2, sl2⟩, ho2, hc2, n2, hd2⟩ := id hb
  simp only at hc hd hc2 hd2
  subst hc hd hc2 hd2
  refine wpAny_richCompare_same_room (op := .Eq) ⟨_, ho, rfl⟩ ⟨_, ho2, rfl⟩ F.slot_tuple_eq (call_here F.slot_tuple_eq ⟨_, ho, rfl⟩ F.entry_tuple_eq (F.args_tuple_eq_2 _ _) ?_) hu
  exact rv_tuple_eq0 (R := wants (fun v s' => v ≠ .notImplemented ∧ Q v s') E) l b items items2 n n2 dd dd2 sl sl2 h0 hne ⟨(fun x => nomatch x), fin⟩ ho ho2
end
end GQ
namespace RV
open PySem L2 PyProof.Rows
def rEqTup (K : PySem.W.Frag) (D : Eqv) : R2 := fun x y H Q => (DTup K D x y H ∧ ∀ H', Ext H H' → Q (.bl true) H') ∨
  (∃ a b xs ys, x = .ref a ∧ y = .ref b ∧ SqT K H a xs ∧ SqT K H b ys ∧ (xs.length = 0 ∨ ys.length = 0) ∧ xs.length ≠ ys.length ∧ Q (.bl false) H)
/-- two of a kind that are equal -/
def SmP (C : Addr) : Addr → Addr → Hp → Prop := fun a b H => ∃ q, PipeAt C H a q ∧ PipeAt C H b q
def SmM (C : Addr) : Addr → Addr → Hp → Prop := fun a b H => ∃ q, MetAt C H a q ∧ MetAt C H b q
/-- two nets with the same pipes: their meters the same, or one of them has none -/
def sp_Neq (K : PySem.W.Frag) (CN CP CM : Addr) : Sp := fun vs H Q _ => ∃ (a b : Addr) (ps : List P3) (ms ms' : List M3), vs = [.ref a, .ref b] ∧ NetR K CN CP CM H a ps ms ∧ NetR K CN CP CM H b ps ms' ∧ (ms = ms' ∨ ms = [] ∨ ms' = []) ∧ ∀ H', Same H H' → Q (.bl (decide (ms = ms'))) H'
end RV
/-! a net's text, cut into rows -/
namespace RV
open PySem L2 PyProof.Rows TL
def prow (q : P3) : List Str := ["pipe", q.1, q.2.1, q.2.2]
def mrow (q : M3) : List Str := if q.2.2 then ["meter", q.1, q.2.1, "sealed"] else ["meter", q.1, q.2.1]
def rowsL (ps : List P3) (ms : List M3) : List (List Str) := ps.map prow ++ ms.map mrow
/-- lists of words, each at its address -/
abbrev RU := Addr × List Str
structure Rws (H : Hp) (l : Addr) (us : List RU) : Prop where
  l : H l = some (.lst (rf us))
  o : ∀ u ∈ us, H u.1 = some (.lst (u.2.map V.str))
structure TOk (ps : List P3) (ms : List M3) : Prop where
  n0 : ps ≠ []
  pn : PNm ps
  mn : MNm ms
  pl : ps.length ≤ 20
  ml : ms.length ≤ 20
def sp_rows : Sp := fun vs H Q _ => ∃ (ps : List P3) (ms : List M3), vs = [.str (netT ps ms)] ∧ TOk ps ms ∧ ∀ (l : Addr) (us : List RU) H', Same H H' → Rws H' l us → sn us = rowsL ps ms → Q (.ref l) H'
def sp_pin (K : PySem.W.Frag) (CP : Addr) : Sp := fun vs H Q _ => ∃ (ps : List P3) (ms : List M3), vs = [.str (netT ps ms)] ∧ TOk ps ms ∧ POk ps ∧ ∀ (t : Addr) (us : List PU) H', Same H H' → Tps K CP H' t us → sn us = ps → Q (.ref t) H'
def sp_min (K : PySem.W.Frag) (CM : Addr) : Sp := fun vs H Q _ => ∃ (ps : List P3) (ms : List M3), vs = [.str (netT ps ms)] ∧ TOk ps ms ∧ ∀ (t : Addr) (us : List MU) H', Same H H' → Tms K CM H' t us → sn us = ms → Q (.ref t) H'
def sp_nread (K : PySem.W.Frag) (CN CP CM : Addr) : Sp := fun vs H Q _ => ∃ (ps : List P3) (ms : List M3), vs = [.ref CN, .str (netT ps ms)] ∧ POk ps ∧ MOk ps ms ∧ ∀ (x : Addr) H', Same H H' → NetR K CN CP CM H' x ps ms → Q (.ref x) H'
/-- the rows of the pipes, of the meters -/
def isP (r : List Str) : Bool := decide (r[0]? = some ("pipe" : Str))
def isM (r : List Str) : Bool := decide (r[0]? = some ("meter" : Str))
def gM2 (vs zs : List V) : List V := match vs, zs with
  | [x, n, a], [z] => [x, n, a, z]
  | _, _ => []
end RV
/-! nets as a law lays them: rows of pipes, rows of meters -/
namespace RV
open PySem L2 PyProof.Rows TL
section
variable {X : Cx} {K : PySem.W.Frag} {o e : Expr} {to te : TE}
end
def oY (q : P3) : HO := .tup [.str q.1, .str q.2.1, .str q.2.2]
def oZ (q : M3) : HO := .tup [.str q.1, .str q.2.1, .bl q.2.2]
structure Lay (H : Hp) (l : Addr) (us : List PU) : Prop where
  l : H l = some (.lst (rf us))
  o : ∀ u ∈ us, H u.1 = some (oY u.2)
structure Fts (H : Hp) (l : Addr) (us : List MU) : Prop where
  l : H l = some (.lst (rf us))
  o : ∀ u ∈ us, H u.1 = some (oZ u.2)
def lY (us : List PU) : List (Addr × HO) := us.map fun u => (u.1, oY u.2)
def lZ (us : List MU) : List (Addr × HO) := us.map fun u => (u.1, oZ u.2)
/-- rows of pipes -/
structure LOk (ps : List P3) : Prop where
  nm : ∀ p ∈ ps, IsNm p.1 ∧ IsNm p.2.1 ∧ IsNm p.2.2 ∧ p.2.2 ≠ p.2.1
  nd : (ps.map (·.1)).Nodup
/-- laid(well, lo, hi) -/
def sp_laid : Sp := fun vs H Q _ => ∃ (a : Addr) (n lo hi : Nat), vs = [.ref a, .int lo, .int hi] ∧ WellAt H a n ∧ n < 600000 ∧ lo ≤ hi ∧ hi ≤ 12 ∧
  ∀ (l : Addr) (us : List PU) H', H l = none → l ≠ a → Grow a H H' → WellAt H' a (n + 1000) → Lay H' l us → LOk (sn us) → lo ≤ us.length → us.length ≤ hi → Q (.ref l) H'
/-- fits(well, laid, most) -/
def sp_fits : Sp := fun vs H Q _ => ∃ (a t : Addr) (n hi : Nat) (us : List PU), vs = [.ref a, .ref t, .int hi] ∧ WellAt H a n ∧ n < 600000 ∧ t ≠ a ∧ Lay H t us ∧ LOk (sn us) ∧ 1 ≤ us.length ∧ us.length ≤ 12 ∧ hi ≤ 12 ∧
  ∀ (l : Addr) (ms : List MU) H', H l = none → l ≠ a → Grow a H H' → WellAt H' a (n + 1000) → Fts H' l ms → MOk (sn us) (sn ms) → ms.length ≤ hi → Q (.ref l) H'
/-- net(laid, fits) -/
def sp_lnet (K : PySem.W.Frag) (CN CP CM : Addr) : Sp := fun vs H Q _ => ∃ (l m : Addr) (us : List PU) (ms : List MU), vs = [.ref l, .ref m] ∧ Lay H l us ∧ Fts H m ms ∧ POk (sn us) ∧ MOk (sn us) (sn ms) ∧
  ∀ (x : Addr) H', Same H H' → NetR K CN CP CM H' x (sn us) (sn ms) → Q (.ref x) H'
/-- net_text(laid, fits) -/
def sp_ltext : Sp := fun vs H Q _ => ∃ (l m : Addr) (us : List PU) (ms : List MU), vs = [.ref l, .ref m] ∧ Lay H l us ∧ Fts H m ms ∧ TOk (sn us) (sn ms) ∧ ∀ H', Same H H' → Q (.str (netT (sn us) (sn ms))) H'
/-- is(net, laid, fits): it is the one -/
def sp_isN (K : PySem.W.Frag) (CN CP CM : Addr) : Sp := fun vs H Q _ => ∃ (x l m : Addr) (us : List PU) (ms : List MU), vs = [.ref x, .ref l, .ref m] ∧ NetR K CN CP CM H x (sn us) (sn ms) ∧ Lay H l us ∧ Fts H m ms ∧ POk (sn us) ∧ MOk (sn us) (sn ms) ∧
  ∀ H', Same H H' → Q (.bl true) H'
theorem Has.add {H0 H : Hp} {a p : Addr} {n : Nat} {L : List (Addr × HO)} {o : HO} (h : Has H0 a n L H) (n0 : p ≠ a) (e : H p = some o) : Has H0 a n ((p, o) :: L) H :=
  ⟨h.gr, h.well, fun q hq => by
    rcases List.mem_cons.mp hq with rfl | hq
    · exact ⟨n0, e⟩
    · exact h.here q hq⟩
end RV
/-! nested data that can be shown -/
namespace RV
open PySem L2 PyProof.Rows TL
structure Shw (d : PyData) (n k : Nat) : Prop where
  ok : d.showable = true
  dp : d.depth ≤ n
  ln : d.shown.length ≤ k
/-! ### rows of pipes and meters as data -/
def dY (q : P3) : PyData := .tuple [.str q.1, .str q.2.1, .str q.2.2]
def dZ (q : M3) : PyData := .tuple [.str q.1, .str q.2.1, .bool q.2.2]
def dN (ps : List P3) (ms : List M3) : PyData := .list [.list (ps.map dY), .list (ms.map dZ)]
end RV
/-! a net's text is plain; nets compared -/
namespace RV
open PySem L2 PyProof.Rows TL
/-- the law's row -/
def sp_rightN : Sp := fun vs H Q _ => ∃ (a : Addr) (n : Nat), vs = [.ref a] ∧ WellAt H a n ∧ n < 500000 ∧ ∀ H', Grow a H H' → WellAt H' a (n + 3000) → Q (.bl true) H'
end RV
/-! names of the laws over scripts -/
namespace RV
open PySem L2 PyProof.Rows TL
section
variable {D : Addr} {xs : List V} {i : Nat} {te : TE} {tt : TT} {vs : List Nat} {σ : L2.St} {H1 : Hp} {Qd : Hp → Prop} {J : It} {GG : Hp → Prop}
end
/-- the spare names -/
def zn (j : Nat) : Str := ("z" : Str) ++ num (j : Int)
def words2 : List Str := ["pipe", "meter", "sealed", "go", "if", "vote", "tell", "doubt", "a", "b"]
/-- names(well, m) -/
def sp_names : Sp := fun vs H Q _ => ∃ (a : Addr) (n m : Nat), vs = [.ref a, .int m] ∧ WellAt H a n ∧ n < 600000 ∧ m ≤ 12 ∧
  ∀ (l : Addr) (xs : List Str) H', H l = none → l ≠ a → Grow a H H' → WellAt H' a (n + 200) → H' l = some (.lst (xs.map V.str)) → xs.length = m → xs.Nodup → (∀ x ∈ xs, IsNm x) → Q (.ref l) H'
end RV
/-! models of nets, as the laws over scripts draw them -/
namespace RV
open PySem L2 PyProof.Rows TL
abbrev Q3 := Str × Nat × Nat
abbrev G3 := Str × Nat × Bool
def oQ (q : Q3) : HO := .tup [.str q.1, .int (q.2.1 : Int), .int (q.2.2 : Int)]
def oG (q : G3) : HO := .tup [.str q.1, .int (q.2.1 : Int), .bl q.2.2]
/-- places, pipes between them by index, gauges at pipes by index -/
structure Mod where
  pl : List Str
  qs : List Q3
  gs : List G3
structure MdOk (M : Mod) (most more : Nat) : Prop where
  p2 : 2 ≤ M.pl.length
  p4 : M.pl.length ≤ 4
  pn : ∀ x ∈ M.pl, IsNm x
  pd : M.pl.Nodup
  q2 : 2 ≤ M.qs.length
  qm : M.qs.length ≤ most
  qn : ∀ q ∈ M.qs, IsNm q.1 ∧ q.2.1 < M.pl.length ∧ q.2.2 < M.pl.length ∧ q.2.1 ≠ q.2.2
  qd : (M.qs.map (·.1)).Nodup
  gm : M.gs.length ≤ more
  gn : ∀ g ∈ M.gs, IsNm g.1 ∧ g.2.1 < M.qs.length
  gd : (M.gs.map (·.1)).Nodup
abbrev QU := Addr × Q3
abbrev GU := Addr × G3
/-- what a model is in the heap -/
def lM (l lp lq lg : Addr) (pl : List Str) (pu : List QU) (gu : List GU) : List (Addr × HO) :=
  (l, .lst [.ref lp, .ref lq, .ref lg]) :: (lp, .lst (pl.map V.str)) :: (lq, .lst (rf pu)) :: (lg, .lst (rf gu)) :: (pu.map (fun u => (u.1, oQ u.2)) ++ gu.map fun u => (u.1, oG u.2))
def sp_model : Sp := fun vs H Q _ => ∃ (a : Addr) (n most more : Nat), vs = [.ref a, .int most, .int more] ∧ WellAt H a n ∧ n < 500000 ∧ 2 ≤ most ∧ most ≤ 12 ∧ more ≤ 12 ∧
  ∀ (l lp lq lg : Addr) (pl : List Str) (pu : List QU) (gu : List GU) H', Has H a (n + 2000) (lM l lp lq lg pl pu gu) H' → MdOk ⟨pl, sn pu, sn gu⟩ most more → Q (.ref l) H'
/-- the model at l -/
structure MdAt (H : Hp) (l : Addr) (M : Mod) : Prop where
  ex : ∃ (lp lq lg : Addr) (pu : List QU) (gu : List GU), sn pu = M.qs ∧ sn gu = M.gs ∧ ∀ p ∈ lM l lp lq lg M.pl pu gu, H p.1 = some p.2
def Mod.ps (M : Mod) : List P3 := M.qs.map fun q => (q.1, M.pl.getD q.2.1 "", M.pl.getD q.2.2 "")
def Mod.ms (M : Mod) : List M3 := M.gs.map fun g => (g.1, (M.qs.getD g.2.1 ("", 0, 0)).1, g.2.2)
section
variable {M : Mod} {most more : Nat}
end
def sp_mtext : Sp := fun vs H Q _ => ∃ (l : Addr) (M : Mod) (most more : Nat), vs = [.ref l] ∧ MdAt H l M ∧ MdOk M most more ∧ most ≤ 12 ∧ more ≤ 12 ∧ ∀ H', Same H H' → Q (.str (netT M.ps M.ms)) H'
end RV
/-! ways through a net: walks, flows of -1, 0 and 1, and the least count of meters on a ring -/
namespace RV
/-! ### sums over the first n indexes -/
def sm : Nat → (Nat → Int) → Int
  | 0, _ => 0
  | n + 1, g => sm n g + g n
def dl {α : Type} [DecidableEq α] (u x : α) : Int := if u = x then 1 else 0
section
set_option linter.unusedSectionVars false
variable {α : Type} [DecidableEq α]
variable (n : Nat) (st en : Nat → α) (w : Nat → Nat) (ok : Nat → Prop)
/-- what stays at a place -/
def dv (f : Nat → Int) (x : α) : Int := sm n fun k => f k * (dl (en k) x - dl (st k) x)
/-- a walk from u, its last step first -/
inductive Wk (u : α) : α → List (Nat × Bool) → Prop
  | nil : Wk u u []
  | fwd {i l} : Wk u (st i) l → ok i → Wk u (en i) ((i, true) :: l)
  | bwd {i l} : Wk u (en i) l → ok i → Wk u (st i) ((i, false) :: l)
inductive Sw (u : α) : α → List (Nat × Bool) → List α → Prop
  | nil : Sw u u [] [u]
  | fwd {i l vs} : Sw u (st i) l vs → ok i → en i ∉ vs → Sw u (en i) ((i, true) :: l) (en i :: vs)
  | bwd {i l vs} : Sw u (en i) l vs → ok i → st i ∉ vs → Sw u (st i) ((i, false) :: l) (st i :: vs)
def wl (l : List (Nat × Bool)) : Nat := (l.map fun q => w q.1).sum
def sg (b : Bool) : Int := if b then 1 else -1
def fl (l : List (Nat × Bool)) (k : Nat) : Int := (l.map fun q => if q.1 = k then sg q.2 else 0).sum
variable {n st en w ok} {u v : α} {l : List (Nat × Bool)} {vs : List α}
/-- a ring: flows of -1, 0 and 1 that are 1 at the pipe -/
structure Ring (n : Nat) (st en : Nat → α) (shut : Nat → Prop) (p : Nat) (f : Nat → Int) : Prop where
  r : ∀ k, k < n → f k = 0 ∨ f k = 1 ∨ f k = -1
  kept : ∀ x, RV.dv n st en f x = 0
  one : f p = 1
  sl : ∀ k, k < n → shut k → f k = 0
def cnt (n : Nat) (w : Nat → Nat) (f : Nat → Int) : Int := sm n fun k => if f k ≠ 0 then (w k : Int) else 0
abbrev okp (n : Nat) (shut : Nat → Prop) (p k : Nat) : Prop := k < n ∧ k ≠ p ∧ ¬ shut k
variable {shut : Nat → Prop} {p : Nat}
/-! ### the places that pipes of a ring reach -/
/-! ### the shortest ways, round by round -/
abbrev Dist (α : Type) := α → Option Nat
/-- on by a link: from, to, meters -/
def ld (g : Dist α) (e : α × α × Nat) : Dist α := match g e.1 with
  | none => g
  | some d => match g e.2.1 with
    | none => fun x => if x = e.2.1 then some (d + e.2.2) else g x
    | some d' => if d + e.2.2 < d' then fun x => if x = e.2.1 then some (d + e.2.2) else g x else g
def Le (g g' : Dist α) : Prop := ∀ x d, g x = some d → ∃ d', g' x = some d' ∧ d' ≤ d
def turn (L : List (α × α × Nat)) (g : Dist α) : Dist α := L.foldl ld g
def turns (L : List (α × α × Nat)) : Nat → Dist α → Dist α
  | 0, g => g
  | k + 1, g => turn L (turns L k g)
def g0 (u : α) : Dist α := fun x => if x = u then some 0 else none
/-- the links of a net's pipes -/
structure Links (L : List (α × α × Nat)) (st en : Nat → α) (w : Nat → Nat) (ok : Nat → Prop) : Prop where
  of : ∀ e ∈ L, ∃ i, ok i ∧ e.2.2 = w i ∧ (e.1 = st i ∧ e.2.1 = en i ∨ e.1 = en i ∧ e.2.1 = st i)
  f : ∀ i, ok i → (st i, en i, w i) ∈ L
  b : ∀ i, ok i → (en i, st i, w i) ∈ L
variable {L : List (α × α × Nat)}
end
end RV
/-! own methods; promises of ways and strengths -/
namespace RV
open PySem L2 PyProof.Rows TL
def Mtd (P : Program) (w : World) (K : PySem.W.Frag) (mg : Str → Option Value) (base : Heap) (C : Addr) (m : Str) (k : Nat) (ps : List Str) (sp : Sp) : Prop :=
  Cls K C ∧ ∃ f fd, Meth K C m f ∧ Binds K fd ps [] ∧ FnOk P w K mg base CX0 k f fd ps sp
section
variable {X : Cx} {C : Addr} {m : Str} {k : Nat} {ps : List Str} {sp : Sp} {o e : Expr} {es : List Expr} {t : TA} {ta : TE} {pos apos : Pos} {pl : Sem Bool}
end
section
variable {α : Type} {K : PySem.W.Frag} {D : Addr} {i : Nat} {te : TE} {tt : TT} {vs : List Nat} {σ : L2.St} {H1 : Hp} {Qd : Hp → Prop} {J : It} {GG : Hp → Prop}
end
def rgL (n : Nat) : List V := (List.range n).map fun i => V.int (i : Nat)
/-! ### the meters of a pipe -/
def onP (ms : List M3) (y : Str) : List M3 := ms.filter fun m => decide (m.2.1 = y)
def wtP (ms : List M3) (y : Str) : Nat := (onP ms y).length
def seP (ms : List M3) (y : Str) : List M3 := (onP ms y).filter fun m => m.2.2
/-- amount at this index, 0 elsewhere -/
def un (n : Nat) (o : Option Nat) (c : Int) : List Int := (List.range n).map fun j => if o = some j then c else 0
def vN : Option Nat → V
  | none => .non
  | some k => .int (k : Nat)
/-- a link: from, to, meters, flow -/
abbrev L4 := Str × Str × Nat × List Int
def lks (n : Nat) (ms : List M3) (y : Str) (i : Nat) (p : P3) : List L4 :=
  if p.1 ≠ y ∧ seP ms p.1 = [] then [(p.2.1, p.2.2, wtP ms p.1, un n (some i) 1), (p.2.2, p.2.1, wtP ms p.1, un n (some i) (-1))] else []
def lkF (n : Nat) (ms : List M3) (y : Str) : Nat → List P3 → List L4
  | _, [] => []
  | i, p :: ps => lks n ms y i p ++ lkF n ms y (i + 1) ps
def lkA (ps : List P3) (ms : List M3) (y : Str) : List L4 := lkF ps.length ms y 0 ps
def lk3 (l : L4) : Str × Str × Nat := (l.1, l.2.1, l.2.2.1)
def LkAt (H : Hp) (a : Addr) (l : L4) : Prop := ∃ t, H a = some (.tup [.str l.1, .str l.2.1, .int (l.2.2.1 : Nat), .ref t]) ∧ H t = some (.tup (l.2.2.2.map V.int))
/-- a dict of ways -/
structure DW (n : Nat) (Z : Str → Nat → List Int → Prop) (H : Hp) (kvs : List (Key × V)) (g : Dist Str) : Prop where
  z : ∀ x, g x = none → valV kvs (.inr x) = none
  s : ∀ x d, g x = some d → ∃ (e t : Addr) (fs : List Int), valV kvs (.inr x) = some (.ref e) ∧ H e = some (.tup [.int (d : Nat), .ref t]) ∧ H t = some (.tup (fs.map V.int)) ∧ fs.length = n ∧ Z x d fs
/-- what holds of every way that is found -/
structure ZOk (ps : List P3) (ms : List M3) (y : Str) (Z : Dist Str → Str → Nat → List Int → Prop) : Prop where
  st : ∀ (i : Nat) (q : P3), ps[i]? = some q → q.1 = y → Z (g0 q.2.2) q.2.2 0 (un ps.length none 0)
  ke : ∀ l ∈ lkA ps ms y, ∀ g x d fs, Z g x d fs → Z (ld g (lk3 l)) x d fs
  ne : ∀ l ∈ lkA ps ms y, ∀ g d fs, fs.length = ps.length → g l.1 = some d → Z g l.1 d fs → (g l.2.1 = none ∨ ∃ d', g l.2.1 = some d' ∧ d + l.2.2.1 < d') → Z (ld g (lk3 l)) l.2.1 (d + l.2.2.1) (List.zipWith (· + ·) fs l.2.2.2)
def strP (ps : List P3) (ms : List M3) (y : Str) : Option Nat :=
  match ps.find? fun p => decide (p.1 = y) with
  | none => none
  | some q => if seP ms y = [] then (turns ((lkA ps ms y).map lk3) ps.length (g0 q.2.2) q.2.1).map (· + wtP ms y) else none
section
variable (K : PySem.W.Frag) (CN CP CM : Addr)
def sp_gpipe : Sp := fun vs H Q _ => ∃ (x : Addr) (ps : List P3) (ms : List M3) (y : Str), vs = [.ref x, .str y] ∧ NetR K CN CP CM H x ps ms ∧ ps.length ≤ 12 ∧ y ∈ ps.map (·.1) ∧
  ∀ (a : Addr) (i : Nat) (q : P3) H', ps[i]? = some q → q.1 = y → Same H H' → PipeAt CP H' a q → Q (.ref a) H'
def sp_chkn : Sp := fun vs H Q _ => ∃ (x : Addr) (ps : List P3) (ms : List M3), vs = [.ref x] ∧ NetR K CN CP CM H x ps ms ∧ Q .non H
def sp_chkp : Sp := fun vs H Q _ => ∃ (x : Addr) (ps : List P3) (ms : List M3) (y : Str), vs = [.ref x, .str y] ∧ NetR K CN CP CM H x ps ms ∧ ps.length ≤ 12 ∧ y ∈ ps.map (·.1) ∧ ∀ H', Same H H' → Q .non H'
def sp_mat : Sp := fun vs H Q _ => ∃ (x : Addr) (ps : List P3) (ms : List M3) (y : Str), vs = [.ref x, .str y] ∧ NetR K CN CP CM H x ps ms ∧ ms.length ≤ 12 ∧
  ∀ (l : Addr) (us : List MU) H', Same H H' → H' l = some (.lst (rf us)) → (∀ u ∈ us, MetAt CM H' u.1 u.2) → sn us = onP ms y → Q (.ref l) H'
def sp_sat : Sp := fun vs H Q _ => ∃ (x : Addr) (ps : List P3) (ms : List M3) (y : Str), vs = [.ref x, .str y] ∧ NetR K CN CP CM H x ps ms ∧ ms.length ≤ 12 ∧
  ∀ (l : Addr) (xs : List V) H', Same H H' → H' l = some (.lst xs) → (xs = [] ↔ seP ms y = []) → Q (.ref l) H'
def sp_amt : Sp := fun vs H Q _ => ∃ (x : Addr) (ps : List P3) (ms : List M3) (o : Option Nat) (c : Int), vs = [.ref x, vN o, .int c] ∧ NetR K CN CP CM H x ps ms ∧ ps.length ≤ 12 ∧
  ∀ (t : Addr) H', Same H H' → H' t = some (.tup ((un ps.length o c).map V.int)) → Q (.ref t) H'
def sp_lnks : Sp := fun vs H Q _ => ∃ (x : Addr) (ps : List P3) (ms : List M3) (y : Str), vs = [.ref x, .str y] ∧ NetR K CN CP CM H x ps ms ∧ ps.length ≤ 12 ∧ ms.length ≤ 12 ∧
  ∀ (l : Addr) (us : List (Addr × L4)) H', Same H H' → H' l = some (.lst (rf us)) → (∀ u ∈ us, LkAt H' u.1 u.2) → sn us = lkA ps ms y → Q (.ref l) H'
def sp_lead : Sp := fun vs H Q _ => ∃ (d t : Addr) (a b : Str) (m n : Nat) (fs : List Int) (kvs : List (Key × V)) (g : Dist Str) (Z Z' : Str → Nat → List Int → Prop), vs = [.ref d, .str a, .str b, .int (m : Nat), .ref t] ∧ H d = some (.dK kvs) ∧ H t = some (.tup (fs.map V.int)) ∧ fs.length = n ∧ n ≤ 12 ∧ kvs.length ≤ 1000 ∧ DW n Z H kvs g ∧ (∀ x d f, Z x d f → Z' x d f) ∧ (∀ d f, f.length = n → g a = some d → Z a d f → (g b = none ∨ ∃ d', g b = some d' ∧ d + m < d') → Z' b (d + m) (List.zipWith (· + ·) f fs)) ∧
  ∀ kvs' H', (∀ b o, b ≠ d → H b = some o → H' b = some o) → H' d = some (.dK kvs') → kvs'.length ≤ kvs.length + 1 → DW n Z' H' kvs' (ld g (a, b, m)) → Q .non H'
def sp_ways : Sp := fun vs H Q _ => ∃ (x : Addr) (ps : List P3) (ms : List M3) (y : Str) (Z : Dist Str → Str → Nat → List Int → Prop), vs = [.ref x, .str y] ∧ NetR K CN CP CM H x ps ms ∧ ps.length ≤ 12 ∧ ms.length ≤ 12 ∧ y ∈ ps.map (·.1) ∧ ZOk ps ms y Z ∧
  ∀ (i : Nat) (q : P3) (d : Addr) (kvs : List (Key × V)) H', ps[i]? = some q → q.1 = y → Same H H' → H' d = some (.dK kvs) → DW ps.length (Z (turns ((lkA ps ms y).map lk3) ps.length (g0 q.2.2))) H' kvs (turns ((lkA ps ms y).map lk3) ps.length (g0 q.2.2)) → Q (.ref d) H'
def WayV (n : Nat) (Z : Nat → List Int → Prop) (H : Hp) (v : V) : Option Nat → Prop
  | none => v = .non
  | some d => ∃ (e t : Addr) (fs : List Int), v = .ref e ∧ H e = some (.tup [.int (d : Nat), .ref t]) ∧ H t = some (.tup (fs.map V.int)) ∧ fs.length = n ∧ Z d fs
def sp_back : Sp := fun vs H Q _ => ∃ (x : Addr) (ps : List P3) (ms : List M3) (y : Str) (Z : Dist Str → Str → Nat → List Int → Prop), vs = [.ref x, .str y] ∧ NetR K CN CP CM H x ps ms ∧ ps.length ≤ 12 ∧ ms.length ≤ 12 ∧ y ∈ ps.map (·.1) ∧ ZOk ps ms y Z ∧
  ∀ (i j : Nat) (q r : P3) (v : V) H', ps[i]? = some q → q.1 = y → ps[j]? = some r → r.1 = y → Same H H' → WayV ps.length (Z (turns ((lkA ps ms y).map lk3) ps.length (g0 q.2.2)) r.2.1) H' v (if seP ms y = [] then turns ((lkA ps ms y).map lk3) ps.length (g0 q.2.2) r.2.1 else none) → Q v H'
def sp_stren : Sp := fun vs H Q _ => ∃ (x : Addr) (ps : List P3) (ms : List M3) (y : Str), vs = [.ref x, .str y] ∧ NetR K CN CP CM H x ps ms ∧ POk ps ∧ ms.length ≤ 12 ∧ y ∈ ps.map (·.1) ∧ ∀ H', Same H H' → Q (vN (strP ps ms y)) H'
end
end RV
/-! ways in a dict -/
namespace RV
open PySem L2 PyProof.Rows TL
end RV
/-! flows of -1, 0 and 1, as the laws over scripts count them -/
namespace RV
open PySem L2 PyProof.Rows TL
def qst (M : Mod) (k : Nat) : Nat := (M.qs.getD k ("", 0, 0)).2.1
def qen (M : Mod) (k : Nat) : Nat := (M.qs.getD k ("", 0, 0)).2.2
def rwf (r : List Int) (k : Nat) : Int := r.getD k 0
/-- what stays at a place after j pipes -/
def stay (M : Mod) (r : List Int) (j x : Nat) : Int := dv j (qst M) (qen M) (rwf r) x
def keptB (M : Mod) (r : List Int) : Bool := (List.range M.pl.length).all fun x => decide (stay M r M.qs.length x = 0)
def stayL (M : Mod) (r : List Int) (j : Nat) : List V := (List.range M.pl.length).map fun x => .int (stay M r j x)
def sp_kept : Sp := fun vs H Q _ => ∃ (l a : Addr) (M : Mod) (most more : Nat) (r : List Int), vs = [.ref l, .ref a] ∧ MdAt H l M ∧ MdOk M most more ∧ most ≤ 12 ∧ H a = some (.lst (r.map V.int)) ∧ r.length = M.qs.length ∧ ∀ H', Same H H' → Q (.bl (keptB M r)) H'
def trit (c : Int) : Prop := c = 0 ∨ c = 1 ∨ c = -1
def sp_flows : Sp := fun vs H Q _ => ∃ (l : Addr) (M : Mod) (more : Nat), vs = [.ref l] ∧ MdAt H l M ∧ MdOk M 5 more ∧
  ∀ (a : Addr) (us : List (Addr × List Int)) H', Same H H' → H' a = some (.lst (rf us)) → (∀ u ∈ us, H' u.1 = some (.lst (u.2.map V.int))) → us.length ≤ 243 → H a = none → (∀ u ∈ us, H u.1 = none) → (∀ r, r ∈ sn us ↔ r.length = M.qs.length ∧ (∀ c ∈ r, trit c) ∧ keptB M r = true) → Q (.ref a) H'
abbrev FU := Addr × List Int
def FAt (H : Hp) (us : List FU) : Prop := ∀ u ∈ us, H u.1 = some (.lst (u.2.map V.int))
section
variable {K : PySem.W.Frag} {D : Addr} {i : Nat} {te : TE} {vs : List Nat} {σ : L2.St} {H1 : Hp} {Qd : Hp → Prop} {J : It} {GG : Hp → Prop}
end
end RV
/-! least counts over flows; lists of integers and None as data -/
namespace RV
open PySem L2 PyProof.Rows TL
def cntG (M : Mod) (r : List Int) : Nat := (M.gs.filter fun g => decide (rwf r g.2.1 ≠ 0)).length
def shutG (M : Mod) (r : List Int) : Bool := M.gs.any fun g => g.2.2 && decide (rwf r g.2.1 ≠ 0)
def condG (M : Mod) (p : Nat) (r : List Int) : Bool := decide (rwf r p = 1) && !shutG M r
def IsMin (L : List Nat) : Option Nat → Prop
  | none => L = []
  | some m => m ∈ L ∧ ∀ y ∈ L, m ≤ y
def dO : Option Nat → PyData
  | none => .none
  | some k => .int (k : Nat)
def sp_lstr : Sp := fun vs H Q _ => ∃ (l a : Addr) (M : Mod) (more p : Nat) (us : List FU), vs = [.ref l, .ref a, .int (p : Nat)] ∧ MdAt H l M ∧ MdOk M 5 more ∧ more ≤ 12 ∧ H a = some (.lst (rf us)) ∧ FAt H us ∧ us.length ≤ 243 ∧ p < M.qs.length ∧ (∀ r ∈ sn us, r.length = M.qs.length) ∧
  ∀ (o : Option Nat) H', Same H H' → IsMin (((sn us).filter (condG M p)).map (cntG M)) o → Q (vN o) H'
end RV
/-! the strength by shortest ways is the least count over flows -/
namespace RV
open PySem L2 PyProof.Rows TL
def pN (ps : List P3) (k : Nat) : Str := (ps.getD k ("", "", "")).1
def pS (ps : List P3) (k : Nat) : Str := (ps.getD k ("", "", "")).2.1
def pE (ps : List P3) (k : Nat) : Str := (ps.getD k ("", "", "")).2.2
def shutP (ps : List P3) (ms : List M3) (k : Nat) : Prop := seP ms (pN ps k) ≠ []
/-! ### models -/
section
variable {M : Mod} {most more : Nat}
abbrev RingM (M : Mod) (p : Nat) (f : Nat → Int) : Prop := Ring M.qs.length (pS M.ps) (pE M.ps) (shutP M.ps M.ms) p f
end
end RV
/-! a def called by keywords alone; lists of counts that are shown -/
namespace RV
open PySem L2 PyProof.Rows TL
def FnKd (P : Program) (w : World) (K : PySem.W.Frag) (mg : Str → Option Value) (base : Heap) (x : Str) (k : Nat) (ks : List Str) (sp : Sp) (gV : List V → List V → List V) : Prop :=
  ∃ f fd ps g, mg x = some (.ref f) ∧ PySem.W.keepIn K (.ref f) = true ∧ KBn K fd ps 0 ks g gV ∧ FnOk P w K mg base CX0 k f fd ps sp
def tCallK0 (n : Nat) (sp : Sp) (gV : List V → List V → List V) (tk : TA) : TE := fun σ H Q => tk σ H fun zs H2 => zs.length = n ∧ sp (gV [] zs) H2 Q E0
section
variable {X : Cx} {k : Nat} {x : Str} {ks : List Str} {sp : Sp} {gV : List V → List V → List V} {kws : List Keyword} {tk : TA} {p pos : Pos}
end
/-- f(pipe=y, net=x) -/
def gPN (vs zs : List V) : List V := match vs, zs with
  | [], [y, x] => [x, y]
  | _, _ => []
def sp_right23 : Sp := fun vs H Q _ => ∃ (a : Addr) (n : Nat), vs = [.ref a] ∧ WellAt H a n ∧ n < 500000 ∧ ∀ H', Grow a H H' → Q (.bl true) H'
/-- what is due for each pipe -/
def dueL (M : Mod) : List (Option Nat) := (List.range M.qs.length).map fun k => strP M.ps M.ms (pN M.ps k)
end RV
/-! the law's own call, whatever its parameter is called -/
namespace RV
open PySem L2 PyProof.Rows
theorem walkGx (x : Str) (k : Nat) {l : PySem.W.OpenLaw} {q : Program} {loose : List Str} {XP : (Str → Option Value) → Heap → Prop} {YP : World → Heap → Prop} {d : DefRec} {K : Params → PySem.W.Frag} (hr : Room k callerA) (hn : l.most = some 63) (hdf : d.params.defaults = [])
    (hY : ∀ (w : World) (h : Heap), YP w h → (K w.params).In h)
    (F : ∀ (w : World) (mg : Str → Option Value) (fa : Addr) (h : Heap), (K w.params).In h → h.Ns mainGlobals mg → mg d.name = some (.ref fa) →
      ∃ fd : FuncData, (∀ (s : Shared) (u : Value), BindsTo s fd ⟨[u], []⟩ [(x, u)]) ∧ ∀ base : Heap, (K w.params).In base → base.Ns mainGlobals mg → FnG l.prog w (K w.params) mg base k fa fd [x] (spLaw (K w.params))) :
    PySem.W.WalkO q loose XP YP l.row.toRowW d [] (fun f vs => PySem.call f vs) := by
  refine Att.attach_call hn hdf fun w s₀ s₁ mg mb fa o pm cd doc a vs ns G Y ho hd hcd hmg hobj hints hlen hg => ?_
  obtain ⟨fd, hb, hF⟩ := F w mg fa _ (hY w _ Y) G.T.g hmg
  exact callG (hY w _ Y) G.T.g G.T.b G.T.builtins G.T.nolimit hg hobj hints (Nat.le_trans hlen (by decide)) hr hF hb fun H hS => ⟨a, ns, rfl, hS, hlen, fun _ => rfl⟩
end RV
/-! sum of a tuple, repr of a truth value; faults, can_tell -/
namespace RV
open PySem L2 PyProof.Rows TL
section
variable {X : Cx}
def rSumT (K : PySem.W.Frag) : List V → Hp → VK → Prop := fun vs H Q => ∃ (a : Addr) (ns : List Int), vs = [V.ref a] ∧ SqT K H a (ns.map V.int) ∧ Q (.int ns.sum) H
def rReprB : List V → Hp → VK → Prop := fun xs H Q => ∃ b, xs = [.bl b] ∧ Q (.str (if b then "True" else "False")) H
end
/-- faults -/
structure Flt (a b c : Int) : Prop where
  h0 : 0 ≤ a
  h1 : a ≤ b
  h2 : b ≤ 3
  h3 : 0 ≤ c
  h4 : c ≤ 3
def sp_isb : Sp := fun vs H Q _ => ∃ c : Int, vs = [.int c] ∧ 0 ≤ c ∧ c ≤ 3 ∧ Q (.bl true) H
def sp_arf (K : PySem.W.Frag) : Sp := fun vs H Q _ => ∃ (t : Addr) (a b c : Int), vs = [.ref t] ∧ SqT K H t [.int a, .int b, .int c] ∧ Flt a b c ∧ ∀ H', Same H H' → Q (.bl true) H'
def sp_chf (K : PySem.W.Frag) : Sp := fun vs H Q _ => ∃ (t : Addr) (a b c : Int), vs = [.ref t] ∧ SqT K H t [.int a, .int b, .int c] ∧ Flt a b c ∧ ∀ H', Same H H' → Q .non H'
def tellB : Option Nat → Int → Bool
  | none, _ => true
  | some m, s => decide (s < (m : Int))
def sp_tell (K : PySem.W.Frag) (CN CP CM : Addr) : Sp := fun vs H Q _ => ∃ (x t : Addr) (ps : List P3) (ms : List M3) (y : Str) (a b c : Int), vs = [.ref x, .str y, .ref t] ∧ NetR K CN CP CM H x ps ms ∧ POk ps ∧ ms.length ≤ 12 ∧ y ∈ ps.map (·.1) ∧ SqT K H t [.int a, .int b, .int c] ∧ Flt a b c ∧
  ∀ H', Same H H' → Q (.bl (tellB (strP ps ms y) (a + b + c))) H'
/-- drawn faults -/
def sp_faults : Sp := fun vs H Q _ => ∃ (w : Addr) (n : Nat), vs = [.ref w, .int 3] ∧ WellAt H w n ∧ n < 900000 ∧
  ∀ (t : Addr) (a b c : Int) H', Grow w H H' → WellAt H' w (n + 5) → H' t = some (.tup [.int a, .int b, .int c]) → t ≠ w → Flt a b c → Q (.ref t) H'
end RV
/-! the flow of a shortest way is one of -1, 0 and 1: a way that is no shorter is not taken, so no way comes to a place twice -/
namespace RV
section
set_option linter.unusedSectionVars false
variable {α : Type} [DecidableEq α] {n : Nat} {st en : Nat → α} {w : Nat → Nat} {ok : Nat → Prop} {u x : α} {g g' : Dist α} {d : Nat} {f : Nat → Int}
/-- a way without loops of this length and flow; each place on it is known by a way that is no longer -/
def GW (st en : Nat → α) (w : Nat → Nat) (ok : Nat → Prop) (u : α) (g : Dist α) (x : α) (d : Nat) (f : Nat → Int) : Prop :=
  ∃ l vs, Sw st en ok u x l vs ∧ wl w l = d ∧ (∀ k, f k = fl l k) ∧ ∀ y ∈ vs, ∃ d', g y = some d' ∧ d' ≤ d
end
end RV
set_option linter.all false
/-! sets of texts written as comprehensions, with any number of clauses: {x for a in .. for b in ..} -/
namespace RV
open PySem L2 PySem.Spec PyProof.Rows
/-- what is run in a turn behind a clause's tests: the next clause, or the member's being put -/
abbrev TB := L2.St → Hp → (Hp → Prop) → Prop
def HasB (X : Cx) (vs : List Nat) (m : Sem PySem.Fin → Sem PySem.Fin) (tb : TB) : Prop := ∀ (pins : List (Addr × Obj)) (s : Shared) (σ : L2.St) (H : Hp) (Q : Hp → Prop) (z : Sem PySem.Fin) (R : PySem.Fin → Shared → Prop), Inv X pins σ H s → tb σ H Q →
  (∀ σ' H' s', Inv X pins σ' H' s' → wipe σ' vs = wipe σ vs → Q H' → wpAny (model X.prog X.w) X.A z R (fun _ _ => False) s') → wpAny (model X.prog X.w) X.A (m z) R (fun _ _ => False) s
/-- how a clause's turn reads -/
def TurnIs (e tg : Expr) (k : Nat) (at0 : Pos) (ifs : List Expr) (acc : Value) (env : Env) (body : Sem PySem.Fin → Sem PySem.Fin) : Prop := ∀ it, compTurn e k it acc env = (do
  standAt at0
  match ← pyNext it with
  | none => pure (.done .next)
  | some v => do
    letOwnedTupleGo tg it v
    assign tg env v
    let ok ← forIn ifs true fun c ok => if ok = true then do let ok ← isTrue c env (eval c env); pure (ForInStep.yield ok) else pure (ForInStep.yield ok)
    if ok = true then body (again (.compLoop e k it acc env)) else again (.compLoop e k it acc env))
/-- all turns of a clause whose iterator J has come -/
def tCl (J : It) (g : TG) (tt : TT) (tb : TB) (vs : List Nat) : TB := fun σ H Q => ∃ W : Nat → Nat → Hp → Prop, (∃ m, W 0 m H) ∧ ∀ i m H, W i m H →
  (J.stop i H ∧ Q H) ∨ (J.go i H ∧ ∃ Nx : Hp → Prop, (∀ H', Nx H' → ∃ m', m' < m ∧ W (i + 1) m' H') ∧ ∀ x H', J.yld i H x H' → g x (wipe σ vs) H' fun σ2 H2 => wipe σ2 vs = wipe σ vs ∧ tt σ2 H2 fun b H3 => if b = true then tb σ2 H3 Nx else Nx H3)
section
variable {X : Cx}
/-- the next clause -/
def tNx (wi : TI) (g : TG) (tt : TT) (tb : TB) (ws : List Nat) : TB := fun σ H Q => wi σ H fun J H1 => tCl J g tt tb ws σ H1 Q
/-- a member is put -/
def tPutS (P : Program) (w : World) (D : Addr) (te : TE) : TB := fun σ H Q => te σ H fun y H1 => ∃ (z : Str) (S : Str → Bool) (n : Nat), y = .str z ∧ H1 D = some (SetT P w D S n) ∧ n + 1 < 4000 ∧ ∀ n', n' ≤ n + 1 → Q (upd H1 D (SetT P w D (fun j => S j || decide (j = z)) n'))
end
end RV
set_option linter.all false
/-! {x for a in .. if .. for b in .. ..}: the whole comprehension -/
namespace RV
open PySem L2 PySem.Spec PyProof.Rows
def BlkOf (X X' : Cx) (scope : Scope) : Prop := ∃ (s : Shared) (H : Hp) (C : Addr) (cl : List (Str × Addr)) (fp : List Addr), X' = X.blk s H scope (compEnvC scope cl C X.env) fp
section
variable {X : Cx}
def tSet (P : Program) (w : World) (wi : TI) (g : TG) (tt : TT) (tb : Addr → TB) (vs : List Nat) : TE := fun σ H Q => wi σ H fun J H1 => ∀ D, H1 D = none → tCl J g tt (tb D) vs σ (upd H1 D (SetT P w D (fun _ => false) 0)) fun H' => Q (.ref D) H'
end
end RV
set_option linter.all false
/-! {x for a in .. for b in ..} with two clauses and with three, the members texts -/
namespace RV
open PySem L2 PySem.Spec PyProof.Rows
section
variable {X : Cx}
end
section
variable {X : Cx} {K : PySem.W.Frag}
end
/-- everything but the object at d stays -/
def Sb (d : Addr) (H H' : Hp) : Prop := ∀ b o, b ≠ d → H b = some o → H' b = some o
/-- places -/
def pls (ps : List P3) : List Str := ps.flatMap fun p => [p.2.1, p.2.2]
def SortP (xs : List Str) (zs : List Str) : Prop := sortedS zs = true ∧ zs.Nodup ∧ ∀ z, z ∈ zs ↔ z ∈ xs
def sp_plc (K : PySem.W.Frag) (CN CP CM : Addr) : Sp := fun vs H Q _ => ∃ (x : Addr) (ps : List P3) (ms : List M3), vs = [.ref x] ∧ NetR K CN CP CM H x ps ms ∧ ps.length ≤ 12 ∧
  ∀ (t : Addr) (zs : List Str) H', Same H H' → H' t = some (.tup (zs.map V.str)) → SortP (pls ps) zs → zs.length ≤ 24 → Q (.ref t) H'
end RV
set_option linter.all false
/-! comprehensions over pairs of two tuples; flows at places -/
namespace RV
open PySem L2 PySem.Spec PyProof.Rows TL
section
variable {K : PySem.W.Frag} {a b : Addr} {xs ys : List V} {D : Addr} {te : TE} {tt : TT} {vs : List Nat} {σ : L2.St} {H1 : Hp} {Qd : Hp → Prop} {i j : Nat}
end
/-- what comes in less what goes out -/
def dvP (ps : List P3) (fs : List Int) (z : Str) : Int := dv ps.length (pS ps) (pE ps) (rwf fs) z
def sumAt (g : Nat → Str) (n : Nat) (fs : List Int) (z : Str) : List Int := ((List.range n).filter fun k => decide (g k = z)).map (rwf fs)
def flwB (ps : List P3) (fs : List Int) : Bool := decide (fs.length = ps.length) && (pls ps).all fun z => decide (dvP ps fs z = 0)
section
variable (K : PySem.W.Frag) (CN CP CM : Addr)
def sp_kat : Sp := fun vs H Q _ => ∃ (x t : Addr) (ps : List P3) (ms : List M3) (fs : List Int) (z : Str), vs = [.ref x, .ref t, .str z] ∧ NetR K CN CP CM H x ps ms ∧ ps.length ≤ 12 ∧ SqT K H t (fs.map V.int) ∧ fs.length = ps.length ∧ ∀ H', Same H H' → Q (.int (dvP ps fs z)) H'
def sp_isf : Sp := fun vs H Q _ => ∃ (x t : Addr) (ps : List P3) (ms : List M3) (fs : List Int), vs = [.ref x, .ref t] ∧ NetR K CN CP CM H x ps ms ∧ ps.length ≤ 12 ∧ SqT K H t (fs.map V.int) ∧ fs.length ≤ 1000 ∧ ∀ H', Same H H' → Q (.bl (flwB ps fs)) H'
/-- a ring through a pipe with so many meters -/
structure RingF (ps : List P3) (ms : List M3) (y : Str) (c : Nat) (fs : List Int) : Prop where
  len : fs.length = ps.length
  ring : ∃ p, p < ps.length ∧ pN ps p = y ∧ Ring ps.length (pS ps) (pE ps) (shutP ps ms) p (rwf fs) ∧ cnt ps.length (fun k => wtP ms (pN ps k)) (rwf fs) = c
def sp_ring : Sp := fun vs H Q _ => ∃ (x : Addr) (ps : List P3) (ms : List M3) (y : Str), vs = [.ref x, .str y] ∧ NetR K CN CP CM H x ps ms ∧ POk ps ∧ ms.length ≤ 12 ∧ y ∈ ps.map (·.1) ∧
  (strP ps ms y = none → ∀ H', Same H H' → Q .non H') ∧ ∀ c (t : Addr) fs H', strP ps ms y = some c → Same H H' → SqT K H' t (fs.map V.int) → RingF ps ms y c fs → Q (.ref t) H'
end
end RV
set_option linter.all false
/-! what the found ways are: rings without loops -/
namespace RV
open PySem L2 PyProof.Rows TL
def ZG (ps : List P3) (ms : List M3) (p : Nat) : Dist Str → Str → Nat → List Int → Prop := fun g x d fs => GW (pS ps) (pE ps) (fun k => wtP ms (pN ps k)) (okp ps.length (shutP ps ms) p) (pE ps p) g x d (rwf fs)
/-- the flow with 1 at a pipe -/
def ringL (ps : List P3) (y : Str) (fs : List Int) : List Int := (List.range ps.length).map fun k => if pN ps k = y then 1 else rwf fs k
end RV
set_option linter.all false
/-! rings of models -/
namespace RV
open PySem L2 PyProof.Rows TL
def sp_rr (K : PySem.W.Frag) (CN CP CM : Addr) : Sp := fun vs H Q _ => ∃ (l x : Addr) (M : Mod) (most more p : Nat), vs = [.ref l, .ref x, .int (p : Nat)] ∧ MdAt H l M ∧ MdOk M most more ∧ most ≤ 12 ∧ more ≤ 12 ∧ NetR K CN CP CM H x M.ps M.ms ∧ p < M.qs.length ∧ ∀ H', Same H H' → Q (.bl true) H'
end RV
set_option linter.all false
/-! for x, y, z in zip(a, b, c): three tuples -/
namespace RV
open PySem L2 PySem.Spec PyProof.Rows TL
/-- the tuples at a, b, c as they stand; the items in new tuples -/
def Itz3 (K : PySem.W.Frag) (a b c : Addr) : It :=
  ⟨fun i H => ∃ (xs ys zs : List V) (x y z : V), SqT K H a xs ∧ SqT K H b ys ∧ SqT K H c zs ∧ xs[i]? = some x ∧ ys[i]? = some y ∧ zs[i]? = some z,
    fun i H v H' => ∃ T x y z, v = .ref T ∧ H T = none ∧ H' = upd H T (.tup [x, y, z]) ∧ (∀ xs, SqT K H a xs → xs[i]? = some x) ∧ (∀ ys, SqT K H b ys → ys[i]? = some y) ∧ ∀ zs, SqT K H c zs → zs[i]? = some z,
    fun i H => ∃ xs ys zs : List V, SqT K H a xs ∧ SqT K H b ys ∧ SqT K H c zs ∧ xs.length = i ∧ ys.length = i ∧ zs.length = i⟩
def iZip3 (K : PySem.W.Frag) (ta : TA) : TI := fun σ H R => ta σ H fun vs H1 => ∃ a b c xs ys zs, vs = [.ref a, .ref b, .ref c] ∧ SqT K H1 a xs ∧ SqT K H1 b ys ∧ SqT K H1 c zs ∧ R (Itz3 K a b c) H1
def YTri (xs ys zs : Nat → Option V) : Nat → Hp → V → Hp → Prop := fun i H v H' => ∃ T x y z, v = .ref T ∧ H T = none ∧ H' = upd H T (.tup [x, y, z]) ∧ xs i = some x ∧ ys i = some y ∧ zs i = some z
end RV
set_option linter.all false
/-! worlds: readings, wrong and silent meters -/
namespace RV
open PySem L2 PySem.Spec PyProof.Rows TL
section
variable {J : It} {n : Nat} {GG : Hp → Prop} {Y : Nat → Hp → V → Hp → Prop} {g : TG} {tt : TT} {tk tv : TE} {vs : List Nat} {σ : L2.St} {H1 : Hp} {D : Addr} {Qd : Hp → Prop}
end
abbrev gTri (K : PySem.W.Frag) (i j l : Nat) : TG := gTup K 3 (gCons (gName i) (gCons (gName j) (gCons (gName l) gNil)))
section
variable {K : PySem.W.Frag} {a b c : Addr} {xs ys zs : List V} {D : Addr} {te : TE} {tt : TT} {vs : List Nat} {σ : L2.St} {H1 : Hp} {Qd : Hp → Prop} {i j l : Nat}
abbrev s3 (σ : L2.St) (i j l : Nat) (x y z : V) : L2.St := ((σ.set i (some x)).set j (some y)).set l (some z)
end
/-! ### readings -/
def vO : Option Int → V
  | none => .non
  | some c => .int c
def vR (rs : List (Option Int)) : List V := rs.map vO
def mN (ms : List M3) (k : Nat) : Str := (ms.getD k ("", "", false)).1
def mA (ms : List M3) (k : Nat) : Str := (ms.getD k ("", "", false)).2.1
def mZ (ms : List M3) (k : Nat) : Bool := (ms.getD k ("", "", false)).2.2
def rO (rs : List (Option Int)) (k : Nat) : Option Int := rs.getD k none
/-- the flow of the pipe of this name -/
def amt (ps : List P3) (fs : List Int) (y : Str) : Int := match ps.findIdx? fun p => decide (p.1 = y) with
  | some k => rwf fs k
  | none => 0
def rdF (ps : List P3) (ms : List M3) (fs : List Int) : List Int := ms.map fun m => amt ps fs m.2.1
structure RdOk (ms : List M3) (rs : List (Option Int)) : Prop where
  len : rs.length = ms.length
  sea : ∀ k, k < ms.length → mZ ms k = true → rO rs k ≠ none
structure WdOk (ps : List P3) (ms : List M3) (fs : List Int) (rs : List (Option Int)) : Prop where
  fl : fs.length = ps.length
  fw : flwB ps fs = true
  rd : RdOk ms rs
  sea : ∀ k, k < ms.length → mZ ms k = true → rO rs k = some (amt ps fs (mA ms k))
def wrB (ps : List P3) (ms : List M3) (fs : List Int) (rs : List (Option Int)) (k : Nat) : Bool := match rO rs k with
  | some v => decide (v ≠ amt ps fs (mA ms k))
  | none => false
def wrN (ps : List P3) (ms : List M3) (fs : List Int) (rs : List (Option Int)) : List Str := ((List.range ms.length).filter (wrB ps ms fs rs)).map (mN ms)
def slN (ms : List M3) (rs : List (Option Int)) : List Str := ((List.range ms.length).filter fun k => (rO rs k).isNone).map (mN ms)
def Asc (xs zs : List Str) : Prop := PyProof.Rows.sortedS zs = true ∧ zs.Perm xs
section
variable (K : PySem.W.Frag) (CN CP CM : Addr)
/-- a pair of a flow and readings -/
def WAt (H : Hp) (a : Addr) (fs : List Int) (rs : List (Option Int)) : Prop := ∃ tf tr, SqT K H a [.ref tf, .ref tr] ∧ SqT K H tf (fs.map V.int) ∧ SqT K H tr (vR rs)
def sp_rof : Sp := fun vs H Q _ => ∃ (x t : Addr) (ps : List P3) (ms : List M3) (fs : List Int), vs = [.ref x, .ref t] ∧ NetR K CN CP CM H x ps ms ∧ POk ps ∧ MOk ps ms ∧ SqT K H t (fs.map V.int) ∧ fs.length = ps.length ∧ flwB ps fs = true ∧
  ∀ (r : Addr) H', Same H H' → H' r = some (.tup ((rdF ps ms fs).map V.int)) → Q (.ref r) H'
def sp_isr : Sp := fun vs H Q _ => ∃ (a : Addr) (m : M3) (o : Option Int), vs = [.ref a, vO o] ∧ MetAt CM H a m ∧ Q (.bl (o.isSome || !m.2.2)) H
def sp_chr : Sp := fun vs H Q _ => ∃ (x t : Addr) (ps : List P3) (ms : List M3) (rs : List (Option Int)), vs = [.ref x, .ref t] ∧ NetR K CN CP CM H x ps ms ∧ ms.length ≤ 12 ∧ SqT K H t (vR rs) ∧ RdOk ms rs ∧ ∀ H', Same H H' → Q .non H'
def sp_are : Sp := fun vs H Q _ => ∃ (x t : Addr) (ps : List P3) (ms : List M3) (rs : List (Option Int)), vs = [.ref x, .ref t] ∧ NetR K CN CP CM H x ps ms ∧ ms.length ≤ 12 ∧ SqT K H t (vR rs) ∧ RdOk ms rs ∧ ∀ H', Same H H' → Q (.bl true) H'
def sp_seal : Sp := fun vs H Q _ => ∃ (x t r : Addr) (ps : List P3) (ms : List M3) (fs : List Int) (rs : List (Option Int)), vs = [.ref x, .ref t, .ref r] ∧ NetR K CN CP CM H x ps ms ∧ POk ps ∧ MOk ps ms ∧ SqT K H t (fs.map V.int) ∧ SqT K H r (vR rs) ∧ WdOk ps ms fs rs ∧ ∀ H', Same H H' → Q (.bl true) H'
def sp_isw : Sp := fun vs H Q _ => ∃ (x a : Addr) (ps : List P3) (ms : List M3) (fs : List Int) (rs : List (Option Int)), vs = [.ref x, .ref a] ∧ NetR K CN CP CM H x ps ms ∧ POk ps ∧ MOk ps ms ∧ WAt K H a fs rs ∧ WdOk ps ms fs rs ∧ ∀ H', Same H H' → Q (.bl true) H'
def sp_chw : Sp := fun vs H Q _ => ∃ (x a : Addr) (ps : List P3) (ms : List M3) (fs : List Int) (rs : List (Option Int)), vs = [.ref x, .ref a] ∧ NetR K CN CP CM H x ps ms ∧ POk ps ∧ MOk ps ms ∧ WAt K H a fs rs ∧ WdOk ps ms fs rs ∧ ∀ H', Same H H' → Q .non H'
def sp_sln : Sp := fun vs H Q _ => ∃ (x t : Addr) (ps : List P3) (ms : List M3) (rs : List (Option Int)), vs = [.ref x, .ref t] ∧ NetR K CN CP CM H x ps ms ∧ ms.length ≤ 12 ∧ SqT K H t (vR rs) ∧ rs.length = ms.length ∧
  ∀ (l : Addr) H', Same H H' → H l = none → H' l = some (.lst ((slN ms rs).map V.str)) → Q (.ref l) H'
def sp_wrm : Sp := fun vs H Q _ => ∃ (x a : Addr) (ps : List P3) (ms : List M3) (fs : List Int) (rs : List (Option Int)), vs = [.ref x, .ref a] ∧ NetR K CN CP CM H x ps ms ∧ POk ps ∧ MOk ps ms ∧ WAt K H a fs rs ∧ WdOk ps ms fs rs ∧
  ∀ (t : Addr) (zs : List Str) H', Same H H' → SqT K H' t (zs.map V.str) → Asc (wrN ps ms fs rs) zs → Q (.ref t) H'
def sp_slm : Sp := fun vs H Q _ => ∃ (x a : Addr) (ps : List P3) (ms : List M3) (fs : List Int) (rs : List (Option Int)), vs = [.ref x, .ref a] ∧ NetR K CN CP CM H x ps ms ∧ POk ps ∧ MOk ps ms ∧ WAt K H a fs rs ∧ WdOk ps ms fs rs ∧
  ∀ (t : Addr) (zs : List Str) H', Same H H' → SqT K H' t (zs.map V.str) → Asc (slN ms rs) zs → Q (.ref t) H'
end
end RV
set_option linter.all false
/-! two worlds with the same readings -/
namespace RV
open PySem L2 PySem.Spec PyProof.Rows TL
/-- what is seen in the world without flow and in the one with a ring -/
def seen (a c : Int) : Int → List Int → List (Option Int)
  | _, [] => []
  | met, v :: vs => if v = 0 then some 0 :: seen a c met vs else (if met < a then some v else if met < a + c then none else some 0) :: seen a c (met + 1) vs
def met (m : Int) : List Int → Int
  | [] => m
  | v :: vs => if v = 0 then met m vs else met (m + 1) vs
def isW1 (o : Option Int) : Bool := match o with
  | some r => decide (r ≠ 0)
  | none => false
def isW2 (q : Int × Option Int) : Bool := match q.2 with
  | some r => decide (r ≠ q.1)
  | none => false
def nz (vs : List Int) : Nat := (vs.filter fun v => decide (v ≠ 0)).length
section
variable (K : PySem.W.Frag) (CN CP CM : Addr)
def sp_seen : Sp := fun vs H Q _ => ∃ (x t f : Addr) (ps : List P3) (ms : List M3) (fs : List Int) (a b c : Int), vs = [.ref x, .ref t, .ref f] ∧ NetR K CN CP CM H x ps ms ∧ POk ps ∧ MOk ps ms ∧ SqT K H t (fs.map V.int) ∧ fs.length = ps.length ∧ flwB ps fs = true ∧ SqT K H f [.int a, .int b, .int c] ∧
  ∀ (r : Addr) H', Same H H' → SqT K H' r (vR (seen a c 0 (rdF ps ms fs))) → Q (.ref r) H'
/-- two worlds with the same readings -/
def MisAt (H : Hp) (t : Addr) (n : Nat) (fs : List Int) (rs : List (Option Int)) : Prop := ∃ u v tf tg tr, SqT K H t [.ref u, .ref v] ∧ SqT K H u [.ref tf, .ref tr] ∧ SqT K H v [.ref tg, .ref tr] ∧ SqT K H tf ((List.replicate n (0 : Int)).map V.int) ∧ SqT K H tg (fs.map V.int) ∧ SqT K H tr (vR rs)
def sp_misl : Sp := fun vs H Q _ => ∃ (x t : Addr) (ps : List P3) (ms : List M3) (y : Str) (a b c : Int), vs = [.ref x, .str y, .ref t] ∧ NetR K CN CP CM H x ps ms ∧ POk ps ∧ MOk ps ms ∧ y ∈ ps.map (·.1) ∧ SqT K H t [.int a, .int b, .int c] ∧ Flt a b c ∧
  (tellB (strP ps ms y) (a + b + c) = true → ∀ H', Same H H' → Q .non H') ∧
  ∀ (n : Nat) (r : Addr) fs H', strP ps ms y = some n → (n : Int) ≤ a + b + c → RingF ps ms y n fs → Same H H' → MisAt K H' r ps.length fs (seen a c 0 (rdF ps ms fs)) → Q (.ref r) H'
end
end RV
set_option linter.all false
/-! lists of indexes; worlds of models -/
namespace RV
open PySem L2 PySem.Spec PyProof.Rows TL
def vI (k : Nat) : V := .int (k : Int)
section
variable {K : PySem.W.Frag} {D : Addr} {te : TE} {tt : TT} {vs : List Nat} {σ : L2.St} {H1 : Hp} {Qd : Hp → Prop} {i : Nat} {J : It} {GG : Hp → Prop}
end
def sp_lw (K : PySem.W.Frag) : Sp := fun vs H Q _ => ∃ (l a : Addr) (M : Mod) (most more : Nat) (fs : List Int) (rs : List (Option Int)), vs = [.ref l, .ref a] ∧ MdAt H l M ∧ MdOk M most more ∧ most ≤ 12 ∧ more ≤ 12 ∧ WAt K H a fs rs ∧ WdOk M.ps M.ms fs rs ∧ (∀ c ∈ rs, True) ∧
  ∀ (r lw lm : Addr) H', Same H H' → H' r = some (.lst [.ref lw, .ref lm]) → H' lw = some (.lst (((List.range M.ms.length).filter (wrB M.ps M.ms fs rs)).map vI)) → H' lm = some (.lst (((List.range M.ms.length).filter fun k => (rO rs k).isNone).map vI)) → Q (.ref r) H'
end RV
set_option linter.all false
/-! misleading pairs of models -/
namespace RV
open PySem L2 PySem.Spec PyProof.Rows TL
def dI (k : Nat) : PyData := .int (k : Int)
def dR (o : Option Int) : PyData := match o with
  | none => .none
  | some c => .int c
section
variable {K : PySem.W.Frag} {H : Hp}
end
def sp_flt : Sp := fun vs H Q _ => ∃ (w : Addr) (n : Nat) (m : Int), vs = [.ref w, .int m] ∧ WellAt H w n ∧ n < 900000 ∧ 0 ≤ m ∧ m ≤ 3 ∧
  ∀ (t : Addr) (a b c : Int) H', Grow w H H' → WellAt H' w (n + 5) → H t = none → H' t = some (.tup [.int a, .int b, .int c]) → t ≠ w → Flt a b c → Q (.ref t) H'
def sp_pr (K : PySem.W.Frag) (CN CP CM : Addr) : Sp := fun vs H Q _ => ∃ (l x t : Addr) (M : Mod) (most more p : Nat) (a b c : Int), vs = [.ref l, .ref x, .int (p : Nat), .ref t] ∧ MdAt H l M ∧ MdOk M most more ∧ most ≤ 12 ∧ more ≤ 12 ∧ NetR K CN CP CM H x M.ps M.ms ∧ p < M.qs.length ∧ SqT K H t [.int a, .int b, .int c] ∧ Flt a b c ∧ ∀ H', Same H H' → Q (.bl true) H'
/-! ### the two worlds -/
section
variable {M : Mod} {most more p n : Nat} {fs : List Int} {a b c : Int}
end
end RV
/-! Own errors over any built-in base, with an own __init__ that keeps one value. -/
namespace RV
open PySem L2
/-- what is known of such a class at C -/
structure OEx (K : PySem.W.Frag) (C : Addr) (n nw it : String) (tl : List Value) : Prop where
  fb : ExcBaseFacts n nw it tl
  sf : StoreFacts n tl "object.__setattr__" "object"
  ini : PySem.W.excInitIn K C tl nw = true
  ov : PySem.W.excOver K C tl = true
  hd : PySem.W.hasDictIn K C = true
  sa : PySem.W.findIn K (.ref C) "__setattr__" = some (some (.builtin "object.__setattr__"))
  eb : PySem.W.subIn K (.ref C) (.type "BaseException") = some true
  ty : PySem.W.typeIn K (.ref C) = some (.type "type")
  kp : PySem.W.keepIn K (.ref C) = true
  ga : PySem.W.findIn K (.ref C) "__getattribute__" = some (some (.builtin "BaseException.__getattribute__"))
  gg : PySem.W.findIn K (.ref C) "__getattr__" = some none
  cl : PySem.W.findIn K (.ref C) "__class__" = some (some (.builtin "object.__class__"))
  sp : PySem.W.specialIn K (.builtin "object.__class__") "__get__" = some (some (.builtin "getset_descriptor.__get__"))
  tk : PySem.W.takesIn K (.builtin "object.__class__") = some true
  mo : PySem.W.mroIn K C (.type "object") = some true
def OwnX (K : PySem.W.Frag) (C : Addr) : Prop := ∃ n nw it tl, OEx K C n nw it tl
section
variable {P : Program} {w : World} {A : Around} {E : Value → Shared → Prop} {K : PySem.W.Frag} {C x t1 : Addr} {n nw it : String} {tl : List Value} {f : Str} {v : Value} {hp : Heap} {g : Array GenState} {d : Drawn} {t : Nat} {os : OsState} {Q : Unit → Shared → Prop}
/-- the first value that is put on such an error: its dict is made -/
theorem first_field (T : OEx K C n nw it tl) (X : K.In hp) (hx : hp.get? x = some (PySem.W.excObj C t1 none .none)) (hno : PySem.W.takerIn K C f = some none)
    (hq : ∀ h' tk' dx, (∀ b o, b ≠ x → hp.get? b = some o → h'.get? b = some o) → hp.objs.size ≤ dx → dx ≠ x → h'.get? x = some (PySem.W.excObj C t1 (some dx) .none) → h'.Ns1 dx (fun y => if y = f then some v else none) → Q () ⟨h', g, d, tk', os⟩) :
    wpAny (model P w) A (setAttr (.ref x) f v) Q E ⟨hp, g, d, t, os⟩ := by
  refine PySem.W.set_plain X (ox := PySem.W.excObj C t1 none .none) (od := none) ⟨hx, rfl, rfl, trivial⟩ T.sa ?_
  refine PySem.W.osa_openX (od := none) T.sf X ⟨hx, rfl, rfl, trivial⟩ T.ov hno fun b => ?_
  obtain ⟨cd, hc, hd'⟩ := PySem.W.any_some T.hd
  have xs : x ≠ hp.objs.size := Nat.ne_of_lt (Heap.lt_size hx)
  refine wpAny_bind (wpAny_pure (wpAny_bind (PySem.W.instanceDict_exc hx (PySem.W.looks_clsIn X hc) hd' ?_)))
  refine PySem.HandSPX.store_in_new ⟨_, #[], _, (Heap.get?_update_ne _ _ _ _ xs.symm).trans (Heap.get?_push_at rfl rfl), rfl, fun e he => absurd he (by simp), fun _ => rfl⟩ fun h' tk' hn hs => ?_
  refine hq h' tk' hp.objs.size (fun b o hb ho => ?_) (Nat.le_refl _) xs.symm ?_ hn
  · exact (hs.2 b (Nat.ne_of_lt (Heap.lt_size ho))).trans ((Heap.get?_update_ne _ _ _ _ hb).trans (Heap.get?_push_of_some _ ho))
  · exact (hs.2 x xs).trans (Heap.get?_update_self _ (Heap.get?_push_of_some _ hx) rfl)
end
section
variable {X : Cx} {pins : List (Addr × Obj)} {σ : L2.St} {H : Hp} {s : Shared} {a C : Addr} {f : Str} {y : V} {u : Value} {Q : Unit → Shared → Prop} {E : Value → Shared → Prop} {A : Around}
theorem give_new (T : OwnX X.K C) (I : Inv X pins σ H s) (e : H a = some (exo a C none)) (hno : PySem.W.takerIn X.K C f = some none) (ry : RelV y u)
    (h : ∀ dx s', H dx = none → dx ≠ a → Inv X pins σ (upd (upd H dx (exd dx [(f, y)])) a (exo a C (some dx))) s' → Q () s') : wpAny (model X.prog X.w) A (setAttr (.ref a) f u) Q E s := by
  obtain ⟨n, nw, it, tl, T⟩ := T
  obtain ⟨t1, ho⟩ := exo_at I.hok e
  obtain ⟨hp, g, d, t, os⟩ := s
  refine first_field T I.kIn ho hno fun h' tk' dx k big nx hx hn => ?_
  have fr : H dx = none := I.hok.fresh big
  have old : ∀ {b o}, hp.get? b = some o → b ≠ dx := fun q => Nat.ne_of_lt (Nat.lt_of_lt_of_le (Heap.lt_size q) big)
  have na : ∀ {b}, H b = none → b ≠ a := fun n => (ne_of_none e n).symm
  have two : ∀ {b o}, H b = some o → exo a C none ≠ o → upd (upd H dx (exd dx [(f, y)])) a (exo a C (some dx)) b = some o := fun {b o} q ne => by
    rw [upd_ne (at_ne e q ne), upd_ne (ne_of_none q fr), q]
  have un : Un X.fs [] H (upd (upd H dx (exd dx [(f, y)])) a (exo a C (some dx))) hp h' := by
    refine ⟨fun b o q n _ _ => k b o (na n) q, fun b o q n _ _ => ⟨o.slots, k b o (na n) q⟩, fun b o q n _ => ?_, fun b o q _ => ?_, fun b xs q => two q exo_tup, fun b o v q => two q exo_frz, fun b ps q => ⟨#[], ?_⟩⟩
    · rw [upd_ne (na n), upd_ne (old q)]
      exact n
    · rcases Decidable.em (b = a) with rfl | hb
      · exact ⟨_, hx⟩
      · exact ⟨o, k b o hb q⟩
    · rw [two q exo_tbl]
      simp
  refine h dx _ fr nx (I.un (t' := tk') un fun b o q => ?_)
  rcases Decidable.em (b = a) with rfl | hb
  · rw [upd_same] at q
    cases q
    exact exo_ok hx
  rw [upd_ne hb] at q
  rcases Decidable.em (b = dx) with rfl | hb'
  · rw [upd_same] at q
    cases q
    exact exd_ok hn (relO_put (fs := []) ry fun g => True.intro)
  rw [upd_ne hb'] at q
  refine (I.hok b o q).stay (fun c v hc z => k c v ?_ z) (fun c hc => two hc exo_own) (fun c xs hc => two hc exo_tup)
  rcases hc with rfl | hc
  · exact hb
  · exact at_ne e hc exo_own
end
/-- self.f = e on a new error -/
def tGive (K : PySem.W.Frag) (f : Str) (to te : TE) : TS := fun D σ H => te σ H fun y H1 => to σ H1 fun x H2 => ∃ a C : Addr, x = .ref a ∧ OwnX K C ∧ PySem.W.takerIn K C f = some none ∧ H2 a = some (exo a C none) ∧
  ∀ dx, H2 dx = none → dx ≠ a → D.nx σ (upd (upd H2 dx (exd dx [(f, y)])) a (exo a C (some dx)))
theorem ps_give {X : Cx} {o e : Expr} {to te : TE} {f : Str} {p' pos : Pos} (ho : PE X o to) (he : PE X e te) (hs : swapsWith e (some (.Attribute o f p')) pos.line X.env = pure false := by rfl) : PS X (.Assign [.Attribute o f p'] e pos) (tGive X.K f to te) := by
  refine ⟨fun pins s σ H D I h => plainObj_wpAny_Assign_Attribute (thn (he.run pins s σ H _ I h) ?_) hs⟩
  rintro v s1 ⟨y, H1, I1, r1, q1⟩
  refine thn (ho.run pins s1 σ H1 _ I1 q1) ?_
  rintro u s2 ⟨x, H2, I2, r2, a, C, rfl, T, hno, ea, q⟩
  obtain rfl : u = Value.ref a := r2
  exact give_new T I2 ea hno r1 fun dx s' n ne J => ⟨σ, _, J, q dx n ne⟩
/-- what follows is never met -/
theorem pss_dead {X : Cx} {l : List Stmt} : PSs X l (fun _ _ _ => False) := ⟨fun _ _ _ _ _ _ h => h.elim⟩
theorem pe_dead {X : Cx} {e : Expr} : PE X e (fun _ _ _ => False) := ⟨fun _ _ _ _ _ _ h => h.elim⟩
/-- what __init__(self, y): self.f = y does -/
def sp_give (C : Addr) (f : Str) : Sp := fun vs H Q _ => ∃ (a : Addr) (y : V), vs = [.ref a, y] ∧ H a = some (exo a C none) ∧ ∀ dx, H dx = none → dx ≠ a → Q .non (upd (upd H dx (exd dx [(f, y)])) a (exo a C (some dx)))
/-- the error class x of the module stands at C: x(e) keeps e as f -/
structure Err (P : Program) (w : World) (K : PySem.W.Frag) (mg : Str → Option Value) (base : Heap) (x : Str) (C : Addr) (f : Str) : Prop where
  at_ : mg x = some (.ref C)
  own : OwnX K C
  tk : PySem.W.takerIn K C f = some none
  no : PySem.W.findIn K (.ref C) f = some none
  ini : ∃ fI fd ps, PySem.W.findIn K (.ref C) "__init__" = some (some (.ref fI)) ∧ PySem.W.typeIn K (.ref fI) = some (.type "function") ∧ Binds K fd ps [] ∧ FnOk P w K mg base CX0 1 fI fd ps (sp_give C f)
/-- x(e): an error of the class at C with the dict d -/
def tErr (C : Addr) (f : Str) (ta : TA) : L2.St → Hp → XK → Prop := fun σ H Q => ta σ H fun vs H1 => ∃ y, vs = [y] ∧ ∀ d, H1 d = none → Q (.ref C) (some d) (upd H1 d (.xd [(f, y)]))
theorem pmk_err {X : Cx} {x f : Str} {C : Addr} {e : Expr} {ta : TA} {p pos : Pos} (T : Err X.prog X.w X.K X.mg X.base x C f) (hr : Room 2 X.A) (ha : PA X [e] ta) (hg : Gl X x := by rfl) (hdb : (x == ("__debug__" : Str)) = false := by decide)
    (he : starEach [e] X.env = (false, eval e X.env) :: starEach [] X.env := by rfl) : PMk X (.Call (.Name x p) [e] [] pos) (tErr C f ta) := by
  intro pins s σ H Q I h
  obtain ⟨n, nw, it, tl, O⟩ := T.own
  obtain ⟨fI, fd, ps, iC, tI, hb, F⟩ := T.ini
  refine wpAny_Call_Name_kw (ld_glob I hg T.at_ ?_ hdb)
  refine PySem.W.callWith_K (h₀ := X.base) I.ok.mod.kin O.kp (thn (ha.run pos pins s σ H _ I h) ?_) he rfl
  rintro us s1 ⟨vs, H1, I1, r1, y, rfl, q1⟩
  refine ⟨I1.kIn, ?_⟩
  obtain ⟨hp, g, dr, tk, os⟩ := s1
  obtain ⟨nm, N, qn, bs, bm, hdct, sn, sub, ab, col, dd, k0, k1, k2, k3, k5, hC, hT⟩ := PySem.W.excInit_of I1.kIn O.ini
  have hn : H1 (hp.objs.size + 1) = none := I1.hok.fresh (Nat.le_succ _)
  have kk : ∀ b o, hp.get? b = some o → ((hp.push (PySem.W.kdv_tup us)).push (PySem.HandSPX.excO C hp.objs.size)).get? b = some o := fun b o z => Heap.get?_push_of_some _ (Heap.get?_push_of_some _ z)
  have I2 := I1.laid (t' := tk) (a := hp.objs.size + 1) (o := exo (hp.objs.size + 1) C none) kk (Nat.le_succ _) (exo_ok (by heap_get))
  obtain ⟨ur, rfl⟩ : ∃ u, us = [u] := by
    cases r1 with
    | cons ru rr =>
      cases rr
      exact ⟨_, rfl⟩
  have ry : RelV y ur := by
    cases r1 with
    | cons ru rr => exact ru
  have hq : sp_give C f [.ref (hp.objs.size + 1), y] (upd H1 (hp.objs.size + 1) (exo (hp.objs.size + 1) C none))
      (fun v H2 => v = .non ∧ ∃ d, H1 d = none ∧ d ≠ hp.objs.size + 1 ∧ H2 = upd (upd (upd H1 (hp.objs.size + 1) (exo (hp.objs.size + 1) C none)) d (exd d [(f, y)])) (hp.objs.size + 1) (exo (hp.objs.size + 1) C (some d))) E0 :=
    ⟨_, y, rfl, upd_same, fun d nd ne => ⟨rfl, d, by rw [upd_ne ne] at nd; exact nd, ne, rfl⟩⟩
  have hl : [Value.ref (hp.objs.size + 1), ur].length = ps.length := (F.len _ _ _ _ hq : _)
  have hl' : ([Value.ref (hp.objs.size + 1), ur] ++ ([] : List Value)).length = ps.length := hl
  refine wpAny_call (PySem.HandSPX.call_own O.fb hT hC (PySem.W.looks_findIn I1.kIn iC) (fun self => PySem.W.bind_fn I1.kIn self tI) (by show 1 ≤ sizeLine; decide)
    (codeAny_mono (F.run _ X.stack _ _ ⟨[Value.ref (hp.objs.size + 1), ur], []⟩ [Value.ref (hp.objs.size + 1), ur] _ _ E0 (hr.make C [ur] []) (I2.env0.make C [ur] []) (hb _ [Value.ref (hp.objs.size + 1), ur] I2.kIn hl') (show Vals [V.ref (hp.objs.size + 1), y] [Value.ref (hp.objs.size + 1), ur] from .cons rfl (.cons ry .nil)) hq) ?_))
  rintro (er | fl) s' hq'
  · exact hq'.elim
  cases fl with
  | ret u =>
    obtain ⟨v, H2, os2, bare2, un2, hok2, rv, rfl, d, nd, ne, e2⟩ := hq'
    obtain ⟨h2, g2, d2, t2, os'⟩ := s'
    subst e2
    refine ⟨rv, mk_end (raises_own O.eb O.ty) I1 (Nat.le_succ _) kk un2 hok2 os2 bare2 upd_same (by rw [upd_ne ne, upd_same]) nd ?_⟩
    have fin : upd (del (upd (upd (upd H1 (hp.objs.size + 1) (exo (hp.objs.size + 1) C none)) d (exd d [(f, y)])) (hp.objs.size + 1) (exo (hp.objs.size + 1) C (some d))) (hp.objs.size + 1)) d (.xd [(f, y)]) = upd H1 d (.xd [(f, y)]) := by
      funext b
      rcases Decidable.em (b = d) with rfl | hb
      · rw [upd_same, upd_same]
      · rw [upd_ne hb, upd_ne hb]
        rcases Decidable.em (b = hp.objs.size + 1) with rfl | hb'
        · rw [del_same, hn]
        · rw [del_ne hb', upd_ne hb', upd_ne hb, upd_ne hb']
    rw [fin]
    exact q1 d nd
  | next => exact hq'.elim
  | brk => exact hq'.elim
  | cont => exact hq'.elim
end RV
/-! A try whose clauses bear names; clauses of one class, of a tuple of classes; what a suite asks of the error. -/
namespace RV
open PySem L2
/-- behind a suite its name is gone -/
def gone (i : Nat) (D : Ends) : Ends := { nx := fun σ H => D.nx (σ.set i none) H, rt := D.rt, bk := fun σ H => D.bk (σ.set i none) H, ct := fun σ H => D.ct (σ.set i none) H }
/-- a clause: what its test says of an error's class, its name's slot, its suite -/
structure Cl where
  says : Value → Option Bool
  slot : Nat
  ts : Addr → Value → Option Addr → TS
/-- what is wished of an error of the body -/
def wish (W0 : WX) (D : Ends) : List Cl → WX
  | [] => W0
  | c :: r => fun cls d σ H => ∃ b, c.says cls = some b ∧ (b = true → ∀ a, H a = none → c.ts a cls d (gone c.slot D) (σ.set c.slot (some (.ref a))) H) ∧ (b = false → wish W0 D r cls d σ H)
/-- the test of a clause -/
structure Tests (X : Cx) (t : Expr) (f : Value → Option Bool) : Prop where
  run : ∀ (a : Addr) (oe : Obj) (b : Bool) (pn : List (Addr × Obj)) (s : Shared) (σ : L2.St) (H : Hp) (Q : Bool → Shared → Prop) (E : Value → Shared → Prop), f oe.cls = some b → Inv (X.suite a ((a, oe) :: pn)) [] σ H s →
    (∀ h' tk, (∀ p o, s.heap.get? p = some o → h'.get? p = some o) → Q b { s with heap := h', toks := tk }) →
    wpAny (model X.prog X.w) (X.A.mark (some (.ref a))) (eval t X.env) (fun c s₁ => wpAny (model X.prog X.w) (X.A.mark (some (.ref a))) (excMatches (.ref a) c) Q E s₁) E s
inductive ClsOk (X : Cx) : List ExceptHandler → List Cl → Prop
  | nil : ClsOk X [] []
  | cons {t : Expr} {n : Str} {i : Nat} {f : Value → Option Bool} {ts : Addr → Value → Option Addr → TS} {b₀ : Stmt} {suite : List Stmt} {pos' : Pos} {hds : List ExceptHandler} {l : List Cl} (hi : X.N[i]? = some n) (hln : X.env.kindOf n = some .local) (ht : Tests X t f)
      (hsu : ∀ (a : Addr) (oe : Obj) (cls : Value) (d : Option Addr) (pn : List (Addr × Obj)), Zc cls d oe → (∃ vs, oe.data = .fields vs) → PSs (X.suite a ((a, oe) :: pn)) (b₀ :: suite) (ts a cls d)) (r : ClsOk X hds l) :
      ClsOk X (.ExceptHandler (some t) (some n) (b₀ :: suite) pos' :: hds) (⟨f, i, ts⟩ :: l)
theorem fly_keeps {B h h' : Heap} {l : List Env} {a : Addr} {Z : Obj → Prop} (f : PySem.HandSPX.FlyingZ B l a Z h) (k : ∀ p o, h.get? p = some o → h'.get? p = some o) : PySem.HandSPX.FlyingZ B l a Z h' := by
  obtain ⟨st, n, ff, oe, vs, T, oT, ts, e1, z, d, e2, bT, nT, e3, d3, e4⟩ := f
  exact ⟨fun p o q => k p o (st p o q), n, ff.of_keeps (fun p o q _ => ⟨o, k p o q, rfl⟩), oe, vs, T, oT, ts, k _ _ e1, z, d, e2, bT, nT, k _ _ e3, d3, e4⟩
section
variable {X : Cx} {body : List Stmt} {h₀ : ExceptHandler} {hds : List ExceptHandler} {l : List Cl} {pos : Pos} {tb : WX → TS} {W0 : WX}
theorem ps_try_cl (hs : X.stack = X.env :: X.outer) (hf : X.env.frame = some X.env.locals) (hN : X.N.Nodup) (tk : Takes X W0)
    (hb : ∀ (W : WX) (pn : List (Addr × Obj)) (xe : Value → Shared → Prop), Takes (X.tr pn xe) W → PassesOwn (model X.prog X.w) X.A X.env xe → PSs (X.tr pn xe) body (tb W))
    (hh : ClsOk X (h₀ :: hds) l) : PS X (.Try body (h₀ :: hds) [] [] pos) (fun D σ H => tb (wish W0 D l) D σ H) := by
  refine ⟨fun pins s σ H D I h => wpAny_Try_except ?_⟩
  have ok := I.ok
  have hfr : X.A.frames = some (X.env :: X.outer) := by rw [ok.frames, hs]
  refine wpAny_mono ((hb (wish W0 D l) (X.pn ++ pins) (fun e s1 => wpAny (model X.prog X.w) X.A (noteFrame e X.env) (fun _ s2 => wpAny (model X.prog X.w) X.A (setFlight e none) (fun _ s3 =>
    wpAny (model X.prog X.w) X.A (handleBy e X.env (h₀ :: hds)) (SP X pins D) X.xe s3) X.xe s2) X.xe s1) ?_ PassesOwn.looking).run [] s σ H D (I.toTry _) h) ?_ fun e s1 he => he
  · rintro u s' ⟨a, B, sI, pins', σ', H', cls, d, rfl, J', nb, up, sky, na, os, ag, wd⟩
    have J : Inv X pins σ' H' sI := J'.ofTry ok
    rw [show (X.tr (X.pn ++ pins) _).stack = X.env :: X.outer from hs] at sky
    refine Sky.land Zc.steady hfr hf sky fun h3 fl3 up3 => ?_
    have off : ∀ {h : Heap}, PySem.HandSPX.FlyingZ B (X.env :: X.outer) a (Zc cls d) h → a ≠ X.env.locals ∧ a ∉ X.fs := fun {h} f => by
      obtain ⟨oe, vs, he, _, hd⟩ := f.there
      have nf : a ∉ frs (X.env :: X.outer) := fun hm => by
        obtain ⟨_, o', e', hnf⟩ := f.2.2.1.mem hm
        rw [he] at e'
        cases e'
        exact hnf _ hd
      refine ⟨fun z => nf (List.mem_filterMap.mpr ⟨X.env, List.mem_cons_self, by rw [hf, z]⟩), fun hm => ?_⟩
      obtain ⟨e, he, q⟩ := List.mem_filterMap.mp hm
      exact nf (List.mem_filterMap.mpr ⟨e, List.mem_cons_of_mem _ he, q⟩)
    have step : ∀ {hds' : List ExceptHandler} {l' : List Cl}, ClsOk X hds' l' → ∀ (h4 : Heap) (t4 : Nat), PySem.HandSPX.FlyingZ B (X.env :: X.outer) a (Zc cls d) h4 → s'.heap.UpToSlots h4 → wish W0 D l' cls d σ' H' →
        wpAny (model X.prog X.w) X.A (handleBy (.ref a) X.env hds') (SP X pins D) X.xe { s' with heap := h4, toks := t4 } := by
      intro hds' l' hk
      induction hk with
      | nil =>
        intro h4 t4 fl4 up4 w4
        refine wpAny_handleBy_nil ?_
        obtain ⟨_, _, _, oe, vs, T, oT, ts', he, hz, hd, h1, _⟩ := id fl4
        unfold PySem.passOn
        refine wpAny_bind (wpAny_field he hd h1 ?_)
        rw [if_neg (show ¬ ((Value.ref T == Value.none) = true) from by simp)]
        have fin : wpAny (model X.prog X.w) X.A (setFlight (.ref a) X.env.frame) (fun _ s5 => wpAny (model X.prog X.w) X.A (throw (.ref a) : Sem Flow) (SP X pins D) X.xe s5) X.xe { s' with heap := h4, toks := t4 } := by
          rw [hf]
          refine PySem.HandSPX.setFlight_upZ fl4 fun h5 hh5 up5 => wpAny_throw (tk _ _ ?_)
          exact ⟨a, B, sI, pins, σ', H', cls, d, rfl, J, nb, (up.trans up4).trans up5, .inr (.inr (by rw [hs]; exact hh5)), na, os, ag, w4⟩
        first
          | exact wpAny_bind (wpAny_pure (wpAny_bind fin))
          | exact wpAny_bind fin
      | @cons t n i f ts b₀ suite pos' hds2 l2 hi hln ht hsu r ih =>
        intro h4 t4 fl4 up4 w4
        obtain ⟨b, e1, yes, no⟩ := w4
        obtain ⟨oe, vs, he, hz, hd⟩ := fl4.there
        have J4 : Inv X pins σ' H' { s' with heap := h4, toks := t4 } := J.landed (s' := { s' with heap := h4, toks := t4 }) nb fl4.1 (up.trans up4) os ag
        have S4 := J4.suite he hd na (off fl4).1 (off fl4).2
        refine wpAny_handleBy_cons (codeAny_handlers_test (ht.run a oe b _ _ _ _ _ _ (by rw [hz.1]; exact e1) S4 fun h5 t5 k5 => ?_)) (by intro q; cases q)
        have fl5 := fly_keeps fl4 k5
        have up5 := up4.trans (Heap.UpToSlots.of_keeps k5)
        cases b with
        | false =>
          show wpAny _ X.A (handleBy (.ref a) X.env hds2) _ _ _
          exact ih h5 t5 fl5 up5 (no rfl)
        | true =>
          refine codeAny_handlers_suite_as (PySem.HandSPX.lands_againZ fl5 fun h6 fl6 up6 => ?_)
          have J6 : Inv X pins σ' H' { s' with heap := h6, toks := t5 } := J.landed (s' := { s' with heap := h6, toks := t5 }) nb fl6.1 (up.trans (up5.trans up6)) os ag
          obtain ⟨oe6, vs6, he6, hz6, hd6⟩ := fl6.there
          refine store_ok (X := X.suite a ((a, oe6) :: (X.pn ++ pins))) (v := .ref a) (J6.suite he6 hd6 na (off fl6).1 (off fl6).2) hN hi (.inl hln) rfl (fun s7 S7 => ?_) (.inr hln)
          refine wpAny_mono ((hsu a oe6 cls d (X.pn ++ pins) hz6 ⟨_, hd6⟩).run [] s7 _ H' _ S7 (yes rfl a na)) ?_ fun _ _ z => z.elim
          have away : ∀ {s8 : Shared} {σ8 : L2.St} {H8 : Hp} {Q : Shared → Prop}, Inv (X.suite a ((a, oe6) :: (X.pn ++ pins))) [] σ8 H8 s8 → (∀ s9, Inv X pins (σ8.set i none) H8 s9 → Q s9) →
              wpAny (model X.prog X.w) X.A (do bindName X.env n .none; unbindBehindTheSuite X.env n pos') (fun _ s9 => Q s9) X.xe s8 := fun S8 q => gone_ok (S8.unsuite ok) hN hi hln q
          rintro (_ | _ | _ | u) s8 hsp
          · obtain ⟨σ8, H8, S8, q8⟩ := hsp
            exact away S8 fun s9 J9 => ⟨_, _, J9, q8⟩
          · obtain ⟨σ8, H8, S8, q8⟩ := hsp
            exact away S8 fun s9 J9 => ⟨_, _, J9, q8⟩
          · obtain ⟨σ8, H8, S8, q8⟩ := hsp
            exact away S8 fun s9 J9 => ⟨_, _, J9, q8⟩
          · obtain ⟨v8, σ8, H8, S8, r8, q8⟩ := hsp
            exact away S8 fun s9 J9 => ⟨_, _, _, J9, r8, q8⟩
    exact step hh h3 s'.toks fl3 up3 wd
  · rintro (_ | _ | _ | u) s1 hsp
    · obtain ⟨σ1, H1, J1, q⟩ := hsp
      exact wpAny_execs_nil ⟨σ1, H1, J1.ofTry ok, q⟩
    · obtain ⟨σ1, H1, J1, q⟩ := hsp
      exact ⟨σ1, H1, J1.ofTry ok, q⟩
    · obtain ⟨σ1, H1, J1, q⟩ := hsp
      exact ⟨σ1, H1, J1.ofTry ok, q⟩
    · obtain ⟨v, σ1, H1, J1, r, q⟩ := hsp
      exact ⟨v, σ1, H1, J1.ofTry ok, r, q⟩
end
/-! ### tests -/
section
variable {X : Cx}
theorem looks_cls {M : Model} {h : Heap} {a : Addr} {oe : Obj} (e : h.get? a = some oe) : PySem.W.Looks M h (typeOf (.ref a)) oe.cls := fun A Q E s k q => wpAny_typeOf_ref (k _ _ e) q
theorem tests_three {x y z : Str} {c1 c2 c3 : Value} {p1 p2 p3 p : Pos} {k : Nat} (h1 : Names X x c1) (h2 : Names X y c2) (h3 : Names X z c3) : Tests X (.Tuple [.Name x p1, .Name y p2, .Name z p3] k p) (fun cls => PySem.W.exmAny X.K cls [c1, c2, c3]) := by
  refine ⟨fun a oe b pn s σ H Q E e S q => ?_⟩
  have he := (S.pin (a, oe) (List.mem_append_left _ List.mem_cons_self)).1
  have nm : ∀ {x : Str} {c : Value} {p : Pos} {Q : Value → Shared → Prop}, Names X x c → Q c s → wpAny (model X.prog X.w) (X.A.mark (some (.ref a))) (eval (.Name x p) X.env) Q E s := by
    rintro x c p Q ⟨hg, hd, hm | ⟨hm, hv, hn⟩⟩ w
    · exact ld_glob (X := X.suite a ((a, oe) :: pn)) S hg hm w hd
    · exact ld_blt (X := X.suite a ((a, oe) :: pn)) S hg hm hv w hn hd
  refine wpAny_Tuple_spliced ?_
  refine PySem.Calls.spliced_cons (nm h1 ?_)
  refine PySem.Calls.spliced_cons (nm h2 ?_)
  refine PySem.Calls.spliced_cons (nm h3 ?_)
  refine PySem.Calls.spliced_nil ⟨(by show 3 ≤ sizeLine; decide), ?_⟩
  refine (PySem.W.exm_tup3 (h := s.heap.push { cls := .type "tuple", data := .seq [c1, c2, c3].toArray }) (S.kIn.keeps fun _ _ w => Heap.get?_push_of_some _ w) (looks_cls (Heap.get?_push_of_some _ he)) (Heap.get?_push_size _ rfl) e).here (q _ _ fun _ _ w => Heap.get?_push_of_some _ w)
end
end RV
/-! What is asked of a caught error: isinstance, its field. -/
namespace RV
open PySem L2
/-- the error at a, of the class cls with the dict d, keeps y as f -/
def Kept (K : PySem.W.Frag) (cls : Value) (d : Option Addr) (f : Str) (y : V) (D dd : Addr) (H : Hp) : Prop := cls = .ref D ∧ d = some dd ∧ OwnX K D ∧ PySem.W.findIn K (.ref D) f = some none ∧ H dd = some (.xd [(f, y)])
@[irreducible] def rIsO (K : PySem.W.Frag) (a : Addr) (cls : Value) (d : Option Addr) : List V → Hp → VK → Prop := fun xs H Q =>
  ∃ (D dd : Addr) (f : Str) (y c : V) (cv : Value) (b : Bool), xs = [.ref a, c] ∧ Kept K cls d f y D dd H ∧ (∀ u, RelV c u → u = cv) ∧ PySem.W.kitOne K (.ref D) cv = some b ∧ Q (.bl b) H
def tXo (K : PySem.W.Frag) (a : Addr) (cls : Value) (d : Option Addr) (f : Str) (te : TE) : TE := fun σ H Q => te σ H fun x H1 => x = .ref a ∧ ∃ (D dd : Addr) (y : V), Kept K cls d f y D dd H1 ∧ Q y H1
section
variable {X : Cx} {a : Addr} {oe : Obj} {cls : Value} {d : Option Addr}
theorem inst_err {pins : List (Addr × Obj)} {s : Shared} {σ : L2.St} {H : Hp} {f : Str} {y : V} {D dd : Addr} (I : Inv X pins σ H s) (hp : (a, oe) ∈ X.pn) (hz : Zc cls d oe) (hf : ∃ vs, oe.data = .fields vs) (k : Kept X.K cls d f y D dd H) :
    ∃ od u, PySem.W.InstAt s.heap a oe D (some od) ∧ PySem.W.lookIn f od = some (some u) ∧ RelV y u := by
  obtain ⟨rfl, rfl, _, _, e⟩ := k
  have z : ObjOk X.prog X.w H s.heap dd (.xd [(f, y)]) := I.hok dd _ e
  obtain ⟨mA, hns, hr⟩ := z
  obtain ⟨od, ho, hl⟩ := lookIn_ns hns
  obtain ⟨u, hu, ru⟩ := RelO.some_of (v := y) (o := mA f) (by have q := hr f; simpa [List.lookup] using q)
  obtain ⟨vs, hd⟩ := hf
  exact ⟨od, u, ⟨(I.pin (a, oe) (List.mem_append_left _ hp)).1, hz.1, by unfold PySem.W.notCls; rw [hd] <;> rfl, by rw [hz.2]; exact ho⟩, by rw [hl, hu], ru⟩
theorem call_isO (hp : (a, oe) ∈ X.pn) (hz : Zc cls d oe) (hf : ∃ vs, oe.data = .fields vs) : CallR X (.builtin "isinstance") (rIsO X.K a cls d) := by
  intro pins s σ H xs us Q I r h
  unfold rIsO at h
  obtain ⟨D, dd, f, y, c, cv, b, rfl, k, hcv, e, q⟩ := h
  obtain ⟨od, u, J, _, _⟩ := inst_err I hp hz hf k
  obtain ⟨_, _, ⟨n, nw, it, tl, O⟩, _, _⟩ := k
  cases r with
  | cons rx rr =>
    cases rr with
    | cons rt rr =>
      cases rr
      cases rx
      cases hcv _ rt
      obtain ⟨cd, hc, _⟩ := PySem.W.any_some O.hd
      exact PySem.W.kia_one (PySem.W.kitx_exc (by rw [hc]; rfl) O.ga O.gg O.eb O.cl O.sp O.tk O.mo) I.kIn J e (fun z => nomatch z) fun tk => ⟨.bl b, H, I.kept (t' := tk) fun _ _ z => z, rfl, q⟩
theorem pe_xo {e : Expr} {te : TE} {f : Str} {pos : Pos} (hp : (a, oe) ∈ X.pn) (hz : Zc cls d oe) (hf : ∃ vs, oe.data = .fields vs) (he : PE X e te) (hb : attributeBase e f X.env (eval e X.env) = eval e X.env := by rfl) : PE X (.Attribute e f pos) (tXo X.K a cls d f te) := by
  refine ⟨fun pins s σ H Q I h => attr_of hb (thn (he.run pins s σ H _ I h) ?_)⟩
  rintro u s1 ⟨x, H1, I1, rx, rfl, D, dd, y, k, q⟩
  obtain rfl : u = Value.ref a := rx
  obtain ⟨od, u, J, hl, ru⟩ := inst_err I1 hp hz hf k
  obtain ⟨_, _, ⟨n, nw, it, tl, O⟩, no, _⟩ := k
  exact PySem.HandSPX.exc_get I1.kIn J O.ga O.gg O.eb (PySem.W.findObj_own O.hd no rfl hl) (handed_of ru) ⟨y, H1, I1.tok _, ru, q⟩
end
theorem kit_eq {K : PySem.W.Frag} {t : Value} {C : Addr} {b : Bool} (hd : PySem.W.hasDictIn K C = true) (ty : PySem.W.typeIn K (.ref C) = some (.type "type")) (self : PySem.W.subIn K (.ref C) (.ref C) = some true) (hs : PySem.W.subIn K t (.ref C) = some b) : PySem.W.kitOne K t (.ref C) = some b := by
  obtain ⟨cd, hc, _⟩ := PySem.W.any_some hd
  unfold PySem.W.kitOne
  split
  · rename_i e
    rw [beq_iff_eq.mp e, self] at hs
    exact hs
  · show (if ((PySem.W.clsIn K C).isSome && PySem.W.typeIn K (.ref C) == some (.type "type")) = true then PySem.W.subIn K t (.ref C) else none) = some b
    rw [if_pos (by rw [hc, ty]; rfl)]
    exact hs
theorem exm_eq {K : PySem.W.Frag} {C : Addr} {cls : Value} {b : Bool} (eb : PySem.W.subIn K (.ref C) (.type "BaseException") = some true) (hd : PySem.W.hasDictIn K C = true) (ty : PySem.W.typeIn K (.ref C) = some (.type "type")) (hs : PySem.W.subIn K cls (.ref C) = some b) : PySem.W.exmOne K cls (.ref C) = some b :=
  PySem.W.exm_ref eb hd ty hs
end RV
/-! Odd values: data, among them small dicts; how they are shown, what isinstance says of them. -/
namespace RV
open PySem L2 PyProof.Rows TL
inductive Odd (K : PySem.W.Frag) (H : Hp) : V → PyData → Prop
  | dat {v : V} {d : PyData} : Dp K H v d → Odd K H v d
  | dic0 {a : Addr} : H a = some (.dK []) → Odd K H (.ref a) (.dict [])
  | dic1 {a : Addr} {k : Str} {i : Int} : H a = some (.dK [(.inr k, .int i)]) → Odd K H (.ref a) (.dict [(.str k, .int i)])
theorem same_new {H : Hp} {p : Addr} {o : HO} (n : H p = none) : Same H (upd H p o) := fun b u q => by
  rw [upd_ne (ne_of_none q n)]
  exact q
section
variable {K : PySem.W.Frag} {H H' : Hp}
mutual
theorem dp_same (s : Same H H') : ∀ {v : V} {d : PyData}, Dp K H v d → Dp K H' v d
  | _, _, .non => .non
  | _, _, .bl b => .bl b
  | _, _, .int i => .int i
  | _, _, .str x => .str x
  | _, _, .lst h l => .lst (h.ext s) (dpAll_same s l)
  | _, _, .tup h l => .tup (h.ext s) (dpAll_same s l)
theorem dpAll_same (s : Same H H') : ∀ {vs : List V} {ds : List PyData}, DpAll K H vs ds → DpAll K H' vs ds
  | _, _, .nil => .nil
  | _, _, .cons h l => .cons (dp_same s h) (dpAll_same s l)
end
theorem Odd.same (s : Same H H') {v : V} {d : PyData} : Odd K H v d → Odd K H' v d
  | .dat h => .dat (dp_same s h)
  | .dic0 e => .dic0 (s _ _ e)
  | .dic1 e => .dic1 (s _ _ e)
end
/-- small enough to be shown, its ints too -/
structure Fine (d : PyData) : Prop where
  sh : Shw d 60 1000000
  it : ∀ i, d = .int i → i.natAbs.log2 < 1920
  sk : PyData.strOk d.shown = true
@[irreducible] def rReprO (K : PySem.W.Frag) : List V → Hp → VK → Prop := fun xs H Q => ∃ (v : V) (d : PyData), xs = [v] ∧ Odd K H v d ∧ Fine d ∧ Q (.str d.shown) H
section
variable {X : Cx}
theorem call_reprO (hu : X.A.units + 64 < cLine) (hg : X.A.guards = some []) : CallR X (.builtin "repr") (rReprO X.K) := by
  intro pins s σ H xs us Q I r h
  unfold rReprO at h
  obtain ⟨v, d, rfl, hd, F, q⟩ := h
  have hsz : d.shown.length ≤ sizeLine := Nat.le_trans F.sh.ln (by decide)
  have hdp : d.depth ≤ 60 := F.sh.dp
  cases r with
  | cons r1 r2 =>
  cases r2
  cases hd with
  | dat hd =>
    cases hd with
    | non =>
      cases r1
      exact PySem.P.repr_of_none ⟨.str "None", H, I.tok _, ⟨_, rfl⟩, by simpa [PyData.shown] using q⟩
    | bl b =>
      cases r1
      refine PySem.P.repr_of_bool ⟨.str (if b then "True" else "False"), H, I.tok _, ⟨_, by cases b <;> rfl⟩, ?_⟩
      cases b <;> simpa [PyData.shown] using q
    | int i =>
      obtain ⟨t, rfl⟩ := r1
      exact PySem.P.repr_of_int (F.it i rfl) ⟨.str (toString i), H, I.tok _, ⟨_, rfl⟩, by simpa [PyData.shown] using q⟩
    | str x =>
      obtain ⟨t, rfl⟩ := r1
      have e : (PyData.str x).shown = reprText x := by simp [PyData.shown]
      rw [e] at q hsz
      exact PySem.P.repr_of_str ⟨.str (reprText x), H, I.tok _, ⟨_, rfl⟩, q⟩ hsz
    | @lst a xs ds h1 h2 =>
      cases r1
      have hd : Dp X.K H (.ref a) (.list ds) := .lst h1 h2
      obtain ⟨as, rd⟩ := Dp.reads I _ _ _ hd rfl
      exact repr_of_reads' rd F.sh.ok (fun hh => by rw [Dp.noDict hd] at hh; cases hh) hg (by omega) (fun _ _ e => e) (fun h' u tk hk => ⟨.str _, H, I.kept hk, ⟨u, rfl⟩, q⟩) hsz
    | @tup a xs ds h1 h2 =>
      cases r1
      have hd : Dp X.K H (.ref a) (.tuple ds) := .tup h1 h2
      obtain ⟨as, rd⟩ := Dp.reads I _ _ _ hd rfl
      exact repr_of_reads' rd F.sh.ok (fun hh => by rw [Dp.noDict hd] at hh; cases hh) hg (by omega) (fun _ _ e => e) (fun h' u tk hk => ⟨.str _, H, I.kept hk, ⟨u, rfl⟩, q⟩) hsz
  | @dic0 a e =>
    cases r1
    obtain ⟨_, nm, vs, kv, o, es, ep, e1, ⟨e2, e3⟩, e4, _, pr, _⟩ := dk_of I.hok e
    cases kv
    have z : es.toList = [] := by
      generalize es.toList = l at pr ⊢
      cases pr
      rfl
    have rd : Reads s.heap (.ref a) (.dict []) (a :: [] ++ []) := .dict e1 e2 e4 (by rw [z]; exact .nil) (by rw [z]; exact .nil)
    exact repr_of_reads' rd F.sh.ok (fun _ hm => by simp at hm; rw [hm] at nm; simp at nm) hg (by omega) (fun _ _ e => e) (fun h' u tk hk => ⟨.str _, H, I.kept hk, ⟨u, rfl⟩, q⟩) hsz
  | @dic1 a k i e =>
    cases r1
    obtain ⟨_, nm, vs, kv, o, es, ep, e1, ⟨e2, e3⟩, e4, _, pr, _⟩ := dk_of I.hok e
    cases kv with
    | @cons _ q' _ _ hk hr =>
      cases hr
      obtain ⟨k1, v1⟩ := q'
      obtain ⟨rfl, t, rfl⟩ := hk
      obtain ⟨el, z, kk, vv⟩ : ∃ el, es.toList = [el] ∧ (mixKind X.prog X.w).is (.inr k) el.key = true ∧ el.val = .int i t := by
        generalize es.toList = l at pr
        cases pr with
        | cons h1 h2 h3 =>
          cases h3
          exact ⟨_, rfl, h1, h2⟩
      obtain ⟨i0, t0, z0, _⟩ | ⟨x0, t0, z0, z1⟩ := keyIs_shape (k := .inr k) (v := el.key) kk
      · cases z0
      · cases z0
        have rd : Reads s.heap (.ref a) (.dict [(.str k, .int i)]) (a :: ([] ++ []) ++ ([] ++ [])) :=
          .dict e1 e2 e4 (by rw [z]; exact .cons (show Reads s.heap el.key (.str k) [] by rw [z1]; exact .str _ _) .nil) (by rw [z]; exact .cons (show Reads s.heap el.val (.int i) [] by rw [vv]; exact .int _ _) .nil)
        exact repr_of_reads' rd F.sh.ok (fun _ hm => by simp at hm; rw [hm] at nm; simp at nm) hg (by omega) (fun _ _ e => e) (fun h' u tk hk => ⟨.str _, H, I.kept hk, ⟨u, rfl⟩, q⟩) hsz
theorem call_reprOK (K : PySem.W.Frag) (hu : X.A.units + 64 < cLine) (hg : X.A.guards = some []) (h : X.K = K := by rfl) : CallR X (.builtin "repr") (rReprO K) := h ▸ call_reprO hu hg
end
theorem reprO_of {K : PySem.W.Frag} {H : Hp} {v : V} {d : PyData} {Q : VK} (o : Odd K H v d) (F : Fine d) (q : Q (.str d.shown) H) : rReprO K [v] H Q := by
  unfold rReprO
  exact ⟨v, d, rfl, o, F, q⟩
section
variable {K : PySem.W.Frag} {a D dd C : Addr} {cls : Value} {d : Option Addr} {f : Str} {y : V} {H : Hp} {b : Bool} {Q : VK}
theorem rIsO_ref (k : Kept K cls d f y D dd H) (hk : PySem.W.kitOne K (.ref D) (.ref C) = some b) (q : Q (.bl b) H) : rIsO K a cls d [.ref a, .ref C] H Q := by
  unfold rIsO
  exact ⟨D, dd, f, y, _, _, b, rfl, k, fun _ r => r, hk, q⟩
end
end RV
/-! Promises of the program where it refuses: which error, what it keeps. -/
namespace RV
open PySem L2 PyProof.Rows TL
/-! ### defs that may let an error out -/
section
variable {P : Program} {w : World} {K : PySem.W.Frag} {mg : Str → Option Value} {base : Heap} {k : Nat} {f : Addr} {fd : FuncData} {ps : List Str} {sp sp1 sp2 : Sp}
def orS (sp1 sp2 : Sp) : Sp := fun vs H Q E => sp1 vs H Q E ∨ sp2 vs H Q E
theorem fok_or (h1 : FnOk P w K mg base CX0 k f fd ps sp1) (h2 : FnOk P w K mg base (L2.CX P w) k f fd ps sp2) : FnOk P w K mg base (L2.CX P w) k f fd ps (orS sp1 sp2) := by
  refine ⟨fun vs H Q E h => h.elim (h1.len _ _ _ _) (h2.len _ _ _ _), fun A outer s H args us vs Q E hr e0 hb r h => ?_⟩
  rcases h with h | h
  · refine codeAny_mono (h1.run A outer s H args us vs Q E hr e0 hb r h) fun x s' hq => ?_
    cases x with
    | error e => exact hq.elim
    | ok fl => cases fl <;> exact hq
  · exact h2.run A outer s H args us vs Q E hr e0 hb r h
/-- a function of the module that may refuse -/
def Fx (P : Program) (w : World) (K : PySem.W.Frag) (mg : Str → Option Value) (base : Heap) (x : Str) (k : Nat) (ps : List Str) (sp : Sp) : Prop :=
  ∃ f fd, mg x = some (.ref f) ∧ PySem.W.keepIn K (.ref f) = true ∧ Binds K fd ps [] ∧ FnOk P w K mg base (L2.CX P w) k f fd ps sp
def MtdX (P : Program) (w : World) (K : PySem.W.Frag) (mg : Str → Option Value) (base : Heap) (C : Addr) (m : Str) (k : Nat) (ps : List Str) (sp : Sp) : Prop :=
  Cls K C ∧ ∃ f fd, Meth K C m f ∧ Binds K fd ps [] ∧ FnOk P w K mg base (L2.CX P w) k f fd ps sp
theorem Fx.irr {x : Str} (h : Fx P w K mg base x k ps sp) : Fx P w K mg base x k ps (Irr sp) := by
  obtain ⟨f, fd, a, b, c, F⟩ := h
  exact ⟨f, fd, a, b, c, F.imp fun _ _ _ _ z => irr_of z⟩
end
section
variable {X : Cx} {x m : Str} {C : Addr} {k : Nat} {ps : List Str} {sp : Sp} {e o : Expr} {es : List Expr} {t : TA} {ta : TE} {p pos apos : Pos} {E : XK} {W : WX}
theorem pe_fx (h : Fx X.prog X.w X.K X.mg X.base x k ps sp) (hr : Room k X.A) (hx : Passes (L2.CX X.prog X.w) X E) (ha : PA X (e :: es) t) (hg : Gl X x := by rfl) (hdb : (x == ("__debug__" : Str)) = false := by decide)
    (he : starEach (e :: es) X.env = (false, eval e X.env) :: starEach es X.env := by rfl) (hpl : (backTo pos (starEach es X.env)).any (·.1) = false := by rfl) :
    PE X (.Call (.Name x p) (e :: es) [] pos) (tCall sp [] E t) := by
  obtain ⟨f, fd, hm, hk, hb, F⟩ := h
  exact pe_call F hr hg hm hk hb .nil hx ha hdb he hpl
end
/-! ### the types of odd values -/
def odT : PyData → Value
  | .none => .type "NoneType"
  | .bool _ => .type "bool"
  | .int _ => .type "int"
  | .str _ => .type "str"
  | .list _ => .type "list"
  | .tuple _ => .type "tuple"
  | .dict _ => .type "dict"
def isS : PyData → Bool
  | .str _ => true
  | _ => false
def isT : PyData → Bool
  | .tuple _ => true
  | _ => false
theorem tyx_lst {K : PySem.W.Frag} {H : Hp} {a : Addr} {xs : List V} (h : SqL K H a xs) : TyX K H (.ref a) (.type "list") := by
  rcases h with (h | ⟨o, h⟩) | ⟨o, its, n, h, hc, _⟩
  · exact .base (.lst h)
  · exact .base (.frz h)
  · exact .kList h hc
theorem Odd.ty {K : PySem.W.Frag} {H : Hp} {v : V} {d : PyData} (h : Odd K H v d) : TyX K H v (odT d) := by
  cases h with
  | dat h =>
    cases h with
    | non => exact .base .non
    | bl b => exact .base (.bl b)
    | int i => exact .base (.int i)
    | str x => exact .base (.str x)
    | lst h _ => exact tyx_lst h
    | tup h _ => exact tyx_tup h
  | dic0 e => exact .base (.dK e)
  | dic1 e => exact .base (.dK e)
theorem kit_odS (K : PySem.W.Frag) (d : PyData) : PySem.W.kitOne K (odT d) (.type "str") = some (isS d) := by
  cases d <;> exact kit_ty (by rfl)
/-- no built-in value is one of the class at C -/
def Alien (K : PySem.W.Frag) (C : Addr) : Prop := ∀ d : PyData, PySem.W.kitOne K (odT d) (.ref C) = some false
/-! ### what is refused -/
/-- the error of the class at C that keeps v is let out -/
def ErrS (C : Addr) (v : V) (H : Hp) (E : XK) : Prop := ∀ d H', Same H H' → H' d = some (.xd [("given", v)]) → E (.ref C) (some d) H'
theorem ErrS.same {C : Addr} {v : V} {H H1 : Hp} {E : XK} (h : ErrS C v H E) (s : Same H H1) : ErrS C v H1 E := fun d H' s1 e => h d H' (s.trans s1) e
theorem ErrS.new {C : Addr} {v : V} {H : Hp} {E : XK} (h : ErrS C v H E) {d : Addr} (n : H d = none) : E (.ref C) (some d) (upd H d (.xd [("given", v)])) := h d _ (fun b o q => by rw [upd_ne (ne_of_none q n)]; exact q) upd_same
/-- is it a bound, are these faults -/
def bdB : PyData → Bool
  | .int i => decide (0 ≤ i) && decide (i ≤ 3)
  | _ => false
def ftB : PyData → Bool
  | .tuple [.int a, .int b, .int c] => bdB (.int a) && bdB (.int b) && bdB (.int c) && decide (a ≤ b)
  | _ => false
section
variable (K : PySem.W.Frag) (CN CP CM CE CU CF : Addr)
def BadNet (v : V) (H : Hp) : Prop := ∃ d, Odd K H v d
def BadNm (v : V) (H : Hp) (ns : List Str) : Prop := ∃ d, Odd K H v d ∧ ∀ y, d = .str y → y ∉ ns
def BadFt (v : V) (H : Hp) : Prop := ∃ d, Odd K H v d ∧ ftB d = false
def sp_chnX : Sp := fun vs H _ E => ∃ v, vs = [v] ∧ BadNet K v H ∧ ErrS CE v H E
def sp_indexO : Sp := fun vs H Q _ => ∃ (t : Addr) (us : List PU) (v : V), vs = [.ref t, v] ∧ Tps K CP H t us ∧ us.length ≤ 12 ∧ BadNm K v H ((sn us).map (·.1)) ∧ ∀ H', Same H H' → Q .non H'
def sp_gpipeX : Sp := fun vs H _ E => ∃ (x : Addr) (ps : List P3) (ms : List M3) (v : V), vs = [.ref x, v] ∧ NetR K CN CP CM H x ps ms ∧ ps.length ≤ 12 ∧ BadNm K v H (ps.map (·.1)) ∧ ErrS CU v H E
def sp_isbO : Sp := fun vs H Q _ => ∃ (v : V) (d : PyData), vs = [v] ∧ Odd K H v d ∧ Q (.bl (bdB d)) H
def sp_arfO : Sp := fun vs H Q _ => ∃ v, vs = [v] ∧ BadFt K v H ∧ ∀ H', Same H H' → Q (.bl false) H'
def sp_chfX : Sp := fun vs H _ E => ∃ v, vs = [v] ∧ BadFt K v H ∧ ErrS CF v H E
/-- the net, or the name -/
def sp_twoX : Sp := fun vs H _ E => ∃ (n v : V), vs = [n, v] ∧ ((BadNet K n H ∧ ErrS CE n H E) ∨
  (∃ (x : Addr) (ps : List P3) (ms : List M3), n = .ref x ∧ NetR K CN CP CM H x ps ms ∧ ps.length ≤ 12 ∧ BadNm K v H (ps.map (·.1)) ∧ ErrS CU v H E))
/-- the net, or the name, or the faults -/
def sp_threeX : Sp := fun vs H _ E => ∃ (n v f : V), vs = [n, v, f] ∧ ((BadNet K n H ∧ ErrS CE n H E) ∨
  (∃ (x : Addr) (ps : List P3) (ms : List M3), n = .ref x ∧ NetR K CN CP CM H x ps ms ∧ ps.length ≤ 12 ∧ BadNm K v H (ps.map (·.1)) ∧ ErrS CU v H E) ∨
  (∃ (x : Addr) (ps : List P3) (ms : List M3) (y : Str), n = .ref x ∧ v = .str y ∧ NetR K CN CP CM H x ps ms ∧ ps.length ≤ 12 ∧ y ∈ ps.map (·.1) ∧ BadFt K f H ∧ ErrS CF f H E))
end
end RV
/-! Values that are no faults, as the law sees them. -/
namespace RV
open PySem L2 PyProof.Rows TL
/-- the texts of the bounds -/
def dig4 : List V := [.str "0", .str "1", .str "2", .str "3"]
/-- shown as a bound exactly if it is one -/
structure Bnd (d : PyData) : Prop where
  fine : Fine d
  bd : inV (.str d.shown) dig4 = bdB d
/-- what may be handed over as faults -/
structure FitD (d : PyData) : Prop where
  fine : Fine d
  el : ∀ ds, d = .tuple ds → ∀ e ∈ ds, Bnd e
def sp_fit (K : PySem.W.Frag) : Sp := fun vs H Q _ => ∃ (v : V) (d : PyData), vs = [v] ∧ Odd K H v d ∧ FitD d ∧ ∀ H', Same H H' → Q (.bl (ftB d)) H'
end RV
/-! Odd values of the law: that they are small, that they are shown as they should. -/
namespace RV
open PySem L2 PyProof.Rows TL
/-! ### plain texts -/
def Low (x : Str) : Prop := ∀ c ∈ cd x, c < 1000
theorem low_c {x : Str} (h : (cd x).all (fun c => decide (c < 1000)) = true) : Low x := fun c hc => of_decide_eq_true (List.all_eq_true.mp h c hc)
theorem low_nm {x : Str} (h : IsNm x) : Low x := fun c hc => by
  have q := List.all_eq_true.mp (isNm_all h) c hc
  simp only [tailC, lowC, digC, Bool.or_eq_true, Bool.and_eq_true, decide_eq_true_eq] at q
  omega
theorem low_app {x y : Str} (a : Low x) (b : Low y) : Low (x ++ y) := fun c hc => by
  rw [cd_app] at hc
  exact (List.mem_append.mp hc).elim (a c) (b c)
/-! ### the signs of a shown text -/
def Sg (l : List Nat) : Prop := ∀ c ∈ l, c < 0x110000
theorem sg_char (c : Char) : c.toNat < 0x110000 := by
  have h := c.valid
  have e : c.toNat = c.val.toNat := rfl
  rw [e]
  rcases h with h | ⟨_, h⟩
  · omega
  · exact h
theorem sg_hex (w c : Nat) : Sg (List.replicate (w - ((Nat.toDigits 16 c).map Char.toNat).length) 48 ++ (Nat.toDigits 16 c).map Char.toNat) := fun d hd => by
  rcases List.mem_append.mp hd with h | h
  · rw [(List.mem_replicate.mp h).2]
    decide
  · obtain ⟨k, _, rfl⟩ := List.mem_map.mp h
    exact sg_char k
theorem sg_app {a b : List Nat} (x : Sg a) (y : Sg b) : Sg (a ++ b) := fun c hc => (List.mem_append.mp hc).elim (x c) (y c)
theorem sg_reprChar {q c : Nat} (h : c < 0x110000) : Sg (Builtin.Str.reprChar q c) := by
  unfold Builtin.Str.reprChar
  dsimp only
  have two : ∀ {a : Nat}, a < 0x110000 → Sg [92, a] := fun {a} ha d hd => by
    simp only [List.mem_cons, List.not_mem_nil, or_false] at hd
    rcases hd with rfl | rfl
    · decide
    · exact ha
  split
  · exact two h
  split
  · exact two (by decide)
  split
  · exact two (by decide)
  split
  · exact two (by decide)
  split
  · intro d hd
    rw [List.mem_singleton.mp hd]
    exact h
  split
  · exact sg_app (two (by decide)) (sg_hex _ _)
  split
  · exact sg_app (two (by decide)) (sg_hex _ _)
  · exact sg_app (two (by decide)) (sg_hex _ _)
theorem sg_fold {q : Nat} : ∀ (l : List Nat) (acc : Array Nat), Sg l → Sg acc.toList → Sg (l.foldl (fun out c => out ++ (Builtin.Str.reprChar q c).toArray) acc).toList
  | [], _, _, h => h
  | c :: l, acc, hl, h => sg_fold l _ (fun d hd => hl d (List.mem_cons_of_mem _ hd)) (by
      rw [Array.toList_append]
      exact sg_app h (by simpa using sg_reprChar (hl c List.mem_cons_self)))
theorem ok_sg {x : Str} : PyData.strOk x = true ↔ Sg (cd x) := by
  unfold PyData.strOk Sg cd
  rw [← Array.all_toList, List.all_eq_true]
  constructor
  · intro h c hc
    exact of_decide_eq_true (h c hc)
  · intro h c hc
    exact decide_eq_true (h c hc)
theorem ok_repr {x : Str} (h : Low x) : PyData.strOk (reprText x) = true := by
  rw [ok_sg]
  have q : ∀ {d : Nat}, d = reprQuote x → d < 0x110000 := fun {d} e => by
    rw [e]
    unfold reprQuote
    split <;> decide
  unfold reprText
  show Sg ((x.cps.foldl (fun out c => out ++ (Builtin.Str.reprChar (reprQuote x) c).toArray) #[reprQuote x]).push (reprQuote x)).toList
  rw [Array.toList_push, ← Array.foldl_toList]
  refine sg_app (sg_fold _ _ (fun c hc => Nat.lt_trans (h c hc) (by decide)) fun c hc => ?_) fun c hc => ?_
  · exact q (by simpa using hc)
  · exact q (List.mem_singleton.mp hc)
theorem fine_str {x : Str} (h : Low x) (hl : x.length ≤ 90000) : Fine (.str x) := by
  have e : (PyData.str x).shown = reprText x := by simp [PyData.shown]
  refine ⟨⟨by simp [PyData.showable], by simp [PyData.depth], ?_⟩, fun i e => (by cases e), by rw [e]; exact ok_repr h⟩
  have h1 := StrLaws.reprText_len x fun c hc => Nat.lt_trans (h c hc) (by decide)
  rw [e]
  omega
/-! ### values without a letter -/
def fineB (d : PyData) : Bool := PyData.strOk d.shown && d.showable && decide (d.depth ≤ 60) && decide (d.shown.length ≤ 1000000) && (match d with | .int i => decide (i.natAbs.log2 < 1920) | _ => true)
theorem fine_by {d : PyData} (h : fineB d = true) : Fine d := by
  unfold fineB at h
  simp only [Bool.and_eq_true, decide_eq_true_eq] at h
  obtain ⟨⟨⟨⟨h0, h1⟩, h2⟩, h3⟩, h4⟩ := h
  refine ⟨⟨h1, h2, h3⟩, fun i e => ?_, h0⟩
  subst e
  exact of_decide_eq_true h4
def bndB (d : PyData) : Bool := fineB d && (inV (.str d.shown) dig4 == bdB d)
def fitB (d : PyData) : Bool := fineB d && (match d with | .tuple ds => ds.all bndB | _ => true)
def fltD (i j : Int) : PyData := .tuple [.int i, .int 3, .int j]
/-! ### the ledger -/
theorem upd_two {H : Hp} {p : Addr} {o o' : HO} : upd (upd H p o) p o' = upd H p o' := by
  funext b
  by_cases hb : b = p
  · rw [hb, upd_same, upd_same]
  · rw [upd_ne hb, upd_ne hb, upd_ne hb]
theorem Has.rebase {a : Addr} {n : Nat} {L : List (Addr × HO)} {H0 H : Hp} (h : Has H0 a n L H) : Has H a n L H := ⟨Grow.refl a H, h.well, h.here⟩
theorem merge1 (k : Key) (v : V) : L2.mergeK [] [(k, v)] = [(k, v)] := by
  first
    | rfl
    | simp [L2.mergeK, L2.putK]
theorem same_del {a : Addr} {H H' : Hp} (s : Same (L2.del H a) H') : Same (L2.del H a) (L2.del H' a) := fun b o e => by
  by_cases hb : b = a
  · rw [hb, del_same] at e
    cases e
  · rw [del_ne hb]
    exact s b o e
/-- what stands, the well aside -/
theorem Has.rest {a p : Addr} {n : Nat} {L : List (Addr × HO)} {H0 H : Hp} {o : HO} (h : Has H0 a n L H) (m : (p, o) ∈ L) : del H a p = some o := by
  rw [del_ne (h.here _ m).1]
  exact (h.here _ m).2
theorem grow_del {a : Addr} {H H' : Hp} (g : Grow a H H') : Same (del H a) H' := fun b o e => by
  by_cases hb : b = a
  · rw [hb, del_same] at e
    cases e
  · rw [del_ne hb] at e
    exact g b o hb e
end RV
/-! The odd values that the law hands over. -/
namespace RV
open PySem L2 PyProof.Rows TL
def strU (y : Str) : V × PyData := (.str y, .str y)
def oddU (l0 d0 t0 t1 l1 : Addr) (g T : Str) : List (V × PyData) := [(.non, .none), (.int 0, .int 0), (.bl true, .bool true), strU "", (.ref l0, .list []), (.ref d0, .dict []), (.ref t0, .tuple []), strU "P", (.ref t1, .tuple [.str g]), (.ref l1, .list [.str g]),
  strU (g ++ "?"), strU T, (.int (-1), .int (-1))]
def extU (d1 t2 : Addr) (g : Str) : List (V × PyData) := [(.ref d1, .dict [(.str "pipes", .int 1)]), (.ref t2, .tuple [.list []]), strU (g ++ "z")]
def othU (l0 d0 t0 t1 l1 d1 t2 : Addr) (g T : Str) (pl gs : List Str) : List (V × PyData) := oddU l0 d0 t0 t1 l1 g T ++ pl.map strU ++ gs.map strU ++ extU d1 t2 g
def ben1 (b1 b2 b3 b4 b5 b6 b7 b8 : Addr) : List (V × PyData) := [(.ref b1, .tuple [.int 0, .int 0]), (.ref b2, .tuple [.int 1, .int 0, .int 0]), (.ref b3, .tuple [.int 0, .int 4, .int 0]), (.ref b4, .tuple [.int 0, .int 0, .int 4]), (.ref b5, .tuple [.int (-1), .int 0, .int 0]),
  (.ref b6, .list [.int 0, .int 0, .int 0]), (.non, .none), (.ref b7, .tuple [.int 0, .int 0, .bool true]), (.ref b8, .tuple [.int 0, .int 1, .str "0"])]
def ben2 (c1 c2 c3 c5 c6 c7 : Addr) : List (V × PyData) := [(.ref c1, .tuple [.int 2, .int 1, .int 0]), (.ref c2, .tuple [.int 0, .int 0, .int 0, .int 0]), strU "000", (.int 0, .int 0), (.ref c3, .tuple [.bool false, .int 0, .int 0]), (.ref c5, .tuple [.list [], .int 0, .int 0]),
  (.ref c6, .tuple [.int 0, .int 0, .int (-1)]), (.ref c7, .tuple [.int 4, .int 4, .int 0])]
def ben3 (e2 e3 e4 : Addr) : List (V × PyData) := [(.ref e2, .tuple [.tuple [.int 0], .int 0, .int 0]), (.ref e3, .dict []), (.ref e4, .tuple [.int 3, .int 2, .int 3])]
def GoodO (K : PySem.W.Frag) (H : Hp) (us : List (V × PyData)) : Prop := ∀ u ∈ us, Odd K H u.1 u.2 ∧ Fine u.2
def GoodF (K : PySem.W.Frag) (H : Hp) (us : List (V × PyData)) : Prop := ∀ u ∈ us, Odd K H u.1 u.2 ∧ FitD u.2
section
variable {K : PySem.W.Frag} {H : Hp}
end
/-! ### what is drawn in a turn -/
/-- the net, or an odd value -/
def FO (K : PySem.W.Frag) (x : Addr) (v : V) (H : Hp) : Prop := v = .ref x ∨ ∃ d, Odd K H v d ∧ Fine d
/-- a name, or any other value -/
def FB (K : PySem.W.Frag) (v : V) (d : PyData) (H : Hp) : Prop := Odd K H v d ∧ Fine d
/-- faults, fit or not -/
def FF (K : PySem.W.Frag) (a : Addr) (v : V) (d : PyData) (Hs H : Hp) : Prop := FitD d ∧ (Odd K Hs v d ∨ ∃ (T : Addr) (i j : Int), v = .ref T ∧ d = fltD i j ∧ T ≠ a ∧ H T = some (.tup [.int i, .int 3, .int j]))
/-- what is due -/
def badB (d : PyData) (ns : List Str) : Bool := match d with
  | .str y => !decide (y ∈ ns)
  | _ => true
def due3 (way : Nat) (d : PyData) : Str × Str := if 1 < way ∧ ftB d = false then ("faults", d.shown) else ("none", "None")
def due2 (ns : List Str) (d : PyData) (k : Str × Str) : Str × Str := if badB d ns = true then ("name", d.shown) else k
/-- a told triple -/
def DueAt (H : Hp) (v : V) (k : Str × Str) : Prop := ∃ t, v = .ref t ∧ H t = some (.tup [.str k.1, .str k.2, .bl true])
/-- what is told of a net with a name and faults -/
def ToldN (K : PySem.W.Frag) (CN CP CM : Addr) (way : Nat) (n v ft : V) (H : Hp) (kind txt : Str) : Prop :=
  (∃ (x : Addr) (ps : List P3) (ms : List M3) (d : PyData), n = .ref x ∧ NetR K CN CP CM H x ps ms ∧ ps.length ≤ 12 ∧ Odd K H v d ∧ (∀ y, d = .str y → y ∉ ps.map (·.1)) ∧ Fine d ∧ kind = "name" ∧ txt = d.shown) ∨
  (∃ (x : Addr) (ps : List P3) (ms : List M3) (y : Str) (d : PyData), n = .ref x ∧ v = .str y ∧ NetR K CN CP CM H x ps ms ∧ ps.length ≤ 12 ∧ y ∈ ps.map (·.1) ∧ 1 < way ∧ Odd K H ft d ∧ ftB d = false ∧ Fine d ∧ kind = "faults" ∧ txt = d.shown) ∨
  (∃ (x : Addr) (ps : List P3) (ms : List M3) (y : Str), n = .ref x ∧ v = .str y ∧ NetR K CN CP CM H x ps ms ∧ POk ps ∧ MOk ps ms ∧ y ∈ ps.map (·.1) ∧ (1 < way → ∃ (t : Addr) (a b c : Int), ft = .ref t ∧ SqT K H t [.int a, .int b, .int c] ∧ Flt a b c) ∧ kind = "none" ∧ txt = "None")
end RV
/-! Defs that run while an error is handled, the error among what they know; a lambda handed to a def that catches. -/
namespace RV
open PySem L2 PyProof.Rows
section
variable {P : Program} {w : World} {K : PySem.W.Frag} {mg : Str → Option Value} {base : Heap}
/-- sp: what the def does where the error at the address, of the class, with the dict, is handled -/
structure FnE (P : Program) (w : World) (K : PySem.W.Frag) (mg : Str → Option Value) (base : Heap) (k : Nat) (f : Addr) (fd : FuncData) (ps : List Str) (sp : Addr → Value → Option Addr → Sp) : Prop where
  len : ∀ a c d vs H Q E, sp a c d vs H Q E → vs.length = ps.length
  run : ∀ (A : Around) (outer : List Env) (s : Shared) (H : Hp) (args : Args) (us : List Value) (vs : List V) (Q : VK) (p : Addr × Obj) (cls : Value) (d : Option Addr), A.guards = some [] → L2H.RoomH k A → Zc cls d p.2 → (∃ v, p.2.data = .fields v) →
    L2H.PinOk outer H s p → Env0 P w K mg base A outer s H → BindsTo s fd args (ps.zip us) → Vals vs us → sp p.1 cls d vs H Q E0 → codeAny (model P w) A (.call (.ref f) args) (CR CX0 outer P w H s Q E0) s
abbrev cxE (P : Program) (w : World) (K : PySem.W.Frag) (mg : Str → Option Value) (base : Heap) (N : List Str) (qual : Str) (st : Stmt) (f : Addr) (cdv : Value) (A : Around) (outer : List Env) (s : Shared) (H : Hp) (p : Addr × Obj) : Cx :=
  (L2H.cxH CX0 P w K mg base N qual (defScope st) f cdv A outer s H E0 p).nox
theorem gFunE {x qual : Str} {st : Stmt} {f : Addr} {fd : FuncData} {N ps : List Str} {k : Nat} {sp : Addr → Value → Option Addr → Sp} (F : Fun K x qual st f fd) (S : FnScope N ps (defScope st)) (len : ∀ a c d vs H Q E, sp a c d vs H Q E → vs.length = ps.length)
    (hbody : ∀ (cdv : Value) (A : Around) (outer : List Env) (s : Shared) (H : Hp) (vs : List V) (Q : VK) (p : Addr × Obj) (cls : Value) (d : Option Addr), (A.deeper (envOfC qual (defScope st) s.heap.objs.size f cdv)).guards = some [] → L2H.RoomH k (A.deeper (envOfC qual (defScope st) s.heap.objs.size f cdv)) →
      Zc cls d p.2 → (∃ v, p.2.data = .fields v) → sp p.1 cls d vs H Q E0 → ∃ t, PSs (cxE P w K mg base N qual st f cdv A outer s H p) (defBody st) t ∧ t { nx := fun _ H' => Q .non H', rt := Q } (start N vs) H) : FnE P w K mg base (k + 1) f fd ps sp := by
  refine ⟨len, fun A outer s H args us vs Q p cls d gs hr hz hf hpin e0 hb r hsp => ?_⟩
  obtain ⟨oc, od, kV, doc, pm, an, cdv, ct, osl, rfl, lk, hcd⟩ := F.ex
  have hl := len _ _ _ _ _ _ _ hsp
  have inB : ∀ {b o}, base.get? b = some o → s.heap.get? b = some o := fun e => (e0.bs _ _ e).1
  have KX : K.In s.heap := e0.mod.kin.keeps fun _ _ e => inB e
  have lim := e0.mod.nolimit.keeps fun _ _ e => inB e
  refine codeAny_call_function hr.depth (KX _ _ lk) rfl S.co S.gen rfl (PySem.W.codeRec_of KX hcd) (hb _ _ _ _ ?_)
  refine wpAny_newFunctionEnv_cells S.kind (fun y hy => (S.par _ (List.of_mem_zip (a := y.1) (b := y.2) hy).1).imp id fun q => ⟨q, PySem.W.cellsFrom_some _ _ _ (.inl q)⟩) fun env he s1 x => ?_
  subst he
  refine ⟨lim.keeps x.toInCall.keep, codeAny_func ?_⟩
  obtain ⟨t, ht, hq⟩ := hbody cdv A outer s H vs Q p cls d gs (hr.deeper _) hz hf hsp
  have I := L2H.inv_startH (CX := CX0) (cd := cdv) (E := E0) S hpin e0 hl r x
  refine wpAny_mono (ht.nox.run [] s1 (start N vs) H _ I hq) (fun fl s' hs => ?_) fun _ _ hs => hs
  match fl, hs with
  | .ret u, ⟨v, _, H', J, rv, q⟩ => exact ⟨v, H', J.os, J.bare, J.base, J.hok, rv, q⟩
  | .next, ⟨_, H', J, q⟩ => exact ⟨V.non, H', J.os, J.bare, J.base, J.hok, rfl, q⟩
  | .brk, ⟨_, _, _, q⟩ => exact q.elim
  | .cont, ⟨_, _, _, q⟩ => exact q.elim
/-- such a function of the module, as its callers see it -/
def FnEd (P : Program) (w : World) (K : PySem.W.Frag) (mg : Str → Option Value) (base : Heap) (x : Str) (k : Nat) (ps : List Str) (sp : Addr → Value → Option Addr → Sp) : Prop :=
  ∃ f fd, mg x = some (.ref f) ∧ PySem.W.keepIn K (.ref f) = true ∧ Binds K fd ps [] ∧ FnE P w K mg base k f fd ps sp
theorem FnEd.mono {x : Str} {j k : Nat} {ps : List Str} {sp : Addr → Value → Option Addr → Sp} (h : FnEd P w K mg base x j ps sp) (hj : j ≤ k) : FnEd P w K mg base x k ps sp := by
  obtain ⟨f, fd, a, b, c, F⟩ := h
  exact ⟨f, fd, a, b, c, F.len, fun A outer s H args us vs Q p cls d gs hr => F.run A outer s H args us vs Q p cls d gs (hr.mono hj)⟩
end
section
variable {X : Cx} {x : Str} {k : Nat} {ps : List Str} {sp : Addr → Value → Option Addr → Sp} {e : Expr} {es : List Expr} {t : TA} {p pos : Pos} {a : Addr} {oe : Obj} {cls : Value} {d : Option Addr}
def tCallE (sp : Addr → Value → Option Addr → Sp) (a : Addr) (cls : Value) (d : Option Addr) (t : TA) : TE := fun σ H Q => t σ H fun vs H1 => sp a cls d vs H1 Q E0
theorem pe_fnE (h : FnEd X.prog X.w X.K X.mg X.base x k ps sp) (gs : X.A.guards = some []) (hr : L2H.RoomH k X.A) (hp : (a, oe) ∈ X.pn) (hz : Zc cls d oe) (hf : ∃ v, oe.data = .fields v) (ha : PA X (e :: es) t) (hg : Gl X x := by rfl)
    (hdb : (x == ("__debug__" : Str)) = false := by decide) (he : starEach (e :: es) X.env = (false, eval e X.env) :: starEach es X.env := by rfl) (hpl : (backTo pos (starEach es X.env)).any (·.1) = false := by rfl) :
    PE X (.Call (.Name x p) (e :: es) [] pos) (tCallE sp a cls d t) := by
  obtain ⟨f, fd, hm, hk, hb, F⟩ := h
  refine ⟨fun pins s σ H Q I h => wpAny_Call_Name_kw (ld_glob I hg hm ?_ hdb)⟩
  refine PySem.W.callWith_K (h₀ := X.base) I.ok.mod.kin hk (thn (ha.run pos pins s σ H _ I h) fun us s1 ⟨vs, H1, I1, r, q⟩ => ⟨I1.kIn, ?_⟩) he hpl
  have hl : us.length = ps.length := r.length ▸ F.len _ _ _ _ _ _ _ q
  have hbb : BindsTo s1 fd ⟨us, []⟩ (ps.zip us) := by
    have z := hb s1 us I1.kIn (by rw [List.append_nil]; exact hl)
    rwa [List.append_nil] at z
  have P1 := I1.pin (a, oe) (List.mem_append_left _ hp)
  have hpin : L2H.PinOk X.stack H1 s1 (a, oe) := ⟨P1.1, P1.2.1, fun hm => (List.mem_cons.mp (I1.stkSub a hm)).elim P1.2.2.1 P1.2.2.2.1, P1.2.2.2.2⟩
  refine wpAny_call (codeAny_mono (F.run X.A X.stack s1 H1 ⟨us, []⟩ us vs Q (a, oe) cls d gs hr hz hf hpin I1.env0 hbb r q) fun res s' hq => ?_)
  match res, hq with
  | .ok (.ret u), hq => exact I1.after hq
  | .ok .next, hq => exact False.elim hq
  | .ok .brk, hq => exact False.elim hq
  | .ok .cont, hq => exact False.elim hq
  | .error e, hq => exact False.elim hq
end
/-! ### the def that catches what its argument raises -/
/-- a wish need only be met where the slots are as many as the names -/
theorem takes_len {X : Cx} {W : WX} (tk : Takes X W) : Takes X (fun c d σ H => σ.length = X.N.length → W c d σ H) :=
  fun u s' ⟨a, B, sI, pins, σ, H, cls, d, e, I, nb, up, sky, na, os, ag, w⟩ => tk u s' ⟨a, B, sI, pins, σ, H, cls, d, e, I, nb, up, sky, na, os, ag, w I.len⟩
/-- behind the try: return ['told', seen(told)] -/
def TOld (spSeen : Sp) (f : Addr) (Q : VK) (v : V) (H : Hp) : Prop :=
  tRet (tLst (tCons (tC (.str "told")) (tCons (tCall spSeen [] E0 (tCons (tVar 1) tNil)) tNil))) { nx := fun _ H' => Q .non H', rt := Q } [some (.ref f), some v, none] H
def toldK (Q : VK) : VK := fun u H2 => [V.str "told", u].length ≤ sizeLine ∧ ∀ p, H2 p = none → Q (.ref p) (upd H2 p (.lst [.str "told", u]))
theorem toldK_of {Q : VK} {u : V} {H : Hp} (h : ∀ p, H p = none → Q (.ref p) (upd H p (.lst [.str "told", u]))) : toldK Q u H := ⟨by show 2 ≤ sizeLine; decide, h⟩
theorem tOld_of {spSeen : Sp} {f : Addr} {Q : VK} {v : V} {H : Hp} (h : spSeen [v] H (toldK Q) E0) : TOld spSeen f Q v H := ⟨v, rfl, h⟩
/-- what is wished of the lambda's reading tl by: try: told = act() / except (three classes) as e: return said(e) / return ['told', seen(told)] -/
def TTc (K : PySem.W.Frag) (c1 c2 c3 : Value) (spSaid : Addr → Value → Option Addr → Sp) (spSeen : Sp) : (XK → Hp → VK → Prop) → Hp → VK → Prop := fun tl H Q =>
  ∀ f : Addr, tl (fun cls d H' => PySem.W.exmAny K cls [c1, c2, c3] = some true ∧ ∀ a, H' a = none → spSaid a cls d [.ref a] H' Q E0) H (TOld spSeen f Q)
end RV
/-! The law's own call where its defs make lambdas: each such def's table of code objects is empty at the start. -/
namespace RV
open PySem L2 PyProof.Rows LamX
def spLawT (K : PySem.W.Frag) (cs : List (Addr × Addr)) : Sp := fun vs H Q _ => ∃ (c : Addr) (ns : List Int), vs = [.ref c] ∧ SqL K H c (ns.map V.int) ∧ ns.length ≤ 63 ∧ (∀ p ∈ cs, H p.2 = some (.tbl #[])) ∧ ∀ H', Q (.bl true) H'
theorem codeHd_hid {h : Heap} {H : Hp} {c P : Addr} (C : PySem.W.CodeHd h c P) (n : H c = none) : PySem.W.CodeHd (hidT h H) c P := by
  obtain ⟨o, vs, file, tf, flags, tg, inF, text, tt, e, r⟩ := C
  exact ⟨o, vs, file, tf, flags, tg, inF, text, tt, hidT_get e n, r⟩
theorem callGT {P : Program} {w : World} {K : PySem.W.Frag} {mg mb : Str → Option Value} {k : Nat} {fa a : Addr} {cs : List (Addr × Addr)} {fd : FuncData} {x : Str} {s₁ : Shared} {vs : List Value} {ns : List Int}
    (KX : K.In s₁.heap) (hns : s₁.heap.Ns mainGlobals mg) (hb : s₁.heap.Ns builtinsNs mb) (hbb : ∀ x : Str, x ≠ "__name__" → mb x = bootBuiltins x) (hlim : s₁.heap.NoLimit) (hg : s₁.gens = #[])
    (hT : ∀ p ∈ cs, PySem.W.CodeHd s₁.heap p.1 p.2 ∧ s₁.heap.get? p.2 = some (PySem.W.tabObj #[])) (nT : ∀ p ∈ cs, K.lookup p.2 = none)
    (hbm : ∃ (bm : Addr) (ob : Obj), mg "__builtins__" = some (.ref bm) ∧ bm ≠ builtinsNs ∧ s₁.heap.get? bm = some ob ∧ ob.cls = .type "module" ∧ ob.dict = some builtinsNs ∧ ob.data = .plain)
    (ha : s₁.heap.get? a = some { cls := .type "list", data := .seq vs.toArray }) (hi : IntsAre vs ns) (hl : ns.length ≤ 63) (hr : Room k callerA)
    (F : ∀ base : Heap, K.In base → base.Ns mainGlobals mg → (∀ p ∈ cs, TabB base mg p.1 p.2) → FnG P w K mg base k fa fd [x] (spLawT K cs)) (hbind : ∀ (s : Shared) (u : Value), BindsTo s fd ⟨[u], []⟩ [(x, u)]) :
    codeAny (model P w) callerA (.call (.ref fa) ⟨[.ref a], []⟩) (fun r s' => r = .ok (.ret (.bool true)) ∧ OldK s₁.heap s'.heap ∧ s'.os = s₁.os ∧ AllBare s'.gens) s₁ := by
  have rv := vals_ints hi
  have hsz : ns.length ≤ sizeLine := Nat.le_trans hl (by decide)
  let scr : Obj := { cls := .type "list", data := .seq vs.toArray }
  let isT : Addr → Prop := fun b => ∃ p ∈ cs, p.2 = b
  have tabAt : ∀ {b}, isT b → s₁.heap.get? b = some (PySem.W.tabObj #[]) := by
    rintro _ ⟨p, hp, rfl⟩
    exact (hT p hp).2
  have apart : ¬ isT a := fun z => by
    have q := tabAt z
    rw [ha] at q
    cases q
  have core : ∀ H : Hp, (∀ b u, H b = some u → (b = a ∧ u = .frz scr (.lst (ns.map V.int)) ∧ K.lookup a = none) ∨ isT b ∧ u = .tbl #[]) → (∀ p ∈ cs, H p.2 = some (.tbl #[])) → SqL K H a (ns.map V.int) →
      codeAny (model P w) callerA (.call (.ref fa) ⟨[.ref a], []⟩) (fun r s' => r = .ok (.ret (.bool true)) ∧ OldK s₁.heap s'.heap ∧ s'.os = s₁.os ∧ AllBare s'.gens) s₁ := by
    intro H hO hH hS
    have hok : HOk P w H s₁.heap := fun b u e => by
      rcases hO b u e with ⟨rfl, rfl, _⟩ | ⟨t, rfl⟩
      · exact ⟨ha, by rw [List.length_map]; exact hsz, vs, _, rv, ha⟩
      · exact tabAt t
    have other : ∀ {b : Addr} {o : Obj}, s₁.heap.get? b = some o → o ≠ scr → o ≠ PySem.W.tabObj #[] → H b = none := fun {b o} e d d' => by
      cases q : H b with
      | none => rfl
      | some u =>
        rcases hO b u q with ⟨rfl, _, _⟩ | ⟨t, _⟩
        · rw [ha] at e
          exact absurd (Option.some.inj e).symm d
        · rw [tabAt t] at e
          exact absurd (Option.some.inj e).symm d'
    have spaces : ∀ {b : Addr} {m : Str → Option Value}, s₁.heap.Ns b m → (hidT s₁.heap H).Ns b m := fun {b m} z => by
      obtain ⟨o, es, ep, e, d, r⟩ := z
      refine ⟨o, es, ep, hidT_get e (other e (fun q => ?_) fun q => ?_), d, r⟩ <;> (subst q; cases d)
    have kin : K.In (hidT s₁.heap H) := fun b o e => hidT_get (KX b o e) (by
      cases q : H b with
      | none => rfl
      | some u =>
        rcases hO b u q with ⟨rfl, _, z⟩ | ⟨⟨p, hp, rfl⟩, _⟩
        · rw [z] at e
          cases e
        · rw [nT p hp] at e
          cases e)
    have tb : ∀ p ∈ cs, TabB (hidT s₁.heap H) mg p.1 p.2 := fun p hp => by
      obtain ⟨C, ht⟩ := hT p hp
      refine ⟨codeHd_hid C ?_, ?_, fun z => ?_⟩
      · obtain ⟨o, us, _, _, _, _, _, _, _, e, _, d, d11, _⟩ := C
        refine other e (fun q => ?_) fun q => ?_
        · subst q
          cases d
        · subst q
          have d' : Data.fields #[] = Data.fields us := d
          cases d'
          simp at d11
      · obtain ⟨bm, ob, b1, b2, b3, b4, b5, b6⟩ := hbm
        have nm : ∀ {o : Obj}, ob = o → o.data ≠ .plain → False := fun q d => d (q ▸ b6)
        refine ⟨bm, ob, b1, b2, fun q => ?_, fun q => ?_, hidT_get b3 (other b3 (fun q => nm q (fun z => nomatch z)) fun q => nm q (fun z => nomatch z)), b4, b5, b6⟩
        · obtain ⟨o, es, ep, e, d, _⟩ := hns
          subst q
          rw [b3] at e
          cases e
          rw [b6] at d
          cases d
        · subst q
          rw [b3] at ht
          cases ht
          cases b6
      · obtain ⟨o, es, ep, e, d, _⟩ := hns
        rw [z, ht] at e
        cases e
        cases d
    obtain ⟨mc, l1, l2⟩ := hlim
    have e0 : Env0 P w K mg (hidT s₁.heap H) callerA [] s₁ H :=
      { frames := rfl, mod := ⟨kin, spaces hns, ⟨mb, spaces hb, hbb⟩, ⟨mc, spaces l1, l2⟩⟩, bs := fun _ _ e => of_hidT e, bsz := Nat.le_of_eq (hidT_size _ _), funs := trivial, frf := fun _ hb => (nomatch hb), hok := hok, bare := .of_eq hg }
    refine codeAny_mono ((F _ kin (spaces hns) tb).run callerA [] s₁ H ⟨[.ref a], []⟩ [.ref a] [.ref a] (fun v _ => v = .bl true) E0 rfl hr e0 (hbind s₁ (.ref a)) (.cons rfl .nil) ⟨a, ns, rfl, hS, hl, hH, fun _ => rfl⟩) fun res s' z => ?_
    match res, z with
    | .ok (.ret u), ⟨v, H', os, bare, un, hok', rel, ev⟩ =>
      have ev' : v = .bl true := ev
      subst ev'
      have eu : u = Value.bool true := rel
      subst eu
      have here : ∀ b o, ¬ isT b → s₁.heap.get? b = some o → s'.heap.get? b = some o := fun b o nb e => by
        cases q : H b with
        | none => exact un.keep b o e q (fun z => nomatch z) (fun z => nomatch z)
        | some u =>
          rcases hO b u q with ⟨rfl, rfl, _⟩ | ⟨t, _⟩
          · have z1 := (hok' b _ (un.frzs b _ _ q)).1
            rw [ha] at e
            rw [← e]
            exact z1
          · exact absurd t nb
      have there : ∀ {b}, isT b → ∃ more : Array Value, s'.heap.get? b = some { cls := .none, data := .fields more } := by
        rintro _ ⟨p, hp, rfl⟩
        obtain ⟨more, z⟩ := un.tbls p.2 #[] (hH p hp)
        exact ⟨_, hok' p.2 _ z⟩
      refine ⟨rfl, ⟨fun b o e => ?_, fun b o e => ?_⟩, os, bare⟩
      · rcases Classical.em (isT b) with t | nt
        · obtain ⟨more, hm⟩ := there t
          obtain ⟨p, hp, rfl⟩ := t
          rw [(hT p hp).2] at e
          cases e
          exact .inr (.inl ⟨((hT p hp).1.tab (hT p hp).2).isCodeTable, rfl, #[], more, rfl, by rw [Array.empty_append]; exact hm⟩)
        · exact .inl (here b o nt e)
      · rcases Classical.em (isT b) with t | nt
        · obtain ⟨more, hm⟩ := there t
          exact ⟨_, hm⟩
        · exact ⟨o, here b o nt e⟩
    | .ok .next, z => exact False.elim z
    | .ok .brk, z => exact False.elim z
    | .ok .cont, z => exact False.elim z
    | .error e, z => exact False.elim z
  -- the heap that is tracked: the tables, the script where the fragment has it not
  let tabs : Hp := fun b => if b ∈ cs.map (·.2) then some (.tbl #[]) else none
  have tabs_of : ∀ {b u}, tabs b = some u → isT b ∧ u = .tbl #[] := fun {b u} z => by
    by_cases hb : b ∈ cs.map (·.2)
    · have z' := (if_pos hb).symm.trans z
      obtain ⟨p, hp, e⟩ := List.mem_map.mp hb
      exact ⟨⟨p, hp, e⟩, (Option.some.inj z').symm⟩
    · have z' := (if_neg hb).symm.trans z
      cases z'
  have tabs_at : ∀ p ∈ cs, tabs p.2 = some (.tbl #[]) := fun p hp => if_pos (List.mem_map.mpr ⟨p, hp, rfl⟩)
  cases hk : K.lookup a with
  | some o =>
    have e := KX a o hk
    rw [ha] at e
    cases e
    exact core tabs (fun b u z => .inr (tabs_of z)) tabs_at (.inr ⟨_, vs.toArray, _, hk, rfl, rfl, rfl, by rw [List.size_toArray, hi.length]; exact hsz, by simpa using rv⟩)
  | none =>
    refine core (upd tabs a (.frz scr (.lst (ns.map V.int)))) (fun b u z => ?_) (fun p hp => ?_) (.inl (.inr ⟨scr, upd_same⟩))
    · by_cases hb : b = a
      · subst hb
        rw [upd_same] at z
        exact .inl ⟨rfl, (Option.some.inj z).symm, hk⟩
      · rw [upd_ne hb] at z
        exact .inr (tabs_of z)
    · rw [upd_ne (fun z => apart ⟨p, hp, z⟩)]
      exact tabs_at p hp
theorem walkGT (x : Str) (k : Nat) (xs : List Str) {l : PySem.W.OpenLaw} {q : Program} {loose : List Str} {XP : (Str → Option Value) → Heap → Prop} {YP : World → Heap → Prop} {d : DefRec} {K : Params → PySem.W.Frag} (hr : Room k callerA) (hn : l.most = some 63) (hdf : d.params.defaults = [])
    (hxs : ∀ y ∈ xs, ∃ e, (recsOf q).find? (fun e => e.name == y) = some e)
    (hY : ∀ (w : World) (h : Heap), YP w h → (K w.params).In h)
    (F : ∀ (w : World) (mg : Str → Option Value) (fa : Addr) (h : Heap), (K w.params).In h → h.Ns mainGlobals mg → mg d.name = some (.ref fa) →
      ∃ (cs : List (Addr × Addr)) (fd : FuncData), (∀ p ∈ cs, (∃ y ∈ xs, PySem.W.tabIn (K w.params) y = some p) ∧ (K w.params).lookup p.2 = none) ∧ (∀ (s : Shared) (u : Value), BindsTo s fd ⟨[u], []⟩ [(x, u)]) ∧
        ∀ base : Heap, (K w.params).In base → base.Ns mainGlobals mg → (∀ p ∈ cs, TabB base mg p.1 p.2) → FnG l.prog w (K w.params) mg base k fa fd [x] (spLawT (K w.params) cs)) :
    PySem.W.WalkO q loose XP YP l.row.toRowW d [] (fun f vs => PySem.call f vs) := by
  refine Att.attach_call hn hdf fun w s₀ s₁ mg mb fa o pm cd doc a vs ns G Y ho hd hcd hmg hobj hints hlen hg => ?_
  have KX := hY w _ Y
  obtain ⟨cs, fd, hc, hb, hF⟩ := F w mg fa _ KX G.T.g hmg
  refine callGT KX G.T.g G.T.b G.T.builtins G.T.nolimit hg (fun p hp => ?_) (fun p hp => (hc p hp).2) G.T.bmain hobj hints hlen hr hF hb
  obtain ⟨⟨y, hy, ht⟩, _⟩ := hc p hp
  obtain ⟨e, he⟩ := hxs y hy
  exact PySem.W.tab_of G.T KX he ht
end RV
/-! Defs that make lambdas; classes whose __init__ may refuse; facts that outlast a table's growth. -/
namespace RV
open PySem L2 PyProof.Rows LamX
section
variable {P : Program} {w : World} {K : PySem.W.Frag} {mg : Str → Option Value} {base : Heap}
/-- a def of the text whose code object stands at c -/
structure FunC (K : PySem.W.Frag) (x qual : Str) (st : Stmt) (f : Addr) (fd : FuncData) (c : Addr) : Prop where
  ex : ∃ (oc : Value) (od : Option Addr) (kV doc pm : Value) (an : Option Addr) (ct : Value) (osl : Array (Option Value)),
    fd = PySem.W.fnOf x qual (defArgs st) (defBody st) (defScope st) .none kV doc pm an (.ref c) ct ∧ K.lookup f = some ⟨oc, od, .func fd, osl⟩ ∧ PySem.W.codeIn K (.ref c) qual = true
  kp : PySem.W.keepIn K (.ref f) = true
theorem FunC.fn {x qual : Str} {st : Stmt} {f c : Addr} {fd : FuncData} (F : FunC K x qual st f fd c) : Fun K x qual st f fd := by
  obtain ⟨oc, od, kV, doc, pm, an, ct, osl, e, l, h⟩ := F.ex
  exact ⟨⟨oc, od, kV, doc, pm, an, .ref c, ct, osl, e, l, h⟩, F.kp⟩
theorem funC_mk {x qual : Str} {st : Stmt} {f c : Addr} {oc : Value} {od an : Option Addr} {osl : Array (Option Value)} {kV doc pm ct : Value} (l : K.lookup f = some ⟨oc, od, .func (PySem.W.fnOf x qual (defArgs st) (defBody st) (defScope st) .none kV doc pm an (.ref c) ct), osl⟩)
    (h : PySem.W.codeIn K (.ref c) qual = true) (k : PySem.W.keepIn K (.ref f) = true) : FunC K x qual st f (PySem.W.fnOf x qual (defArgs st) (defBody st) (defScope st) .none kV doc pm an (.ref c) ct) c := ⟨⟨oc, od, kV, doc, pm, an, ct, osl, rfl, l, h⟩, k⟩
/-- where the table of the def y at f stands -/
theorem tabIn_of {x qual y : Str} {st : Stmt} {f c Pt : Addr} {fd : FuncData} {e : Value} {dd : Option Addr} {vs : Array Value} {sl : Array (Option Value)} (F : FunC K x qual st f fd c) (a : PySem.W.nsIn K mainGlobals y = some (some (.ref f)))
    (lc : K.lookup c = some ⟨e, dd, .fields vs, sl⟩) (h : vs[11]? = some (.ref Pt)) : PySem.W.tabIn K y = some (c, Pt) := by
  obtain ⟨oc, od, kV, doc, pm, an, ct, osl, rfl, l, _⟩ := F.ex
  unfold PySem.W.tabIn
  rw [a]
  dsimp only
  rw [l]
  show (match K.lookup c with
    | some ⟨_, _, .fields vs, _⟩ => (match (vs[11]? : Option Value) with
      | some (.ref P) => some (c, P)
      | _ => none)
    | _ => none) = _
  rw [lc]
  dsimp only
  rw [h]
/-- as gFun, for a def that makes lambdas -/
theorem gFunL {x qual : Str} {st : Stmt} {f c : Addr} {fd : FuncData} {N ps : List Str} {k : Nat} {sp : Sp} (F : FunC K x qual st f fd c) (S : FnScope N ps (defScope st)) (len : ∀ vs H Q E, sp vs H Q E → vs.length = ps.length)
    (hbody : ∀ (A : Around) (outer : List Env) (s : Shared) (H : Hp) (vs : List V) (Q : VK) (E : XK), (A.deeper (envOfC qual (defScope st) s.heap.objs.size f (.ref c))).guards = some [] → Room k (A.deeper (envOfC qual (defScope st) s.heap.objs.size f (.ref c))) → sp vs H Q E →
      ∃ t, PSs (cxOf CX0 P w K mg base N qual (defScope st) f (.ref c) A outer s H E).nox (defBody st) t ∧ t { nx := fun _ H' => Q .non H', rt := Q } (start N vs) H) : FnG P w K mg base (k + 1) f fd ps sp := by
  refine ⟨len, fun A outer s H args us vs Q E gs hr e0 hb r hsp => ?_⟩
  obtain ⟨oc, od, kV, doc, pm, an, ct, osl, rfl, lk, hcd⟩ := F.ex
  have hl := len _ _ _ _ hsp
  have inB : ∀ {b o}, base.get? b = some o → s.heap.get? b = some o := fun e => (e0.bs _ _ e).1
  have KX : K.In s.heap := e0.mod.kin.keeps fun _ _ e => inB e
  have lim := e0.mod.nolimit.keeps fun _ _ e => inB e
  refine codeAny_call_function hr.depth (KX _ _ lk) rfl S.co S.gen rfl (PySem.W.codeRec_of KX hcd) (hb _ _ _ _ ?_)
  refine wpAny_newFunctionEnv_cells S.kind (fun y hy => (S.par _ (List.of_mem_zip (a := y.1) (b := y.2) hy).1).imp id fun q => ⟨q, PySem.W.cellsFrom_some _ _ _ (.inl q)⟩) fun env he s1 x => ?_
  subst he
  refine ⟨lim.keeps x.toInCall.keep, codeAny_func ?_⟩
  obtain ⟨t, ht, hq⟩ := hbody A outer s H vs Q E gs (hr.deeper _) hsp
  have I := inv_start (CX := CX0) (cd := .ref c) (E := E) S hr.hd e0 hl r x
  refine wpAny_mono (ht.nox.run [] s1 (start N vs) H _ I hq) (fun fl s' hs => ?_) fun _ _ hs => hs
  match fl, hs with
  | .ret u, ⟨v, _, H', J, rv, q⟩ => exact ⟨v, H', J.os, J.bare, J.base, J.hok, rv, q⟩
  | .next, ⟨_, H', J, q⟩ => exact ⟨V.non, H', J.os, J.bare, J.base, J.hok, rfl, q⟩
  | .brk, ⟨_, _, _, q⟩ => exact q.elim
  | .cont, ⟨_, _, _, q⟩ => exact q.elim
/-! ### classes whose __init__ may refuse -/
def MkrX (P : Program) (w : World) (K : PySem.W.Frag) (mg : Str → Option Value) (base : Heap) (x : Str) (C : Addr) (k : Nat) (sp : Sp) (dvs : List V) : Prop :=
  mg x = some (.ref C) ∧ ∃ f fd ps ds, Mk K C f ∧ Binds K fd ps ds ∧ Vals dvs ds ∧ FnOk P w K mg base (L2.CX P w) k f fd ps sp
def MkrKX (P : Program) (w : World) (K : PySem.W.Frag) (mg : Str → Option Value) (base : Heap) (x : Str) (C : Addr) (k n : Nat) (ks : List Str) (sp : Sp) (gV : List V → List V → List V) : Prop :=
  mg x = some (.ref C) ∧ ∃ f fd ps g, Mk K C f ∧ KBn K fd ps (n + 1) ks g gV ∧ FnOk P w K mg base (L2.CX P w) k f fd ps sp
theorem MkrX.irr {x : Str} {C : Addr} {k : Nat} {sp : Sp} {dvs : List V} (h : MkrX P w K mg base x C k sp dvs) : MkrX P w K mg base x C k (Irr sp) dvs := by
  obtain ⟨m, f, fd, ps, ds, a, b, c, F⟩ := h
  exact ⟨m, f, fd, ps, ds, a, b, c, F.imp fun _ _ _ _ z => irr_of z⟩
theorem MkrKX.irr {x : Str} {C : Addr} {k n : Nat} {ks : List Str} {sp : Sp} {gV : List V → List V → List V} (h : MkrKX P w K mg base x C k n ks sp gV) : MkrKX P w K mg base x C k n ks (Irr sp) gV := by
  obtain ⟨m, f, fd, ps, g, a, b, F⟩ := h
  exact ⟨m, f, fd, ps, g, a, b, F.imp fun _ _ _ _ z => irr_of z⟩
end
section
variable {X : Cx} {x f : Str} {C : Addr} {k n : Nat} {ks : List Str} {sp : Sp} {dvs : List V} {gV : List V → List V → List V} {e : Expr} {es : List Expr} {kws : List Keyword} {t tk : TA} {ta : TE} {p pos : Pos} {E : XK}
theorem pe_mkX (h : MkrX X.prog X.w X.K X.mg X.base x C k sp dvs) (hr : Room (k + 1) X.A) (hx : Passes (L2.CX X.prog X.w) X E) (ha : PA X (e :: es) t) (hg : Gl X x := by rfl) (hdb : (x == ("__debug__" : Str)) = false := by decide)
    (he : starEach (e :: es) X.env = (false, eval e X.env) :: starEach es X.env := by rfl) (hpl : (backTo pos (starEach es X.env)).any (·.1) = false := by rfl) : PE X (.Call (.Name x p) (e :: es) [] pos) (tMake C sp dvs E t) := by
  obtain ⟨hm, f, fd, ps, ds, M, hb, hd, F⟩ := h
  exact pe_make M F hr hg hm hb hd hx ha hdb he hpl
theorem pe_mkKX (h : MkrKX X.prog X.w X.K X.mg X.base x C k n ks sp gV) (hr : Room (k + 1) X.A) (hx : Passes (L2.CX X.prog X.w) X E) (ha : PA X (e :: es) t) (hkw : PK X kws tk) (hg : Gl X x := by rfl)
    (hall : (backToKw pos (keywordEach kws X.env)).all (·.1.isSome) = true := by rfl) (hks : (backToKw pos (keywordEach kws X.env)).filterMap (·.1) = ks := by rfl) (hdb : (x == ("__debug__" : Str)) = false := by decide)
    (he : starEach (e :: es) X.env = (false, eval e X.env) :: starEach es X.env := by rfl) (hpl : ((backTo pos (starEach (e :: es) X.env)).any (·.1) || (backToKw pos (keywordEach kws X.env)).any (·.1.isNone)) = false := by rfl) :
    PE X (.Call (.Name x p) (e :: es) kws pos) (tMakeK C n ks.length sp gV E t tk) := by
  obtain ⟨hm, f, fd, ps, g, M, hb, F⟩ := h
  exact pe_makeK M F hr hg hm hb hx ha hkw hall hks hdb he hpl
theorem pe_mkK0X (h : MkrKX X.prog X.w X.K X.mg X.base x C k 0 ks sp gV) (hr : Room (k + 1) X.A) (hx : Passes (L2.CX X.prog X.w) X E) (hkw : PK X kws tk) (hg : Gl X x := by rfl)
    (hall : (backToKw pos (keywordEach kws X.env)).all (·.1.isSome) = true := by rfl) (hks : (backToKw pos (keywordEach kws X.env)).filterMap (·.1) = ks := by rfl) (hdb : (x == ("__debug__" : Str)) = false := by decide)
    (hpl : ((backTo pos (starEach [] X.env)).any (·.1) || (backToKw pos (keywordEach kws X.env)).any (·.1.isNone)) = false := by rfl) :
    PE X (.Call (.Name x p) [] kws pos) (tMakeK C 0 ks.length sp gV E tNil tk) := by
  obtain ⟨hm, f, fd, ps, g, M, hb, F⟩ := h
  exact pe_makeK0 M F hr hg hm hb hx hkw hall hks hdb hpl
end
/-! ### what outlasts -/
theorem SqL.extN {K : PySem.W.Frag} {H H' : Hp} {a : Addr} {xs : List V} (h : SqL K H a xs) (e : ExtN H H') : SqL K H' a xs := by
  rcases h with (h | ⟨o, h⟩) | h
  · exact .inl (.inl (e _ _ h fun _ z => nomatch z))
  · exact .inl (.inr ⟨o, e _ _ h fun _ z => nomatch z⟩)
  · exact .inr h
theorem SqT.extN {K : PySem.W.Frag} {H H' : Hp} {a : Addr} {xs : List V} (h : SqT K H a xs) (e : ExtN H H') : SqT K H' a xs := by
  rcases h with (h | ⟨o, h⟩) | h
  · exact .inl (.inl (e _ _ h fun _ z => nomatch z))
  · exact .inl (.inr ⟨o, e _ _ h fun _ z => nomatch z⟩)
  · exact .inr h
section
variable {K : PySem.W.Frag} {H H' : Hp}
mutual
theorem dp_extN (s : ExtN H H') : ∀ {v : V} {d : PyData}, Dp K H v d → Dp K H' v d
  | _, _, .non => .non
  | _, _, .bl b => .bl b
  | _, _, .int i => .int i
  | _, _, .str x => .str x
  | _, _, .lst h l => .lst (SqL.extN h s) (dpAll_extN s l)
  | _, _, .tup h l => .tup (SqT.extN h s) (dpAll_extN s l)
theorem dpAll_extN (s : ExtN H H') : ∀ {vs : List V} {ds : List PyData}, DpAll K H vs ds → DpAll K H' vs ds
  | _, _, .nil => .nil
  | _, _, .cons h l => .cons (dp_extN s h) (dpAll_extN s l)
end
theorem Odd.extN (s : ExtN H H') {v : V} {d : PyData} : Odd K H v d → Odd K H' v d
  | .dat h => .dat (dp_extN s h)
  | .dic0 e => .dic0 (s _ _ e fun _ z => nomatch z)
  | .dic1 e => .dic1 (s _ _ e fun _ z => nomatch z)
end
/-- all stays but what stands at a, and the tables -/
def ExtA (a : Addr) (H H' : Hp) : Prop := ∀ b o, b ≠ a → H b = some o → (∀ ps, o ≠ .tbl ps) → H' b = some o
theorem ExtA.trans {a : Addr} {H H1 H2 : Hp} (h : ExtA a H H1) (k : ExtA a H1 H2) : ExtA a H H2 := fun b o n e t => k b o n (h b o n e t) t
theorem ExtA.ofN {a : Addr} {H H' : Hp} (h : ExtN H H') : ExtA a H H' := fun b o _ e t => h b o e t
theorem ExtA.ofG {a : Addr} {H H' : Hp} (h : ∀ b o, b ≠ a → H b = some o → H' b = some o) : ExtA a H H' := fun b o n e _ => h b o n e
end RV
/-! Promises of the program where it refuses names, pipes, meters. -/
namespace RV
open PySem L2 PyProof.Rows LamX TL
/-! ### rules -/
def rCntV (K : PySem.W.Frag) : V → List V → Hp → VK → Prop := fun x xs H Q => ∃ (p : Addr) (ys : List V) (y : V), x = .ref p ∧ xs = [y] ∧ SqL K H p ys ∧ flatV y = true ∧ ys.all flatV = true ∧ Q (.int (ys.countP (fun z => eqV z y) : Nat)) H
theorem countP_eqU {y : V} : ∀ {ys : List V} {us : List Value}, Vals ys us → ys.all flatV = true → us.countP (eqU y) = ys.countP (fun z => eqV z y)
  | _, _, .nil, _ => rfl
  | _ :: _, _ :: _, .cons r t, f => by
    rw [List.all_cons, Bool.and_eq_true] at f
    rw [List.countP_cons, List.countP_cons, countP_eqU t f.2, eqU_of r f.1]
section
variable {X : Cx}
theorem mt_lcountV : MtR X "list.count" (rCntV X.K) := by
  intro pins s σ H x xs v us Q I rx rxs h
  obtain ⟨p, ys, y, rfl, rfl, hs, fy, fys, q⟩ := h
  cases rx
  obtain ⟨u, rfl, ru⟩ := rxs.one
  obtain ⟨its, rv, ⟨⟨cls, dd, data, sl⟩, n, ho, hc, hdn, hd⟩, hlen⟩ := I.list hs
  simp only at hc hd
  subst hc hd
  refine call_meets PySem.F.slot_list_count ⟨_, ho, rfl⟩ PySem.F.entry_list_count (PySem.F.args_list_count_2 _ _)
    (SeqAt.list_countAt p its.toArray n dd sl u (eqU y)) ⟨ho, fun u' hu' => mem_eqAt ru fy rv fys u' (by simpa using hu'), ?_⟩
  have ec : its.toArray.toList.countP (eqU y) = ys.countP (fun z => eqV z y) := countP_eqU rv fys
  refine ⟨.int (ys.countP (fun z => eqV z y) : Nat), H, I.tok _, ⟨s.toks, ?_⟩, q⟩
  show Value.int ((its.toArray.toList.countP (eqU y) : Nat) : Int) s.toks = _
  rw [ec]
/-- v is not True, v is not False, for any v -/
theorem op_isnotB : OpR X (compareOp .IsNot) (fun x y H Q => ∃ b, y = .bl b ∧ Q (.bl (!decide (x = .bl b))) H) := by
  intro pins s σ H x y v u Q I rx ry h
  obtain ⟨b, rfl, q⟩ := h
  cases (show u = Value.bool b from ry)
  by_cases e : x = .bl b
  · subst e
    cases (show v = Value.bool b from rx)
    exact wpAny_isNot_self rfl ⟨.bl false, H, I, rfl, by simpa using q⟩
  · have go : ∀ {c : Value}, PySem.plainIs c (.bool b) = true → c ≠ .bool b → wpAny (model X.prog X.w) X.A (compareOp .IsNot c (.bool b)) (EP X pins σ Q) X.xe s := fun h1 h2 => wpAny_isNot_other h1 h2 ⟨.bl true, H, I, rfl, by simpa [e] using q⟩
    cases x with
    | bl c =>
      cases (show v = Value.bool c from rx)
      exact go rfl fun z => e (congrArg V.bl (Value.bool.inj z))
    | int i => obtain ⟨t, rfl⟩ := rx; exact go rfl (fun z => nomatch z)
    | str i => obtain ⟨t, rfl⟩ := rx; exact go rfl (fun z => nomatch z)
    | byt i => obtain ⟨t, rfl⟩ := rx; exact go rfl (fun z => nomatch z)
    | flt i => obtain ⟨t, rfl⟩ := rx; exact go rfl (fun z => nomatch z)
    | non => cases rx; exact go rfl (fun z => nomatch z)
    | ref i => cases rx; exact go rfl (fun z => nomatch z)
    | ty i => cases rx; exact go rfl (fun z => nomatch z)
end
/-! ### odd values of the laws -/
structure Ody (K : PySem.W.Frag) (H : Hp) (v : V) (d : PyData) : Prop where
  o : Odd K H v d
  f : Fine d
  l : ∀ y, d = .str y → y.length ≤ 1000
theorem Ody.same {K : PySem.W.Frag} {H H' : Hp} {v : V} {d : PyData} (h : Ody K H v d) (s : Same H H') : Ody K H' v d := ⟨h.o.same s, h.f, h.l⟩
theorem Ody.extN {K : PySem.W.Frag} {H H' : Hp} {v : V} {d : PyData} (h : Ody K H v d) (s : ExtN H H') : Ody K H' v d := ⟨h.o.extN s, h.f, h.l⟩
def nmD : PyData → Bool
  | .str y => isNm (cd y)
  | _ => false
theorem nmD_str {K : PySem.W.Frag} {H : Hp} {v : V} {d : PyData} (h : Odd K H v d) (n : nmD d = true) : ∃ y, v = .str y ∧ d = .str y ∧ IsNm y := by
  cases d with
  | str y =>
    cases h with
    | dat h => cases h; exact ⟨y, rfl, rfl, n⟩
  | _ => cases n
/-- the first of them that is no name -/
def bad1 (us : List (V × PyData)) : Option (V × PyData) := us.find? (fun u => !nmD u.2)
def sp_checkX (K : PySem.W.Frag) (CI : Addr) : Sp := fun vs H _ E => ∃ (t : Addr) (us : List (V × PyData)) (u : V × PyData), vs = [.ref t] ∧ SqT K H t (us.map (·.1)) ∧ (∀ u ∈ us, Ody K H u.1 u.2) ∧ bad1 us = some u ∧ ErrS CI u.1 H E
/-- a pipe that is refused -/
def sp_PipeX (K : PySem.W.Frag) (C CI CE : Addr) : Sp := fun vs H _ E => ∃ (x dx : Addr) (u1 u2 u3 : V × PyData), vs = [.ref x, u1.1, u2.1, u3.1] ∧ H x = some (.ins C dx []) ∧ Ody K H u1.1 u1.2 ∧ Ody K H u2.1 u2.2 ∧ Ody K H u3.1 u3.2 ∧
  ((∃ u, bad1 [u1, u2, u3] = some u ∧ ErrS CI u.1 H E) ∨ (∃ n s : Str, u1.1 = .str n ∧ u2.1 = .str s ∧ u3.1 = .str s ∧ IsNm n ∧ IsNm s ∧ ErrS CE (.str s) H E))
def sp_MeterX (K : PySem.W.Frag) (C CI CF : Addr) : Sp := fun vs H _ E => ∃ (x dx : Addr) (u1 u2 u3 : V × PyData), vs = [.ref x, u1.1, u2.1, u3.1] ∧ H x = some (.ins C dx []) ∧ Ody K H u1.1 u1.2 ∧ Ody K H u2.1 u2.2 ∧ Ody K H u3.1 u3.2 ∧
  ((∃ u, bad1 [u1, u2] = some u ∧ ErrS CI u.1 H E) ∨ (∃ n s : Str, u1.1 = .str n ∧ u2.1 = .str s ∧ IsNm n ∧ IsNm s ∧ (∀ b, u3.1 ≠ .bl b) ∧ ErrS CF u3.1 H E))
end RV
/-! What the laws tell of a caught error, of what was made. -/
namespace RV
open PySem L2 PyProof.Rows LamX TL
def rStrB : List V → Hp → VK → Prop := fun xs H Q => ∃ b : Bool, xs = [.bl b] ∧ Q (.str (if b then "True" else "False")) H
theorem call_str_bl {X : Cx} : CallR X (.type "str") rStrB := by
  intro pins s σ H xs us Q I rx h
  obtain ⟨b, rfl, q⟩ := h
  cases rx with
  | cons r1 r2 =>
    cases r2
    cases r1
    exact PySem.P.str_of_bool ⟨.str _, H, I.tok _, ⟨_, rfl⟩, q⟩
theorem Kept.same {K : PySem.W.Frag} {cls : Value} {d : Option Addr} {f : Str} {y : V} {D dd : Addr} {H H' : Hp} (k : Kept K cls d f y D dd H) (s : Same H H') : Kept K cls d f y D dd H' := ⟨k.1, k.2.1, k.2.2.1, k.2.2.2.1, s _ _ k.2.2.2.2⟩
/-- the class at D is just the i-th of the sorts; names and values apart -/
structure SortAt (K : PySem.W.Frag) (cs : List Addr) (CB CV D : Addr) (nameB valB : Bool) (i : Nat) : Prop where
  lt : i < cs.length
  so : ∀ j C, cs[j]? = some C → PySem.W.kitOne K (.ref D) (.ref C) = some (decide (j = i))
  kb : PySem.W.kitOne K (.ref D) (.ref CB) = some nameB
  kv : PySem.W.kitOne K (.ref D) (.ref CV) = some valB
/-- what is told of an error: its place among the sorts, what it keeps -/
def sp_said (K : PySem.W.Frag) (cs : List Addr) (CB CV : Addr) (nm vl : Nat → Bool) (fld : Nat → Str) : Addr → Value → Option Addr → Sp := fun a cls d vs H Q _ =>
  ∃ (D dd : Addr) (i : Nat) (y : V) (dy : PyData), vs = [.ref a] ∧ Kept K cls d (fld i) y D dd H ∧ SortAt K cs CB CV D (nm i) (vl i) i ∧ Ody K H y dy ∧ ∀ H' l, Same H H' → H' l = some (.lst [.int (i : Nat), .str dy.shown]) → Q (.ref l) H'
/-- an odd value is shown -/
def sp_seenE (K : PySem.W.Frag) : Addr → Value → Option Addr → Sp := fun _ _ _ vs H Q _ => ∃ (v : V) (d : PyData), vs = [v] ∧ Ody K H v d ∧ Q (.str d.shown) H
/-- the texts of a pipe, a meter -/
def seenP (q : P3) : Str := "pipe " ++ q.1 ++ " " ++ q.2.1 ++ " " ++ q.2.2
def seenM (q : M3) : Str := "meter " ++ q.1 ++ " " ++ q.2.1 ++ " " ++ (if q.2.2 = true then ("True" : Str) else ("False" : Str))
def sp_seen3 (K : PySem.W.Frag) (CP CM : Addr) : Sp := fun vs H Q _ =>
  (∃ (x : Addr) (q : P3), vs = [.ref x] ∧ PipeAt CP H x q ∧ IsNm q.1 ∧ IsNm q.2.1 ∧ IsNm q.2.2 ∧ Q (.str (seenP q)) H) ∨
  (∃ (x : Addr) (q : M3), vs = [.ref x] ∧ MetAt CM H x q ∧ IsNm q.1 ∧ IsNm q.2.1 ∧ Q (.str (seenM q)) H) ∨
  (∃ (v : V) (d : PyData), vs = [v] ∧ Ody K H v d ∧ Q (.str d.shown) H)
end RV
namespace RV
open PySem L2 PyProof.Rows LamX TL
/-- an odd value of the laws is drawn -/
def sp_odd (K : PySem.W.Frag) : Sp := fun vs H Q _ => ∃ (a : Addr) (n : Nat), vs = [.ref a] ∧ WellAt H a n ∧ n < 900000 ∧ ∀ (v : V) (d : PyData) H', Ody K (del H' a) v d → Grow a H H' → WellAt H' a (n + 1) → Q v H'
/-- a sign is drawn -/
def sp_sign : Sp := fun vs H Q _ => ∃ (a : Addr) (n : Nat) (t : Str), vs = [.ref a, .str t] ∧ WellAt H a n ∧ n < 900000 ∧ Low t ∧ 1 ≤ t.length ∧ t.length ≤ 100 ∧ ∀ (c : Str) H', Low c → c.length = 1 → Grow a H H' → WellAt H' a (n + 2) → Q (.str c) H'
def oddL (t0 t1 l0 l1 d0 d1 : Addr) : List (V × PyData) := [(.non, .none), (.bl true, .bool true), (.bl false, .bool false), (.int 0, .int 0), (.int 1, .int 1), (.int (-1), .int (-1)), (.int 3, .int 3), (.int (10 ^ 30), .int (10 ^ 30)), strU "", strU "A", strU "1a", strU "a b", strU "a_b", strU "abcdefghi",
  (.ref t0, .tuple []), (.ref t1, .tuple [.str "a"]), (.ref l0, .list []), (.ref l1, .list [.str "a"]), (.ref d0, .dict []), (.ref d1, .dict [(.str "a", .int 1)])]
def odyB (d : PyData) : Bool := fineB d && (match d with | .str y => decide (y.length ≤ 1000) | _ => true)
theorem ody_by {K : PySem.W.Frag} {H : Hp} {v : V} {d : PyData} (o : Odd K H v d) (h : odyB d = true) : Ody K H v d := by
  unfold odyB at h
  rw [Bool.and_eq_true] at h
  refine ⟨o, fine_by h.1, fun y e => ?_⟩
  subst e
  exact of_decide_eq_true h.2
theorem oddL_ok {K : PySem.W.Frag} {H : Hp} {t0 t1 l0 l1 d0 d1 : Addr} (e1 : H t0 = some (.tup [])) (e2 : H t1 = some (.tup [.str "a"])) (e3 : H l0 = some (.lst [])) (e4 : H l1 = some (.lst [.str "a"])) (e5 : H d0 = some (.dK [])) (e6 : H d1 = some (.dK [(.inr "a", .int 1)])) :
    ∀ u ∈ oddL t0 t1 l0 l1 d0 d1, Ody K H u.1 u.2 := by
  intro u hu
  simp only [oddL, strU, List.mem_cons, List.not_mem_nil, or_false] at hu
  rcases hu with rfl | rfl | rfl | rfl | rfl | rfl | rfl | rfl | rfl | rfl | rfl | rfl | rfl | rfl | rfl | rfl | rfl | rfl | rfl | rfl
  · exact ody_by (.dat .non) (by decide +kernel)
  · exact ody_by (.dat (.bl _)) (by decide +kernel)
  · exact ody_by (.dat (.bl _)) (by decide +kernel)
  · exact ody_by (.dat (.int _)) (by decide +kernel)
  · exact ody_by (.dat (.int _)) (by decide +kernel)
  · exact ody_by (.dat (.int _)) (by decide +kernel)
  · exact ody_by (.dat (.int _)) (by decide +kernel)
  · exact ody_by (.dat (.int _)) (by decide +kernel)
  · exact ody_by (.dat (.str _)) (by decide +kernel)
  · exact ody_by (.dat (.str _)) (by decide +kernel)
  · exact ody_by (.dat (.str _)) (by decide +kernel)
  · exact ody_by (.dat (.str _)) (by decide +kernel)
  · exact ody_by (.dat (.str _)) (by decide +kernel)
  · exact ody_by (.dat (.str _)) (by decide +kernel)
  · exact ody_by (d := .tuple []) (.dat (.tup (SqT.of e1) .nil)) (by decide +kernel)
  · exact ody_by (d := .tuple [.str "a"]) (.dat (.tup (SqT.of e2) (.cons (.str _) .nil))) (by decide +kernel)
  · exact ody_by (d := .list []) (.dat (.lst (SqL.of e3) .nil)) (by decide +kernel)
  · exact ody_by (d := .list [.str "a"]) (.dat (.lst (SqL.of e4) (.cons (.str _) .nil))) (by decide +kernel)
  · exact ody_by (d := .dict []) (.dic0 e5) (by decide +kernel)
  · exact ody_by (d := .dict [(.str "a", .int 1)]) (.dic1 e6) (by decide +kernel)
end RV
/-! Comprehensions whose tests make things; what two values of the laws have to do with one another. -/
namespace RV
open PySem L2 PyProof.Rows LamX TL
section
variable {β : Type} {D : Addr} {us : List (V × β)} {i : Nat} {te : TE} {tt : TT} {vs : List Nat} {σ : L2.St} {H1 : Hp} {Qd : Hp → Prop} {J : It} {GG : Hp → Prop}
/-- [x for x in xs if p(x)]: the test may make things -/
theorem lc_keepP (p : V × β → Bool) (wk : Walk J (us.map (·.1)).length GG (YAt (us.map (·.1)))) (nD : H1 D = none) (len : us.length ≤ 1000) (hG : ∀ H', Same H1 H' → GG H') (hw : ∀ x, wipe ((wipe σ vs).set i x) vs = wipe σ vs)
    (ht : ∀ u ∈ us, ∀ H2, Same H1 H2 → ∀ R : Bool → Hp → Prop, (∀ H3, Same H2 H3 → R (p u) H3) → tt ((wipe σ vs).set i (some u.1)) H2 R)
    (he : ∀ u ∈ us, ∀ H2, ∀ R : VK, R u.1 H2 → te ((wipe σ vs).set i (some u.1)) H2 R)
    (k : ∀ H', Same H1 H' → H' D = some (.lst ((us.filter p).map (·.1))) → Qd H') :
    ∃ W : Nat → Nat → Hp → Prop, (∃ m, W 0 m (upd H1 D (.lst []))) ∧ ∀ i' m H, W i' m H →
      (J.stop i' H ∧ Qd H) ∨ (J.go i' H ∧ ∃ Nx : Hp → Prop, (∀ H', Nx H' → ∃ m', m' < m ∧ W (i' + 1) m' H') ∧ ∀ x H', J.yld i' H x H' → gName i x (wipe σ vs) H' fun σ2 H2 => wipe σ2 vs = wipe σ vs ∧ tt σ2 H2 fun b H3 =>
        if b = true then te σ2 H3 fun y H4 => ∃ acc, H4 D = some (.lst acc) ∧ acc.length < sizeLine ∧ Nx (upd H4 D (.lst (acc ++ [y]))) else Nx H3) := by
  refine L2.lc_it wk (fun i' H' => Same H1 H' ∧ H' D = some (.lst (((us.take i').filter p).map (·.1))))
    ⟨fun b o e => (upd_ne (ne_of_none e nD)).trans e, upd_same⟩ (fun i' H' _ z => hG _ z.1) (fun i' x Ha Hb hi hv y => ?_) (fun H' hv => ?_)
  · obtain ⟨s, eD⟩ := hv
    obtain ⟨rfl, hx⟩ := y
    rw [List.getElem?_map] at hx
    obtain ⟨u, hu, rfl⟩ : ∃ u, us[i']? = some u ∧ u.1 = x := by
      cases q : us[i']? with
      | none => rw [q] at hx; cases hx
      | some u => rw [q] at hx; exact ⟨u, rfl, Option.some.inj hx⟩
    have hm := List.mem_of_getElem? hu
    have et : us.take (i' + 1) = us.take i' ++ [u] := by rw [List.take_add_one, hu]; rfl
    refine ⟨hw _, ht u hm Hb s _ fun H3 s3 => ?_⟩
    cases hp : p u with
    | false =>
      refine iteF ⟨s.trans s3, ?_⟩
      rw [s3 _ _ eD, et, List.filter_append, List.filter_cons_of_neg (by rw [hp]; decide), List.filter_nil, List.append_nil]
    | true =>
      refine iteT (he u hm H3 _ ⟨_, s3 _ _ eD, ?_, fun b o e => ?_, ?_⟩)
      · have l1 := List.length_filter_le p (us.take i')
        have l3 := List.length_take_le' i' us
        rw [List.length_map]
        exact Nat.lt_of_le_of_lt (Nat.le_trans l1 (Nat.le_trans l3 len)) (by decide)
      · rw [upd_ne (ne_of_none e nD)]
        exact s3 _ _ (s _ _ e)
      · rw [upd_same, et, List.filter_append, List.filter_cons_of_pos hp, List.filter_nil, List.map_append]
        rfl
  · obtain ⟨s, eD⟩ := hv
    refine k H' s ?_
    rw [eD, List.length_map, List.take_of_length_le (Nat.le_refl _)]
end
theorem bad1_filter (us : List (V × PyData)) : ((us.filter (fun u => !nmD u.2)).map (·.1)).take 1 = (match bad1 us with | none => [] | some u => [u.1]) := by
  unfold bad1
  induction us with
  | nil => rfl
  | cons u us ih =>
    cases h : !nmD u.2 with
    | true => rw [List.filter_cons_of_pos (by rw [h]), List.find?_cons_of_pos (by rw [h])]; rfl
    | false => rw [List.filter_cons_of_neg (by rw [h]; decide), List.find?_cons_of_neg (by rw [h]; decide)]; exact ih
def sp_fbad (K : PySem.W.Frag) : Sp := fun vs H Q _ => ∃ (l : Addr) (us : List (V × PyData)), vs = [.ref l] ∧ SqL K H l (us.map (·.1)) ∧ (∀ u ∈ us, Ody K H u.1 u.2) ∧ us.length ≤ 20 ∧
  ∀ H' p, Same H H' → H' p = some (.lst (match bad1 us with | none => [] | some u => [u.1])) → Q (.ref p) H'
end RV
/-! xs != []: whatever stands in xs; rows of a place and a text. -/
namespace RV
open PySem L2 PyProof.Rows LamX TL
def rNe0 (K : PySem.W.Frag) : R2 := fun x y H Q => ∃ a b xs, x = .ref a ∧ y = .ref b ∧ SqL K H a xs ∧ SqL K H b [] ∧ Q (.bl (!xs.isEmpty)) H
section
variable {X : Cx}
theorem op_ne0 (hu : X.A.units < cLine) : OpR X (compareOp .NotEq) (rNe0 X.K) := by
  intro pins s σ H x y v u Q I rx ry h
  obtain ⟨a, b, xs, rfl, rfl, ha, hb, q⟩ := h
  cases rx
  cases ry
  obtain ⟨its, rv, ⟨⟨cls, dd, data, sl⟩, n, ho, hc, hdn, hd⟩, _⟩ := I.list ha
  obtain ⟨its2, rv2, ⟨⟨cls2, dd2, data2, sl2⟩, n2, ho2, hc2, hdn2, hd2⟩, _⟩ := I.list hb
  simp only at hc hd hc2 hd2
  subst hc hd hc2 hd2
  cases rv2
  have hl1 : s.heap.IsList a its.toArray := ⟨_, ho, rfl, _, rfl⟩
  have hl2 : s.heap.IsList b ([] : List Value).toArray := ⟨_, ho2, rfl, _, rfl⟩
  cases rv with
  | nil => exact SeqAt.RcNeAt.lists (e := fun _ => true) hl1 hl2 rfl hu (fun j h1 => absurd h1 (by simp)) _ _ _ _ ⟨.bl false, H, I, rfl, q⟩
  | cons r t => exact SeqAt.RcNeAt.lists_lengths hl1 hl2 (by simp) hu _ _ _ _ ⟨.bl true, H, I, rfl, q⟩
end
/-- [2, 'text'] and the like -/
def rowD (d : PyData) (s : Str) : PyData := .list [d, .str s]
theorem rowD_lay {d : PyData} {t : Str} (h1 : d.canLay0 = true) (h2 : PyData.strOk t = true) : (rowD d t).canLay0 = true := by simp [rowD, PyData.canLay0, PyData.canLayAll0, h1, h2]
theorem rowD_dep {d : PyData} {t : Str} (h : d.depth = 0) : (rowD d t).depth = 1 := by simp [rowD, PyData.depth, PyData.depthAll, h]
theorem lay_all {ds : List PyData} {n : Nat} (h : ∀ d ∈ ds, d.canLay0 = true ∧ d.depth ≤ n) : PyData.canLayAll0 ds = true ∧ PyData.depthAll ds ≤ n := by
  induction ds with
  | nil => exact ⟨by simp [PyData.canLayAll0], by simp [PyData.depthAll]⟩
  | cons d ds ih =>
    obtain ⟨a1, a2⟩ := h d List.mem_cons_self
    obtain ⟨b1, b2⟩ := ih fun x hx => h x (List.mem_cons_of_mem _ hx)
    refine ⟨by rw [PyData.canLayAll0, a1, b1]; rfl, ?_⟩
    rw [PyData.depthAll]
    omega
theorem shaped_list {ds : List PyData} {n : Nat} (h : ∀ d ∈ ds, d.canLay0 = true ∧ d.depth ≤ n) (hn : n < 64) : SeqAt.shaped (.list ds) = true := by
  obtain ⟨a, b⟩ := lay_all h
  unfold SeqAt.shaped
  rw [PyData.canLay0, a, PyData.depth, Bool.true_and, decide_eq_true_eq]
  omega
end RV
/-! What the catching def tells of pipes and meters. -/
namespace RV
open PySem L2 PyProof.Rows LamX TL
theorem delS {a : Addr} {H : Hp} : Same (del H a) H := fun b o e => by
  by_cases hb : b = a
  · subst hb
    rw [del_same] at e
    cases e
  · rw [del_ne hb] at e
    exact e
theorem Ody.up {K : PySem.W.Frag} {a : Addr} {H : Hp} {v : V} {d : PyData} (o : Ody K (del H a) v d) : Ody K H v d := o.same delS
theorem Ody.grow {K : PySem.W.Frag} {a : Addr} {H H' : Hp} {v : V} {d : PyData} (o : Ody K (del H a) v d) (g : Grow a H H') : Ody K (del H' a) v d := o.same (same_del (grow_del g))
theorem extN_del {a : Addr} {H H' : Hp} (e : ExtN H H') : ExtN (del H a) (del H' a) := fun b o q t => by
  by_cases hb : b = a
  · subst hb
    rw [L2.del_same] at q
    cases q
  · rw [del_ne hb] at q ⊢
    exact e b o q t
theorem Ody.growN {K : PySem.W.Frag} {a : Addr} {H H' : Hp} {v : V} {d : PyData} (o : Ody K (del H a) v d) (e : ExtN H H') : Ody K (del H' a) v d := o.extN (extN_del e)
theorem TabS.grow {a Pt : Addr} {n : Nat} {q : Str} {H H' : Hp} (t : TabS H Pt q) (w : WellAt H a n) (g : Grow a H H') : TabS H' Pt q := by
  obtain ⟨ps, h1, h2, h3⟩ := t
  obtain ⟨x, y, z, e, _⟩ := w
  refine ⟨ps, g _ _ (fun q => by rw [q, e] at h1; cases h1) h1, h2, fun pos cv hc => ?_⟩
  obtain ⟨c, e1, e2⟩ := h3 pos cv hc
  exact ⟨c, e1, g _ _ (fun q => by rw [q, e] at e2; unfold CodeO at e2; cases e2) e2⟩
theorem Tabs.grow {a : Addr} {n : Nat} {T : List (Addr × Str)} {H H' : Hp} (t : Tabs T H) (w : WellAt H a n) (g : Grow a H H') : Tabs T H' := fun p hp => RV.TabS.grow (t p hp) w g
theorem Has.extN {a : Addr} {n : Nat} {L : List (Addr × HO)} {H0 H H' : Hp} (h : Has H0 a n L H) (e : ExtN H H') (hL : ∀ p ∈ L, ∀ ps, p.2 ≠ .tbl ps) : Has H' a n L H' := by
  obtain ⟨x, y, z, ew, r⟩ := h.well
  exact ⟨Grow.refl a H', ⟨x, y, z, e _ _ ew (fun _ q => nomatch q), r⟩, fun p hp => ⟨(h.here p hp).1, e _ _ (h.here p hp).2 (hL p hp)⟩⟩
theorem Tabs.put {T : List (Addr × Str)} {H : Hp} {l : Addr} {xs : List V} {o : HO} (t : Tabs T H) (e : H l = some (.lst xs)) : Tabs T (upd H l o) := fun p hp => by
  obtain ⟨ps, h1, h2, h3⟩ := t p hp
  have off : ∀ {b u}, H b = some u → u ≠ .lst xs → b ≠ l := fun q d z => by
    rw [z, e] at q
    exact d (Option.some.inj q).symm
  refine ⟨ps, by rw [upd_ne (off h1 (fun z => nomatch z))]; exact h1, h2, fun pos cv hc => ?_⟩
  obtain ⟨c, e1, e2⟩ := h3 pos cv hc
  exact ⟨c, e1, by rw [upd_ne (off e2 (fun z => by unfold CodeO at z; cases z))]; exact e2⟩
/-- a thing that is not among them is written anew -/
theorem Has.chg {a p : Addr} {n : Nat} {L : List (Addr × HO)} {H0 H : Hp} {o : HO} (h : Has H0 a n L H) (pa : p ≠ a) (hL : ∀ q ∈ L, q.1 ≠ p) : Has (upd H p o) a n ((p, o) :: L) (upd H p o) := by
  obtain ⟨x, y, z, e, r⟩ := h.well
  refine ⟨Grow.refl a _, ⟨x, y, z, by rw [upd_ne pa.symm]; exact e, r⟩, fun q hq => ?_⟩
  rcases List.mem_cons.mp hq with rfl | hq
  · exact ⟨pa, upd_same⟩
  · exact ⟨(h.here q hq).1, by rw [upd_ne (hL q hq)]; exact (h.here q hq).2⟩
theorem Has.len3 {a l : Addr} {n : Nat} {L : List (Addr × HO)} {H0 H : Hp} {xs : List V} (h : Has H0 a n L H) (e : H l = some (.lst xs)) (hx : xs.length ≠ 3) : l ≠ a := by
  rintro rfl
  obtain ⟨x, y, z, ew, _⟩ := h.well
  rw [ew] at e
  cases e
  exact hx rfl
theorem Same.growA {a : Addr} {H H' : Hp} (s : Same H H') : Grow a H H' := fun b o _ e => s b o e
/-- an error class of the i-th sort, which keeps what was given -/
structure ErrC (K : PySem.W.Frag) (cs : List Addr) (CB CV CA : Addr) (nm vl : Nat → Bool) (fld : Nat → Str) (D : Addr) (i : Nat) : Prop where
  own : OwnX K D
  no : PySem.W.findIn K (.ref D) "given" = some none
  so : SortAt K cs CB CV D (nm i) (vl i) i
  ex : PySem.W.exmAny K (.ref D) [.ref CV, .ref CB, .ref CA] = some true
  fl : fld i = "given"
section
variable {K : PySem.W.Frag} {cs : List Addr} {CP CM CB CV CA CI CE CF D : Addr} {nm vl : Nat → Bool} {fld : Nat → Str} {i : Nat} {H : Hp} {v : V} {d : PyData} {Q : VK}
/-- how an error is told -/
def EC (K : PySem.W.Frag) (cs : List Addr) (CB CV CA : Addr) (nm vl : Nat → Bool) (fld : Nat → Str) (Q : VK) : XK := fun cls d H' => PySem.W.exmAny K cls [.ref CV, .ref CB, .ref CA] = some true ∧ ∀ a, H' a = none → sp_said K cs CB CV nm vl fld a cls d [.ref a] H' Q E0
theorem errS_said (M : ErrC K cs CB CV CA nm vl fld D i) (o : Ody K H v d) (k : ∀ H' l, Same H H' → H' l = some (.lst [.int (i : Nat), .str d.shown]) → Q (.ref l) H') : ErrS D v H (EC K cs CB CV CA nm vl fld Q) := by
  intro dd H' s e
  refine ⟨M.ex, fun a na => ⟨D, dd, i, v, d, rfl, ⟨rfl, rfl, M.own, by rw [M.fl]; exact M.no, by rw [M.fl]; exact e⟩, M.so, o.same s, fun H2 l s2 e2 => k H2 l (s.trans s2) e2⟩⟩
/-- what is told of Pipe(v1, v2, v3) -/
def outP (u1 u2 u3 : V × PyData) : PyData × Str := match bad1 [u1, u2, u3] with
  | some u => (.int 2, u.2.shown)
  | none => match u1.2, u2.2, u3.2 with
    | .str n, .str s, .str e => if e = s then (.int 3, (PyData.str e).shown) else (.str "told", seenP (n, s, e))
    | _, _, _ => (.none, "")
def outM (u1 u2 u3 : V × PyData) : PyData × Str := match bad1 [u1, u2] with
  | some u => (.int 2, u.2.shown)
  | none => match u1.2, u2.2, u3.2 with
    | .str n, .str s, .bool z => (.str "told", seenM (n, s, z))
    | .str _, .str _, d => (.int 4, d.shown)
    | _, _, _ => (.none, "")
/-- the value of such a datum -/
def flV : PyData → V
  | .int i => .int i
  | .str x => .str x
  | .bool b => .bl b
  | _ => .non
theorem pipe_told {f x dx : Addr} {u1 u2 u3 : V × PyData} (M2 : ErrC K cs CB CV CA nm vl fld CI 2) (M3 : ErrC K cs CB CV CA nm vl fld CE 3) (o1 : Ody K H u1.1 u1.2) (o2 : Ody K H u2.1 u2.2) (o3 : Ody K H u3.1 u3.2) (nx : H x = none) (nd : H dx = none) (ne : dx ≠ x)
    (k : ∀ H' l, Same H H' → H' l = some (.lst [flV (outP u1 u2 u3).1, .str (outP u1 u2 u3).2]) → Q (.ref l) H') :
    Irr (orS (sp_Pipe CP) (sp_PipeX K CP CI CE)) [.ref x, u1.1, u2.1, u3.1] (upd (upd H dx (.own x)) x (.ins CP dx [])) (fun v H2 => v = .non ∧ TOld (Irr (sp_seen3 K CP CM)) f Q (.ref x) H2) (EC K cs CB CV CA nm vl fld Q) := by
  have s0 : Same H (upd (upd H dx (.own x)) x (.ins CP dx [])) := fun b o e => by rw [upd_ne (ne_of_none e nx), upd_ne (ne_of_none e nd)]; exact e
  have ex : upd (upd H dx (.own x)) x (.ins CP dx []) x = some (.ins CP dx []) := upd_same
  unfold outP at k
  cases hb : bad1 [u1, u2, u3] with
  | some u =>
    rw [hb] at k
    have hm : u ∈ [u1, u2, u3] := List.mem_of_find?_eq_some hb
    have ou : Ody K H u.1 u.2 := by
      simp only [List.mem_cons, List.not_mem_nil, or_false] at hm
      rcases hm with rfl | rfl | rfl <;> assumption
    exact irr (.inr ⟨x, dx, u1, u2, u3, rfl, ex, o1.same s0, o2.same s0, o3.same s0, .inl ⟨u, hb, errS_said M2 (ou.same s0) fun H' l s e => k H' l (s0.trans s) e⟩⟩)
  | none =>
    rw [hb] at k
    have all := List.find?_eq_none.mp hb
    obtain ⟨n, e1, e1', hn⟩ := nmD_str o1.o (by simpa using all u1 (by simp))
    obtain ⟨s, e2, e2', hs⟩ := nmD_str o2.o (by simpa using all u2 (by simp))
    obtain ⟨t, e3, e3', ht⟩ := nmD_str o3.o (by simpa using all u3 (by simp))
    obtain ⟨v1, d1⟩ := u1
    obtain ⟨v2, d2⟩ := u2
    obtain ⟨v3, d3⟩ := u3
    dsimp only at e1 e1' e2 e2' e3 e3' k o1 o2 o3 ⊢
    subst e1 e1' e2 e2' e3 e3'
    dsimp only at k
    by_cases q : t = s
    · subst q
      rw [if_pos rfl] at k
      exact irr (.inr ⟨x, dx, (.str n, .str n), (.str t, .str t), (.str t, .str t), rfl, ex, o1.same s0, o2.same s0, o3.same s0, .inr ⟨n, t, rfl, rfl, rfl, hn, hs, errS_said M3 (o3.same s0) fun H' l s e => k H' l (s0.trans s) e⟩⟩)
    · rw [if_neg q] at k
      refine irr (.inl ⟨x, dx, n, s, t, rfl, ex, hn, hs, ht, q, fun H2 g2 e2 => ⟨rfl, ?_⟩⟩)
      refine tOld_of (irr (.inl ⟨x, (n, s, t), rfl, e2, hn, hs, ht, toldK_of fun p np => k _ p (fun b o e => ?_) upd_same⟩))
      have e' := g2 b o (fun z => by rw [z, nx] at e; cases e) (s0 _ _ e)
      rw [upd_ne (ne_of_none e' np)]
      exact e'
theorem odd_bl {K : PySem.W.Frag} {H : Hp} {v : V} {d : PyData} (o : Odd K H v d) : (∀ b, d = .bool b → v = .bl b) ∧ (∀ b, v = .bl b → d = .bool b) := by
  cases o with
  | dat o =>
    cases o with
    | bl b => exact ⟨fun c e => by cases e; rfl, fun c e => by cases e; rfl⟩
    | _ => exact ⟨fun _ e => (nomatch e), fun _ e => (nomatch e)⟩
  | _ => exact ⟨fun _ e => (nomatch e), fun _ e => (nomatch e)⟩
def isB : PyData → Bool
  | .bool _ => true
  | _ => false
theorem kit_odB (K : PySem.W.Frag) (d : PyData) : PySem.W.kitOne K (odT d) (.type "bool") = some (isB d) := by
  cases d <;> exact kit_ty (by rfl)
theorem outM_no {u1 u2 u3 : V × PyData} {n s : Str} (hb : bad1 [u1, u2] = none) (e1 : u1.2 = .str n) (e2 : u2.2 = .str s) (h : isB u3.2 = false) : outM u1 u2 u3 = (.int 4, u3.2.shown) := by
  unfold outM
  rw [hb, e1, e2]
  cases q : u3.2 with
  | bool b => rw [q] at h; cases h
  | _ => rfl
theorem meter_told {f x dx : Addr} {u1 u2 u3 : V × PyData} (M2 : ErrC K cs CB CV CA nm vl fld CI 2) (M4 : ErrC K cs CB CV CA nm vl fld CF 4) (o1 : Ody K H u1.1 u1.2) (o2 : Ody K H u2.1 u2.2) (o3 : Ody K H u3.1 u3.2) (nx : H x = none) (nd : H dx = none) (ne : dx ≠ x)
    (k : ∀ H' l, Same H H' → H' l = some (.lst [flV (outM u1 u2 u3).1, .str (outM u1 u2 u3).2]) → Q (.ref l) H') :
    Irr (orS (sp_Meter CM) (sp_MeterX K CM CI CF)) [.ref x, u1.1, u2.1, u3.1] (upd (upd H dx (.own x)) x (.ins CM dx [])) (fun v H2 => v = .non ∧ TOld (Irr (sp_seen3 K CP CM)) f Q (.ref x) H2) (EC K cs CB CV CA nm vl fld Q) := by
  have s0 : Same H (upd (upd H dx (.own x)) x (.ins CM dx [])) := fun b o e => by rw [upd_ne (ne_of_none e nx), upd_ne (ne_of_none e nd)]; exact e
  have ex : upd (upd H dx (.own x)) x (.ins CM dx []) x = some (.ins CM dx []) := upd_same
  cases hb : bad1 [u1, u2] with
  | some u =>
    have eo : outM u1 u2 u3 = (.int 2, u.2.shown) := by unfold outM; rw [hb]
    rw [eo] at k
    have hm : u ∈ [u1, u2] := List.mem_of_find?_eq_some hb
    have ou : Ody K H u.1 u.2 := by
      simp only [List.mem_cons, List.not_mem_nil, or_false] at hm
      rcases hm with rfl | rfl <;> assumption
    exact irr (.inr ⟨x, dx, u1, u2, u3, rfl, ex, o1.same s0, o2.same s0, o3.same s0, .inl ⟨u, hb, errS_said M2 (ou.same s0) fun H' l s e => k H' l (s0.trans s) e⟩⟩)
  | none =>
    have all := List.find?_eq_none.mp hb
    obtain ⟨n, e1, e1', hn⟩ := nmD_str o1.o (by simpa using all u1 (by simp))
    obtain ⟨s, e2, e2', hs⟩ := nmD_str o2.o (by simpa using all u2 (by simp))
    obtain ⟨v3, d3⟩ := u3
    cases hz : isB d3 with
    | true =>
      obtain ⟨z, rfl⟩ : ∃ z, d3 = .bool z := by
        cases d3 with
        | bool z => exact ⟨z, rfl⟩
        | _ => cases hz
      obtain rfl : v3 = .bl z := (odd_bl o3.o).1 z rfl
      have eo : outM u1 u2 (.bl z, .bool z) = (.str "told", seenM (n, s, z)) := by unfold outM; rw [hb, e1', e2']
      rw [eo] at k
      rw [e1, e2]
      refine irr (.inl ⟨x, dx, n, s, z, rfl, ex, hn, hs, fun H2 g2 e2 => ⟨rfl, ?_⟩⟩)
      refine tOld_of (irr (.inr (.inl ⟨x, (n, s, z), rfl, e2, hn, hs, toldK_of fun p np => k _ p (fun b o e => ?_) upd_same⟩)))
      have e' := g2 b o (fun z => by rw [z, nx] at e; cases e) (s0 _ _ e)
      rw [upd_ne (ne_of_none e' np)]
      exact e'
    | false =>
      rw [outM_no hb e1' e2' hz] at k
      refine irr (.inr ⟨x, dx, u1, u2, (v3, d3), rfl, ex, o1.same s0, o2.same s0, o3.same s0, .inr ⟨n, s, e1, e2, hn, hs, fun b e => ?_, errS_said M4 (o3.same s0) fun H' l s e => k H' l (s0.trans s) e⟩⟩)
      have q : d3 = .bool b := (odd_bl o3.o).2 b e
      rw [q] at hz
      cases hz
theorem strOk_low {x : Str} (h : Low x) : PyData.strOk x = true := ok_sg.mpr fun c hc => Nat.lt_trans (h c hc) (by decide)
/-- what is told can be compared -/
def OkOut (o : PyData × Str) : Prop := ((∃ i, o.1 = .int i) ∨ ∃ x, o.1 = .str x ∧ PyData.strOk x = true) ∧ PyData.strOk o.2 = true
theorem OkOut.dp {o : PyData × Str} (h : OkOut o) (K : PySem.W.Frag) (H : Hp) : Dp K H (flV o.1) o.1 := by
  obtain ⟨⟨i, e⟩ | ⟨x, e, _⟩, _⟩ := h
  · rw [e]; exact .int i
  · rw [e]; exact .str x
theorem OkOut.row {o : PyData × Str} (h : OkOut o) {l : Addr} (e : H l = some (.lst [flV o.1, .str o.2])) : Dp K H (.ref l) (rowD o.1 o.2) := .lst (SqL.of e) (.cons (h.dp K H) (.cons (.str _) .nil))
theorem OkOut.lay {o : PyData × Str} (h : OkOut o) : (rowD o.1 o.2).canLay0 = true ∧ (rowD o.1 o.2).depth ≤ 1 := by
  obtain ⟨h1, h2⟩ := h
  have e : o.1.canLay0 = true ∧ o.1.depth = 0 := by
    rcases h1 with ⟨i, e⟩ | ⟨x, e, hx⟩
    · rw [e]; exact ⟨by simp [PyData.canLay0], by simp [PyData.depth]⟩
    · rw [e]; exact ⟨by simp [PyData.canLay0, hx], by simp [PyData.depth]⟩
  exact ⟨rowD_lay e.1 h2, Nat.le_of_eq (rowD_dep e.2)⟩
theorem OkOut.shaped {o : PyData × Str} (h : OkOut o) : SeqAt.shaped (.list [rowD o.1 o.2, rowD o.1 o.2]) = true := shaped_list (n := 1) (fun d hd => by
  simp only [List.mem_cons, List.not_mem_nil, or_false] at hd
  rcases hd with rfl | rfl <;> exact h.lay) (by decide)
theorem okOut_P {u1 u2 u3 : V × PyData} (o1 : Ody K H u1.1 u1.2) (o2 : Ody K H u2.1 u2.2) (o3 : Ody K H u3.1 u3.2) : OkOut (outP u1 u2 u3) := by
  unfold outP
  cases hb : bad1 [u1, u2, u3] with
  | some u =>
    have hm : u ∈ [u1, u2, u3] := List.mem_of_find?_eq_some hb
    refine ⟨.inl ⟨_, rfl⟩, ?_⟩
    simp only [List.mem_cons, List.not_mem_nil, or_false] at hm
    rcases hm with rfl | rfl | rfl
    · exact o1.f.sk
    · exact o2.f.sk
    · exact o3.f.sk
  | none =>
    have all := List.find?_eq_none.mp hb
    obtain ⟨n, e1, e1', hn⟩ := nmD_str o1.o (by simpa using all u1 (by simp))
    obtain ⟨s, e2, e2', hs⟩ := nmD_str o2.o (by simpa using all u2 (by simp))
    obtain ⟨t, e3, e3', ht⟩ := nmD_str o3.o (by simpa using all u3 (by simp))
    rw [e1', e2', e3']
    dsimp only
    split
    · exact ⟨.inl ⟨_, rfl⟩, e3' ▸ o3.f.sk⟩
    · exact ⟨.inr ⟨_, rfl, by decide +kernel⟩, strOk_low (low_app (low_app (low_app (low_app (low_app (low_c (by decide +kernel)) (low_nm hn)) (low_c (by decide +kernel))) (low_nm hs)) (low_c (by decide +kernel))) (low_nm ht))⟩
theorem okOut_M {u1 u2 u3 : V × PyData} (o1 : Ody K H u1.1 u1.2) (o2 : Ody K H u2.1 u2.2) (o3 : Ody K H u3.1 u3.2) : OkOut (outM u1 u2 u3) := by
  cases hb : bad1 [u1, u2] with
  | some u =>
    have eo : outM u1 u2 u3 = (.int 2, u.2.shown) := by unfold outM; rw [hb]
    rw [eo]
    have hm : u ∈ [u1, u2] := List.mem_of_find?_eq_some hb
    refine ⟨.inl ⟨_, rfl⟩, ?_⟩
    simp only [List.mem_cons, List.not_mem_nil, or_false] at hm
    rcases hm with rfl | rfl
    · exact o1.f.sk
    · exact o2.f.sk
  | none =>
    have all := List.find?_eq_none.mp hb
    obtain ⟨n, e1, e1', hn⟩ := nmD_str o1.o (by simpa using all u1 (by simp))
    obtain ⟨s, e2, e2', hs⟩ := nmD_str o2.o (by simpa using all u2 (by simp))
    cases hz : isB u3.2 with
    | true =>
      obtain ⟨z, q⟩ : ∃ z, u3.2 = .bool z := by
        cases q : u3.2 with
        | bool z => exact ⟨z, rfl⟩
        | _ => rw [q] at hz; cases hz
      have eo : outM u1 u2 u3 = (.str "told", seenM (n, s, z)) := by unfold outM; rw [hb, e1', e2', q]
      rw [eo]
      refine ⟨.inr ⟨_, rfl, by decide +kernel⟩, strOk_low (low_app (low_app (low_app (low_app (low_app (low_c (by decide +kernel)) (low_nm hn)) (low_c (by decide +kernel))) (low_nm hs)) (low_c (by decide +kernel))) ?_)⟩
      cases z
      · exact (low_c (by decide +kernel) : Low ("False" : Str))
      · exact (low_c (by decide +kernel) : Low ("True" : Str))
    | false =>
      rw [outM_no hb e1' e2' hz]
      exact ⟨.inl ⟨_, rfl⟩, o3.f.sk⟩
end
/-- self and three by keyword: the third of them comes first -/
def gCab {α : Type} (us ws : List α) : List α := match us, ws with
  | [x], [a, b, c] => [x, c, a, b]
  | _, _ => []
def gCba {α : Type} (us ws : List α) : List α := match us, ws with
  | [x], [a, b, c] => [x, c, b, a]
  | _, _ => []
theorem gCab_rel {vs : List V} {us : List Value} {zs : List V} {ws : List Value} (r1 : Vals vs us) (r2 : Vals zs ws) : Vals (gCab vs zs) (gCab us ws) := by
  match vs, us, zs, ws, r1, r2 with
  | [x], [u], [a, b, c], [p, q, r], .cons x1 .nil, .cons a1 (.cons b1 (.cons c1 .nil)) => exact .cons x1 (.cons c1 (.cons a1 (.cons b1 .nil)))
  | [], [], _, _, .nil, _ => exact .nil
  | _ :: _ :: _, _ :: _ :: _, _, _, .cons _ (.cons _ _), _ => exact .nil
  | [_], [_], [], [], .cons _ .nil, .nil => exact .nil
  | [_], [_], [_], [_], .cons _ .nil, .cons _ .nil => exact .nil
  | [_], [_], [_, _], [_, _], .cons _ .nil, .cons _ (.cons _ .nil) => exact .nil
  | [_], [_], _ :: _ :: _ :: _ :: _, _ :: _ :: _ :: _ :: _, .cons _ .nil, .cons _ (.cons _ (.cons _ (.cons _ _))) => exact .nil
theorem gCba_rel {vs : List V} {us : List Value} {zs : List V} {ws : List Value} (r1 : Vals vs us) (r2 : Vals zs ws) : Vals (gCba vs zs) (gCba us ws) := by
  match vs, us, zs, ws, r1, r2 with
  | [x], [u], [a, b, c], [p, q, r], .cons x1 .nil, .cons a1 (.cons b1 (.cons c1 .nil)) => exact .cons x1 (.cons c1 (.cons b1 (.cons a1 .nil)))
  | [], [], _, _, .nil, _ => exact .nil
  | _ :: _ :: _, _ :: _ :: _, _, _, .cons _ (.cons _ _), _ => exact .nil
  | [_], [_], [], [], .cons _ .nil, .nil => exact .nil
  | [_], [_], [_], [_], .cons _ .nil, .cons _ .nil => exact .nil
  | [_], [_], [_, _], [_, _], .cons _ .nil, .cons _ (.cons _ .nil) => exact .nil
  | [_], [_], _ :: _ :: _ :: _ :: _, _ :: _ :: _ :: _ :: _, .cons _ .nil, .cons _ (.cons _ (.cons _ (.cons _ _))) => exact .nil
end RV
/-! Facts of the top about errors, put together. -/
namespace RV
open PySem L2 PyProof.Rows LamX TL
theorem ex3 {K : PySem.W.Frag} {cls a b c : Value} {x y z : Bool} (h1 : PySem.W.exmOne K cls a = some x) (h2 : PySem.W.exmOne K cls b = some y) (h3 : PySem.W.exmOne K cls c = some z) (h : (x || (y || (z || false))) = true) : PySem.W.exmAny K cls [a, b, c] = some true := by
  unfold PySem.W.exmAny
  rw [h1]
  unfold PySem.W.exmAny
  rw [h2]
  unfold PySem.W.exmAny
  rw [h3]
  unfold PySem.W.exmAny
  dsimp only
  rw [h]
theorem so8 {K : PySem.W.Frag} {D c0 c1 c2 c3 c4 c5 c6 c7 : Addr} {i : Nat} (h0 : PySem.W.kitOne K (.ref D) (.ref c0) = some (decide (0 = i))) (h1 : PySem.W.kitOne K (.ref D) (.ref c1) = some (decide (1 = i))) (h2 : PySem.W.kitOne K (.ref D) (.ref c2) = some (decide (2 = i))) (h3 : PySem.W.kitOne K (.ref D) (.ref c3) = some (decide (3 = i)))
    (h4 : PySem.W.kitOne K (.ref D) (.ref c4) = some (decide (4 = i))) (h5 : PySem.W.kitOne K (.ref D) (.ref c5) = some (decide (5 = i))) (h6 : PySem.W.kitOne K (.ref D) (.ref c6) = some (decide (6 = i))) (h7 : PySem.W.kitOne K (.ref D) (.ref c7) = some (decide (7 = i))) :
    ∀ j C, [c0, c1, c2, c3, c4, c5, c6, c7][j]? = some C → PySem.W.kitOne K (.ref D) (.ref C) = some (decide (j = i)) := by
  intro j C e
  match j, e with
  | 0, e => cases e; exact h0
  | 1, e => cases e; exact h1
  | 2, e => cases e; exact h2
  | 3, e => cases e; exact h3
  | 4, e => cases e; exact h4
  | 5, e => cases e; exact h5
  | 6, e => cases e; exact h6
  | 7, e => cases e; exact h7
  | n + 8, e => simp at e
end RV
namespace RV
open PySem L2
def top (i : Nat) : Stmt := PySem.Challenge.pw_ringvotes_k10_pipes_and_meters_refused.main.body.getD i (.Pass ⟨0, 0, 0, 0⟩)
abbrev s_wall : Stmt := top 0
abbrev sc_wall_N : List Str := ["k"]
abbrev s_is_number : Stmt := top 7
abbrev sc_is_number_N : List Str := ["value"]
abbrev s_is_name : Stmt := top 8
abbrev sc_is_name_N : List Str := ["value", "letter"]
theorem sc_is_name : FnScope sc_is_name_N ["value"] (defScope s_is_name) := ⟨rfl, rfl, rfl, by decide +kernel, rfl, by decide +kernel, by decide +kernel⟩
abbrev s_is_digits : Stmt := top 9
abbrev sc_is_digits_N : List Str := ["text"]
abbrev s_written_number : Stmt := top 10
abbrev sc_written_number_N : List Str := ["number", "pieces", "rest"]
abbrev s_read_number : Stmt := top 11
abbrev sc_read_number_N : List Str := ["digits", "first", "number", "at"]
abbrev s_InvalidName___init__ : Stmt := inClass (top 14) 0
abbrev sc_InvalidName___init___N : List Str := ["self", "given"]
theorem sc_InvalidName___init__ : FnScope sc_InvalidName___init___N ["self", "given"] (defScope s_InvalidName___init__) := ⟨rfl, rfl, rfl, by decide +kernel, rfl, by decide +kernel, by decide +kernel⟩
abbrev s_InvalidEnd___init__ : Stmt := inClass (top 15) 0
abbrev sc_InvalidEnd___init___N : List Str := ["self", "given"]
theorem sc_InvalidEnd___init__ : FnScope sc_InvalidEnd___init___N ["self", "given"] (defScope s_InvalidEnd___init__) := ⟨rfl, rfl, rfl, by decide +kernel, rfl, by decide +kernel, by decide +kernel⟩
abbrev s_InvalidFlag___init__ : Stmt := inClass (top 16) 0
abbrev sc_InvalidFlag___init___N : List Str := ["self", "given"]
theorem sc_InvalidFlag___init__ : FnScope sc_InvalidFlag___init___N ["self", "given"] (defScope s_InvalidFlag___init__) := ⟨rfl, rfl, rfl, by decide +kernel, rfl, by decide +kernel, by decide +kernel⟩
abbrev s_Pipe___init__ : Stmt := inClass (top 30) 0
abbrev sc_Pipe___init___N : List Str := ["self", "name", "start", "end"]
theorem sc_Pipe___init__ : FnScope sc_Pipe___init___N ["self", "name", "start", "end"] (defScope s_Pipe___init__) := ⟨rfl, rfl, rfl, by decide +kernel, rfl, by decide +kernel, by decide +kernel⟩
abbrev s_Pipe_name : Stmt := inClass (top 30) 1
abbrev sc_Pipe_name_N : List Str := ["self"]
theorem sc_Pipe_name : FnScope sc_Pipe_name_N ["self"] (defScope s_Pipe_name) := ⟨rfl, rfl, rfl, by decide +kernel, rfl, by decide +kernel, by decide +kernel⟩
abbrev s_Pipe_start : Stmt := inClass (top 30) 2
abbrev sc_Pipe_start_N : List Str := ["self"]
theorem sc_Pipe_start : FnScope sc_Pipe_start_N ["self"] (defScope s_Pipe_start) := ⟨rfl, rfl, rfl, by decide +kernel, rfl, by decide +kernel, by decide +kernel⟩
abbrev s_Pipe_end : Stmt := inClass (top 30) 3
abbrev sc_Pipe_end_N : List Str := ["self"]
theorem sc_Pipe_end : FnScope sc_Pipe_end_N ["self"] (defScope s_Pipe_end) := ⟨rfl, rfl, rfl, by decide +kernel, rfl, by decide +kernel, by decide +kernel⟩
abbrev s_Pipe___eq__ : Stmt := inClass (top 30) 4
abbrev sc_Pipe___eq___N : List Str := ["self", "other"]
theorem sc_Pipe___eq__ : FnScope sc_Pipe___eq___N ["self", "other"] (defScope s_Pipe___eq__) := ⟨rfl, rfl, rfl, by decide +kernel, rfl, by decide +kernel, by decide +kernel⟩
abbrev s_Meter___init__ : Stmt := inClass (top 31) 0
abbrev sc_Meter___init___N : List Str := ["self", "name", "at", "sealed"]
theorem sc_Meter___init__ : FnScope sc_Meter___init___N ["self", "name", "at", "sealed"] (defScope s_Meter___init__) := ⟨rfl, rfl, rfl, by decide +kernel, rfl, by decide +kernel, by decide +kernel⟩
abbrev s_Meter_name : Stmt := inClass (top 31) 1
abbrev sc_Meter_name_N : List Str := ["self"]
theorem sc_Meter_name : FnScope sc_Meter_name_N ["self"] (defScope s_Meter_name) := ⟨rfl, rfl, rfl, by decide +kernel, rfl, by decide +kernel, by decide +kernel⟩
abbrev s_Meter_at : Stmt := inClass (top 31) 2
abbrev sc_Meter_at_N : List Str := ["self"]
theorem sc_Meter_at : FnScope sc_Meter_at_N ["self"] (defScope s_Meter_at) := ⟨rfl, rfl, rfl, by decide +kernel, rfl, by decide +kernel, by decide +kernel⟩
abbrev s_Meter_sealed : Stmt := inClass (top 31) 3
abbrev sc_Meter_sealed_N : List Str := ["self"]
theorem sc_Meter_sealed : FnScope sc_Meter_sealed_N ["self"] (defScope s_Meter_sealed) := ⟨rfl, rfl, rfl, by decide +kernel, rfl, by decide +kernel, by decide +kernel⟩
abbrev s_Meter___eq__ : Stmt := inClass (top 31) 4
abbrev sc_Meter___eq___N : List Str := ["self", "other"]
theorem sc_Meter___eq__ : FnScope sc_Meter___eq___N ["self", "other"] (defScope s_Meter___eq__) := ⟨rfl, rfl, rfl, by decide +kernel, rfl, by decide +kernel, by decide +kernel⟩
abbrev s_Net___init__ : Stmt := inClass (top 32) 0
abbrev sc_Net___init___N : List Str := ["self", "pipes", "meters"]
abbrev s_Net_read : Stmt := inClass (top 32) 1
abbrev sc_Net_read_N : List Str := ["cls", "text", "net"]
abbrev s_Net_pipes : Stmt := inClass (top 32) 2
abbrev sc_Net_pipes_N : List Str := ["self"]
abbrev s_Net_meters : Stmt := inClass (top 32) 3
abbrev sc_Net_meters_N : List Str := ["self"]
abbrev s_Net_places : Stmt := inClass (top 32) 4
abbrev sc_Net_places_N : List Str := ["self"]
abbrev s_Net_pipe : Stmt := inClass (top 32) 5
abbrev sc_Net_pipe_N : List Str := ["self", "name", "index"]
abbrev s_Net_meter : Stmt := inClass (top 32) 6
abbrev sc_Net_meter_N : List Str := ["self", "name", "index"]
abbrev s_Net___add__ : Stmt := inClass (top 32) 7
abbrev sc_Net___add___N : List Str := ["self", "other", "index"]
abbrev s_Net___sub__ : Stmt := inClass (top 32) 8
abbrev sc_Net___sub___N : List Str := ["self", "other", "index"]
abbrev s_Net___contains__ : Stmt := inClass (top 32) 9
abbrev sc_Net___contains___N : List Str := ["self", "x"]
abbrev s_Net___len__ : Stmt := inClass (top 32) 10
abbrev sc_Net___len___N : List Str := ["self"]
abbrev s_Net___str__ : Stmt := inClass (top 32) 11
abbrev sc_Net___str___N : List Str := ["self"]
abbrev s_Net___repr__ : Stmt := inClass (top 32) 12
abbrev sc_Net___repr___N : List Str := ["self"]
abbrev s_Net___eq__ : Stmt := inClass (top 32) 13
abbrev sc_Net___eq___N : List Str := ["self", "other"]
abbrev s_check_names : Stmt := top 33
abbrev sc_check_names_N : List Str := ["values", "value"]
theorem sc_check_names : FnScope sc_check_names_N ["values"] (defScope s_check_names) := ⟨rfl, rfl, rfl, by decide +kernel, rfl, by decide +kernel, by decide +kernel⟩
abbrev s_check_pipes : Stmt := top 34
abbrev sc_check_pipes_N : List Str := ["pipes", "names", "index", "part"]
abbrev s_check_meters : Stmt := top 35
abbrev sc_check_meters_N : List Str := ["meters", "pipes", "names", "index", "part"]
abbrev s_index_of : Stmt := top 36
abbrev sc_index_of_N : List Str := ["parts", "name", "index", "part"]
abbrev s_lines : Stmt := top 37
abbrev sc_lines_N : List Str := ["pipes", "meters", "part"]
abbrev s_pipe_line : Stmt := top 38
abbrev sc_pipe_line_N : List Str := ["part"]
abbrev s_meter_line : Stmt := top 39
abbrev sc_meter_line_N : List Str := ["part", "seal"]
abbrev s_rows_in : Stmt := top 40
abbrev sc_rows_in_N : List Str := ["text", "line"]
abbrev s_pipes_in : Stmt := top 41
abbrev sc_pipes_in_N : List Str := ["text", "rows", "row"]
abbrev s_meters_in : Stmt := top 42
abbrev sc_meters_in_N : List Str := ["text", "rows", "row"]
abbrev s_Sum___init__ : Stmt := inClass (top 44) 0
abbrev sc_Sum___init___N : List Str := ["self", "terms"]
abbrev s_Sum_read : Stmt := inClass (top 44) 1
abbrev sc_Sum_read_N : List Str := ["cls", "text", "total"]
abbrev s_Sum_of : Stmt := inClass (top 44) 2
abbrev sc_Sum_of_N : List Str := ["cls", "names", "name"]
abbrev s_Sum_terms : Stmt := inClass (top 44) 3
abbrev sc_Sum_terms_N : List Str := ["self"]
abbrev s_Sum___len__ : Stmt := inClass (top 44) 4
abbrev sc_Sum___len___N : List Str := ["self"]
abbrev s_Sum___bool__ : Stmt := inClass (top 44) 5
abbrev sc_Sum___bool___N : List Str := ["self"]
abbrev s_Sum___getitem__ : Stmt := inClass (top 44) 6
abbrev sc_Sum___getitem___N : List Str := ["self", "at", "name", "number"]
abbrev s_Sum___iter__ : Stmt := inClass (top 44) 7
abbrev sc_Sum___iter___N : List Str := ["self"]
abbrev s_Sum___contains__ : Stmt := inClass (top 44) 8
abbrev sc_Sum___contains___N : List Str := ["self", "x"]
abbrev s_Sum___str__ : Stmt := inClass (top 44) 9
abbrev sc_Sum___str___N : List Str := ["self"]
abbrev s_Sum___eq__ : Stmt := inClass (top 44) 10
abbrev sc_Sum___eq___N : List Str := ["self", "other"]
abbrev s_Sum___add__ : Stmt := inClass (top 44) 11
abbrev sc_Sum___add___N : List Str := ["self", "other"]
abbrev s_Sum___sub__ : Stmt := inClass (top 44) 12
abbrev sc_Sum___sub___N : List Str := ["self", "other"]
abbrev s_Sum___neg__ : Stmt := inClass (top 44) 13
abbrev sc_Sum___neg___N : List Str := ["self"]
abbrev s_Sum___mul__ : Stmt := inClass (top 44) 14
abbrev sc_Sum___mul___N : List Str := ["self", "other", "name", "number"]
abbrev s_Sum___rmul__ : Stmt := inClass (top 44) 15
abbrev sc_Sum___rmul___N : List Str := ["self", "other"]
abbrev s_check_terms : Stmt := top 45
abbrev sc_check_terms_N : List Str := ["terms", "index", "term"]
abbrev s_is_term : Stmt := top 46
abbrev sc_is_term_N : List Str := ["value"]
abbrev s_collected : Stmt := top 47
abbrev sc_collected_N : List Str := ["terms", "coefficients", "name", "number"]
abbrev s_written_terms : Stmt := top 48
abbrev sc_written_terms_N : List Str := ["terms", "name", "number", "minus", "first"]
abbrev s_written_further : Stmt := top 49
abbrev sc_written_further_N : List Str := ["name", "number", "sign"]
abbrev s_without_sign : Stmt := top 50
abbrev sc_without_sign_N : List Str := ["name", "number"]
abbrev s_terms_in : Stmt := top 51
abbrev sc_terms_in_N : List Str := ["text", "words", "terms", "sign", "word", "term"]
abbrev s_with_sign_apart : Stmt := top 52
abbrev sc_with_sign_apart_N : List Str := ["text"]
abbrev s_read_term : Stmt := top 53
abbrev sc_read_term_N : List Str := ["sign", "word", "digits", "star", "name", "number"]
abbrev s_well : Stmt := top 55
abbrev sc_well_N : List Str := ["_law_cells", "_law_k", "_law_cell", "_law_other"]
theorem sc_well : FnScope sc_well_N ["_law_cells", "_law_k"] (defScope s_well) := ⟨rfl, rfl, rfl, by decide +kernel, rfl, by decide +kernel, by decide +kernel⟩
abbrev s_dip : Stmt := top 56
abbrev sc_dip_N : List Str := ["_law_well_here", "_law_many", "_law_digit", "_law_mixed"]
theorem sc_dip : FnScope sc_dip_N ["_law_well_here", "_law_many"] (defScope s_dip) := ⟨rfl, rfl, rfl, by decide +kernel, rfl, by decide +kernel, by decide +kernel⟩
abbrev s_name : Stmt := top 57
abbrev sc_name_N : List Str := ["_law_well_here", "_law_signs", "_law_line", "_law_turn"]
theorem sc_name : FnScope sc_name_N ["_law_well_here"] (defScope s_name) := ⟨rfl, rfl, rfl, by decide +kernel, rfl, by decide +kernel, by decide +kernel⟩
abbrev s_sign : Stmt := top 58
abbrev sc_sign_N : List Str := ["_law_well_here", "_law_often", "_law_signs"]
theorem sc_sign : FnScope sc_sign_N ["_law_well_here", "_law_often"] (defScope s_sign) := ⟨rfl, rfl, rfl, by decide +kernel, rfl, by decide +kernel, by decide +kernel⟩
abbrev s_odd : Stmt := top 59
abbrev sc_odd_N : List Str := ["_law_well_here", "_law_spot", "_law_some"]
theorem sc_odd : FnScope sc_odd_N ["_law_well_here"] (defScope s_odd) := ⟨rfl, rfl, rfl, by decide +kernel, rfl, by decide +kernel, by decide +kernel⟩
abbrev s_seen : Stmt := top 60
abbrev sc_seen_N : List Str := ["_law_thing"]
theorem sc_seen : FnScope sc_seen_N ["_law_thing"] (defScope s_seen) := ⟨rfl, rfl, rfl, by decide +kernel, rfl, by decide +kernel, by decide +kernel⟩
abbrev s_said : Stmt := top 61
abbrev sc_said_N : List Str := ["_law_e", "_law_sorts", "_law_spot"]
theorem sc_said : FnScope sc_said_N ["_law_e"] (defScope s_said) := ⟨rfl, rfl, rfl, by decide +kernel, rfl, by decide +kernel, by decide +kernel⟩
abbrev s_caught : Stmt := top 62
abbrev sc_caught_N : List Str := ["_law_act", "_law_told", "_law_e"]
theorem sc_caught : FnScope sc_caught_N ["_law_act"] (defScope s_caught) := ⟨rfl, rfl, rfl, by decide +kernel, rfl, by decide +kernel, by decide +kernel⟩
abbrev s_lis_name : Stmt := top 63
abbrev sc_lis_name_N : List Str := ["_law_word", "_law_signs", "_law_sign_here"]
theorem sc_lis_name : FnScope sc_lis_name_N ["_law_word"] (defScope s_lis_name) := ⟨rfl, rfl, rfl, by decide +kernel, rfl, by decide +kernel, by decide +kernel⟩
abbrev s_bent_name : Stmt := top 64
abbrev sc_bent_name_N : List Str := ["_law_well_here", "_law_title", "_law_spot", "_law_gap"]
theorem sc_bent_name : FnScope sc_bent_name_N ["_law_well_here"] (defScope s_bent_name) := ⟨rfl, rfl, rfl, by decide +kernel, rfl, by decide +kernel, by decide +kernel⟩
abbrev s_value : Stmt := top 65
abbrev sc_value_N : List Str := ["_law_well_here", "_law_way"]
theorem sc_value : FnScope sc_value_N ["_law_well_here"] (defScope s_value) := ⟨rfl, rfl, rfl, by decide +kernel, rfl, by decide +kernel, by decide +kernel⟩
abbrev s_first_bad : Stmt := top 66
abbrev sc_first_bad_N : List Str := ["_law_some", "_law_each"]
theorem sc_first_bad : FnScope sc_first_bad_N ["_law_some"] (defScope s_first_bad) := ⟨rfl, rfl, rfl, by decide +kernel, rfl, by decide +kernel, by decide +kernel⟩
abbrev s_pipe_right : Stmt := top 67
abbrev sc_pipe_right_N : List Str := ["_law_well_here", "_law_one", "_law_two", "_law_three", "_law_bad", "_law_told", "_law_due"]
theorem sc_pipe_right : FnScope sc_pipe_right_N ["_law_well_here"] (defScope s_pipe_right) := ⟨rfl, rfl, rfl, by decide +kernel, rfl, by decide +kernel, by decide +kernel⟩
abbrev s_meter_right : Stmt := top 68
abbrev sc_meter_right_N : List Str := ["_law_well_here", "_law_one", "_law_two", "_law_way", "_law_shut", "_law_bad", "_law_told", "_law_due"]
theorem sc_meter_right : FnScope sc_meter_right_N ["_law_well_here"] (defScope s_meter_right) := ⟨rfl, rfl, rfl, by decide +kernel, rfl, by decide +kernel, by decide +kernel⟩
abbrev s_law : Stmt := top 69
abbrev sc_law_N : List Str := ["_law_cells", "_law_k", "_law_well_here", "_law_turn"]
theorem sc_law : FnScope sc_law_N ["_law_cells"] (defScope s_law) := ⟨rfl, rfl, rfl, by decide +kernel, rfl, by decide +kernel, by decide +kernel⟩
end RV
namespace RV
open PySem L2
section
variable {P : Program} {w : World} {K : PySem.W.Frag} {mg : Str → Option Value} {base : Heap}
theorem ok_check_names {f : Addr} {fd : FuncData} (F : Fun K "_check_names" "_check_names" s_check_names f fd) (h_is_name : Fn P w K mg base "is_name" 1 ["value"] (Irr (sp_is_name K))) : FnOk P w K mg base CX0 2 f fd ["values"] (sp_check K) := by
  refine F.ok sc_check_names (fun vs H Q E h => ?_) (fun cdv A outer s H vs Q E hr h => ?_)
  · obtain ⟨_, _, rfl, _⟩ := h
    rfl
  · obtain ⟨t, xs, rfl, ht, hx, k⟩ := h
    refine ⟨_, (pss_one (ps_for PassesOwn.never rfl (pi_tup (pv 0)) (pg_name (i := 1) sc_check_names.nd rfl (Or.inl rfl)) (pss_one (ps_if (pt_not (pt_val (pe_fn h_is_name (hr.mono (by decide)) (pa_cons (pv 1) pa_nil)))) (pss_one ps_never) pss_nil)))), ?_⟩
    have sqt : ∀ {H'}, Same H H' → SqT K H' t (xs.map V.str) := fun e => by
      rcases ht with (h | ⟨o, h⟩) | h
      · exact .inl (.inl (e _ _ h))
      · exact .inl (.inr ⟨o, e _ _ h⟩)
      · exact .inr h
    refine ⟨_, rfl, t, rfl, ⟨_, ht⟩, for_tup (K := K) (a := t) (xs := xs.map V.str) (fun i σ H' => Same H H' ∧ ∃ o, σ = [some (.ref t), o]) ⟨Same.refl H, none, rfl⟩ (fun _ _ _ _ h => sqt h.1) ?_ ?_⟩
    · rintro i v σ H' hi ⟨sm, o, rfl⟩
      obtain ⟨y, rfl, hy⟩ : ∃ y, v = V.str y ∧ y ∈ xs := by
        rw [List.getElem?_map] at hi
        cases e : xs[i]? with
        | none => rw [e] at hi; cases hi
        | some y => rw [e] at hi; exact ⟨y, (Option.some.inj hi).symm, List.mem_of_getElem? e⟩
      have hn := hx y hy
      have hl := isNm_len hn
      rw [← cd_len] at hl
      refine ⟨_, rfl, irr ⟨_, rfl, .inl ⟨y, rfl, szn (by omega), fun H2 s2 => ?_⟩⟩⟩
      rw [show isNm (cd y) = true from hn]
      exact ⟨true, rfl, sm.trans s2, _, rfl⟩
    · rintro σ H' ⟨sm, o, rfl⟩
      exact k H' sm
theorem ok_Pipe_i {C f : Addr} {fd : FuncData} (F : Fun K "__init__" "Pipe.__init__" s_Pipe___init__ f fd) (T : PClass K mg C) (h_check_names : Fn P w K mg base "_check_names" 2 ["values"] (Irr (sp_check K))) : FnOk P w K mg base CX0 3 f fd ["self", "name", "start", "end"] (sp_Pipe C) := by
  refine F.ok sc_Pipe___init__ (fun vs H Q E h => ?_) (fun cdv A outer s H vs Q E hr h => ?_)
  · obtain ⟨_, _, _, _, _, rfl, _⟩ := h
    rfl
  · obtain ⟨x, dx, n, st, e, rfl, hx, hn, hs, he, hne, k⟩ := h
    refine ⟨_, (pss_cons (ps_expr (pe_fn h_check_names (hr.mono (by decide)) (pa_cons (pe_tup (pa_cons (pv 1) (pa_cons (pv 2) (pa_cons (pv 3) pa_nil)))) pa_nil)))
      (pss_cons (ps_if (pt_cmpR op_eq (pv 3) (pv 2) (nomark _)) (pss_one ps_never) pss_nil)
      (pss_cons (ps_fld (pv 0) (pv 1) rfl)
      (pss_cons (ps_fld (pv 0) (pv 2) rfl)
      (pss_one (ps_fld (pv 0) (pv 3) rfl)))))), ?_⟩
    refine ⟨_, rfl, _, rfl, _, rfl, (by show 3 ≤ sizeLine; decide), fun p np => irr ⟨p, [n, st, e], rfl, SqT.of upd_same, ?_, fun H1 s1 => ?_⟩⟩
    · intro y hy
      simp only [List.mem_cons, List.not_mem_nil, or_false] at hy
      rcases hy with rfl | rfl | rfl
      · exact hn
      · exact hs
      · exact he
    have hx1 := s1 _ _ (show (upd H p (.tup ([n, st, e].map V.str))) x = _ by rw [upd_ne (ne_of_none hx np)]; exact hx)
    refine ⟨_, rfl, _, rfl, rfl, _, rfl, ?_⟩
    refine ite2 (fun q => absurd (of_decide_eq_true q) fun z => hne (V.str.inj z)) (fun _ => ?_)
    refine ⟨_, rfl, _, rfl, x, C, dx, _, rfl, hx1, T.x.cl, T.n1, (by show 0 < 1000; decide), ?_⟩
    refine ⟨_, rfl, _, rfl, x, C, dx, _, rfl, upd_same, T.x.cl, T.n2, (by have := putF_len "_name" (.str n) []; simp at this ⊢; omega), ?_⟩
    refine ⟨_, rfl, _, rfl, x, C, dx, _, rfl, upd_same, T.x.cl, T.n3, (by have := putF_len "_name" (.str n) []; have := putF_len "_start" (.str st) (putF "_name" (.str n) []); simp at *; omega), ?_⟩
    refine k _ (fun b o hb eb => ?_) ⟨dx, upd_same⟩
    rw [upd_ne hb, upd_ne hb, upd_ne hb]
    exact s1 _ _ (by rw [upd_ne (ne_of_none eb np)]; exact eb)
theorem ok_Meter_i {C f : Addr} {fd : FuncData} {kws : List (Str × V)} (F : FunD K "__init__" "Meter.__init__" (defArgs s_Meter___init__) (defBody s_Meter___init__) (defScope s_Meter___init__) [] kws f fd) (T : MClass K mg C) (h_check_names : Fn P w K mg base "_check_names" 2 ["values"] (Irr (sp_check K))) : FnOk P w K mg base CX0 3 f fd ["self", "name", "at", "sealed"] (sp_Meter C) := by
  refine F.ok sc_Meter___init__ (fun vs H Q E h => ?_) (fun cdv A outer s H vs Q E hr h => ?_)
  · obtain ⟨_, _, _, _, _, rfl, _⟩ := h
    rfl
  · obtain ⟨x, dx, n, a, z, rfl, hx, hn, ha, k⟩ := h
    refine ⟨_, (pss_cons (ps_expr (pe_fn h_check_names (hr.mono (by decide)) (pa_cons (pe_tup (pa_cons (pv 1) (pa_cons (pv 2) pa_nil))) pa_nil)))
      (pss_cons (ps_if (PW.pt (pw_and (pt_cmpR op_isnot_bl (pv 3) pe_bl (nomark _)) (pw_and1 (pt_cmpR op_isnot_bl (pv 3) pe_bl (nomark _))))) (pss_one ps_never) pss_nil)
      (pss_cons (ps_fld (pv 0) (pv 1) rfl)
      (pss_cons (ps_fld (pv 0) (pv 2) rfl)
      (pss_one (ps_fld (pv 0) (pv 3) rfl)))))), ?_⟩
    refine ⟨_, rfl, _, rfl, (by show 2 ≤ sizeLine; decide), fun p np => irr ⟨p, [n, a], rfl, SqT.of upd_same, ?_, fun H1 s1 => ?_⟩⟩
    · intro y hy
      simp only [List.mem_cons, List.not_mem_nil, or_false] at hy
      rcases hy with rfl | rfl
      · exact hn
      · exact ha
    have hx1 := s1 _ _ (show (upd H p (.tup ([n, a].map V.str))) x = _ by rw [upd_ne (ne_of_none hx np)]; exact hx)
    have rest : tSeq (sFld K (tVar 0) (tVar 1) "_name") (tSeq (sFld K (tVar 0) (tVar 2) "_at") (sFld K (tVar 0) (tVar 3) "_sealed")) { nx := fun _ H' => Q .non H', rt := Q } [some (.ref x), some (.str n), some (.str a), some (.bl z)] H1 := by
      refine ⟨_, rfl, _, rfl, x, C, dx, _, rfl, hx1, T.x.cl, T.n1, (by show 0 < 1000; decide), ?_⟩
      refine ⟨_, rfl, _, rfl, x, C, dx, _, rfl, upd_same, T.x.cl, T.n2, (by have := putF_len "_name" (.str n) []; simp at this ⊢; omega), ?_⟩
      refine ⟨_, rfl, _, rfl, x, C, dx, _, rfl, upd_same, T.x.cl, T.n3, (by have := putF_len "_name" (.str n) []; have := putF_len "_at" (.str a) (putF "_name" (.str n) []); simp at *; omega), ?_⟩
      refine k _ (fun b o hb eb => ?_) ⟨dx, upd_same⟩
      rw [upd_ne hb, upd_ne hb, upd_ne hb]
      exact s1 _ _ (by rw [upd_ne (ne_of_none eb np)]; exact eb)
    refine ⟨_, rfl, _, _, rfl, rfl, _, rfl, ?_⟩
    cases z with
    | true => exact rest
    | false => exact ⟨_, rfl, _, _, rfl, rfl, _, rfl, rest⟩
theorem ok_Pipe_q {C f : Addr} {fd : FuncData} (F : Fun K "__eq__" "Pipe.__eq__" s_Pipe___eq__ f fd) (T : PClass K mg C) (B : Blt mg) : FnOk P w K mg base CX0 1 f fd ["self", "other"] (sp_Peq C) := by
  refine F.ok sc_Pipe___eq__ (fun vs H Q E h => ?_) (fun cdv A outer s H vs Q E hr h => ?_)
  · obtain ⟨_, _, _, _, rfl, _⟩ := h
    rfl
  · obtain ⟨a, b, ⟨n, st, e⟩, ⟨n', s', e'⟩, rfl, ⟨dx, ha⟩, ⟨dy, hb⟩, k⟩ := h
    refine ⟨_, (pss_one (ps_ret (pe_and (pe_callB call_isi (by rfl) B.b_isinstance (by decide +kernel) (pa_cons (pv 1) (pa_cons (pe_gC T.k) pa_nil))) (pe_and (pe_cmpR op_eq (pe_fld (pv 0) rfl) (pe_fld (pv 1) rfl) (nomark _)) (pe_and (pe_cmpR op_eq (pe_fld (pv 0) rfl) (pe_fld (pv 1) rfl) (nomark _)) (pe_one (pe_cmpR op_eq (pe_fld (pv 0) rfl) (pe_fld (pv 1) rfl) (nomark _)))))))), ?_⟩
    have dd : decide ((n, st, e) = (n', s', e')) = decide (n = n' ∧ st = s' ∧ e = e') := by simp only [Prod.mk.injEq]
    rw [dd] at k
    refine ⟨_, rfl, _, _, _, .ref C, true, rfl, .own C, T.x.ty hb, T.me, true, rfl, iteT ?_⟩
    refine ⟨_, rfl, a, C, dx, _, _, rfl, ha, T.x.cl, T.n1, pipeF_n _ _ _, _, rfl, b, C, dy, _, _, rfl, hb, T.x.cl, T.n1, pipeF_n _ _ _, rfl, _, rfl, ?_⟩
    refine ite2 (fun h1 => ?_) (fun h1 => ?_)
    · have e1 : n = n' := V.str.inj (of_decide_eq_true h1)
      refine ⟨_, rfl, a, C, dx, _, _, rfl, ha, T.x.cl, T.n2, pipeF_s _ _ _, _, rfl, b, C, dy, _, _, rfl, hb, T.x.cl, T.n2, pipeF_s _ _ _, rfl, _, rfl, ?_⟩
      refine ite2 (fun h2 => ?_) (fun h2 => ?_)
      · have e2 : st = s' := V.str.inj (of_decide_eq_true h2)
        refine ⟨_, rfl, a, C, dx, _, _, rfl, ha, T.x.cl, T.n3, pipeF_e _ _ _, _, rfl, b, C, dy, _, _, rfl, hb, T.x.cl, T.n3, pipeF_e _ _ _, rfl, ?_⟩
        have e3 : decide (V.str e = V.str e') = decide (n = n' ∧ st = s' ∧ e = e') := by
          subst e1 e2
          by_cases q : e = e' <;> simp [q]
        show Q (.bl (decide (V.str e = V.str e'))) H
        rw [e3]
        exact k
      · have : decide (n = n' ∧ st = s' ∧ e = e') = false := decide_eq_false fun z => h2 (decide_eq_true (congrArg V.str z.2.1))
        rw [← this]
        exact k
    · have : decide (n = n' ∧ st = s' ∧ e = e') = false := decide_eq_false fun z => h1 (decide_eq_true (congrArg V.str z.1))
      rw [← this]
      exact k
theorem ok_Meter_q {C f : Addr} {fd : FuncData} (F : Fun K "__eq__" "Meter.__eq__" s_Meter___eq__ f fd) (T : MClass K mg C) (B : Blt mg) : FnOk P w K mg base CX0 1 f fd ["self", "other"] (sp_Meq C) := by
  refine F.ok sc_Meter___eq__ (fun vs H Q E h => ?_) (fun cdv A outer s H vs Q E hr h => ?_)
  · obtain ⟨_, _, _, _, rfl, _⟩ := h
    rfl
  · obtain ⟨a, b, ⟨n, st, e⟩, ⟨n', s', e'⟩, rfl, ⟨dx, ha⟩, ⟨dy, hb⟩, k⟩ := h
    refine ⟨_, (pss_one (ps_ret (pe_and (pe_callB call_isi (by rfl) B.b_isinstance (by decide +kernel) (pa_cons (pv 1) (pa_cons (pe_gC T.k) pa_nil))) (pe_and (pe_cmpR op_eq (pe_fld (pv 0) rfl) (pe_fld (pv 1) rfl) (nomark _)) (pe_and (pe_cmpR op_eq (pe_fld (pv 0) rfl) (pe_fld (pv 1) rfl) (nomark _)) (pe_one (pe_cmpR op_eq (pe_fld (pv 0) rfl) (pe_fld (pv 1) rfl) (nomark _)))))))), ?_⟩
    have dd : decide ((n, st, e) = (n', s', e')) = decide (n = n' ∧ st = s' ∧ e = e') := by simp only [Prod.mk.injEq]
    rw [dd] at k
    refine ⟨_, rfl, _, _, _, .ref C, true, rfl, .own C, T.x.ty hb, T.me, true, rfl, iteT ?_⟩
    refine ⟨_, rfl, a, C, dx, _, _, rfl, ha, T.x.cl, T.n1, metF_n _ _ _, _, rfl, b, C, dy, _, _, rfl, hb, T.x.cl, T.n1, metF_n _ _ _, rfl, _, rfl, ?_⟩
    refine ite2 (fun h1 => ?_) (fun h1 => ?_)
    · have e1 : n = n' := V.str.inj (of_decide_eq_true h1)
      refine ⟨_, rfl, a, C, dx, _, _, rfl, ha, T.x.cl, T.n2, metF_a _ _ _, _, rfl, b, C, dy, _, _, rfl, hb, T.x.cl, T.n2, metF_a _ _ _, rfl, _, rfl, ?_⟩
      refine ite2 (fun h2 => ?_) (fun h2 => ?_)
      · have e2 : st = s' := V.str.inj (of_decide_eq_true h2)
        refine ⟨_, rfl, a, C, dx, _, _, rfl, ha, T.x.cl, T.n3, metF_z _ _ _, _, rfl, b, C, dy, _, _, rfl, hb, T.x.cl, T.n3, metF_z _ _ _, rfl, ?_⟩
        have e3 : decide (V.bl e = V.bl e') = decide (n = n' ∧ st = s' ∧ e = e') := by
          subst e1 e2
          by_cases q : e = e' <;> simp [q]
        show Q (.bl (decide (V.bl e = V.bl e'))) H
        rw [e3]
        exact k
      · have : decide (n = n' ∧ st = s' ∧ e = e') = false := decide_eq_false fun z => h2 (decide_eq_true (congrArg V.str z.2.1))
        rw [← this]
        exact k
    · have : decide (n = n' ∧ st = s' ∧ e = e') = false := decide_eq_false fun z => h1 (decide_eq_true (congrArg V.str z.1))
      rw [← this]
      exact k
theorem ok_Pipe_name {C f : Addr} {fd : FuncData} (F : Fun K "name" "Pipe.name" s_Pipe_name f fd) (T : PClass K mg C) : FnOk P w K mg base CX0 1 f fd ["self"] (sp_pn C) := by
  refine F.ok sc_Pipe_name (fun vs H Q E h => ?_) (fun cdv A outer s H vs Q E hr h => ?_)
  · obtain ⟨_, _, rfl, _⟩ := h
    rfl
  · obtain ⟨a, q, rfl, ⟨dx, ha⟩, k⟩ := h
    refine ⟨_, (pss_one (ps_ret (pe_fld (pv 0) rfl))), ?_⟩
    exact ⟨_, rfl, a, C, dx, _, _, rfl, ha, T.x.cl, T.n1, pipeF_n _ _ _, k⟩
theorem ok_Pipe_start {C f : Addr} {fd : FuncData} (F : Fun K "start" "Pipe.start" s_Pipe_start f fd) (T : PClass K mg C) : FnOk P w K mg base CX0 1 f fd ["self"] (sp_ps C) := by
  refine F.ok sc_Pipe_start (fun vs H Q E h => ?_) (fun cdv A outer s H vs Q E hr h => ?_)
  · obtain ⟨_, _, rfl, _⟩ := h
    rfl
  · obtain ⟨a, q, rfl, ⟨dx, ha⟩, k⟩ := h
    refine ⟨_, (pss_one (ps_ret (pe_fld (pv 0) rfl))), ?_⟩
    exact ⟨_, rfl, a, C, dx, _, _, rfl, ha, T.x.cl, T.n2, pipeF_s _ _ _, k⟩
theorem ok_Pipe_end {C f : Addr} {fd : FuncData} (F : Fun K "end" "Pipe.end" s_Pipe_end f fd) (T : PClass K mg C) : FnOk P w K mg base CX0 1 f fd ["self"] (sp_pe C) := by
  refine F.ok sc_Pipe_end (fun vs H Q E h => ?_) (fun cdv A outer s H vs Q E hr h => ?_)
  · obtain ⟨_, _, rfl, _⟩ := h
    rfl
  · obtain ⟨a, q, rfl, ⟨dx, ha⟩, k⟩ := h
    refine ⟨_, (pss_one (ps_ret (pe_fld (pv 0) rfl))), ?_⟩
    exact ⟨_, rfl, a, C, dx, _, _, rfl, ha, T.x.cl, T.n3, pipeF_e _ _ _, k⟩
theorem ok_Meter_name {C f : Addr} {fd : FuncData} (F : Fun K "name" "Meter.name" s_Meter_name f fd) (T : MClass K mg C) : FnOk P w K mg base CX0 1 f fd ["self"] (sp_mn C) := by
  refine F.ok sc_Meter_name (fun vs H Q E h => ?_) (fun cdv A outer s H vs Q E hr h => ?_)
  · obtain ⟨_, _, rfl, _⟩ := h
    rfl
  · obtain ⟨a, q, rfl, ⟨dx, ha⟩, k⟩ := h
    refine ⟨_, (pss_one (ps_ret (pe_fld (pv 0) rfl))), ?_⟩
    exact ⟨_, rfl, a, C, dx, _, _, rfl, ha, T.x.cl, T.n1, metF_n _ _ _, k⟩
theorem ok_Meter_at {C f : Addr} {fd : FuncData} (F : Fun K "at" "Meter.at" s_Meter_at f fd) (T : MClass K mg C) : FnOk P w K mg base CX0 1 f fd ["self"] (sp_ma C) := by
  refine F.ok sc_Meter_at (fun vs H Q E h => ?_) (fun cdv A outer s H vs Q E hr h => ?_)
  · obtain ⟨_, _, rfl, _⟩ := h
    rfl
  · obtain ⟨a, q, rfl, ⟨dx, ha⟩, k⟩ := h
    refine ⟨_, (pss_one (ps_ret (pe_fld (pv 0) rfl))), ?_⟩
    exact ⟨_, rfl, a, C, dx, _, _, rfl, ha, T.x.cl, T.n2, metF_a _ _ _, k⟩
theorem ok_Meter_sealed {C f : Addr} {fd : FuncData} (F : Fun K "sealed" "Meter.sealed" s_Meter_sealed f fd) (T : MClass K mg C) : FnOk P w K mg base CX0 1 f fd ["self"] (sp_mz C) := by
  refine F.ok sc_Meter_sealed (fun vs H Q E h => ?_) (fun cdv A outer s H vs Q E hr h => ?_)
  · obtain ⟨_, _, rfl, _⟩ := h
    rfl
  · obtain ⟨a, q, rfl, ⟨dx, ha⟩, k⟩ := h
    refine ⟨_, (pss_one (ps_ret (pe_fld (pv 0) rfl))), ?_⟩
    exact ⟨_, rfl, a, C, dx, _, _, rfl, ha, T.x.cl, T.n3, metF_z _ _ _, k⟩
end
end RV
namespace RV
open PySem L2
/-! Net(p, m); Meter(n, a, sealed=z); Net.read(text=t) -/
def gM2' (us ws : List Value) : List Value := match us, ws with
  | [x, n, a], [z] => [x, n, a, z]
  | _, _ => []
theorem gM2_rel {vs : List V} {us : List Value} {zs : List V} {ws : List Value} (r1 : Vals vs us) (r2 : Vals zs ws) : Vals (gM2 vs zs) (gM2' us ws) := by
  cases r1 with
  | nil => cases r2 <;> exact .nil
  | cons a1 r1 =>
    cases r1 with
    | nil => cases r2 <;> exact .nil
    | cons a2 r1 =>
      cases r1 with
      | nil => cases r2 <;> exact .nil
      | cons a3 r1 =>
        cases r1 with
        | cons a4 r1 => cases r2 <;> exact .nil
        | nil =>
          cases r2 with
          | nil => exact .nil
          | cons b r2 =>
            cases r2 with
            | nil => exact .cons a1 (.cons a2 (.cons a3 (.cons b .nil)))
            | cons c r2 => exact .nil
theorem kbM2 {f : Addr} {K : PySem.W.Frag} {fd : FuncData} (F : FunD K "__init__" "Meter.__init__" (defArgs s_Meter___init__) (defBody s_Meter___init__) (defScope s_Meter___init__) [] [("sealed", V.bl false)] f fd) :
    KBn K fd ["self", "name", "at", "sealed"] 3 ["sealed"] gM2' gM2 := by
  refine ⟨fun s us ws X h1 h2 => ?_, gM2_rel⟩
  obtain ⟨oc, od, dV, kV, doc, pm, an, cdv, ct, osl, rfl, lk, hcd, hD, hK⟩ := F.ex
  rcases hD with ⟨_, rfl⟩ | ⟨e, _⟩
  · match us, h1, ws, h2 with
    | [x, n, a], _, [z], _ => exact BindsTo.of_eq rfl
  · exact absurd rfl e
def gR' (us ws : List Value) : List Value := match us, ws with
  | [x], [t] => [x, t]
  | _, _ => []
end RV
namespace RV
open PySem L2
section
variable {P : Program} {w : World} {K : PySem.W.Frag} {mg : Str → Option Value} {base : Heap}
theorem ok_well {f : Addr} {fd : FuncData} (F : Fun K "_law_well" "_law_well" s_well f fd) (T : Blt mg) : FnOk P w K mg base CX0 1 f fd ["_law_cells", "_law_k"] (sp_well K) := by
  refine F.ok sc_well (fun vs H Q E h => ?_) (fun cdv A outer s H vs Q E hr h => ?_)
  · obtain ⟨_, _, _, rfl, _⟩ := h
    rfl
  · obtain ⟨c, ns, i, rfl, hS, hl, hi, k⟩ := h
    refine ⟨_, (pss_cons (ps_set (i := 2) sc_well.nd rfl (Or.inl rfl) (pe_ifExp (pt_cmpR op_lt (pv 1) (pe_callB call_len_seq (by rfl) T.b_len (by decide +kernel) (pa_cons (pv 0) pa_nil)) (nomark _)) (pe_ix ix_list (pv 0) (pv 1) (fun _ _ => rfl)) (pe_op op_mul (pe_op op_mul pe_int (pe_op op_add (pv 1) pe_int)) (pe_op op_add (pv 1) pe_int))))
      (pss_cons (ps_if (pt_cmpR op_ge (pv 1) (pe_callB call_len_seq (by rfl) T.b_len (by decide +kernel) (pa_cons (pv 0) pa_nil)) (nomark _)) (pss_one (ps_for PassesOwn.never rfl (pi_list (pv 0)) (pg_name (i := 3) sc_well.nd rfl (Or.inl rfl)) (pss_one (ps_set (i := 2) sc_well.nd rfl (Or.inl rfl) (pe_op op_mod (pe_callTy call_int1 (by rfl) T.b_int (by decide +kernel) (pa_cons (pe_op op_add (pe_op op_mul (pv 2) pe_int) (pv 3)) pa_nil)) pe_int))))) pss_nil)
      (pss_one (ps_ret (pe_lst (pa_cons (pe_op op_mod (pe_callTy call_int1 (by rfl) T.b_int (by decide +kernel) (pa_cons (pv 2) pa_nil)) pe_int) (pa_cons (pe_ifExp (pt_cmpR op_ge (pe_callB call_abs (by rfl) T.b_abs (by decide +kernel) (pa_cons (pv 2) pa_nil)) (pe_op op_pow pe_int pe_int) (nomark _)) (pe_callB call_abs (by rfl) T.b_abs (by decide +kernel) (pa_cons (pv 2) pa_nil)) pe_int) (pa_cons pe_int pa_nil)))))))), ?_⟩
    -- the end, from any number in the cell's slot
    have fin : ∀ (z : Int) (o : Option V), (tRet (tLst (tCons (tOp (rI (fun _ j => 0 < j) fun i j => .int (i % j)) (tCB (fun xs H Q => (∃ i, xs = [.int i] ∧ Q (.int i) H) ∨ ∃ k, xs = [.bl k] ∧ Q (.int (if k then 1 else 0)) H) (tCons (tVar 2) tNil)) (tC (.int 2147483629)))
        (tCons (tIf (tTest (tOp (rI0 fun i j => .bl (decide (j ≤ i))) (tCB (fun xs H Q => ∃ i, xs = [.int i] ∧ Q (.int (if i < 0 then -i else i)) H) (tCons (tVar 2) tNil)) (tOp (rI CPow fun i j => .int (i ^ j.toNat)) (tC (.int 10)) (tC (.int 18)))))
          (tCB (fun xs H Q => ∃ i, xs = [.int i] ∧ Q (.int (if i < 0 then -i else i)) H) (tCons (tVar 2) tNil)) (tC (.int 0))) (tCons (tC (.int 0)) tNil))))) { nx := fun _ H' => Q .non H', rt := Q } [some (.ref c), some (.int i), some (.int z), o] H := by
      intro z o
      refine ⟨_, rfl, .inl ⟨_, rfl, _, _, rfl, rfl, (by show (0 : Int) < 2147483629; decide), ?_⟩⟩
      have hz : (0 : Int) ≤ if z < 0 then -z else z := by split <;> omega
      have out : ∀ y : Int, 0 ≤ y → ∀ p, H p = none → Q (.ref p) (upd H p (.lst [.int (z % 2147483629), .int y, .int 0])) := fun y hy p np =>
        k p _ np (fun b o e => by rw [upd_ne (ne_of_none e np)]; exact e) ⟨_, _, _, upd_same, ⟨by omega, by omega⟩, hy, by omega⟩
      refine ⟨_, rfl, _, rfl, _, _, rfl, rfl, ⟨by decide, by decide, by decide⟩, _, _, rfl, rfl, _, rfl, ?_⟩
      refine ite2 (fun _ => ?_) (fun _ => ?_)
      · exact ⟨_, rfl, _, rfl, (by show 3 ≤ sizeLine; decide), out _ hz⟩
      · exact ⟨(by show 3 ≤ sizeLine; decide), out _ (by decide)⟩
    refine tif_int (b := decide ((i : Int) < ns.length)) (fun R r => ⟨_, rfl, _, rfl, c, _, rfl, .inl hS, _, _, rfl, rfl, _, rfl, by rw [List.length_map]; exact r⟩) (fun hb => ?_) (fun hb => ?_) (fun z => ?_)
    · have hlt : (i : Int) < ns.length := of_decide_eq_true hb
      have hlt' : i < ns.length := by omega
      exact ⟨ns[i], fun R r => ⟨_, rfl, _, rfl, c, _, _, _, rfl, rfl, hS, atI_nat (by rw [List.getElem?_map, List.getElem?_eq_getElem hlt']; rfl), r⟩⟩
    · exact ⟨_, fun R r => ⟨_, rfl, _, _, rfl, rfl, _, _, rfl, rfl, .inl ⟨by decide, by decide⟩, _, rfl, _, _, rfl, rfl, _, _, rfl, rfl, .inl ⟨by omega, by omega⟩, r⟩⟩
    · refine ⟨_, rfl, _, rfl, c, _, rfl, .inl hS, _, _, rfl, rfl, _, rfl, ?_⟩
      refine ite2 (fun _ => ?_) (fun _ => fin z _)
      refine ⟨_, rfl, c, rfl, ⟨_, hS⟩, for_list (K := K) (a := c) (xs := ns.map V.int) (fun j σ H' => H' = H ∧ ∃ (z : Int) (o : Option V), σ = [some (.ref c), some (.int i), some (.int z), o]) ⟨rfl, z, none, rfl⟩ (fun j σ H' _ h => by rw [h.1]; exact hS) ?_ ?_⟩
      · rintro j y σ H' hj ⟨rfl, z, o, rfl⟩
        obtain ⟨u, rfl⟩ : ∃ u, y = V.int u := by
          rw [List.getElem?_map] at hj
          cases e : ns[j]? with
          | none => rw [e] at hj; cases hj
          | some u => rw [e] at hj; exact ⟨u, (Option.some.inj hj).symm⟩
        exact ⟨_, rfl, _, _, rfl, rfl, .inr ⟨by decide, by decide⟩, _, rfl, _, _, rfl, rfl, .inl ⟨_, rfl, _, _, rfl, rfl, (by show (0 : Int) < 2147483629; decide), rfl, _, _, rfl⟩⟩
      · rintro σ H' ⟨rfl, z, o, rfl⟩
        exact fin z o

theorem ok_dip {f : Addr} {fd : FuncData} (F : Fun K "_law_dip" "_law_dip" s_dip f fd) (T : Blt mg) : FnOk P w K mg base CX0 1 f fd ["_law_well_here", "_law_many"] sp_dip := by
  refine F.ok sc_dip (fun vs H Q E h => ?_) (fun cdv A outer s H vs Q E hr h => ?_)
  · obtain ⟨_, _, _, rfl, _⟩ := h
    rfl
  · obtain ⟨a, m, n, rfl, ⟨x, y, z, e, hx, hy, hz⟩, hn, hm, hm2, k⟩ := h
    refine ⟨_, (pss_cons (ps_asg (pe_op op_add (pe_ix ix_list (pv 0) pe_int (fun _ _ => rfl)) pe_int) (pg_sub (pv 0) pe_int set_list))
      (pss_cons (ps_if (pt_cmpR op_gt (pe_ix ix_list (pv 0) pe_int (fun _ _ => rfl)) pe_int (nomark _)) (pss_cons (ps_asg (pe_callB call_divmodW (by rfl) T.b_divmod (by decide +kernel) (pa_cons (pe_ix ix_list (pv 0) pe_int (fun _ _ => rfl)) (pa_cons (pv 1) pa_nil))) (pg_tup (by rfl) (pgs_cons (pg_sub (pv 0) pe_int set_list) (pgs_cons (pg_name (i := 2) sc_dip.nd rfl (Or.inl rfl)) pgs_nil)))) (pss_one (ps_ret (pv 2)))) pss_nil)
      (pss_cons (ps_asg (pe_op op_mod (pe_callTy call_int1 (by rfl) T.b_int (by decide +kernel) (pa_cons (pe_op op_add (pe_op op_add (pe_op op_mul (pe_ix ix_list (pv 0) pe_int (fun _ _ => rfl)) pe_int) (pe_op op_mul (pe_op op_mul pe_int (pe_ix ix_list (pv 0) pe_int (fun _ _ => rfl))) (pe_ix ix_list (pv 0) pe_int (fun _ _ => rfl)))) pe_int) pa_nil)) pe_int) (pg_sub (pv 0) pe_int set_list))
      (pss_cons (ps_set (i := 3) sc_dip.nd rfl (Or.inl rfl) (pe_op op_mod (pe_callTy call_int1 (by rfl) T.b_int (by decide +kernel) (pa_cons (pe_op op_mul (pe_ix ix_list (pv 0) pe_int (fun _ _ => rfl)) (pe_op op_add (pe_op op_mod (pe_callTy call_int1 (by rfl) T.b_int (by decide +kernel) (pa_cons (pe_ix ix_list (pv 0) pe_int (fun _ _ => rfl)) pa_nil)) pe_int) pe_int)) pa_nil)) pe_int))
      (pss_one (ps_ret (pe_op op_mod (pe_callTy call_int1 (by rfl) T.b_int (by decide +kernel) (pa_cons (pe_op op_fdiv (pv 3) pe_int) pa_nil)) (pv 1)))))))), ?_⟩
    refine ⟨_, rfl, a, _, 2, _, rfl, rfl, SqL.of e, rfl, _, _, rfl, rfl, _, rfl, a, _, _, 2, rfl, rfl, e, rfl, ?_⟩
    refine ⟨_, rfl, a, _, 1, _, rfl, rfl, SqL.of upd_same, rfl, _, _, rfl, rfl, _, rfl, ?_⟩
    refine ite2 (fun hp => ?_) (fun _ => ?_)
    · refine ⟨_, rfl, a, _, 1, _, rfl, rfl, SqL.of upd_same, rfl, _, rfl, _, _, rfl, ⟨hm, ?_⟩, fun p np => ?_⟩
      · refine PyProof.noPylong_of_log2 ?_
        have q := PySem.Flt.log2_lt_of (n := m.natAbs) (k := 200) (by decide) (by omega)
        omega
      · have npa : a ≠ p := fun w => by rw [← w, upd_same] at np; cases np
        refine ⟨p, _, rfl, SqT.of upd_same, rfl, _, _, rfl, ⟨_, rfl, a, _, _, 1, rfl, rfl, Eq.trans (upd_ne npa) upd_same, rfl, _, _, rfl, ⟨rfl, _, rfl, ?_⟩⟩⟩
        refine k _ _ (Int.emod_nonneg _ (by omega)) (Int.emod_lt_of_pos _ hm) (fun b o hb eb => ?_) ⟨_, _, _, upd_same, hx, Int.ediv_nonneg hy (by omega), by omega, by omega⟩
        rw [upd_ne hb, upd_ne (ne_of_none (o := o) (by rw [upd_ne hb]; exact eb) np), upd_ne hb]
        exact eb
    · refine ⟨_, rfl, a, _, 0, _, rfl, rfl, SqL.of upd_same, rfl, _, _, rfl, rfl, .inr ⟨by decide, by decide⟩, _, rfl, a, _, 2, _, rfl, rfl, SqL.of upd_same, rfl, _, _, rfl, rfl, .inl ⟨by decide, by decide⟩, _, rfl, a, _, 2, _, rfl, rfl, SqL.of upd_same, rfl, _, _, rfl, rfl, .inl ⟨by omega, by omega⟩,
        _, _, rfl, rfl, _, _, rfl, rfl, .inl ⟨_, rfl, _, _, rfl, rfl, (by show (0 : Int) < 2147483629; decide), _, rfl, a, _, _, 0, rfl, rfl, upd_same, rfl, ?_⟩⟩
      refine ⟨_, rfl, a, _, 0, _, rfl, rfl, SqL.of upd_same, rfl, _, rfl, a, _, 0, _, rfl, rfl, SqL.of upd_same, rfl, .inl ⟨_, rfl, _, _, rfl, rfl, (by show (0 : Int) < 30011; decide), _, _, rfl, rfl, _, _, rfl, rfl, .inl ⟨?_, ?_⟩, .inl ⟨_, rfl, _, _, rfl, rfl, (by show (0 : Int) < 2147483587; decide), ?_⟩⟩⟩
      · omega
      · omega
      refine ⟨_, rfl, _, _, rfl, rfl, ⟨by decide, by decide⟩, .inl ⟨_, rfl, _, rfl, _, _, rfl, rfl, hm, ?_⟩⟩
      refine k _ _ (Int.emod_nonneg _ (by omega)) (Int.emod_lt_of_pos _ hm) (fun b o hb eb => by rw [upd_ne hb, upd_ne hb]; exact eb) ⟨_, _, _, upd_same, ⟨by omega, by omega⟩, hy, by omega, by omega⟩
end
section
variable {P : Program} {w : World} {K : PySem.W.Frag} {mg : Str → Option Value} {base : Heap}
def words : List Str := ["pipe", "meter", "sealed", "self", "net", "tell", "if", "a"]
theorem words_nm : ∀ x ∈ words, IsNm x := by
  have h : words.all (fun x => isNm (cd x)) = true := by decide +kernel
  exact fun x hx => List.all_eq_true.mp h x hx
theorem ok_name {f : Addr} {fd : FuncData} (F : Fun K "_law_name" "_law_name" s_name f fd) (T : Blt mg) (h_dip : Fn P w K mg base "_law_dip" 1 ["_law_well_here", "_law_many"] sp_dip) : FnOk P w K mg base CX0 2 f fd ["_law_well_here"] sp_name := by
  refine F.ok sc_name (fun vs H Q E h => ?_) (fun cdv A outer s H vs Q E hr h => ?_)
  · obtain ⟨_, _, rfl, _⟩ := h
    rfl
  · obtain ⟨a, n, rfl, wl, hn, k⟩ := h
    refine ⟨_, (pss_cons (ps_if (pt_cmpR op_eq (pe_fn h_dip (hr.mono (by decide)) (pa_cons (pv 0) (pa_cons pe_int pa_nil))) pe_int (nomark _)) (pss_one (ps_ret (pe_ix ix_list (pe_lst (pa_cons pe_str (pa_cons pe_str (pa_cons pe_str (pa_cons pe_str (pa_cons pe_str (pa_cons pe_str (pa_cons pe_str (pa_cons pe_str pa_nil))))))))) (pe_fn h_dip (hr.mono (by decide)) (pa_cons (pv 0) (pa_cons pe_int pa_nil))) (fun _ _ => rfl)))) pss_nil)
      (pss_cons (ps_set (i := 1) sc_name.nd rfl (Or.inl rfl) pe_str)
      (pss_cons (ps_set (i := 2) sc_name.nd rfl (Or.inl rfl) (pe_ix ix_str (pv 1) (pe_fn h_dip (hr.mono (by decide)) (pa_cons (pv 0) (pa_cons pe_int pa_nil))) (fun _ _ => rfl)))
      (pss_cons (ps_for PassesOwn.never rfl (pi_range1 rfl T.b_range (pa_cons (pe_fn h_dip (hr.mono (by decide)) (pa_cons (pv 0) (pa_cons pe_int pa_nil))) pa_nil)) (pg_name (i := 3) sc_name.nd rfl (Or.inl rfl)) (pss_one (ps_set (i := 2) sc_name.nd rfl (Or.inl rfl) (pe_op op_add_str (pv 2) (pe_ix ix_str (pv 1) (pe_fn h_dip (hr.mono (by decide)) (pa_cons (pv 0) (pa_cons pe_int pa_nil))) (fun _ _ => rfl))))))
      (pss_one (ps_ret (pv 2))))))), ?_⟩
    refine ⟨_, rfl, a, 6, n, rfl, wl, by omega, by decide, by decide, fun r H1 r0 r6 g1 w1 => ⟨rfl, _, rfl, ?_⟩⟩
    refine ite2 (fun _ => ?_) (fun _ => ?_)
    · refine ⟨(by show 8 ≤ sizeLine; decide), fun p np => ?_⟩
      refine ⟨_, rfl, a, 8, n + 1, rfl, w1.new np, by omega, by decide, by decide, fun r2 H2 r20 r28 g2 w2 => ?_⟩
      obtain ⟨x, hx, hnm, hm⟩ := at_of_list words_nm r20 r28
      have e2 : H2 p = some (.lst (words.map V.str)) := g2 p _ (w1.ne np).symm upd_same
      refine ⟨p, _, _, .str x, rfl, rfl, SqL.of e2, ?_, ?_⟩
      · unfold atI at hx ⊢
        rw [List.length_map]
        revert hx
        cases ixN words.length r2 with
        | none => intro hx; cases hx
        | some j =>
          intro hx
          show (words.map V.str)[j]? = _
          rw [List.getElem?_map, show words[j]? = some x from hx]
          rfl
      · exact k x H2 hnm ((g1.trans (Grow.new np)).trans g2) (w2.mono (by omega))
    · refine ⟨_, rfl, _, rfl, a, 26, n + 1, rfl, w1, by omega, by decide, by decide, fun r2 H2 r20 r26 g2 w2 => ?_⟩
      obtain ⟨c, hc, lc⟩ := at_low r20 r26
      refine ⟨signs, _, c, rfl, rfl, by decide, hc, ?_⟩
      refine ⟨_, rfl, a, 8, n + 2, rfl, w2, by omega, by decide, by decide, fun m H3 m0 m8 g3 w3 => ?_⟩
      obtain ⟨mn, rfl⟩ := Int.eq_ofNat_of_zero_le m0
      have hm8 : mn < 8 := by omega
      refine ⟨_, rfl, by omega, by omega, for_range (lo := 0) (n := mn) (fun i σ H' => ∃ (x : Str) (o : Option V), σ = [some (.ref a), some (.str signs), some (.str x), o] ∧ isNm (cd x) = true ∧ (cd x).length = i + 1 ∧ Grow a H H' ∧ WellAt H' a (n + 3 + i))
        ⟨⟨#[c]⟩, none, rfl, isNm_iff.mpr ⟨c, [], rfl, lc, rfl, by decide⟩, rfl, (g1.trans g2).trans g3, w3⟩ ?_ ?_⟩
      · rintro i σ H4 hi ⟨x, o, rfl, hx, hl, g4, w4⟩
        refine ⟨_, rfl, _, rfl, _, rfl, a, 36, n + 3 + i, rfl, w4, by omega, by decide, by decide, fun r5 H5 r50 r536 g5 w5 => ?_⟩
        obtain ⟨c5, hc5, lc5⟩ := at_tail r50 r536
        refine ⟨signs, _, c5, rfl, rfl, by decide, hc5, ?_⟩
        refine ⟨_, _, rfl, rfl, ?_, ?_⟩
        · have e1 : x.length = i + 1 := by rw [cd_len]; exact hl
          have e2 : Str.length ⟨#[c5]⟩ = 1 := rfl
          rw [e1, e2]
          exact Nat.le_trans (show i + 1 + 1 ≤ 20 by omega) (by decide)
        · refine ⟨x ++ ⟨#[c5]⟩, _, rfl, ?_, ?_, g4.trans g5, w5⟩
          · rw [cd_app, cd_one]
            exact isNm_snoc hx (by omega) lc5
          · rw [cd_app, cd_one, List.length_append, hl]
            rfl
      · rintro σ H4 ⟨x, o, rfl, hx, hl, g4, w4⟩
        exact ⟨_, rfl, k x H4 hx g4 (w4.mono (by omega))⟩
end
section
variable {P : Program} {w : World} {K : PySem.W.Frag} {mg : Str → Option Value} {base : Heap}
end
end RV
namespace RV
open PySem L2
section
variable {P : Program} {w : World} {K : PySem.W.Frag} {mg : Str → Option Value} {base : Heap}
theorem ok_is_name {f : Addr} {fd : FuncData} (F : Fun K "is_name" "is_name" s_is_name f fd) (T : Blt mg) (C : Cst mg) : FnOk P w K mg base CX0 1 f fd ["value"] (sp_is_name K) := by
  refine F.ok sc_is_name (fun vs H Q E h => ?_) (fun cdv A outer s H vs Q E hr h => ?_)
  · obtain ⟨_, rfl, _⟩ := h
    rfl
  · obtain ⟨v, rfl, k⟩ := h
    refine ⟨_, (pss_cons (ps_if (PW.pt (pw_or (pt_not (pt_val (pe_callB call_isi (by rfl) T.b_isinstance (by decide +kernel) (pa_cons (pv 0) (pa_cons (pe_bltn (v := .ty "str") (by rfl) T.b_str (by decide +kernel) rfl) pa_nil))))) (pw_or1 (pt_not (pt_chain op_le op_le pe_int (pe_callB call_len_str (by rfl) T.b_len (by decide +kernel) (pa_cons (pv 0) pa_nil)) (pe_gI C.c__LONGEST_NAME)))))) (pss_one (ps_ret pe_bl)) pss_nil)
      (pss_one (ps_ret (pe_and (pe_cmpR op_in_sign (pe_ix ix_str (pv 0) pe_int (fun _ _ => rfl)) (pe_gS C.c__LETTERS) (by rfl)) (pe_one (pe_callB (cr_all rfl) (by rfl) T.b_all (by decide +kernel) (pa_cons (pe_lc (own := [("letter", 1)]) (g := gName 1) (tt := tYes) rfl sc_is_name.nd (pi_str (pv 0)) (blkOk_by (N := sc_is_name_N) (sc := defScope s_is_name) (by decide +kernel)) (fun _ _ _ _ _ => pg_name (i := 1) sc_is_name.nd rfl (Or.inl rfl)) (fun _ _ _ _ _ => pts_nil) (fun _ _ _ _ _ => (pe_cmpR op_in_sign (pv 1) (pe_op op_add_str (pe_gS C.c__LETTERS) (pe_gS C.c__DIGITS)) (by rfl)))) pa_nil))))))), ?_⟩
    rcases k with ⟨x, rfl, hx, k⟩ | ⟨t, ty, kt, k⟩
    · refine ⟨_, rfl, _, _, .type "str", .type "str", true, rfl, .ty _, .base (.str x), kit_ty (by decide +kernel), true, rfl, ?_⟩
      refine iteF ⟨_, rfl, _, rfl, hx, _, _, rfl, rfl, _, rfl, ?_⟩
      have out : isNm (cd x) = false → Q (.bl false) H := fun e => e ▸ k H (Same.refl H)
      refine ite2 (fun h1 => ?_) (fun h1 => ?_)
      · refine ⟨_, _, rfl, rfl, _, rfl, ?_⟩
        have h1' := of_decide_eq_true h1
        cases e8 : decide ((x.length : Int) ≤ 8) with
        | false =>
          refine out ?_
          cases q : isNm (cd x) with
          | false => rfl
          | true =>
            have := isNm_len q
            rw [← cd_len] at this
            have h8 := of_decide_eq_false e8
            omega
        | true =>
          have h8 := of_decide_eq_true e8
          obtain ⟨c, r, ec⟩ : ∃ c r, cd x = c :: r := by
            cases e : cd x with
            | nil =>
              rw [cd_len, e] at h1'
              simp at h1'
            | cons c r => exact ⟨c, r, rfl⟩
          have hr7 : r.length ≤ 7 := by
            rw [cd_len, ec, List.length_cons] at h8
            omega
          refine ⟨_, rfl, x, _, c, rfl, rfl, hx, atI_nat (j := 0) (by show (cd x)[0]? = some c; rw [ec]; rfl), c, _, rfl, rfl, _, rfl, ?_⟩
          have el : decide (c ∈ cd "abcdefghijklmnopqrstuvwxyz") = lowC c := low_in c
          refine ite2 (fun hl => ?_) (fun hl => ?_)
          · have hl' : lowC c = true := el.symm.trans hl
            refine ⟨_, rfl, x, rfl, fun D nD => lc_str (z := x) (fun i H' => Same H H' ∧ H' D = some (.lst ((((cd x).take i).map tailC).map V.bl))) ⟨fun b o e => by rw [upd_ne (ne_of_none e nD)]; exact e, upd_same⟩ ?_ ?_⟩
            · rintro i d H6 hi ⟨s6, h6⟩
              refine ⟨rfl, _, rfl, _, _, rfl, rfl, by decide, d, _, rfl, rfl, _, h6, ?_, ?_⟩
              · rw [List.length_map, List.length_map, List.length_take, ← cd_len]
                exact Nat.lt_of_lt_of_le (show _ < 1000 by omega) (by decide)
              · refine ⟨fun b o e => by rw [upd_ne (ne_of_none e nD)]; exact s6 b o e, ?_⟩
                rw [upd_same]
                obtain ⟨hl6, e'⟩ := List.getElem?_eq_some_iff.mp hi
                rw [List.take_succ_eq_append_getElem hl6, e', List.map_append, List.map_append]
                show some (HO.lst (_ ++ [V.bl (decide (d ∈ cd (("abcdefghijklmnopqrstuvwxyz" : Str) ++ ("0123456789" : Str))))])) = _
                rw [tail_in]
                rfl
            · rintro H6 ⟨s6, h6⟩
              rw [List.take_of_length_le (Nat.le_refl _)] at h6
              refine ⟨D, _, rfl, SqL.of h6, ?_⟩
              have e : isNm (cd x) = ((cd x).map tailC).all id := by
                rw [ec]
                show (lowC c && r.all tailC && decide (r.length ≤ 7)) = (tailC c && (r.map tailC).all id)
                rw [hl', tail_of_low hl', decide_eq_true hr7, List.all_map]
                simp
              have := k H6 s6
              rwa [e] at this
          · refine out ?_
            have hl' : lowC c = false := by
              rw [← el]
              exact Bool.eq_false_iff.mpr hl
            rw [ec]
            simp [isNm, hl']
      · refine ⟨_, rfl, ?_⟩
        refine out ?_
        cases q : isNm (cd x) with
        | false => rfl
        | true =>
          have := isNm_len q
          rw [← cd_len] at this
          exact absurd (decide_eq_true (by omega)) h1
    · refine ⟨_, rfl, _, _, t, .type "str", false, rfl, .ty _, ty, kt, false, rfl, ?_⟩
      exact iteT (iteT k)
end
end RV
namespace RV
open PySem L2 TL
section
variable {P : Program} {w : World} {K : PySem.W.Frag} {mg : Str → Option Value} {base : Heap} {C : Addr}
theorem ok_give_InvalidName {f : Addr} {fd : FuncData} (F : Fun K "__init__" "InvalidName.__init__" s_InvalidName___init__ f fd) (T : OwnX K C) (t : PySem.W.takerIn K C "given" = some none) : FnOk P w K mg base CX0 1 f fd ["self", "given"] (sp_give C "given") := by
  refine F.ok sc_InvalidName___init__ (fun vs H Q E h => ?_) (fun cdv A outer s H vs Q E hr h => ?_)
  · obtain ⟨_, _, rfl, _⟩ := h
    rfl
  · obtain ⟨a, y, rfl, e, k⟩ := h
    exact ⟨_, pss_one (ps_give (pv 0) (pv 1)), _, rfl, _, rfl, a, C, rfl, T, t, e, k⟩
theorem ok_give_InvalidEnd {f : Addr} {fd : FuncData} (F : Fun K "__init__" "InvalidEnd.__init__" s_InvalidEnd___init__ f fd) (T : OwnX K C) (t : PySem.W.takerIn K C "given" = some none) : FnOk P w K mg base CX0 1 f fd ["self", "given"] (sp_give C "given") := by
  refine F.ok sc_InvalidEnd___init__ (fun vs H Q E h => ?_) (fun cdv A outer s H vs Q E hr h => ?_)
  · obtain ⟨_, _, rfl, _⟩ := h
    rfl
  · obtain ⟨a, y, rfl, e, k⟩ := h
    exact ⟨_, pss_one (ps_give (pv 0) (pv 1)), _, rfl, _, rfl, a, C, rfl, T, t, e, k⟩
theorem ok_give_InvalidFlag {f : Addr} {fd : FuncData} (F : Fun K "__init__" "InvalidFlag.__init__" s_InvalidFlag___init__ f fd) (T : OwnX K C) (t : PySem.W.takerIn K C "given" = some none) : FnOk P w K mg base CX0 1 f fd ["self", "given"] (sp_give C "given") := by
  refine F.ok sc_InvalidFlag___init__ (fun vs H Q E h => ?_) (fun cdv A outer s H vs Q E hr h => ?_)
  · obtain ⟨_, _, rfl, _⟩ := h
    rfl
  · obtain ⟨a, y, rfl, e, k⟩ := h
    exact ⟨_, pss_one (ps_give (pv 0) (pv 1)), _, rfl, _, rfl, a, C, rfl, T, t, e, k⟩
end
end RV
namespace RV
open PySem L2 PyProof.Rows
theorem caught_gives {X : Cx} {k j : Nat} {g CV CB CA : Addr} {cdg : Value} {q : Str} {spSaid : Addr → Value → Option Addr → Sp} {spSeen : Sp} (gs : X.A.guards = some []) (hr : Room (k + 1) X.A) (hj : j ≤ k)
    (gV : X.mg "BadValue" = some (.ref CV)) (gB : X.mg "BadName" = some (.ref CB)) (gA : X.mg "NoAnswer" = some (.ref CA))
    (h_said : FnEd X.prog X.w X.K X.mg X.base "_law_said" j ["_law_e"] spSaid) (h_seen : FnGd X.prog X.w X.K X.mg X.base "_law_seen" j ["_law_thing"] spSeen) :
    LamX.GivesTo X sc_caught_N "_law_caught" (defScope s_caught) g cdg (defBody s_caught) "_law_act" q (TTc X.K (.ref CV) (.ref CB) (.ref CA) spSaid spSeen) := by
  intro f c' s H Q tl act hc h
  have hr1 : Room k (X.A.deeper (envOfC "_law_caught" (defScope s_caught) s.heap.objs.size g cdg)) := hr.deeper _
  have rh : L2H.RoomH j (X.A.deeper (envOfC "_law_caught" (defScope s_caught) s.heap.objs.size g cdg)) := L2H.roomH_of (hr1.mono hj)
  refine ⟨_, (pss_cons (ps_try_cl (W0 := fun _ _ _ _ => False)
      (tb := fun W D σ H => ∃ Ech : XK, (∀ cls d σ' H', Ech cls d H' → σ'.length = 3 → W cls d σ' H') ∧ σ[0]? = some (some (.ref f)) ∧ H c' = some (LamX.CodeO c' q) ∧ tl Ech H (fun v H' => D.nx (σ.set 1 (some v)) H'))
      rfl rfl sc_caught.nd takes0 (fun W pn xe tk _ => ?_) (.cons (i := 2) rfl rfl (tests_three ⟨rfl, by decide, .inl gV⟩ ⟨rfl, by decide, .inl gB⟩ ⟨rfl, by decide, .inl gA⟩)
        (fun a oe cls d pn hz hf => pss_one (ps_ret (pe_fnE h_said gs ⟨rh.dp, rh.un⟩ List.mem_cons_self hz hf (pa_cons (pv 2) pa_nil)))) .nil))
    (pss_one (ps_ret (pe_lst (pa_cons pe_str (pa_cons (pe_fnG h_seen gs (hr1.mono hj) (pa_cons (pv 1) pa_nil)) pa_nil)))))), ?_⟩
  · refine ⟨fun pins s' σ H' D I h' => ?_⟩
    obtain ⟨Ech, hW, h1, h2, h3⟩ := h'
    exact (pss_one (ps_set (i := 1) sc_caught.nd rfl (Or.inl rfl) (act (fun c d σ H => σ.length = 3 → W c d σ H) pn xe Ech _ _ (takes_len tk) hW))).run pins s' σ H' D I ⟨h1, h2, h3⟩
  · refine ⟨fun cls d H' => PySem.W.exmAny X.K cls [.ref CV, .ref CB, .ref CA] = some true ∧ ∀ a, H' a = none → spSaid a cls d [.ref a] H' Q E0, fun cls d σ' H' ⟨e1, e2⟩ hl => ⟨true, e1, fun _ a na => ?_, fun z => nomatch z⟩, rfl, hc, ?_⟩
    · refine ⟨.ref a, ?_, e2 a na⟩
      show (σ'.set 2 (some (V.ref a)))[2]? = _
      rw [List.getElem?_set_self (by omega)]
    · exact h f
/-- the def that catches, as its callers see it: CV, CB, CA the classes that it catches -/
structure Ctch (P : Program) (w : World) (K : PySem.W.Frag) (mg : Str → Option Value) (base : Heap) (j : Nat) (CV CB CA : Addr) (spSaid : Addr → Value → Option Addr → Sp) (spSeen : Sp) : Prop where
  fn : ∃ g fd, mg "_law_caught" = some (.ref g) ∧ Fun K "_law_caught" "_law_caught" s_caught g fd ∧ Binds K fd ["_law_act"] []
  gV : mg "BadValue" = some (.ref CV)
  gB : mg "BadName" = some (.ref CB)
  gA : mg "NoAnswer" = some (.ref CA)
  said : FnEd P w K mg base "_law_said" j ["_law_e"] spSaid
  seen : FnGd P w K mg base "_law_seen" j ["_law_thing"] spSeen
/-- _law_caught(lambda: body) -/
theorem pe_caught {X : Cx} {j k : Nat} {CV CB CA c Pt : Addr} {spSaid : Addr → Value → Option Addr → Sp} {spSeen : Sp} {T : List (Addr × Str)} {params : Arguments} {body : Expr} {scope : Scope} {t : XK → TE} {p lpos pos : Pos}
    (h : Ctch X.prog X.w X.K X.mg X.base j CV CB CA spSaid spSeen) (gs : X.A.guards = some []) (TB : LamX.TabB X.base X.mg c Pt) (hcode : X.env.code = .ref c) (hmT : (Pt, X.env.qual ++ "<lambda>") ∈ T) (hu : ∀ p ∈ T, p.1 = Pt → p.2 = X.env.qual ++ "<lambda>") (hr : Room (k + 2) X.A) (hj : j ≤ k + 1)
    (hbody : ∀ (A : Around) (outer : List Env) (s : Shared) (H : Hp) (E : XK) (f c' : Addr), Room k (A.deeper (LamX.lamEnv X scope s.heap.objs.size f c')) → PE (LamX.lamCx X A outer s H E scope f c') body (t E))
    (hg : Gl X "_law_caught" := by rfl) (L : LamX.LamS X.env.scope scope := by exact LamX.lamS_by (by decide +kernel)) (hdef : defaultsOf params X.env = ([], []) := by rfl)
    (hbind : ∀ (q : Str) (cl : List (Str × Addr)) (pm cv ctv : Value), bindArgs (PySem.W.kla_fn "<lambda>" q params body scope cl pm cv ctv) ⟨[], []⟩ = pure [] := by exact fun _ _ _ _ _ => rfl) :
    PE X (.Call (.Name "_law_caught" p) [.Lambda params body scope lpos] [] pos) (LamX.tLam T (TTc X.K (.ref CV) (.ref CB) (.ref CA) spSaid spSeen) t) := by
  obtain ⟨⟨g, fd, hm, F, hb⟩, gV, gB, gA, h1, h2⟩ := h
  obtain ⟨oc, od, kV, doc, pm, an, cdv, ct, osl, rfl, lk, hcg⟩ := F.ex
  exact LamX.pe_lamcall hg hm F.kp lk hcg hb sc_caught rfl (.inl rfl) (caught_gives gs hr hj gV gB gA h1 h2) TB hcode hmT hu hr L hdef hbind hbody
end RV
namespace RV
open PySem L2 TL
theorem name_odd {K : PySem.W.Frag} {H : Hp} {v : V} {d : PyData} {Q : VK} {E : XK} (h : Ody K H v d) (k : ∀ H', Same H H' → Q (.bl (nmD d)) H') : Irr (sp_is_name K) [v] H Q E := by
  refine irr ⟨v, rfl, ?_⟩
  obtain ⟨o, f, l⟩ := h
  cases hd : isS d with
  | true =>
    obtain ⟨y, rfl⟩ : ∃ y, d = .str y := by
      cases d with
      | str y => exact ⟨y, rfl⟩
      | _ => cases hd
    obtain rfl : v = .str y := by
      cases o with
      | dat o => cases o; rfl
    exact .inl ⟨y, rfl, szn (by have := l y rfl; omega), k⟩
  | false =>
    refine .inr ⟨_, o.ty, hd ▸ kit_odS K d, ?_⟩
    have e : nmD d = false := by
      cases d with
      | str y => cases hd
      | _ => rfl
    exact e ▸ k H (Same.refl H)
section
variable {P : Program} {w : World} {K : PySem.W.Frag} {mg : Str → Option Value} {base : Heap} {C CI CE CF : Addr}
theorem ok_check_namesX {f : Addr} {fd : FuncData} (F : Fun K "_check_names" "_check_names" s_check_names f fd) (h_is_name : Fn P w K mg base "is_name" 1 ["value"] (Irr (sp_is_name K))) (EI : Err P w K mg base "InvalidName" CI "given") : FnOk P w K mg base (L2.CX P w) 3 f fd ["values"] (sp_checkX K CI) := by
  refine F.okX sc_check_names (fun vs H Q E h => ?_) (fun cdv A outer s H vs Q E hr h => ?_)
  · obtain ⟨_, _, _, rfl, _⟩ := h
    rfl
  · obtain ⟨t, us, u, rfl, ht, ho, hb, er⟩ := h
    obtain ⟨hu, as, bs, rfl, good⟩ := List.find?_eq_some_iff_append.mp hb
    refine ⟨_, (pss_one (ps_for (passes_of rfl) rfl (pi_tup (pv 0)) (pg_name (i := 1) sc_check_names.nd rfl (Or.inl rfl)) (pss_one (ps_if (pt_not (pt_val (pe_fn h_is_name (hr.mono (by decide)) (pa_cons (pv 1) pa_nil)))) (pss_one (ps_raise rfl (takes_of rfl rfl rfl rfl) (pmk_err EI hr (pa_cons (pv 1) pa_nil)))) pss_nil)))), ?_⟩
    refine ⟨_, rfl, t, rfl, ⟨_, ht⟩, for_tup (K := K) (a := t) (xs := (as ++ u :: bs).map (·.1)) (fun i σ H' => i ≤ as.length ∧ Same H H' ∧ ∃ o, σ = [some (.ref t), o]) ⟨Nat.zero_le _, Same.refl H, none, rfl⟩ (fun _ _ _ _ h => ht.ext h.2.1) ?_ ?_⟩
    · rintro i v σ H' hi ⟨il, sm, o, rfl⟩
      rw [List.getElem?_map] at hi
      rcases Nat.lt_or_ge i as.length with lt | ge
      · rw [List.getElem?_append_left lt, List.getElem?_eq_getElem lt] at hi
        obtain rfl : (as[i]).1 = v := Option.some.inj hi
        have hm : as[i] ∈ as := List.getElem_mem lt
        refine ⟨_, rfl, name_odd ((ho _ (List.mem_append_left _ hm)).same sm) fun H2 s2 => ?_⟩
        have g : nmD as[i].2 = true := by simpa using good _ hm
        rw [g]
        exact ⟨true, rfl, iteF ⟨lt, sm.trans s2, _, rfl⟩⟩
      · obtain rfl : i = as.length := Nat.le_antisymm il ge
        rw [List.getElem?_append_right (Nat.le_refl _), Nat.sub_self] at hi
        obtain rfl : u.1 = v := Option.some.inj hi
        refine ⟨_, rfl, name_odd ((ho u (by simp)).same sm) fun H2 s2 => ?_⟩
        have g : nmD u.2 = false := by simpa using hu
        rw [g]
        exact ⟨false, rfl, iteT ⟨_, rfl, _, rfl, fun dd nd => (er.same (sm.trans s2)).new nd⟩⟩
    · rintro σ H' ⟨il, _⟩
      simp at il
      omega
theorem ok_Pipe_iX {f : Addr} {fd : FuncData} (F : Fun K "__init__" "Pipe.__init__" s_Pipe___init__ f fd) (h_check : Fx P w K mg base "_check_names" 3 ["values"] (Irr (orS (sp_check K) (sp_checkX K CI)))) (EE : Err P w K mg base "InvalidEnd" CE "given") : FnOk P w K mg base (L2.CX P w) 4 f fd ["self", "name", "start", "end"] (sp_PipeX K C CI CE) := by
  refine F.okX sc_Pipe___init__ (fun vs H Q E h => ?_) (fun cdv A outer s H vs Q E hr h => ?_)
  · obtain ⟨_, _, _, _, _, rfl, _⟩ := h
    rfl
  · obtain ⟨x, dx, u1, u2, u3, rfl, hx, o1, o2, o3, k⟩ := h
    refine ⟨_, (pss_cons (ps_expr (pe_fx h_check (hr.mono (by decide)) (passes_call (takes_of rfl rfl rfl rfl) fun _ _ _ _ z => z) (pa_cons (pe_tup (pa_cons (pv 1) (pa_cons (pv 2) (pa_cons (pv 3) pa_nil)))) pa_nil)))
      (pss_cons (ps_if (pt_cmpR op_eq (pv 3) (pv 2) (nomark _)) (pss_one (ps_raise rfl (takes_of rfl rfl rfl rfl) (pmk_err EE (hr.mono (by decide)) (pa_cons (pv 3) pa_nil)))) pss_nil) pss_dead)), ?_⟩
    refine ⟨_, rfl, _, rfl, _, rfl, (by show 3 ≤ sizeLine; decide), fun p np => ?_⟩
    have s0 : Same H (upd H p (.tup [u1.1, u2.1, u3.1])) := same_new np
    rcases k with ⟨u, hb, er⟩ | ⟨n, y, e1, e2, e3, hn, hy, er⟩
    · refine irr (.inr ⟨p, [u1, u2, u3], u, rfl, SqT.of upd_same, ?_, hb, er.same s0⟩)
      intro y hy
      simp only [List.mem_cons, List.not_mem_nil, or_false] at hy
      rcases hy with rfl | rfl | rfl
      · exact o1.same s0
      · exact o2.same s0
      · exact o3.same s0
    · refine irr (.inl ⟨p, [n, y, y], rfl, SqT.of (by rw [e1, e2, e3]; exact upd_same), ?_, fun H1 s1 => ?_⟩)
      · intro z hz
        simp only [List.mem_cons, List.not_mem_nil, or_false] at hz
        rcases hz with rfl | rfl | rfl <;> assumption
      · refine ⟨_, rfl, _, rfl, ?_⟩
        rw [e2, e3]
        refine ⟨rfl, _, rfl, ite2 (fun _ => ⟨_, rfl, _, rfl, fun dd nd => ?_⟩) fun q => absurd (decide_eq_true rfl) q⟩
        exact (er.same (s0.trans s1)).new nd
theorem ok_Meter_iX {f : Addr} {fd : FuncData} {kws : List (Str × V)} (F : FunD K "__init__" "Meter.__init__" (defArgs s_Meter___init__) (defBody s_Meter___init__) (defScope s_Meter___init__) [] kws f fd) (h_check : Fx P w K mg base "_check_names" 3 ["values"] (Irr (orS (sp_check K) (sp_checkX K CI)))) (EF : Err P w K mg base "InvalidFlag" CF "given") : FnOk P w K mg base (L2.CX P w) 4 f fd ["self", "name", "at", "sealed"] (sp_MeterX K C CI CF) := by
  refine F.ok sc_Meter___init__ (fun vs H Q E h => ?_) (fun cdv A outer s H vs Q E hr h => ?_)
  · obtain ⟨_, _, _, _, _, rfl, _⟩ := h
    rfl
  · obtain ⟨x, dx, u1, u2, u3, rfl, hx, o1, o2, o3, k⟩ := h
    refine ⟨_, (pss_cons (ps_expr (pe_fx h_check (hr.mono (by decide)) (passes_call (takes_of rfl rfl rfl rfl) fun _ _ _ _ z => z) (pa_cons (pe_tup (pa_cons (pv 1) (pa_cons (pv 2) pa_nil))) pa_nil)))
      (pss_cons (ps_if (PW.pt (pw_and (pt_cmpR op_isnotB (pv 3) pe_bl (nomark _)) (pw_and1 (pt_cmpR op_isnotB (pv 3) pe_bl (nomark _))))) (pss_one (ps_raise rfl (takes_of rfl rfl rfl rfl) (pmk_err EF (hr.mono (by decide)) (pa_cons (pv 3) pa_nil)))) pss_nil) pss_dead)), ?_⟩
    refine ⟨_, rfl, _, rfl, (by show 2 ≤ sizeLine; decide), fun p np => ?_⟩
    have s0 : Same H (upd H p (.tup [u1.1, u2.1])) := same_new np
    rcases k with ⟨u, hb, er⟩ | ⟨n, y, e1, e2, hn, hy, nb, er⟩
    · refine irr (.inr ⟨p, [u1, u2], u, rfl, SqT.of upd_same, ?_, hb, er.same s0⟩)
      intro y hy
      simp only [List.mem_cons, List.not_mem_nil, or_false] at hy
      rcases hy with rfl | rfl
      · exact o1.same s0
      · exact o2.same s0
    · refine irr (.inl ⟨p, [n, y], rfl, SqT.of (by rw [e1, e2]; exact upd_same), ?_, fun H1 s1 => ?_⟩)
      · intro z hz
        simp only [List.mem_cons, List.not_mem_nil, or_false] at hz
        rcases hz with rfl | rfl <;> assumption
      · refine ⟨_, rfl, _, rfl, ?_⟩
        rw [decide_eq_false (nb true)]
        refine ⟨_, rfl, _, rfl, _, rfl, ?_⟩
        rw [decide_eq_false (nb false)]
        exact ⟨_, rfl, ite2 (fun _ => ⟨_, rfl, _, rfl, fun dd nd => (er.same (s0.trans s1)).new nd⟩) fun q => absurd rfl q⟩
end
end RV
namespace RV
open PySem L2 TL
section
variable {P : Program} {w : World} {K : PySem.W.Frag} {mg : Str → Option Value} {base : Heap} {CP CM CN CS : Addr}
/-- the classes that are told apart -/
structure Four (K : PySem.W.Frag) (mg : Str → Option Value) (CP CM CN CS : Addr) : Prop where
  gP : mg "Pipe" = some (.ref CP)
  gM : mg "Meter" = some (.ref CM)
  gN : mg "Net" = some (.ref CN)
  gS : mg "Sum" = some (.ref CS)
  aP : Alien K CP
  aM : Alien K CM
  aN : Alien K CN
  aS : Alien K CS
theorem ok_seenE {f : Addr} {fd : FuncData} (F : Fun K "_law_seen" "_law_seen" s_seen f fd) (T : Blt mg) (M : Four K mg CP CM CN CS) : FnE P w K mg base 1 f fd ["_law_thing"] (sp_seenE K) := by
  refine gFunE F sc_seen (fun a c d vs H Q E h => ?_) (fun cdv A outer s H vs Q p cls d gs hr hz hf h => ?_)
  · obtain ⟨_, _, rfl, _⟩ := h
    rfl
  · obtain ⟨v, dv, rfl, o, k⟩ := h
    have hu : (cxE P w K mg base sc_seen_N "_law_seen" s_seen f cdv A outer s H p).A.units + 64 < cLine := by
      have := hr.un
      show (A.deeper _).units + 64 < cLine
      omega
    refine ⟨_, (pss_cons (ps_if (pt_val (pe_callB call_isi (by rfl) T.b_isinstance (by decide +kernel) (pa_cons (pv 0) (pa_cons (pe_gC M.gP) pa_nil)))) pss_dead pss_nil)
      (pss_cons (ps_if (pt_val (pe_callB call_isi (by rfl) T.b_isinstance (by decide +kernel) (pa_cons (pv 0) (pa_cons (pe_gC M.gM) pa_nil)))) pss_dead pss_nil)
      (pss_cons (ps_if (pt_val (pe_callB call_isi (by rfl) T.b_isinstance (by decide +kernel) (pa_cons (pv 0) (pa_cons (pe_gC M.gN) pa_nil)))) pss_dead pss_nil)
      (pss_one (ps_ret (pe_ifExp (pt_val (pe_callB call_isi (by rfl) T.b_isinstance (by decide +kernel) (pa_cons (pv 0) (pa_cons (pe_gC M.gS) pa_nil)))) pe_dead (pe_callB (call_reprOK K hu gs) (by rfl) T.b_repr (by decide +kernel) (pa_cons (pv 0) pa_nil)))))))), ?_⟩
    refine ⟨_, rfl, _, _, _, .ref CP, false, rfl, .own CP, o.o.ty, M.aP dv, false, rfl, iteF ?_⟩
    refine ⟨_, rfl, _, _, _, .ref CM, false, rfl, .own CM, o.o.ty, M.aM dv, false, rfl, iteF ?_⟩
    refine ⟨_, rfl, _, _, _, .ref CN, false, rfl, .own CN, o.o.ty, M.aN dv, false, rfl, iteF ?_⟩
    exact ⟨_, rfl, _, _, _, .ref CS, false, rfl, .own CS, o.o.ty, M.aS dv, false, rfl, iteF ⟨_, rfl, reprO_of o.o o.f k⟩⟩
theorem ok_seen3 {f : Addr} {fd : FuncData} (F : Fun K "_law_seen" "_law_seen" s_seen f fd) (T : Blt mg) (M : Four K mg CP CM CN CS) (PC : PClass K mg CP) (MC : MClass K mg CM) (mp : PySem.W.kitOne K (.ref CM) (.ref CP) = some false)
    (h_pn : Prp P w K mg base CP "name" 1 (Irr (sp_pn CP))) (h_ps : Prp P w K mg base CP "start" 1 (Irr (sp_ps CP))) (h_pe : Prp P w K mg base CP "end" 1 (Irr (sp_pe CP)))
    (h_mn : Prp P w K mg base CM "name" 1 (Irr (sp_mn CM))) (h_ma : Prp P w K mg base CM "at" 1 (Irr (sp_ma CM))) (h_mz : Prp P w K mg base CM "sealed" 1 (Irr (sp_mz CM))) : FnG P w K mg base 3 f fd ["_law_thing"] (sp_seen3 K CP CM) := by
  refine gFun F sc_seen (fun vs H Q E h => ?_) (fun cdv A outer s H vs Q E gs hr h => ?_)
  · rcases h with ⟨_, _, rfl, _⟩ | ⟨_, _, rfl, _⟩ | ⟨_, _, rfl, _⟩ <;> rfl
  · refine ⟨_, (pss_cons (ps_if (pt_val (pe_callB call_isi (by rfl) T.b_isinstance (by decide +kernel) (pa_cons (pv 0) (pa_cons (pe_gC M.gP) pa_nil)))) (pss_one (ps_ret (pe_op op_add_str (pe_op op_add_str (pe_op op_add_str (pe_op op_add_str (pe_op op_add_str pe_str (pe_propN h_pn (hr.mono (by decide)) (pv 0))) pe_str) (pe_propN h_ps (hr.mono (by decide)) (pv 0))) pe_str) (pe_propN h_pe (hr.mono (by decide)) (pv 0))))) pss_nil)
      (pss_cons (ps_if (pt_val (pe_callB call_isi (by rfl) T.b_isinstance (by decide +kernel) (pa_cons (pv 0) (pa_cons (pe_gC M.gM) pa_nil)))) (pss_one (ps_ret (pe_op op_add_str (pe_op op_add_str (pe_op op_add_str (pe_op op_add_str (pe_op op_add_str pe_str (pe_propN h_mn (hr.mono (by decide)) (pv 0))) pe_str) (pe_propN h_ma (hr.mono (by decide)) (pv 0))) pe_str) (pe_callTy call_str_bl (by rfl) T.b_str (by decide +kernel) (pa_cons (pe_propN h_mz (hr.mono (by decide)) (pv 0)) pa_nil))))) pss_nil)
      (pss_cons (ps_if (pt_val (pe_callB call_isi (by rfl) T.b_isinstance (by decide +kernel) (pa_cons (pv 0) (pa_cons (pe_gC M.gN) pa_nil)))) pss_dead pss_nil)
      (pss_one (ps_ret (pe_ifExp (pt_val (pe_callB call_isi (by rfl) T.b_isinstance (by decide +kernel) (pa_cons (pv 0) (pa_cons (pe_gC M.gS) pa_nil)))) pe_dead (pe_callB (call_reprOK K hr.units gs) (by rfl) T.b_repr (by decide +kernel) (pa_cons (pv 0) pa_nil)))))))), ?_⟩
    rcases h with ⟨x, q, rfl, e, n1, n2, n3, k⟩ | ⟨x, q, rfl, e, n1, n2, k⟩ | ⟨v, dv, rfl, o, k⟩
    · obtain ⟨dx, ex⟩ := id e
      have l1 := isNm_len n1
      have l2 := isNm_len n2
      have l3 := isNm_len n3
      rw [← cd_len] at l1 l2 l3
      have c1 : ("pipe " : Str).length = 5 := by decide +kernel
      have c2 : (" " : Str).length = 1 := by decide +kernel
      refine ⟨_, rfl, _, _, _, .ref CP, true, rfl, .own CP, PC.x.ty ex, PC.me, true, rfl, iteT ?_⟩
      exact ⟨_, rfl, x, dx, _, rfl, ex, irr ⟨x, q, rfl, e, _, _, rfl, rfl, szn (by simp only [sl_app, c1, c2]; omega), _, _, rfl, rfl, szn (by simp only [sl_app, c1, c2]; omega), _, rfl, x, dx, _, rfl, ex, irr ⟨x, q, rfl, e, _, _, rfl, rfl, szn (by simp only [sl_app, c1, c2]; omega),
        _, _, rfl, rfl, szn (by simp only [sl_app, c1, c2]; omega), _, rfl, x, dx, _, rfl, ex, irr ⟨x, q, rfl, e, _, _, rfl, rfl, szn (by simp only [sl_app, c1, c2]; omega), k⟩⟩⟩⟩
    · obtain ⟨dx, ex⟩ := id e
      have l1 := isNm_len n1
      have l2 := isNm_len n2
      rw [← cd_len] at l1 l2
      have c1 : ("meter " : Str).length = 6 := by decide +kernel
      have c2 : (" " : Str).length = 1 := by decide +kernel
      have c3 : (if q.2.2 then ("True" : Str) else "False").length ≤ 5 := by cases q.2.2 <;> decide +kernel
      refine ⟨_, rfl, _, _, _, .ref CP, false, rfl, .own CP, MC.x.ty ex, mp, false, rfl, iteF ?_⟩
      refine ⟨_, rfl, _, _, _, .ref CM, true, rfl, .own CM, MC.x.ty ex, MC.me, true, rfl, iteT ?_⟩
      exact ⟨_, rfl, x, dx, _, rfl, ex, irr ⟨x, q, rfl, e, _, _, rfl, rfl, szn (by simp only [sl_app, c1, c2]; omega), _, _, rfl, rfl, szn (by simp only [sl_app, c1, c2]; omega), _, rfl, x, dx, _, rfl, ex, irr ⟨x, q, rfl, e, _, _, rfl, rfl, szn (by simp only [sl_app, c1, c2]; omega),
        _, _, rfl, rfl, szn (by simp only [sl_app, c1, c2]; omega), _, rfl, x, dx, _, rfl, ex, irr ⟨x, q, rfl, e, _, rfl, _, _, rfl, rfl, szn (by simp only [sl_app, c1, c2]; omega), k⟩⟩⟩⟩
    · refine ⟨_, rfl, _, _, _, .ref CP, false, rfl, .own CP, o.o.ty, M.aP dv, false, rfl, iteF ?_⟩
      refine ⟨_, rfl, _, _, _, .ref CM, false, rfl, .own CM, o.o.ty, M.aM dv, false, rfl, iteF ?_⟩
      refine ⟨_, rfl, _, _, _, .ref CN, false, rfl, .own CN, o.o.ty, M.aN dv, false, rfl, iteF ?_⟩
      exact ⟨_, rfl, _, _, _, .ref CS, false, rfl, .own CS, o.o.ty, M.aS dv, false, rfl, iteF ⟨_, rfl, reprO_of o.o o.f k⟩⟩
end
end RV
namespace RV
open PySem L2 TL
section
variable {P : Program} {w : World} {K : PySem.W.Frag} {mg : Str → Option Value} {base : Heap} {c0 c1 c2 c3 c4 c5 c6 c7 CB CV : Addr}
structure Eight (mg : Str → Option Value) (c0 c1 c2 c3 c4 c5 c6 c7 CB CV : Addr) : Prop where
  g0 : mg "InvalidPipes" = some (.ref c0)
  g1 : mg "InvalidMeters" = some (.ref c1)
  g2 : mg "InvalidName" = some (.ref c2)
  g3 : mg "InvalidEnd" = some (.ref c3)
  g4 : mg "InvalidFlag" = some (.ref c4)
  g5 : mg "InvalidText" = some (.ref c5)
  g6 : mg "NotAMeter" = some (.ref c6)
  g7 : mg "UnknownName" = some (.ref c7)
  gB : mg "BadName" = some (.ref CB)
  gV : mg "BadValue" = some (.ref CV)
def fld8 (i : Nat) : Str := if i < 2 then "index" else "given"
theorem ok_said8 {f : Addr} {fd : FuncData} (F : Fun K "_law_said" "_law_said" s_said f fd) (T : Blt mg) (M : Eight mg c0 c1 c2 c3 c4 c5 c6 c7 CB CV) (h_seen : FnEd P w K mg base "_law_seen" 1 ["_law_thing"] (sp_seenE K)) :
    FnE P w K mg base 2 f fd ["_law_e"] (sp_said K [c0, c1, c2, c3, c4, c5, c6, c7] CB CV (fun i => decide (i = 7)) (fun i => !decide (i = 7)) fld8) := by
  refine gFunE F sc_said (fun a c d vs H Q E h => ?_) (fun cdv A outer s H vs Q p cls d gs hr hz hf h => ?_)
  · obtain ⟨_, _, _, _, _, rfl, _⟩ := h
    rfl
  · obtain ⟨a, oe⟩ := p
    obtain ⟨D, dd, i, y, dy, rfl, kp, so, o, k⟩ := h
    have hp : (a, oe) ∈ (cxE P w K mg base sc_said_N "_law_said" s_said f cdv A outer s H (a, oe)).pn := List.mem_cons_self
    have hu : (cxE P w K mg base sc_said_N "_law_said" s_said f cdv A outer s H (a, oe)).A.units + 64 < cLine := by
      have := hr.un
      show (A.deeper _).units + 64 < cLine
      omega
    refine ⟨_, (pss_cons (ps_set (i := 1) sc_said.nd rfl (Or.inl rfl) (pe_lst (pa_cons (pe_callB (call_isO hp hz hf) (by rfl) T.b_isinstance (by decide +kernel) (pa_cons (pv 0) (pa_cons (pe_gC M.g0) pa_nil))) (pa_cons (pe_callB (call_isO hp hz hf) (by rfl) T.b_isinstance (by decide +kernel) (pa_cons (pv 0) (pa_cons (pe_gC M.g1) pa_nil))) (pa_cons (pe_callB (call_isO hp hz hf) (by rfl) T.b_isinstance (by decide +kernel) (pa_cons (pv 0) (pa_cons (pe_gC M.g2) pa_nil))) pa_nil)))))
      (pss_cons (ps_set (i := 1) sc_said.nd rfl (Or.inl rfl) (pe_op op_cat (pv 1) (pe_lst (pa_cons (pe_callB (call_isO hp hz hf) (by rfl) T.b_isinstance (by decide +kernel) (pa_cons (pv 0) (pa_cons (pe_gC M.g3) pa_nil))) (pa_cons (pe_callB (call_isO hp hz hf) (by rfl) T.b_isinstance (by decide +kernel) (pa_cons (pv 0) (pa_cons (pe_gC M.g4) pa_nil))) (pa_cons (pe_callB (call_isO hp hz hf) (by rfl) T.b_isinstance (by decide +kernel) (pa_cons (pv 0) (pa_cons (pe_gC M.g5) pa_nil))) pa_nil))))))
      (pss_cons (ps_set (i := 1) sc_said.nd rfl (Or.inl rfl) (pe_op op_cat (pv 1) (pe_lst (pa_cons (pe_callB (call_isO hp hz hf) (by rfl) T.b_isinstance (by decide +kernel) (pa_cons (pv 0) (pa_cons (pe_gC M.g6) pa_nil))) (pa_cons (pe_callB (call_isO hp hz hf) (by rfl) T.b_isinstance (by decide +kernel) (pa_cons (pv 0) (pa_cons (pe_gC M.g7) pa_nil))) pa_nil)))))
      (pss_cons (ps_if (PW.pt (pw_or (pt_cmpR op_ne (pe_bm PySem.F.plainAttrs_list PySem.F.slot_list_count PySem.F.type_list_count mt_lcountV (pv 1) (pa_cons pe_bl pa_nil)) pe_int (nomark _)) (pw_or (pt_cmpR op_ne (pe_callB (call_isO hp hz hf) (by rfl) T.b_isinstance (by decide +kernel) (pa_cons (pv 0) (pa_cons (pe_gC M.gB) pa_nil))) (pe_ix ix_list (pv 1) pe_int (fun _ _ => rfl)) (nomark _))
        (pw_or1 (pt_cmpR op_eq (pe_callB (call_isO hp hz hf) (by rfl) T.b_isinstance (by decide +kernel) (pa_cons (pv 0) (pa_cons (pe_gC M.gV) pa_nil))) (pe_ix ix_list (pv 1) pe_int (fun _ _ => rfl)) (nomark _)))))) pss_dead pss_nil)
      (pss_cons (ps_set (i := 2) sc_said.nd rfl (Or.inl rfl) (pe_bm PySem.F.plainAttrs_list PySem.F.slot_list_index PySem.F.type_list_index mt_index (pv 1) (pa_cons pe_bl pa_nil)))
      (pss_one (ps_ret (pe_lst (pa_cons (pv 2) (pa_cons (pe_ifExp (pt_cmpR op_lt (pv 2) pe_int (nomark _)) (pe_callB (call_reprOK K hu gs) (by rfl) T.b_repr (by decide +kernel) (pa_cons (pe_xo hp hz hf (pv 0)) pa_nil)) (pe_fnE h_seen gs (hr.mono (by decide)) hp hz hf (pa_cons (pe_xo hp hz hf (pv 0)) pa_nil))) pa_nil)))))))))), ?_⟩
    refine ⟨_, rfl, rIsO_ref kp (so.so 0 c0 rfl) ⟨_, rfl, rIsO_ref kp (so.so 1 c1 rfl) ⟨_, rfl, rIsO_ref kp (so.so 2 c2 rfl) ⟨(by show 3 ≤ sizeLine; decide), fun l1 n1 => ?_⟩⟩⟩⟩
    have s1 : Same H (upd H l1 (.lst [.bl (decide (0 = i)), .bl (decide (1 = i)), .bl (decide (2 = i))])) := same_new n1
    have e1 : upd H l1 (.lst [.bl (decide (0 = i)), .bl (decide (1 = i)), .bl (decide (2 = i))]) l1 = _ := upd_same
    generalize upd H l1 (.lst [.bl (decide (0 = i)), .bl (decide (1 = i)), .bl (decide (2 = i))]) = H1 at s1 e1 ⊢
    have kp1 := kp.same s1
    refine ⟨_, rfl, _, rfl, rIsO_ref kp1 (so.so 3 c3 rfl) ⟨_, rfl, rIsO_ref kp1 (so.so 4 c4 rfl) ⟨_, rfl, rIsO_ref kp1 (so.so 5 c5 rfl) ⟨(by show 3 ≤ sizeLine; decide), fun l2 n2 => ?_⟩⟩⟩⟩
    have s2 : Same H1 (upd H1 l2 (.lst [.bl (decide (3 = i)), .bl (decide (4 = i)), .bl (decide (5 = i))])) := same_new n2
    have e2 : upd H1 l2 (.lst [.bl (decide (3 = i)), .bl (decide (4 = i)), .bl (decide (5 = i))]) l2 = _ := upd_same
    generalize upd H1 l2 (.lst [.bl (decide (3 = i)), .bl (decide (4 = i)), .bl (decide (5 = i))]) = H2 at s2 e2 ⊢
    refine ⟨l1, l2, _, _, rfl, rfl, s2 _ _ e1, e2, (by show 3 + 3 ≤ sizeLine; decide), fun l3 n3 => ?_⟩
    have s3 : Same H2 (upd H2 l3 (.lst ([.bl (decide (0 = i)), .bl (decide (1 = i)), .bl (decide (2 = i))] ++ [.bl (decide (3 = i)), .bl (decide (4 = i)), .bl (decide (5 = i))]))) := same_new n3
    have e3 : upd H2 l3 (.lst ([.bl (decide (0 = i)), .bl (decide (1 = i)), .bl (decide (2 = i))] ++ [.bl (decide (3 = i)), .bl (decide (4 = i)), .bl (decide (5 = i))])) l3 = _ := upd_same
    generalize upd H2 l3 (.lst ([.bl (decide (0 = i)), .bl (decide (1 = i)), .bl (decide (2 = i))] ++ [.bl (decide (3 = i)), .bl (decide (4 = i)), .bl (decide (5 = i))])) = H3 at s3 e3 ⊢
    have kp3 := (kp1.same s2).same s3
    refine ⟨_, rfl, _, rfl, rIsO_ref kp3 (so.so 6 c6 rfl) ⟨_, rfl, rIsO_ref kp3 (so.so 7 c7 rfl) ⟨(by show 2 ≤ sizeLine; decide), fun l4 n4 => ?_⟩⟩⟩
    have s4 : Same H3 (upd H3 l4 (.lst [.bl (decide (6 = i)), .bl (decide (7 = i))])) := same_new n4
    have e4 : upd H3 l4 (.lst [.bl (decide (6 = i)), .bl (decide (7 = i))]) l4 = _ := upd_same
    generalize upd H3 l4 (.lst [.bl (decide (6 = i)), .bl (decide (7 = i))]) = H4 at s4 e4 ⊢
    refine ⟨l3, l4, _, _, rfl, rfl, s4 _ _ e3, e4, (by show 6 + 2 ≤ sizeLine; decide), fun l5 n5 => ?_⟩
    obtain ⟨bits, hb⟩ : ∃ bits : List V, bits = ([.bl (decide (0 = i)), .bl (decide (1 = i)), .bl (decide (2 = i))] ++ [.bl (decide (3 = i)), .bl (decide (4 = i)), .bl (decide (5 = i))]) ++ [.bl (decide (6 = i)), .bl (decide (7 = i))] := ⟨_, rfl⟩
    rw [← hb]
    have s5 : Same H4 (upd H4 l5 (.lst bits)) := same_new n5
    have e5 : upd H4 l5 (.lst bits) l5 = _ := upd_same
    generalize upd H4 l5 (.lst bits) = H5 at s5 e5 ⊢
    have kp5 := (kp3.same s4).same s5
    have sA : Same H H5 := (((s1.trans s2).trans s3).trans s4).trans s5
    have lt : i < 8 := so.lt
    have c8 : i = 0 ∨ i = 1 ∨ i = 2 ∨ i = 3 ∨ i = 4 ∨ i = 5 ∨ i = 6 ∨ i = 7 := by omega
    have cnt : bits.countP (fun z => eqV z (.bl true)) = 1 := by
      subst hb
      rcases c8 with rfl | rfl | rfl | rfl | rfl | rfl | rfl | rfl <;> decide
    have fl : bits.all flatV = true := by rw [hb]; rfl
    have at7 : bits[7]? = some (.bl (decide (7 = i))) := by rw [hb]; rfl
    have ati : bits[i]? = some (.bl true) := by
      subst hb
      rcases c8 with rfl | rfl | rfl | rfl | rfl | rfl | rfl | rfl <;> rfl
    have hno : ∀ (m : Nat) (z : V), m < i → bits[m]? = some z → eqV z (.bl true) = false := by
      intro m z hm hz'
      subst hb
      have m8 : m = 0 ∨ m = 1 ∨ m = 2 ∨ m = 3 ∨ m = 4 ∨ m = 5 ∨ m = 6 := by omega
      rcases c8 with rfl | rfl | rfl | rfl | rfl | rfl | rfl | rfl <;> rcases m8 with rfl | rfl | rfl | rfl | rfl | rfl | rfl <;> first | (exfalso; omega) | (cases hz'; rfl)
    refine ⟨_, rfl, .inl ⟨rfl, _, SqL.of e5⟩, l5, bits, .bl true, rfl, rfl, SqL.of e5, rfl, fl, ?_⟩
    rw [cnt]
    refine ⟨rfl, _, rfl, iteF ?_⟩
    have comm7 : decide (7 = i) = decide (i = 7) := by
      rcases c8 with rfl | rfl | rfl | rfl | rfl | rfl | rfl | rfl <;> rfl
    refine ⟨_, rfl, rIsO_ref kp5 so.kb ⟨_, rfl, l5, _, 7, _, rfl, rfl, SqL.of e5, atI_nat (j := 7) at7, rfl, _, rfl, ite2 (fun q => absurd q ?_) (fun _ => ?_)⟩⟩
    · show ¬ ((!decide (V.bl (decide (i = 7)) = V.bl (decide (7 = i)))) = true)
      rw [comm7]
      simp
    refine ⟨_, rfl, rIsO_ref kp5 so.kv ⟨_, rfl, l5, _, 7, _, rfl, rfl, SqL.of e5, atI_nat (j := 7) at7, rfl, _, rfl, ite2 (fun q => absurd q ?_) (fun _ => ?_)⟩⟩
    · show ¬ (decide (V.bl (!decide (i = 7)) = V.bl (decide (7 = i))) = true)
      rw [comm7]
      cases decide (i = 7) <;> decide
    refine ⟨_, rfl, .inl ⟨rfl, _, SqL.of e5⟩, l5, bits, .bl true, i, .bl true, rfl, rfl, SqL.of e5, rfl, fl, ati, rfl, hno, ?_⟩
    refine ⟨_, rfl, _, rfl, _, _, rfl, rfl, _, rfl, ?_⟩
    by_cases h2 : i < 2
    · refine ite2 (fun _ => ?_) fun q => absurd (decide_eq_true (by omega)) q
      have ef : fld8 i = "index" := if_pos h2
      rw [ef] at kp5
      exact ⟨_, rfl, rfl, D, dd, y, kp5, reprO_of (o.o.same sA) o.f ⟨(by show 2 ≤ sizeLine; decide), fun l6 n6 => k _ l6 (sA.trans (same_new n6)) upd_same⟩⟩
    · refine ite2 (fun q => absurd (of_decide_eq_true q) (by omega)) fun _ => ?_
      have ef : fld8 i = "given" := if_neg h2
      rw [ef] at kp5
      exact ⟨_, rfl, rfl, D, dd, y, kp5, ⟨y, dy, rfl, o.same sA, (by show 2 ≤ sizeLine; decide), fun l6 n6 => k _ l6 (sA.trans (same_new n6)) upd_same⟩⟩
end
end RV
namespace RV
open PySem L2 TL
section
variable {P : Program} {w : World} {K : PySem.W.Frag} {mg : Str → Option Value} {base : Heap}
theorem ok_odd {f : Addr} {fd : FuncData} (F : Fun K "_law_odd" "_law_odd" s_odd f fd) (h_dip : Fn P w K mg base "_law_dip" 1 ["_law_well_here", "_law_many"] (Irr sp_dip)) : FnOk P w K mg base CX0 2 f fd ["_law_well_here"] (sp_odd K) := by
  refine F.ok sc_odd (fun vs H Q E h => ?_) (fun cdv A outer s H vs Q E hr h => ?_)
  · obtain ⟨_, _, rfl, _⟩ := h
    rfl
  · obtain ⟨a, n, rfl, w0, hn, k⟩ := h
    refine ⟨_, (pss_cons (ps_set (i := 1) sc_odd.nd rfl (Or.inl rfl) (pe_fn h_dip (hr.mono (by decide)) (pa_cons (pv 0) (pa_cons pe_int pa_nil))))
      (pss_cons (ps_set (i := 2) sc_odd.nd rfl (Or.inl rfl) (pe_lst (pa_cons pe_non (pa_cons pe_bl (pa_cons pe_bl (pa_cons pe_int (pa_cons pe_int (pa_cons (pe_un un_neg pe_int) (pa_cons pe_int (pa_cons (pe_op op_pow pe_int pe_int) (pa_cons pe_str (pa_cons pe_str (pa_cons pe_str (pa_cons pe_str (pa_cons pe_str (pa_cons pe_str (pa_cons (pe_tup pa_nil) (pa_cons (pe_tup (pa_cons pe_str pa_nil)) (pa_cons (pe_lst pa_nil) (pa_cons (pe_lst (pa_cons pe_str pa_nil)) pa_nil))))))))))))))))))))
      (pss_one (ps_ret (pe_ix ix_list (pe_op op_cat (pv 2) (pe_lst (pa_cons pe_dnewK (pa_cons (pe_disp (pps_cons pe_str pe_int pps_nil) rfl rfl (by simp) (by decide)) pa_nil)))) (pv 1) (fun _ _ => rfl)))))), ?_⟩
    have h0 := Has.start w0
    refine ⟨_, rfl, dip_step h0 (by omega) (by decide) (by decide) fun r H1 r0 r1 h1 => ?_⟩
    refine ⟨_, rfl, _, _, rfl, rfl, ⟨by decide, by decide, by decide⟩, (by show 0 ≤ sizeLine; decide), fun t0 n1 => ⟨(by show 1 ≤ sizeLine; decide), fun t1 n2 => ⟨(by show 0 ≤ sizeLine; decide), fun l0 n3 => ⟨(by show 1 ≤ sizeLine; decide), fun l1 n4 => ⟨(by show 18 ≤ sizeLine; decide), fun A nA => ?_⟩⟩⟩⟩⟩
    have hA := ((((h1.new n1 (o := .tup [])).new n2 (o := .tup [.str "a"])).new n3 (o := .lst [])).new n4 (o := .lst [.str "a"])).new nA (o := .lst [.non, .bl true, .bl false, .int 0, .int 1, .int (-1), .int 3, .int (10 ^ Int.toNat 30), .str "", .str "A", .str "1a", .str "a b", .str "a_b", .str "abcdefghi", .ref t0, .ref t1, .ref l0, .ref l1])
    dsimp only
    revert hA
    generalize hx : upd _ A _ = HA
    intro hA
    refine ⟨_, rfl, fun d0 nd0 => fun d1 nd1 => ⟨upd_same, [(.inr "a", .int 1)], rfl, by decide, ?_⟩⟩
    rw [upd_two, merge1]
    have hD := (hA.new nd0 (o := .dK [])).new nd1 (o := .dK [(.inr "a", .int 1)])
    refine ⟨(by show 2 ≤ sizeLine; decide), fun B nB => ?_⟩
    have hB := hD.new nB (o := .lst [.ref d0, .ref d1])
    revert hB
    generalize upd _ B _ = HB
    intro hB
    refine ⟨A, B, _, _, rfl, rfl, hB.at (by repeat (first | assumption | exact List.mem_cons_self | apply List.mem_cons_of_mem)), hB.at (by repeat (first | assumption | exact List.mem_cons_self | apply List.mem_cons_of_mem)), (by show 18 + 2 ≤ sizeLine; decide), fun C nC => ?_⟩
    have hC := hB.new nC (o := .lst ((oddL t0 t1 l0 l1 d0 d1).map (·.1)))
    have key : ∀ HC, HC = upd HB C (.lst ((oddL t0 t1 l0 l1 d0 d1).map (·.1))) → tVar 1 [some (.ref a), some (.int r), some (.ref A)] HC (fun y H2 => rIxL K (.ref C) y H2 Q) := by
      rintro HC rfl
      obtain ⟨i, rfl⟩ : ∃ i : Nat, r = (i : Int) := ⟨r.toNat, by omega⟩
      have li : i < (oddL t0 t1 l0 l1 d0 d1).length := by show i < 20; omega
      have og := oddL_ok (K := K) (hC.rest (p := t0) (by repeat (first | assumption | exact List.mem_cons_self | apply List.mem_cons_of_mem))) (hC.rest (p := t1) (by repeat (first | assumption | exact List.mem_cons_self | apply List.mem_cons_of_mem))) (hC.rest (p := l0) (by repeat (first | assumption | exact List.mem_cons_self | apply List.mem_cons_of_mem))) (hC.rest (p := l1) (by repeat (first | assumption | exact List.mem_cons_self | apply List.mem_cons_of_mem))) (hC.rest (p := d0) (by repeat (first | assumption | exact List.mem_cons_self | apply List.mem_cons_of_mem))) (hC.rest (p := d1) (by repeat (first | assumption | exact List.mem_cons_self | apply List.mem_cons_of_mem)))
      exact ⟨_, rfl, C, _, (i : Int), _, rfl, rfl, SqL.of (hC.at List.mem_cons_self), atI_nat (by rw [List.getElem?_map, List.getElem?_eq_getElem li]; rfl), k _ _ _ (og _ (List.getElem_mem li)) hC.gr hC.well⟩
    exact key _ rfl
end
end RV
namespace RV
open PySem L2 TL
def sp_lname : Sp := fun vs H Q _ => ∃ y : Str, vs = [.str y] ∧ y.length ≤ 1000 ∧ ∀ H', Same H H' → Q (.bl (isNm (cd y))) H'
theorem signs_in (d : Nat) : decide (d ∈ cd ("abcdefghijklmnopqrstuvwxyz0123456789" : Str)) = tailC d := by
  have e : cd ("abcdefghijklmnopqrstuvwxyz0123456789" : Str) = cd (("abcdefghijklmnopqrstuvwxyz" : Str) ++ ("0123456789" : Str)) := by decide +kernel
  rw [e]
  exact tail_in d
section
variable {P : Program} {w : World} {K : PySem.W.Frag} {mg : Str → Option Value} {base : Heap}
theorem ok_lname {f : Addr} {fd : FuncData} (F : Fun K "_law_is_name" "_law_is_name" s_lis_name f fd) (T : Blt mg) : FnOk P w K mg base CX0 1 f fd ["_law_word"] sp_lname := by
  refine F.ok sc_lis_name (fun vs H Q E h => ?_) (fun cdv A outer s H vs Q E hr h => ?_)
  · obtain ⟨_, rfl, _⟩ := h
    rfl
  · obtain ⟨y, rfl, hl, k⟩ := h
    refine ⟨_, (pss_cons (ps_set (i := 1) sc_lis_name.nd rfl (Or.inr rfl) pe_str)
      (pss_one (ps_ret (pe_and (pe_chain op_lt op_lt pe_int (pe_callB call_len_str (by rfl) T.b_len (by decide +kernel) (pa_cons (pv 0) pa_nil)) pe_int) (pe_and (pe_cmpR op_in_sign (pe_ix ix_str (pv 0) pe_int (fun _ _ => rfl)) (pe_slice sl_str (pv 1) po_none (po_some pe_int)) (by rfl)) (pe_one (pe_callB (cr_all rfl) (by rfl) T.b_all (by decide +kernel) (pa_cons (pe_lc (own := [("_law_sign_here", 2)]) (g := gName 2) (tt := tYes) rfl sc_lis_name.nd (pi_str (pv 0)) (blkOk_by (N := sc_lis_name_N) (sc := defScope s_lis_name) (by decide +kernel)) (fun _ _ _ _ _ => pg_name (i := 2) sc_lis_name.nd rfl (Or.inl rfl)) (fun _ _ _ _ _ => pts_nil) (fun _ _ _ _ _ => (pe_cmpR op_in_sign (pv 2) (pv 1) (by rfl)))) pa_nil)))))))), ?_⟩
    have out : isNm (cd y) = false → Q (.bl false) H := fun e => e ▸ k H (Same.refl H)
    have hx : y.length ≤ sizeLine := szn hl
    refine ⟨_, rfl, _, rfl, hx, _, _, rfl, rfl, _, rfl, ?_⟩
    refine ite2 (fun h1 => ?_) (fun h1 => ?_)
    · have h1' := of_decide_eq_true h1
      refine ⟨_, _, rfl, rfl, _, rfl, ?_⟩
      refine ite2 (fun h2 => ?_) (fun h2 => ?_)
      · have h2' := of_decide_eq_true h2
        obtain ⟨c, r, ec⟩ : ∃ c r, cd y = c :: r := by
          cases e : cd y with
          | nil =>
            rw [cd_len, e] at h1'
            simp at h1'
          | cons c r => exact ⟨c, r, rfl⟩
        have hr7 : r.length ≤ 7 := by
          rw [cd_len, ec, List.length_cons] at h2'
          omega
        refine ⟨_, rfl, y, _, c, rfl, rfl, hx, atI_nat (j := 0) (by show (cd y)[0]? = some c; rw [ec]; rfl), ?_⟩
        have el : decide (c ∈ cd (cutS ("abcdefghijklmnopqrstuvwxyz0123456789" : Str) none (some 26))) = lowC c := by
          rw [show cutS ("abcdefghijklmnopqrstuvwxyz0123456789" : Str) none (some 26) = ("abcdefghijklmnopqrstuvwxyz" : Str) by decide +kernel]
          exact low_in c
        refine ⟨_, rfl, _, rfl, _, rfl, by decide, c, _, rfl, rfl, _, rfl, ?_⟩
        refine ite2 (fun hl => ?_) (fun hl => ?_)
        · have hl' : lowC c = true := el.symm.trans hl
          refine ⟨_, rfl, y, rfl, fun D nD => lc_str (z := y) (fun i H' => Same H H' ∧ H' D = some (.lst ((((cd y).take i).map tailC).map V.bl))) ⟨fun b o e => by rw [upd_ne (ne_of_none e nD)]; exact e, upd_same⟩ ?_ ?_⟩
          · rintro i d H6 hi ⟨s6, h6⟩
            refine ⟨rfl, _, rfl, _, rfl, d, _, rfl, rfl, _, h6, ?_, ?_⟩
            · rw [List.length_map, List.length_map, List.length_take, ← cd_len]
              exact Nat.lt_of_lt_of_le (show _ < 1000 by omega) (by decide)
            · refine ⟨fun b o e => by rw [upd_ne (ne_of_none e nD)]; exact s6 b o e, ?_⟩
              rw [upd_same]
              obtain ⟨hl6, e'⟩ := List.getElem?_eq_some_iff.mp hi
              rw [List.take_succ_eq_append_getElem hl6, e', List.map_append, List.map_append]
              show some (HO.lst (_ ++ [V.bl (decide (d ∈ cd ("abcdefghijklmnopqrstuvwxyz0123456789" : Str)))])) = _
              rw [signs_in]
              rfl
          · rintro H6 ⟨s6, h6⟩
            rw [List.take_of_length_le (Nat.le_refl _)] at h6
            refine ⟨D, _, rfl, SqL.of h6, ?_⟩
            have e : isNm (cd y) = ((cd y).map tailC).all id := by
              rw [ec]
              show (lowC c && r.all tailC && decide (r.length ≤ 7)) = (tailC c && (r.map tailC).all id)
              rw [hl', tail_of_low hl', decide_eq_true hr7, List.all_map]
              simp
            have := k H6 s6
            rwa [e] at this
        · refine out ?_
          have hl' : lowC c = false := by
            rw [← el]
            exact Bool.eq_false_iff.mpr hl
          rw [ec]
          simp [isNm, hl']
      · refine out ?_
        cases q : isNm (cd y) with
        | false => rfl
        | true =>
          have := isNm_len q
          rw [← cd_len] at this
          have h8 := of_decide_eq_false (Bool.eq_false_iff.mpr h2)
          omega
    · refine ⟨_, rfl, out ?_⟩
      cases q : isNm (cd y) with
      | false => rfl
      | true =>
        have : 0 < (cd y).length := by
          cases e : cd y with
          | nil => rw [e] at q; cases q
          | cons c r => simp
        rw [← cd_len] at this
        have h8 := of_decide_eq_false (Bool.eq_false_iff.mpr h1)
        omega
end
end RV
namespace RV
open PySem L2 TL
theorem low_cut {z : Str} (h : Low z) (lo hi : Option Int) : Low (cutS z lo hi) := fun c hc => by
  rw [cd_cutS] at hc
  exact h c (List.mem_of_mem_drop (List.mem_of_mem_take hc))
theorem low_one {t : Str} {c : Nat} {r : Int} (h : Low t) (e : atI (cd t) r = some c) : Low ⟨#[c]⟩ := fun d hd => by
  rw [show d = c by simpa using hd]
  unfold atI at e
  cases q : ixN (cd t).length r with
  | none => rw [q] at e; cases e
  | some j =>
    rw [q] at e
    exact h c (List.mem_of_getElem? (show (cd t)[j]? = some c from e))
theorem at_any {t : Str} {r : Int} (h0 : 0 ≤ r) (h : r < t.length) : ∃ c, atI (cd t) r = some c := by
  obtain ⟨n, rfl⟩ := Int.eq_ofNat_of_zero_le h0
  have hn : n < (cd t).length := by rw [← cd_len]; omega
  exact ⟨_, atI_nat (List.getElem?_eq_getElem hn)⟩
theorem cutV_take (xs : List V) (k : Nat) : cutV xs none (some (k : Int)) = xs.take k := by
  unfold cutV
  rw [sIx_none, sIx_some, List.drop_zero, Nat.sub_zero, ← List.take_take, List.take_length]
/-- an odd name: short, of low signs -/
def sp_bent : Sp := fun vs H Q _ => ∃ (a : Addr) (n : Nat), vs = [.ref a] ∧ WellAt H a n ∧ n < 800000 ∧ ∀ (z : Str) H', Low z → z.length ≤ 20 → Grow a H H' → WellAt H' a (n + 20) → Q (.str z) H'
/-- a name, or not -/
def sp_value (K : PySem.W.Frag) : Sp := fun vs H Q _ => ∃ (a : Addr) (n : Nat), vs = [.ref a] ∧ WellAt H a n ∧ n < 700000 ∧ ∀ (v : V) (d : PyData) H', Ody K (del H' a) v d → Grow a H H' → WellAt H' a (n + 30) → Q v H'
theorem ody_low {K : PySem.W.Frag} {H : Hp} {z : Str} (h : Low z) (hl : z.length ≤ 1000) : Ody K H (.str z) (.str z) := ⟨.dat (.str z), fine_str h (by omega), fun y e => by cases e; exact hl⟩
section
variable {P : Program} {w : World} {K : PySem.W.Frag} {mg : Str → Option Value} {base : Heap}
theorem ok_sign {f : Addr} {fd : FuncData} (F : Fun K "_law_sign" "_law_sign" s_sign f fd) (T : Blt mg) (h_dip : Fn P w K mg base "_law_dip" 1 ["_law_well_here", "_law_many"] (Irr sp_dip)) : FnOk P w K mg base CX0 2 f fd ["_law_well_here", "_law_often"] sp_sign := by
  refine F.ok sc_sign (fun vs H Q E h => ?_) (fun cdv A outer s H vs Q E hr h => ?_)
  · obtain ⟨_, _, _, rfl, _⟩ := h
    rfl
  · obtain ⟨a, n, t, rfl, w0, hn, ht, t1, t2, k⟩ := h
    refine ⟨_, (pss_cons (ps_if (pt_cmpR op_eq (pe_fn h_dip (hr.mono (by decide)) (pa_cons (pv 0) (pa_cons pe_int pa_nil))) pe_int (nomark _)) (pss_one (ps_ret (pe_ix ix_str (pv 1) (pe_fn h_dip (hr.mono (by decide)) (pa_cons (pv 0) (pa_cons (pe_callB call_len_str (by rfl) T.b_len (by decide +kernel) (pa_cons (pv 1) pa_nil)) pa_nil))) (fun _ _ => rfl)))) pss_nil)
      (pss_cons (ps_set (i := 2) sc_sign.nd rfl (Or.inl rfl) pe_str)
      (pss_cons (ps_set (i := 2) sc_sign.nd rfl (Or.inl rfl) (pe_op op_add_str (pv 2) pe_str))
      (pss_one (ps_ret (pe_ix ix_str (pv 2) (pe_fn h_dip (hr.mono (by decide)) (pa_cons (pv 0) (pa_cons (pe_callB call_len_str (by rfl) T.b_len (by decide +kernel) (pa_cons (pv 2) pa_nil)) pa_nil))) (fun _ _ => rfl))))))), ?_⟩
    have h0 := Has.start w0
    have fin : ∀ {z : Str} {H1 : Hp}, Low z → 1 ≤ z.length → z.length ≤ 100 → Has H a (n + 1) [] H1 → ∀ R : VK, (∀ c H', Low c → c.length = 1 → Grow a H H' → WellAt H' a (n + 2) → R (.str c) H') → z.length ≤ sizeLine ∧ Irr sp_dip [.ref a, .int z.length] H1 (fun y H2 => rIxS (.str z) y H2 R) E0 := by
      intro z H1 lz z1 z2 h1 R kR
      refine ⟨szn (by omega), dip_step h1 (by omega) (by omega) (Int.le_trans (show (z.length : Int) ≤ 100 by omega) (by decide)) fun r H2 r0 r1 h2 => ?_⟩
      obtain ⟨c, ec⟩ := at_any r0 r1
      exact ⟨z, r, c, rfl, rfl, szn (by omega), ec, kR _ _ (low_one lz ec) rfl h2.gr h2.well⟩
    refine ⟨_, rfl, dip_step h0 (by omega) (by decide) (by decide) fun r H1 r0 r1 h1 => ⟨rfl, _, rfl, ?_⟩⟩
    refine ite2 (fun _ => ?_) fun _ => ?_
    · exact ⟨_, rfl, _, rfl, _, rfl, t, rfl, fin ht t1 t2 h1 Q k⟩
    · refine ⟨_, rfl, _, _, rfl, rfl, by decide +kernel, ?_⟩
      refine ⟨_, rfl, _, rfl, _, rfl, _, rfl, fin (low_c (by decide +kernel)) (by decide +kernel) (by decide +kernel) h1 Q k⟩
theorem ok_bent_name {f : Addr} {fd : FuncData} (F : Fun K "_law_bent_name" "_law_bent_name" s_bent_name f fd) (h_dip : Fn P w K mg base "_law_dip" 1 ["_law_well_here", "_law_many"] (Irr sp_dip)) (h_name : Fn P w K mg base "_law_name" 2 ["_law_well_here"] (Irr sp_name))
    (h_sign : Fn P w K mg base "_law_sign" 2 ["_law_well_here", "_law_often"] (Irr sp_sign)) : FnOk P w K mg base CX0 3 f fd ["_law_well_here"] sp_bent := by
  refine F.ok sc_bent_name (fun vs H Q E h => ?_) (fun cdv A outer s H vs Q E hr h => ?_)
  · obtain ⟨_, _, rfl, _⟩ := h
    rfl
  · obtain ⟨a, n, rfl, w0, hn, k⟩ := h
    refine ⟨_, (pss_cons (ps_par3 (i := 1) (j := 2) (l := 3) (by rfl) sc_bent_name.nd rfl rfl rfl (by decide) (by decide) (by decide) rfl rfl rfl (pa_cons (pe_fn h_name (hr.mono (by decide)) (pa_cons (pv 0) pa_nil)) (pa_cons (pe_fn h_dip (hr.mono (by decide)) (pa_cons (pv 0) (pa_cons pe_int pa_nil))) (pa_cons (pe_fn h_dip (hr.mono (by decide)) (pa_cons (pv 0) (pa_cons pe_int pa_nil))) pa_nil))) (by rfl))
      (pss_one (ps_ret (pe_op op_add_str (pe_op op_add_str (pe_slice sl_str (pv 1) po_none (po_some (pv 2))) (pe_fn h_sign (hr.mono (by decide)) (pa_cons (pv 0) (pa_cons pe_str pa_nil)))) (pe_slice sl_str (pv 1) (po_some (pe_op op_add (pv 2) (pv 3))) po_none))))), ?_⟩
    have h0 := Has.start w0
    refine ⟨_, rfl, name_step h0 (by omega) fun x H1 nx h1 => ⟨_, rfl, dip_step h1 (by omega) (by decide) (by decide) fun r H2 r0 r1 h2 => ⟨_, rfl, dip_step h2 (by omega) (by decide) (by decide) fun g H3 g0 g1 h3 => ?_⟩⟩⟩
    have xl := isNm_len nx
    rw [← cd_len] at xl
    have lx := low_nm nx
    have c1 := cutS_length x none (some r)
    have c2 := cutS_length x (some (r + g)) none
    refine ⟨_, _, _, rfl, ?_⟩
    refine ⟨_, rfl, _, rfl, r, rfl, x, rfl, szn (by omega), ?_⟩
    refine ⟨_, rfl, irr ⟨a, n + 10 + 1 + 1, _, rfl, h3.well, by omega, low_c (by decide +kernel), by decide +kernel, by decide +kernel, fun c H4 lc cl g4 w4 => ?_⟩⟩
    have h4 := h3.grow g4 w4
    refine ⟨_, _, rfl, rfl, szn (by omega), ?_⟩
    refine ⟨_, rfl, _, rfl, _, rfl, _, _, rfl, rfl, r + g, rfl, x, rfl, szn (by omega), ?_⟩
    refine ⟨_, _, rfl, rfl, szn (by rw [sl_app]; omega), k _ _ (low_app (low_app (low_cut lx _ _) lc) (low_cut lx _ _)) (by rw [sl_app, sl_app]; omega) h4.gr (h4.well.mono (by omega))⟩
theorem ok_value {f : Addr} {fd : FuncData} (F : Fun K "_law_value" "_law_value" s_value f fd) (h_dip : Fn P w K mg base "_law_dip" 1 ["_law_well_here", "_law_many"] (Irr sp_dip)) (h_name : Fn P w K mg base "_law_name" 2 ["_law_well_here"] (Irr sp_name))
    (h_odd : Fn P w K mg base "_law_odd" 2 ["_law_well_here"] (Irr (sp_odd K))) (h_bent : Fn P w K mg base "_law_bent_name" 3 ["_law_well_here"] (Irr sp_bent)) : FnOk P w K mg base CX0 4 f fd ["_law_well_here"] (sp_value K) := by
  refine F.ok sc_value (fun vs H Q E h => ?_) (fun cdv A outer s H vs Q E hr h => ?_)
  · obtain ⟨_, _, rfl, _⟩ := h
    rfl
  · obtain ⟨a, n, rfl, w0, hn, k⟩ := h
    refine ⟨_, (pss_cons (ps_set (i := 1) sc_value.nd rfl (Or.inl rfl) (pe_fn h_dip (hr.mono (by decide)) (pa_cons (pv 0) (pa_cons pe_int pa_nil))))
      (pss_cons (ps_if (pt_cmpR op_eq (pv 1) pe_int (nomark _)) (pss_one (ps_ret (pe_fn h_odd (hr.mono (by decide)) (pa_cons (pv 0) pa_nil)))) pss_nil)
      (pss_one (ps_ret (pe_ifExp (pt_cmpR op_eq (pv 1) pe_int (nomark _)) (pe_fn h_bent (hr.mono (by decide)) (pa_cons (pv 0) pa_nil)) (pe_fn h_name (hr.mono (by decide)) (pa_cons (pv 0) pa_nil))))))), ?_⟩
    have h0 := Has.start w0
    refine ⟨_, rfl, dip_step h0 (by omega) (by decide) (by decide) fun r H1 r0 r1 h1 => ?_⟩
    refine ⟨_, rfl, rfl, _, rfl, ite2 (fun _ => ?_) fun _ => ?_⟩
    · exact ⟨_, rfl, irr ⟨a, n + 1, rfl, h1.well, by omega, fun v d H2 o g w => k v d H2 o (h1.gr.trans g) (w.mono (by omega))⟩⟩
    · refine ⟨_, rfl, rfl, _, rfl, ite2 (fun _ => ?_) fun _ => ?_⟩
      · exact ⟨_, rfl, irr ⟨a, n + 1, rfl, h1.well, by omega, fun z H2 lz zl g w => k _ _ H2 (ody_low lz (by omega)) (h1.gr.trans g) (w.mono (by omega))⟩⟩
      · refine ⟨_, rfl, name_step h1 (by omega) fun x H2 nx h2 => k _ _ H2 (ody_low (low_nm nx) ?_) h2.gr (h2.well.mono (by omega))⟩
        have xl := isNm_len nx
        rw [← cd_len] at xl
        omega
theorem ok_first_bad {f : Addr} {fd : FuncData} (F : Fun K "_law_first_bad" "_law_first_bad" s_first_bad f fd) (T : Blt mg) (h_lname : Fn P w K mg base "_law_is_name" 1 ["_law_word"] (Irr sp_lname)) : FnOk P w K mg base CX0 2 f fd ["_law_some"] (sp_fbad K) := by
  refine F.ok sc_first_bad (fun vs H Q E h => ?_) (fun cdv A outer s H vs Q E hr h => ?_)
  · obtain ⟨_, _, rfl, _⟩ := h
    rfl
  · obtain ⟨l, us, rfl, hl, ho, len, k⟩ := h
    refine ⟨_, (pss_one (ps_ret (pe_slice sl_list (pe_lc (own := [("_law_each", 1)]) (g := gName 1) rfl sc_first_bad.nd (pi_list (pv 0)) (blkOk_by (N := sc_first_bad_N) (sc := defScope s_first_bad) (by decide +kernel)) (fun _ _ _ _ _ => pg_name (i := 1) sc_first_bad.nd rfl (Or.inl rfl))
      (fun _ _ _ _ _ => pts_one (PW.pt (pw_or (pt_not (pt_val (pe_callB (call_isiK (K := K)) (by rfl) T.b_isinstance (by decide +kernel) (pa_cons (pv 1) (pa_cons (pe_bltn (v := .ty "str") (by rfl) T.b_str (by decide +kernel) rfl) pa_nil))))) (pw_or1 (pt_not (pt_val (pe_fn h_lname (hr.mono (by decide)) (pa_cons (pv 1) pa_nil)))))))) (fun _ _ _ _ _ => (pv 1))) po_none (po_some pe_int)))), ?_⟩
    refine ⟨_, rfl, l, rfl, ⟨_, hl⟩, fun D nD => lc_keepP (us := us) (fun u => !nmD u.2) walk_list nD (by omega) (fun H' s' => hl.ext s') (fun _ => rfl) (fun u hu H2 s2 R kR => ?_) (fun u hu H2 R r => ⟨_, rfl, r⟩) fun H2 s2 hD => ?_⟩
    · have o := (ho u hu).same s2
      refine ⟨_, rfl, _, _, _, .type "str", isS u.2, rfl, .ty _, o.o.ty, kit_odS K u.2, isS u.2, rfl, ?_⟩
      cases hs : isS u.2 with
      | false =>
        have e : nmD u.2 = false := by
          cases q : u.2 with
          | str y => rw [q] at hs; cases hs
          | _ => rfl
        refine iteT ?_
        have := kR H2 (Same.refl H2)
        rw [e] at this
        exact this
      | true =>
        obtain ⟨v, dv⟩ := u
        obtain ⟨y, rfl⟩ : ∃ y, dv = .str y := by
          cases dv with
          | str y => exact ⟨y, rfl⟩
          | _ => cases hs
        obtain rfl : v = .str y := by
          cases o.o with
          | dat o => cases o; rfl
        exact iteF ⟨_, rfl, irr ⟨y, rfl, o.l y rfl, fun H3 s3 => ⟨_, rfl, kR H3 s3⟩⟩⟩
    · refine ⟨_, rfl, D, _, rfl, SqL.of hD, fun p np => k _ p (s2.trans (same_new np)) ?_⟩
      rw [upd_same, show (some (1 : Int)) = some ((1 : Nat) : Int) from rfl, cutV_take, bad1_filter]
end
end RV
namespace RV
open PySem L2 TL LamX
theorem kbPs {f : Addr} {K : PySem.W.Frag} {fd : FuncData} (F : Fun K "__init__" "Pipe.__init__" s_Pipe___init__ f fd) : KBn K fd ["self", "name", "start", "end"] 1 ["start", "end", "name"] gCab gCab := by
  refine ⟨fun s us ws X h1 h2 => ?_, gCab_rel⟩
  obtain ⟨oc, od, kV, doc, pm, an, cdv, ct, osl, rfl, lk, hcd⟩ := F.ex
  match us, h1, ws, h2 with
  | [x], _, [st, e, n], _ => exact BindsTo.of_eq rfl
theorem kbMs {f : Addr} {K : PySem.W.Frag} {fd : FuncData} (F : FunD K "__init__" "Meter.__init__" (defArgs s_Meter___init__) (defBody s_Meter___init__) (defScope s_Meter___init__) [] [("sealed", V.bl false)] f fd) :
    KBn K fd ["self", "name", "at", "sealed"] 1 ["sealed", "at", "name"] gCba gCba := by
  refine ⟨fun s us ws X h1 h2 => ?_, gCba_rel⟩
  obtain ⟨oc, od, dV, kV, doc, pm, an, cdv, ct, osl, rfl, lk, hcd, hD, hK⟩ := F.ex
  rcases hD with ⟨_, rfl⟩ | ⟨e, _⟩
  · match us, h1, ws, h2 with
    | [x], _, [z, a, n], _ => exact BindsTo.of_eq rfl
  · exact absurd rfl e
/-- a law's own look: True, whatever is drawn; the tables grow -/
def sp_lright (T : List (Addr × Str)) (b m : Nat) : Sp := fun vs H Q _ => ∃ (a : Addr) (n : Nat), vs = [.ref a] ∧ WellAt H a n ∧ n < b ∧ Tabs T H ∧ ∀ H', ExtA a H H' → Tabs T H' → WellAt H' a (n + m) → Q (.bl true) H'
section
variable {P : Program} {w : World} {K : PySem.W.Frag} {mg : Str → Option Value} {base : Heap} {CP CM CI CE CF CB CV CA : Addr} {cs : List Addr} {nm vl : Nat → Bool} {fld : Nat → Str} {T : List (Addr × Str)}
theorem ok_pipe_right {f : Addr} {fd : FuncData} {c Pt : Addr} (F : FunC K "_law_pipe_right" "_law_pipe_right" s_pipe_right f fd c) (B : Blt mg) (TB : TabB base mg c Pt) (hmT : (Pt, ("_law_pipe_right" : Str) ++ ".<locals>." ++ "<lambda>") ∈ T) (hu : ∀ p ∈ T, p.1 = Pt → p.2 = ("_law_pipe_right" : Str) ++ ".<locals>." ++ "<lambda>")
    (M2 : ErrC K cs CB CV CA nm vl fld CI 2) (M3 : ErrC K cs CB CV CA nm vl fld CE 3)
    (h_dip : Fn P w K mg base "_law_dip" 1 ["_law_well_here", "_law_many"] (Irr sp_dip)) (h_value : Fn P w K mg base "_law_value" 4 ["_law_well_here"] (Irr (sp_value K))) (h_fbad : Fn P w K mg base "_law_first_bad" 2 ["_law_some"] (Irr (sp_fbad K)))
    (h_seen : FnGd P w K mg base "_law_seen" 3 ["_law_thing"] (Irr (sp_seen3 K CP CM)))
    (h_caught : Ctch P w K mg base 3 CV CB CA (sp_said K cs CB CV nm vl fld) (Irr (sp_seen3 K CP CM)))
    (h_Pipe : MkrX P w K mg base "Pipe" CP 4 (Irr (orS (sp_Pipe CP) (sp_PipeX K CP CI CE))) []) (h_PipeK : MkrKX P w K mg base "Pipe" CP 4 0 ["start", "end", "name"] (Irr (orS (sp_Pipe CP) (sp_PipeX K CP CI CE))) gCab) :
    FnG P w K mg base 9 f fd ["_law_well_here"] (sp_lright T 600000 100) := by
  refine gFunL F sc_pipe_right (fun vs H Q E h => ?_) (fun A outer s H vs Q E gs hr h => ?_)
  · obtain ⟨_, _, rfl, _⟩ := h
    rfl
  · obtain ⟨a, n, rfl, w0, hn, hT, k⟩ := h
    refine ⟨_, (pss_cons (ps_asg (pe_tup (pa_cons (pe_fn h_value (hr.mono (by decide)) (pa_cons (pv 0) pa_nil)) (pa_cons (pe_fn h_value (hr.mono (by decide)) (pa_cons (pv 0) pa_nil)) (pa_cons (pe_fn h_value (hr.mono (by decide)) (pa_cons (pv 0) pa_nil)) pa_nil)))) (pg_tup (by rfl) (pgs_cons (pg_name (i := 1) sc_pipe_right.nd rfl (Or.inr rfl)) (pgs_cons (pg_name (i := 2) sc_pipe_right.nd rfl (Or.inr rfl)) (pgs_cons (pg_name (i := 3) sc_pipe_right.nd rfl (Or.inr rfl)) pgs_nil)))))
      (pss_cons (ps_if (pt_cmpR op_eq (pe_fn h_dip (hr.mono (by decide)) (pa_cons (pv 0) (pa_cons pe_int pa_nil))) pe_int (nomark _)) (pss_one (ps_set (i := 3) sc_pipe_right.nd rfl (Or.inr rfl) (pv 2))) pss_nil)
      (pss_cons (ps_set (i := 4) sc_pipe_right.nd rfl (Or.inl rfl) (pe_fn h_fbad (hr.mono (by decide)) (pa_cons (pe_lst (pa_cons (pv 1) (pa_cons (pv 2) (pa_cons (pv 3) pa_nil)))) pa_nil)))
      (pss_cons (ps_set (i := 5) sc_pipe_right.nd rfl (Or.inl rfl) (pe_lst (pa_cons (pe_caught h_caught gs TB rfl hmT hu (k := 6) hr (by decide) (fun A outer s H E f c' hr' => pe_mkX h_Pipe (hr'.mono (by decide)) (passes_call (takes_of rfl rfl rfl rfl) fun _ _ _ _ z => z) (pa_cons (pv 1) (pa_cons (pv 2) (pa_cons (pv 3) pa_nil)))) (L := LamX.lamS_by (sc := defScope s_pipe_right) (by decide +kernel))) pa_nil)))
      (pss_cons (ps_expr (pe_bm PySem.F.plainAttrs_list PySem.F.slot_list_append PySem.F.type_list_append mt_append (pv 5) (pa_cons (pe_caught h_caught gs TB rfl hmT hu (k := 6) hr (by decide) (fun A outer s H E f c' hr' => pe_mkK0X h_PipeK (hr'.mono (by decide)) (passes_call (takes_of rfl rfl rfl rfl) fun _ _ _ _ z => z) (pk_cons (pv 2) (pk_cons (pv 3) (pk_cons (pv 1) pk_nil)))) (L := LamX.lamS_by (sc := defScope s_pipe_right) (by decide +kernel))) pa_nil)))
      (pss_cons (ps_if (pt_cmpR (op_ne0 (Nat.lt_of_le_of_lt (Nat.le_add_right _ 64) hr.units)) (pv 4) (pe_lst pa_nil) (nomark _)) (pss_one (ps_ret (pe_cmpR (op_eqD hr.units) (pv 5) (pe_op op_rep (pe_lst (pa_cons (pe_lst (pa_cons pe_int (pa_cons (pe_fnG h_seen gs (hr.mono (by decide)) (pa_cons (pe_ix ix_list (pv 4) pe_int (fun _ _ => rfl)) pa_nil)) pa_nil))) pa_nil)) pe_int) (nomark _)))) pss_nil)
      (pss_cons (ps_set (i := 6) sc_pipe_right.nd rfl (Or.inl rfl) (pe_ifExp (pt_cmpR op_eq (pv 2) (pv 3) (nomark _)) (pe_lst (pa_cons pe_int (pa_cons (pe_callB (call_reprOK K hr.units gs) (by rfl) B.b_repr (by decide +kernel) (pa_cons (pv 3) pa_nil)) pa_nil))) (pe_lst (pa_cons pe_str (pa_cons (pe_op op_add_str (pe_op op_add_str (pe_op op_add_str (pe_op op_add_str (pe_op op_add_str pe_str (pv 1)) pe_str) (pv 2)) pe_str) (pv 3)) pa_nil)))))
      (pss_one (ps_ret (pe_cmpR (op_eqD hr.units) (pv 5) (pe_lst (pa_cons (pv 6) (pa_cons (pv 6) pa_nil))) (nomark _))))))))))), ?_⟩
    have h0 := Has.start w0
    refine ⟨_, rfl, irr ⟨a, n, rfl, w0, by omega, fun v1 d1 H1 o1 g1 w1 => ⟨_, rfl, irr ⟨a, n + 30, rfl, w1, by omega, fun v2 d2 H2 o2 g2 w2 => ⟨_, rfl, irr ⟨a, n + 60, rfl, w2, by omega, fun v3 d3 H3 o3 g3 w3 => ?_⟩⟩⟩⟩⟩⟩
    refine ⟨(by show 3 ≤ sizeLine; decide), fun p np => ⟨p, _, rfl, SqT.of upd_same, rfl, ?_⟩⟩
    have h3 : Has H a (n + 30 + 30 + 30) [] H3 := ((h0.grow g1 w1).grow g2 w2).grow g3 w3
    refine ⟨_, _, rfl, ?_⟩
    have h4 := h3.same (same_new (o := .tup [v1, v2, v3]) np)
    refine ⟨_, _, rfl, _, _, rfl, rfl, ?_⟩
    have o14 := ((o1.grow g2).grow g3).grow (Same.growA (same_new (o := .tup [v1, v2, v3]) np))
    have o24 := (o2.grow g3).grow (Same.growA (same_new (o := .tup [v1, v2, v3]) np))
    have o34 := o3.grow (Same.growA (same_new (o := .tup [v1, v2, v3]) np))
    revert h4 o14 o24 o34
    generalize upd H3 p (.tup [v1, v2, v3]) = H4
    intro h4 o14 o24 o34
    dsimp only [gName, gCons, gNil]
    refine seq_of (fun σ' H' => ∃ (v3 : V) (d3 : PyData), σ' = [some (.ref a), some v1, some v2, some v3, none, none, none] ∧ Has H a (n + 91) [] H' ∧ Ody K (del H' a) v1 d1 ∧ Ody K (del H' a) v2 d2 ∧ Ody K (del H' a) v3 d3) ?rest (fun N hN => ?main)
    case main =>
      refine ⟨_, rfl, irr ⟨a, 4, n + 30 + 30 + 30, rfl, h4.well, by omega, by decide, by decide, fun r H5 r0 r1 g5 w5 => ⟨rfl, _, rfl, ?_⟩⟩⟩
      have h5 := h4.grow g5 w5
      refine ite2 (fun _ => ⟨_, rfl, hN _ _ ⟨v2, d2, rfl, h5, o14.grow g5, o24.grow g5, o24.grow g5⟩⟩) fun _ => hN _ _ ⟨v3, d3, rfl, h5, o14.grow g5, o24.grow g5, o34.grow g5⟩
    rintro σ5 H5 ⟨v3, d3, rfl, h5, p1, p2, p3⟩
    clear o14 o24 o34 o3 h4 h3
    refine ⟨_, rfl, _, rfl, _, rfl, (by show 3 ≤ sizeLine; decide), fun l nl => irr ⟨l, [(v1, d1), (v2, d2), (v3, d3)], rfl, SqL.of upd_same, ?_, (by show 3 ≤ 20; decide), fun H6 lb s6 eb => ?_⟩⟩
    · intro u hu
      have q : ∀ {v d}, Ody K (del H5 a) v d → Ody K (upd H5 l (.lst [v1, v2, v3])) v d := fun o => o.up.same (same_new nl)
      simp only [List.mem_cons, List.not_mem_nil, or_false] at hu
      rcases hu with rfl | rfl | rfl
      · exact q p1
      · exact q p2
      · exact q p3
    have s56 : Same H5 H6 := (same_new nl).trans s6
    have lba : lb ≠ a := by
      rintro rfl
      obtain ⟨x, y, z, ew, _⟩ := (h5.same s56).well
      rw [ew] at eb
      cases hb : bad1 [(v1, d1), (v2, d2), (v3, d3)] <;> rw [hb] at eb <;> simp at eb
    have h6 := ((h5.same s56).add lba eb).rebase
    have q1 := p1.grow (Same.growA s56)
    have q2 := p2.grow (Same.growA s56)
    have q3 := p3.grow (Same.growA s56)
    have T6 : Tabs T H6 := RV.Tabs.grow (RV.Tabs.grow hT w0 h5.gr) h5.well (Same.growA s56)
    have g06 : ExtA a H H6 := (ExtA.ofG h5.gr).trans (ExtA.ofG (Same.growA s56))
    dsimp only [gName]
    generalize hout : outP (v1, d1) (v2, d2) (v3, d3) = out
    refine ⟨T6, fun H7 e7 T7 fa => ⟨_, rfl, _, rfl, _, rfl, fun x dx nx nd ne => pipe_told (u1 := (v1, d1)) (u2 := (v2, d2)) (u3 := (v3, d3)) M2 M3 (q1.growN e7).up (q2.growN e7).up (q3.growN e7).up nx nd ne fun H8 l8 s8 e8 => ?_⟩⟩
    rw [hout] at e8
    refine ⟨(by show 1 ≤ sizeLine; decide), fun L nL => ?_⟩
    have h7 := h6.extN e7 (by intro p hp ps q; rw [List.mem_singleton.mp hp] at q; cases q)
    have h9 := (((h7.same s8).add ((h7.same s8).len3 e8 (by show 2 ≠ 3; decide)) e8).new nL (o := .lst [.ref l8])).rebase
    have g69 : Same H7 (upd H8 L (.lst [.ref l8])) := s8.trans (same_new nL)
    have s89 : Same H8 (upd H8 L (.lst [.ref l8])) := same_new nL
    have T9 : Tabs T (upd H8 L (.lst [.ref l8])) := RV.Tabs.grow T7 h7.well (Same.growA g69)
    have q19 := (q1.growN e7).grow (Same.growA g69)
    have q29 := (q2.growN e7).grow (Same.growA g69)
    have q39 := (q3.growN e7).grow (Same.growA g69)
    have g09 : ExtA a H (upd H8 L (.lst [.ref l8])) := (g06.trans (ExtA.ofN e7)).trans (ExtA.ofG (Same.growA g69))
    revert h9 T9 q19 q29 q39 g09 s89
    generalize upd H8 L (.lst [.ref l8]) = H9
    intro h9 s89 T9 q19 q29 q39 g09
    dsimp only [gName]
    refine ⟨_, rfl, .inl ⟨rfl, _, SqL.of (h9.at List.mem_cons_self)⟩, T9, fun H10 e10 T10 fb => ⟨_, rfl, _, rfl, _, rfl, rfl, rfl, fun x dx nx nd ne => pipe_told (u1 := (v1, d1)) (u2 := (v2, d2)) (u3 := (v3, d3)) M2 M3 (q19.growN e10).up (q29.growN e10).up (q39.growN e10).up nx nd ne fun H11 l11 s11 e11 => ?_⟩⟩
    rw [hout] at e11
    have h10 := h9.extN e10 (by
      intro p hp ps q
      simp only [List.mem_cons, List.not_mem_nil, or_false] at hp
      rcases hp with rfl | rfl | rfl <;> cases q)
    have h11 := (h10.same s11).add ((h10.same s11).len3 e11 (by show 2 ≠ 3; decide)) e11
    have T11 := Tabs.ext T10 s11
    have eL : H11 L = some (.lst [.ref l8]) := h11.at (List.mem_cons_of_mem _ List.mem_cons_self)
    refine ⟨L, _, _, rfl, rfl, eL, (by show 1 < sizeLine; decide), ?_⟩
    have mem : ∀ {q}, q ∈ [(l11, HO.lst [flV out.1, V.str out.2]), (L, HO.lst [V.ref l8]), (l8, HO.lst [flV out.1, V.str out.2]), (lb, HO.lst (match bad1 [(v1, d1), (v2, d2), (v3, d3)] with | none => [] | some u => [u.1]))] → H11 q.1 = some q.2 := fun hq => (h11.here _ hq).2
    have h12 := Has.chg (p := L) (o := .lst ([.ref l8] ++ [.ref l11])) ((h11.sub (L' := [(l11, HO.lst [flV out.1, V.str out.2]), (l8, HO.lst [flV out.1, V.str out.2])]) (by simp))) (h11.here _ (List.mem_cons_of_mem _ List.mem_cons_self)).1 (by
      intro q hq z
      simp only [List.mem_cons, List.not_mem_nil, or_false] at hq
      rcases hq with rfl | rfl
      · have e := e11
        rw [show l11 = L from z, eL] at e
        simp at e
      · have e := h11.at (p := l8) (o := .lst [flV out.1, V.str out.2]) (by simp)
        rw [show l8 = L from z, eL] at e
        simp at e)
    have T12 : Tabs T (upd H11 L (.lst ([.ref l8] ++ [.ref l11]))) := Tabs.put T11 eL
    have e812 : ExtN H8 (upd H11 L (.lst ([.ref l8] ++ [.ref l11]))) := fun b o e t => by
      rw [upd_ne (ne_of_none e nL)]
      exact s11 _ _ (e10 _ _ (s89 b o e) t)
    have g12 : ExtA a H (upd H11 L (.lst ([.ref l8] ++ [.ref l11]))) := ((g06.trans (ExtA.ofN e7)).trans (ExtA.ofG (Same.growA s8))).trans (ExtA.ofN e812)
    have eb12 := e812 _ _ (s8 _ _ (e7 _ _ (h6.at (p := lb) List.mem_cons_self) fun _ q => nomatch q)) fun _ q => nomatch q
    have r1 := ((q1.growN e7).grow (Same.growA s8)).growN e812
    have r2 := ((q2.growN e7).grow (Same.growA s8)).growN e812
    have r3 := ((q3.growN e7).grow (Same.growA s8)).growN e812
    clear T11 eL mem h11 h10 e11 s11 T10 e10 q19 q29 q39 g09 s89 h9 T9 e812
    revert h12 T12 g12 eb12 r1 r2 r3
    generalize upd H11 L (.lst ([.ref l8] ++ [.ref l11])) = HF
    intro h12 T12 g12 eb12 r1 r2 r3
    clear e8 nL s8 e7 T7 q1 q2 q3 T6 g06 h6 h7 h5 eb s56 s6 p1 p2 p3
    -- what is compared: the list of the two rows
    have okO : OkOut out := hout ▸ okOut_P r1.up r2.up r3.up
    have fin : ∀ (HX : Hp) (v : V), Same HF HX → Dp K HX v (.list [rowD out.1 out.2, rowD out.1 out.2]) → rEqD K (.ref L) v HX Q := fun HX v s dv => by
      refine ⟨_, _, .lst (SqL.of (s _ _ (h12.at List.mem_cons_self))) (.cons (okO.row (s _ _ (h12.at (p := l8) (by simp)))) (.cons (okO.row (s _ _ (h12.at (p := l11) (by simp)))) .nil)), dv, okO.shaped, okO.shaped, ?_⟩
      rw [SeqAt.eqv_refl _ (SeqAt.canLay_of_shaped okO.shaped)]
      exact k HX (g12.trans (ExtA.ofG (Same.growA s))) (Tabs.ext T12 s) ((h12.same s).well.mono (by omega))
    refine ⟨_, rfl, (by show 0 ≤ sizeLine; decide), fun l0 n0 => ⟨lb, l0, _, rfl, rfl, SqL.of (same_new n0 _ _ eb12), SqL.of upd_same, _, rfl, ?_⟩⟩
    have s0 : Same HF (upd HF l0 (.lst [])) := same_new n0
    generalize upd HF l0 (.lst []) = HG at s0 ⊢
    cases hb : bad1 [(v1, d1), (v2, d2), (v3, d3)] with
    | some u =>
      have eo : out = (.int 2, u.2.shown) := by rw [← hout]; unfold outP; rw [hb]
      rw [hb] at eb12
      have hm : u ∈ [(v1, d1), (v2, d2), (v3, d3)] := List.mem_of_find?_eq_some hb
      have ou : Ody K HG u.1 u.2 := by
        simp only [List.mem_cons, List.not_mem_nil, or_false] at hm
        rcases hm with rfl | rfl | rfl
        · exact r1.up.same s0
        · exact r2.up.same s0
        · exact r3.up.same s0
      refine iteT ⟨_, rfl, _, rfl, lb, _, 0, u.1, rfl, rfl, SqL.of (s0 _ _ eb12), rfl, irr (.inr (.inr ⟨u.1, u.2, rfl, ou, (by show 2 ≤ sizeLine; decide), fun m nm => ⟨(by show 1 ≤ sizeLine; decide), fun r nr => ?_⟩⟩))⟩
      have em : upd (upd HG m (.lst [.int 2, .str u.2.shown])) r (.lst [.ref m]) m = some (.lst [.int 2, .str u.2.shown]) := by rw [upd_ne (fun z => by rw [z, upd_same] at nr; cases nr), upd_same]
      have s2 : Same HF (upd (upd HG m (.lst [.int 2, .str u.2.shown])) r (.lst [.ref m])) := s0.trans ((same_new nm).trans (same_new nr))
      refine ⟨r, 2, [.ref m], rfl, rfl, upd_same, by decide, by decide, (by show 1 * 2 ≤ sizeLine; decide), fun t nt => fin _ _ (s2.trans (same_new nt)) (.lst (SqL.of upd_same) ?_)⟩
      have rw2 : Dp K (upd (upd (upd HG m (.lst [.int 2, .str u.2.shown])) r (.lst [.ref m])) t (.lst (List.replicate (2 : Int).toNat [V.ref m]).flatten)) (.ref m) (rowD out.1 out.2) := okO.row (by rw [eo]; exact same_new nt _ _ em)
      exact .cons rw2 (.cons rw2 .nil)
    | none =>
      have all := List.find?_eq_none.mp hb
      obtain ⟨x1, z1, z1', y1⟩ := nmD_str r1.o (by simpa using all (v1, d1) (by simp))
      obtain ⟨x2, z2, z2', y2⟩ := nmD_str r2.o (by simpa using all (v2, d2) (by simp))
      obtain ⟨x3, z3, z3', y3⟩ := nmD_str r3.o (by simpa using all (v3, d3) (by simp))
      subst z1 z1' z2 z2' z3 z3'
      refine iteF ?_
      have eo : out = if x3 = x2 then (.int 3, (PyData.str x3).shown) else (.str "told", seenP (x1, x2, x3)) := by rw [← hout]; unfold outP; rw [hb]
      have done : ∀ (HX : Hp) (m : Addr), Same HF HX → HX m = some (.lst [flV out.1, .str out.2]) → tRet (tOp (rEqD K) (tVar 5) (tLst (tCons (tVar 6) (tCons (tVar 6) tNil)))) { nx := fun _ H' => Q .non H', rt := Q } [some (.ref a), some (.str x1), some (.str x2), some (.str x3), some (.ref lb), some (.ref L), some (.ref m)] HX := by
        intro HX m s em
        refine ⟨_, rfl, _, rfl, _, rfl, (by show 2 ≤ sizeLine; decide), fun t nt => fin _ _ (s.trans (same_new nt)) (.lst (SqL.of upd_same) ?_)⟩
        have rw2 := okO.row (K := K) (same_new (o := .lst [.ref m, .ref m]) nt _ _ em)
        exact .cons rw2 (.cons rw2 .nil)
      refine ⟨_, rfl, _, rfl, rfl, _, rfl, ?_⟩
      refine ite2 (fun q => ?_) fun q => ?_
      · have q' : x3 = x2 := (V.str.inj (of_decide_eq_true q)).symm
        rw [if_pos q'] at eo
        refine ⟨_, rfl, reprO_of (r3.up.same s0).o r3.f ⟨(by show 2 ≤ sizeLine; decide), fun m nm => done _ m (s0.trans (same_new nm)) ?_⟩⟩
        rw [eo]
        exact upd_same
      · have q' : ¬ x3 = x2 := fun z => q (decide_eq_true (by rw [z]))
        rw [if_neg q'] at eo
        have l1 := isNm_len y1
        have l2 := isNm_len y2
        have l3 := isNm_len y3
        rw [← cd_len] at l1 l2 l3
        have c1 : ("pipe " : Str).length = 5 := by decide +kernel
        have c2 : (" " : Str).length = 1 := by decide +kernel
        refine ⟨_, rfl, _, _, rfl, rfl, szn (by simp only [sl_app, c1, c2]; omega), _, _, rfl, rfl, szn (by simp only [sl_app, c1, c2]; omega), _, rfl, _, _, rfl, rfl, szn (by simp only [sl_app, c1, c2]; omega), _, _, rfl, rfl, szn (by simp only [sl_app, c1, c2]; omega),
          _, rfl, _, _, rfl, rfl, szn (by simp only [sl_app, c1, c2]; omega), (by show 2 ≤ sizeLine; decide), fun m nm => done _ m (s0.trans (same_new nm)) ?_⟩
        rw [eo]
        exact upd_same
end
end RV
namespace RV
open PySem L2 TL LamX
section
variable {P : Program} {w : World} {K : PySem.W.Frag} {mg : Str → Option Value} {base : Heap} {CP CM CI CE CF CB CV CA : Addr} {cs : List Addr} {nm vl : Nat → Bool} {fld : Nat → Str} {T : List (Addr × Str)}
theorem ok_meter_right {f : Addr} {fd : FuncData} {c Pt : Addr} (F : FunC K "_law_meter_right" "_law_meter_right" s_meter_right f fd c) (B : Blt mg) (b_bool : mg "bool" = none) (TB : TabB base mg c Pt) (hmT : (Pt, ("_law_meter_right" : Str) ++ ".<locals>." ++ "<lambda>") ∈ T) (hu : ∀ p ∈ T, p.1 = Pt → p.2 = ("_law_meter_right" : Str) ++ ".<locals>." ++ "<lambda>")
    (M2 : ErrC K cs CB CV CA nm vl fld CI 2) (M4 : ErrC K cs CB CV CA nm vl fld CF 4)
    (h_dip : Fn P w K mg base "_law_dip" 1 ["_law_well_here", "_law_many"] (Irr sp_dip)) (h_odd : Fn P w K mg base "_law_odd" 2 ["_law_well_here"] (Irr (sp_odd K))) (h_value : Fn P w K mg base "_law_value" 4 ["_law_well_here"] (Irr (sp_value K))) (h_fbad : Fn P w K mg base "_law_first_bad" 2 ["_law_some"] (Irr (sp_fbad K)))
    (h_seen : FnGd P w K mg base "_law_seen" 3 ["_law_thing"] (Irr (sp_seen3 K CP CM)))
    (h_caught : Ctch P w K mg base 3 CV CB CA (sp_said K cs CB CV nm vl fld) (Irr (sp_seen3 K CP CM)))
    (h_Meter : MkrKX P w K mg base "Meter" CM 4 2 ["sealed"] (Irr (orS (sp_Meter CM) (sp_MeterX K CM CI CF))) gM2) (h_MeterK : MkrKX P w K mg base "Meter" CM 4 0 ["sealed", "at", "name"] (Irr (orS (sp_Meter CM) (sp_MeterX K CM CI CF))) gCba) :
    FnG P w K mg base 9 f fd ["_law_well_here"] (sp_lright T 600000 100) := by
  refine gFunL F sc_meter_right (fun vs H Q E h => ?_) (fun A outer s H vs Q E gs hr h => ?_)
  · obtain ⟨_, _, rfl, _⟩ := h
    rfl
  · obtain ⟨a, n, rfl, w0, hn, hT, k⟩ := h
    refine ⟨_, (pss_cons (ps_asg (pe_tup (pa_cons (pe_fn h_value (hr.mono (by decide)) (pa_cons (pv 0) pa_nil)) (pa_cons (pe_fn h_value (hr.mono (by decide)) (pa_cons (pv 0) pa_nil)) (pa_cons (pe_fn h_dip (hr.mono (by decide)) (pa_cons (pv 0) (pa_cons pe_int pa_nil))) pa_nil)))) (pg_tup (by rfl) (pgs_cons (pg_name (i := 1) sc_meter_right.nd rfl (Or.inr rfl)) (pgs_cons (pg_name (i := 2) sc_meter_right.nd rfl (Or.inr rfl)) (pgs_cons (pg_name (i := 3) sc_meter_right.nd rfl (Or.inl rfl)) pgs_nil)))))
      (pss_cons (ps_set (i := 4) sc_meter_right.nd rfl (Or.inr rfl) (pe_ifExp (pt_cmpR op_eq (pv 3) pe_int (nomark _)) (pe_fn h_odd (hr.mono (by decide)) (pa_cons (pv 0) pa_nil)) (pe_ix ix_list (pe_lst (pa_cons pe_bl (pa_cons pe_bl pa_nil))) (pe_fn h_dip (hr.mono (by decide)) (pa_cons (pv 0) (pa_cons pe_int pa_nil))) (fun _ _ => rfl))))
      (pss_cons (ps_set (i := 5) sc_meter_right.nd rfl (Or.inl rfl) (pe_fn h_fbad (hr.mono (by decide)) (pa_cons (pe_lst (pa_cons (pv 1) (pa_cons (pv 2) pa_nil))) pa_nil)))
      (pss_cons (ps_set (i := 6) sc_meter_right.nd rfl (Or.inl rfl) (pe_lst (pa_cons (pe_caught h_caught gs TB rfl hmT hu (k := 6) hr (by decide) (fun A outer s H E f c' hr' => pe_mkKX h_Meter (hr'.mono (by decide)) (passes_call (takes_of rfl rfl rfl rfl) fun _ _ _ _ z => z) (pa_cons (pv 1) (pa_cons (pv 2) pa_nil)) (pk_cons (pv 4) pk_nil)) (L := LamX.lamS_by (sc := defScope s_meter_right) (by decide +kernel))) pa_nil)))
      (pss_cons (ps_expr (pe_bm PySem.F.plainAttrs_list PySem.F.slot_list_append PySem.F.type_list_append mt_append (pv 6) (pa_cons (pe_caught h_caught gs TB rfl hmT hu (k := 6) hr (by decide) (fun A outer s H E f c' hr' => pe_mkK0X h_MeterK (hr'.mono (by decide)) (passes_call (takes_of rfl rfl rfl rfl) fun _ _ _ _ z => z) (pk_cons (pv 4) (pk_cons (pv 2) (pk_cons (pv 1) pk_nil)))) (L := LamX.lamS_by (sc := defScope s_meter_right) (by decide +kernel))) pa_nil)))
      (pss_cons (ps_if (pt_cmpR (op_ne0 (Nat.lt_of_le_of_lt (Nat.le_add_right _ 64) hr.units)) (pv 5) (pe_lst pa_nil) (nomark _)) (pss_one (ps_ret (pe_cmpR (op_eqD hr.units) (pv 6) (pe_op op_rep (pe_lst (pa_cons (pe_lst (pa_cons pe_int (pa_cons (pe_fnG h_seen gs (hr.mono (by decide)) (pa_cons (pe_ix ix_list (pv 5) pe_int (fun _ _ => rfl)) pa_nil)) pa_nil))) pa_nil)) pe_int) (nomark _)))) pss_nil)
      (pss_cons (ps_set (i := 7) sc_meter_right.nd rfl (Or.inl rfl) (pe_ifExp (pt_val (pe_callB call_isi (by rfl) B.b_isinstance (by decide +kernel) (pa_cons (pv 4) (pa_cons (pe_bltn (v := .ty "bool") (by rfl) b_bool (by decide +kernel) rfl) pa_nil)))) (pe_lst (pa_cons pe_str (pa_cons (pe_op op_add_str (pe_op op_add_str (pe_op op_add_str (pe_op op_add_str (pe_op op_add_str pe_str (pv 1)) pe_str) (pv 2)) pe_str) (pe_callTy call_str_bl (by rfl) B.b_str (by decide +kernel) (pa_cons (pv 4) pa_nil))) pa_nil))) (pe_lst (pa_cons pe_int (pa_cons (pe_callB (call_reprOK K hr.units gs) (by rfl) B.b_repr (by decide +kernel) (pa_cons (pv 4) pa_nil)) pa_nil)))))
      (pss_one (ps_ret (pe_cmpR (op_eqD hr.units) (pv 6) (pe_lst (pa_cons (pv 7) (pa_cons (pv 7) pa_nil))) (nomark _))))))))))), ?_⟩
    have h0 := Has.start w0
    refine ⟨_, rfl, irr ⟨a, n, rfl, w0, by omega, fun v1 d1 H1 o1 g1 w1 => ⟨_, rfl, irr ⟨a, n + 30, rfl, w1, by omega, fun v2 d2 H2 o2 g2 w2 => ⟨_, rfl, irr ⟨a, 3, n + 60, rfl, w2, by omega, by decide, by decide, fun r H3 r0 r1 g3 w3 => ?_⟩⟩⟩⟩⟩⟩
    refine ⟨(by show 3 ≤ sizeLine; decide), fun p np => ⟨p, _, rfl, SqT.of upd_same, rfl, ?_⟩⟩
    have h3 : Has H a (n + 30 + 30 + 1) [] H3 := ((h0.grow g1 w1).grow g2 w2).grow g3 w3
    refine ⟨_, _, rfl, ?_⟩
    have h4 := h3.same (same_new (o := .tup [v1, v2, .int r]) np)
    refine ⟨_, _, rfl, _, _, rfl, rfl, ?_⟩
    have o14 := ((o1.grow g2).grow g3).grow (Same.growA (same_new (o := .tup [v1, v2, .int r]) np))
    have o24 := (o2.grow g3).grow (Same.growA (same_new (o := .tup [v1, v2, .int r]) np))
    revert h4 o14 o24
    generalize upd H3 p (.tup [v1, v2, .int r]) = H4
    intro h4 o14 o24
    dsimp only [gName, gCons, gNil]
    refine seq_of (fun σ' H' => ∃ (v3 : V) (d3 : PyData), σ' = [some (.ref a), some v1, some v2, some (.int r), some v3, none, none, none] ∧ Has H a (n + 91) [] H' ∧ Ody K (del H' a) v1 d1 ∧ Ody K (del H' a) v2 d2 ∧ Ody K (del H' a) v3 d3) ?rest (fun N hN => ?main)
    case main =>
      refine ⟨_, rfl, rfl, _, rfl, ?_⟩
      refine ite2 (fun _ => ?_) fun _ => ?_
      · exact ⟨_, rfl, irr ⟨a, n + 30 + 30 + 1, rfl, h4.well, by omega, fun v3 d3 H5 o3 g5 w5 => hN _ _ ⟨v3, d3, rfl, h4.grow g5 (w5.mono (by omega)), o14.grow g5, o24.grow g5, o3⟩⟩⟩
      · refine ⟨(by show 2 ≤ sizeLine; decide), fun tf ntf => ?_⟩
        have h4' := h4.new ntf (o := .lst [.bl true, .bl false])
        have s4 := same_new (o := .lst [.bl true, .bl false]) ntf
        refine ⟨_, rfl, irr ⟨a, 2, n + 30 + 30 + 1, rfl, h4'.well, by omega, by decide, by decide, fun q H5 q0 q1 g5 w5 => ?_⟩⟩
        have h5 := h4'.grow g5 w5
        obtain ⟨b, eb⟩ : ∃ b, atI [V.bl true, V.bl false] q = some (.bl b) := by
          have : q = 0 ∨ q = 1 := by omega
          rcases this with rfl | rfl
          · exact ⟨true, rfl⟩
          · exact ⟨false, rfl⟩
        exact ⟨tf, _, q, .bl b, rfl, rfl, SqL.of (h5.at List.mem_cons_self), eb, hN _ _ ⟨.bl b, .bool b, rfl, (h5.sub (by simp)).grow (Grow.refl _ _) (h5.well.mono (by omega)), (o14.grow (Same.growA s4)).grow g5, (o24.grow (Same.growA s4)).grow g5, ody_by (.dat (.bl b)) (by cases b <;> decide +kernel)⟩⟩
    rintro σ5 H5 ⟨v3, d3, rfl, h5, p1, p2, p3⟩
    clear o14 o24 h4 h3
    refine ⟨_, rfl, _, rfl, (by show 2 ≤ sizeLine; decide), fun l nl => irr ⟨l, [(v1, d1), (v2, d2)], rfl, SqL.of upd_same, ?_, (by show 2 ≤ 20; decide), fun H6 lb s6 eb => ?_⟩⟩
    · intro u hu
      have q : ∀ {v d}, Ody K (del H5 a) v d → Ody K (upd H5 l (.lst [v1, v2])) v d := fun o => o.up.same (same_new nl)
      simp only [List.mem_cons, List.not_mem_nil, or_false] at hu
      rcases hu with rfl | rfl
      · exact q p1
      · exact q p2
    have s56 : Same H5 H6 := (same_new nl).trans s6
    have lba : lb ≠ a := by
      rintro rfl
      obtain ⟨x, y, z, ew, _⟩ := (h5.same s56).well
      rw [ew] at eb
      cases hb : bad1 [(v1, d1), (v2, d2)] <;> rw [hb] at eb <;> simp at eb
    have h6 := ((h5.same s56).add lba eb).rebase
    have q1 := p1.grow (Same.growA s56)
    have q2 := p2.grow (Same.growA s56)
    have q3 := p3.grow (Same.growA s56)
    have T6 : Tabs T H6 := RV.Tabs.grow (RV.Tabs.grow hT w0 h5.gr) h5.well (Same.growA s56)
    have g06 : ExtA a H H6 := (ExtA.ofG h5.gr).trans (ExtA.ofG (Same.growA s56))
    dsimp only [gName]
    generalize hout : outM (v1, d1) (v2, d2) (v3, d3) = out
    refine ⟨T6, fun H7 e7 T7 fa => ⟨_, rfl, _, rfl, _, rfl, rfl, rfl, fun x dx nx nd ne => meter_told (u1 := (v1, d1)) (u2 := (v2, d2)) (u3 := (v3, d3)) M2 M4 (q1.growN e7).up (q2.growN e7).up (q3.growN e7).up nx nd ne fun H8 l8 s8 e8 => ?_⟩⟩
    rw [hout] at e8
    refine ⟨(by show 1 ≤ sizeLine; decide), fun L nL => ?_⟩
    have h7 := h6.extN e7 (by intro p hp ps q; rw [List.mem_singleton.mp hp] at q; cases q)
    have h9 := (((h7.same s8).add ((h7.same s8).len3 e8 (by show 2 ≠ 3; decide)) e8).new nL (o := .lst [.ref l8])).rebase
    have g69 : Same H7 (upd H8 L (.lst [.ref l8])) := s8.trans (same_new nL)
    have s89 : Same H8 (upd H8 L (.lst [.ref l8])) := same_new nL
    have T9 : Tabs T (upd H8 L (.lst [.ref l8])) := RV.Tabs.grow T7 h7.well (Same.growA g69)
    have q19 := (q1.growN e7).grow (Same.growA g69)
    have q29 := (q2.growN e7).grow (Same.growA g69)
    have q39 := (q3.growN e7).grow (Same.growA g69)
    have g09 : ExtA a H (upd H8 L (.lst [.ref l8])) := (g06.trans (ExtA.ofN e7)).trans (ExtA.ofG (Same.growA g69))
    revert h9 T9 q19 q29 q39 g09 s89
    generalize upd H8 L (.lst [.ref l8]) = H9
    intro h9 s89 T9 q19 q29 q39 g09
    dsimp only [gName]
    refine ⟨_, rfl, .inl ⟨rfl, _, SqL.of (h9.at List.mem_cons_self)⟩, T9, fun H10 e10 T10 fb => ⟨_, rfl, _, rfl, _, rfl, rfl, rfl, fun x dx nx nd ne => meter_told (u1 := (v1, d1)) (u2 := (v2, d2)) (u3 := (v3, d3)) M2 M4 (q19.growN e10).up (q29.growN e10).up (q39.growN e10).up nx nd ne fun H11 l11 s11 e11 => ?_⟩⟩
    rw [hout] at e11
    have h10 := h9.extN e10 (by
      intro p hp ps q
      simp only [List.mem_cons, List.not_mem_nil, or_false] at hp
      rcases hp with rfl | rfl | rfl <;> cases q)
    have h11 := (h10.same s11).add ((h10.same s11).len3 e11 (by show 2 ≠ 3; decide)) e11
    have T11 := Tabs.ext T10 s11
    have eL : H11 L = some (.lst [.ref l8]) := h11.at (List.mem_cons_of_mem _ List.mem_cons_self)
    refine ⟨L, _, _, rfl, rfl, eL, (by show 1 < sizeLine; decide), ?_⟩
    have mem : ∀ {q}, q ∈ [(l11, HO.lst [flV out.1, V.str out.2]), (L, HO.lst [V.ref l8]), (l8, HO.lst [flV out.1, V.str out.2]), (lb, HO.lst (match bad1 [(v1, d1), (v2, d2)] with | none => [] | some u => [u.1]))] → H11 q.1 = some q.2 := fun hq => (h11.here _ hq).2
    have h12 := Has.chg (p := L) (o := .lst ([.ref l8] ++ [.ref l11])) ((h11.sub (L' := [(l11, HO.lst [flV out.1, V.str out.2]), (l8, HO.lst [flV out.1, V.str out.2])]) (by simp))) (h11.here _ (List.mem_cons_of_mem _ List.mem_cons_self)).1 (by
      intro q hq z
      simp only [List.mem_cons, List.not_mem_nil, or_false] at hq
      rcases hq with rfl | rfl
      · have e := e11
        rw [show l11 = L from z, eL] at e
        simp at e
      · have e := h11.at (p := l8) (o := .lst [flV out.1, V.str out.2]) (by simp)
        rw [show l8 = L from z, eL] at e
        simp at e)
    have T12 : Tabs T (upd H11 L (.lst ([.ref l8] ++ [.ref l11]))) := Tabs.put T11 eL
    have e812 : ExtN H8 (upd H11 L (.lst ([.ref l8] ++ [.ref l11]))) := fun b o e t => by
      rw [upd_ne (ne_of_none e nL)]
      exact s11 _ _ (e10 _ _ (s89 b o e) t)
    have g12 : ExtA a H (upd H11 L (.lst ([.ref l8] ++ [.ref l11]))) := ((g06.trans (ExtA.ofN e7)).trans (ExtA.ofG (Same.growA s8))).trans (ExtA.ofN e812)
    have eb12 := e812 _ _ (s8 _ _ (e7 _ _ (h6.at (p := lb) List.mem_cons_self) fun _ q => nomatch q)) fun _ q => nomatch q
    have r1 := ((q1.growN e7).grow (Same.growA s8)).growN e812
    have r2 := ((q2.growN e7).grow (Same.growA s8)).growN e812
    have r3 := ((q3.growN e7).grow (Same.growA s8)).growN e812
    clear T11 eL mem h11 h10 e11 s11 T10 e10 q19 q29 q39 g09 s89 h9 T9 e812
    revert h12 T12 g12 eb12 r1 r2 r3
    generalize upd H11 L (.lst ([.ref l8] ++ [.ref l11])) = HF
    intro h12 T12 g12 eb12 r1 r2 r3
    clear e8 nL s8 e7 T7 q1 q2 q3 T6 g06 h6 h7 h5 eb s56 s6 p1 p2 p3
    -- what is compared: the list of the two rows
    have okO : OkOut out := hout ▸ okOut_M r1.up r2.up r3.up
    have fin : ∀ (HX : Hp) (v : V), Same HF HX → Dp K HX v (.list [rowD out.1 out.2, rowD out.1 out.2]) → rEqD K (.ref L) v HX Q := fun HX v s dv => by
      refine ⟨_, _, .lst (SqL.of (s _ _ (h12.at List.mem_cons_self))) (.cons (okO.row (s _ _ (h12.at (p := l8) (by simp)))) (.cons (okO.row (s _ _ (h12.at (p := l11) (by simp)))) .nil)), dv, okO.shaped, okO.shaped, ?_⟩
      rw [SeqAt.eqv_refl _ (SeqAt.canLay_of_shaped okO.shaped)]
      exact k HX (g12.trans (ExtA.ofG (Same.growA s))) (Tabs.ext T12 s) ((h12.same s).well.mono (by omega))
    refine ⟨_, rfl, (by show 0 ≤ sizeLine; decide), fun l0 n0 => ⟨lb, l0, _, rfl, rfl, SqL.of (same_new n0 _ _ eb12), SqL.of upd_same, _, rfl, ?_⟩⟩
    have s0 : Same HF (upd HF l0 (.lst [])) := same_new n0
    generalize upd HF l0 (.lst []) = HG at s0 ⊢
    cases hb : bad1 [(v1, d1), (v2, d2)] with
    | some u =>
      have eo : out = (.int 2, u.2.shown) := by rw [← hout]; unfold outM; rw [hb]
      rw [hb] at eb12
      have hm : u ∈ [(v1, d1), (v2, d2)] := List.mem_of_find?_eq_some hb
      have ou : Ody K HG u.1 u.2 := by
        simp only [List.mem_cons, List.not_mem_nil, or_false] at hm
        rcases hm with rfl | rfl
        · exact r1.up.same s0
        · exact r2.up.same s0
      refine iteT ⟨_, rfl, _, rfl, lb, _, 0, u.1, rfl, rfl, SqL.of (s0 _ _ eb12), rfl, irr (.inr (.inr ⟨u.1, u.2, rfl, ou, (by show 2 ≤ sizeLine; decide), fun m nm => ⟨(by show 1 ≤ sizeLine; decide), fun r nr => ?_⟩⟩))⟩
      have em : upd (upd HG m (.lst [.int 2, .str u.2.shown])) r (.lst [.ref m]) m = some (.lst [.int 2, .str u.2.shown]) := by rw [upd_ne (fun z => by rw [z, upd_same] at nr; cases nr), upd_same]
      have s2 : Same HF (upd (upd HG m (.lst [.int 2, .str u.2.shown])) r (.lst [.ref m])) := s0.trans ((same_new nm).trans (same_new nr))
      refine ⟨r, 2, [.ref m], rfl, rfl, upd_same, by decide, by decide, (by show 1 * 2 ≤ sizeLine; decide), fun t nt => fin _ _ (s2.trans (same_new nt)) (.lst (SqL.of upd_same) ?_)⟩
      have rw2 : Dp K (upd (upd (upd HG m (.lst [.int 2, .str u.2.shown])) r (.lst [.ref m])) t (.lst (List.replicate (2 : Int).toNat [V.ref m]).flatten)) (.ref m) (rowD out.1 out.2) := okO.row (by rw [eo]; exact same_new nt _ _ em)
      exact .cons rw2 (.cons rw2 .nil)
    | none =>
      have all := List.find?_eq_none.mp hb
      obtain ⟨x1, z1, z1', y1⟩ := nmD_str r1.o (by simpa using all (v1, d1) (by simp))
      obtain ⟨x2, z2, z2', y2⟩ := nmD_str r2.o (by simpa using all (v2, d2) (by simp))
      subst z1 z1' z2 z2'
      refine iteF ?_
      have done : ∀ (HX : Hp) (m : Addr), Same HF HX → HX m = some (.lst [flV out.1, .str out.2]) → tRet (tOp (rEqD K) (tVar 6) (tLst (tCons (tVar 7) (tCons (tVar 7) tNil)))) { nx := fun _ H' => Q .non H', rt := Q } [some (.ref a), some (.str x1), some (.str x2), some (.int r), some v3, some (.ref lb), some (.ref L), some (.ref m)] HX := by
        intro HX m s em
        refine ⟨_, rfl, _, rfl, _, rfl, (by show 2 ≤ sizeLine; decide), fun t nt => fin _ _ (s.trans (same_new nt)) (.lst (SqL.of upd_same) ?_)⟩
        have rw2 := okO.row (K := K) (same_new (o := .lst [.ref m, .ref m]) nt _ _ em)
        exact .cons rw2 (.cons rw2 .nil)
      have l1 := isNm_len y1
      have l2 := isNm_len y2
      rw [← cd_len] at l1 l2
      refine ⟨_, rfl, _, _, _, .type "bool", isB d3, rfl, .ty _, (r3.up.same s0).o.ty, kit_odB K d3, isB d3, rfl, ?_⟩
      cases hz : isB d3 with
      | true =>
        obtain ⟨z, rfl⟩ : ∃ z, d3 = .bool z := by
          cases d3 with
          | bool z => exact ⟨z, rfl⟩
          | _ => cases hz
        obtain rfl : v3 = .bl z := (odd_bl r3.o).1 z rfl
        have eo : out = (.str "told", seenM (x1, x2, z)) := by rw [← hout]; unfold outM; rw [hb]
        have c1 : ("meter " : Str).length = 6 := by decide +kernel
        have c2 : (" " : Str).length = 1 := by decide +kernel
        have c3 : (if z = true then ("True" : Str) else "False").length ≤ 5 := by cases z <;> decide +kernel
        refine iteT ⟨_, rfl, _, _, rfl, rfl, szn (by simp only [sl_app, c1, c2]; omega), _, _, rfl, rfl, szn (by simp only [sl_app, c1, c2]; omega), _, rfl, _, _, rfl, rfl, szn (by simp only [sl_app, c1, c2]; omega), _, _, rfl, rfl, szn (by simp only [sl_app, c1, c2]; omega),
          _, rfl, z, rfl, _, _, rfl, rfl, szn (by simp only [sl_app, c1, c2]; omega), (by show 2 ≤ sizeLine; decide), fun m nm => done _ m (s0.trans (same_new nm)) ?_⟩
        rw [eo]
        exact upd_same
      | false =>
        have eo : out = (.int 4, d3.shown) := hout ▸ outM_no hb rfl rfl hz
        refine iteF ⟨_, rfl, reprO_of (r3.up.same s0).o r3.f ⟨(by show 2 ≤ sizeLine; decide), fun m nm => done _ m (s0.trans (same_new nm)) ?_⟩⟩
        rw [eo]
        exact upd_same
end
end RV
namespace RV
open PySem L2 TL LamX
section
variable {P : Program} {w : World} {K : PySem.W.Frag} {mg : Str → Option Value} {base : Heap} {CP CM CI CE CF CB CV CA : Addr} {cs : List Addr} {nm vl : Nat → Bool} {fld : Nat → Str}
theorem ok_law {f : Addr} {fd : FuncData} {c1 c2 c3 P1 P2 P3 : Addr} (F : FunC K "law" "law" s_law f fd c3) (B : Blt mg) (d12 : P1 ≠ P2) (d13 : P1 ≠ P3) (d23 : P2 ≠ P3) (TB : TabB base mg c3 P3)
    (M2 : ErrC K cs CB CV CA nm vl fld CI 2) (M4 : ErrC K cs CB CV CA nm vl fld CF 4)
    (h_well : Fn P w K mg base "_law_well" 1 ["_law_cells", "_law_k"] (sp_well K))
    (h_caught : Ctch P w K mg base 3 CV CB CA (sp_said K cs CB CV nm vl fld) (Irr (sp_seen3 K CP CM)))
    (h_Meter : MkrKX P w K mg base "Meter" CM 4 2 ["sealed"] (Irr (orS (sp_Meter CM) (sp_MeterX K CM CI CF))) gM2)
    (h_pipe : ∀ T, T = [(P1, ("_law_pipe_right" : Str) ++ ".<locals>." ++ "<lambda>"), (P2, ("_law_meter_right" : Str) ++ ".<locals>." ++ "<lambda>"), (P3, ("law" : Str) ++ ".<locals>." ++ "<lambda>")] → FnGd P w K mg base "_law_pipe_right" 9 ["_law_well_here"] (Irr (sp_lright T 600000 100)))
    (h_meter : ∀ T, T = [(P1, ("_law_pipe_right" : Str) ++ ".<locals>." ++ "<lambda>"), (P2, ("_law_meter_right" : Str) ++ ".<locals>." ++ "<lambda>"), (P3, ("law" : Str) ++ ".<locals>." ++ "<lambda>")] → FnGd P w K mg base "_law_meter_right" 9 ["_law_well_here"] (Irr (sp_lright T 600000 100))) :
    FnG P w K mg base 10 f fd ["_law_cells"] (spLawT K [(c1, P1), (c2, P2), (c3, P3)]) := by
  obtain ⟨T, hT⟩ : ∃ T, T = [(P1, ("_law_pipe_right" : Str) ++ ".<locals>." ++ "<lambda>"), (P2, ("_law_meter_right" : Str) ++ ".<locals>." ++ "<lambda>"), (P3, ("law" : Str) ++ ".<locals>." ++ "<lambda>")] := ⟨_, rfl⟩
  have h_pipe := h_pipe T hT
  have h_meter := h_meter T hT
  have hmT : (P3, ("law" : Str) ++ ".<locals>." ++ "<lambda>") ∈ T := by rw [hT]; simp
  have hu : ∀ p ∈ T, p.1 = P3 → p.2 = ("law" : Str) ++ ".<locals>." ++ "<lambda>" := by
    intro p hp e
    rw [hT] at hp
    simp only [List.mem_cons, List.not_mem_nil, or_false] at hp
    rcases hp with rfl | rfl | rfl
    · exact absurd e d13
    · exact absurd e d23
    · rfl
  refine gFunL F sc_law (fun vs H Q E h => ?_) (fun A outer s H vs Q E gs hr h => ?_)
  · obtain ⟨_, _, rfl, _⟩ := h
    rfl
  · obtain ⟨c, ns, rfl, hS, hl, ht, k⟩ := h
    refine ⟨_, (pss_cons (ps_if (pt_cmpR (op_neD hr.units) (pe_caught h_caught gs TB rfl hmT hu (k := 7) hr (by decide) (fun A outer s H E f c' hr' => pe_mkKX h_Meter (hr'.mono (by decide)) (passes_call (takes_of rfl rfl rfl rfl) fun _ _ _ _ z => z) (pa_cons pe_str (pa_cons pe_str pa_nil)) (pk_cons pe_int pk_nil)) (L := LamX.lamS_by (sc := defScope s_law) (by decide +kernel))) (pe_lst (pa_cons pe_int (pa_cons pe_str pa_nil))) (nomark _)) (pss_one (ps_ret pe_bl)) pss_nil)
      (pss_cons (ps_for PassesOwn.never rfl (pi_range1 rfl B.b_range (pa_cons (pe_callB (call_max2 rfl) (by rfl) B.b_max (by decide +kernel) (pa_cons pe_int (pa_cons (pe_callB (call_min2 rfl) (by rfl) B.b_min (by decide +kernel) (pa_cons (pe_callB call_len_seq (by rfl) B.b_len (by decide +kernel) (pa_cons (pv 0) pa_nil)) (pa_cons pe_int pa_nil))) pa_nil))) pa_nil)) (pg_name (i := 1) sc_law.nd rfl (Or.inl rfl)) (pss_cons (ps_set (i := 2) sc_law.nd rfl (Or.inr rfl) (pe_fn h_well (hr.mono (by decide)) (pa_cons (pv 0) (pa_cons (pv 1) pa_nil)))) (pss_one (ps_if (pt_not (pt_val (pe_callB (cr_all rfl) (by rfl) B.b_all (by decide +kernel) (pa_cons (pe_lc (own := [("_law_turn", 3)]) (g := gName 3) (tt := tYes) rfl sc_law.nd (pi_range1 rfl B.b_range (pa_cons pe_int pa_nil)) (blkOk_by (N := sc_law_N) (sc := defScope s_law) (by decide +kernel)) (fun _ _ _ _ _ => pg_name (i := 3) sc_law.nd rfl (Or.inl rfl)) (fun _ _ _ _ _ => pts_nil) (fun _ _ _ _ _ => (pe_and (pe_fnG h_pipe gs hr (pa_cons (pv 2) pa_nil)) (pe_one (pe_fnG h_meter gs hr (pa_cons (pv 2) pa_nil)))))) pa_nil)))) (pss_one (ps_ret pe_bl)) pss_nil))))
      (pss_one (ps_ret pe_bl)))), ?_⟩
    have T0 : Tabs T H := by
      intro p hp
      rw [hT] at hp
      simp only [List.mem_cons, List.not_mem_nil, or_false] at hp
      rcases hp with rfl | rfl | rfl
      · exact TabS.nil (ht (c1, P1) (by simp))
      · exact TabS.nil (ht (c2, P2) (by simp))
      · exact TabS.nil (ht (c3, P3) (by simp))
    have eo : outM ((.str "a" : V), PyData.str "a") ((.str "b" : V), PyData.str "b") ((.int 1 : V), PyData.int 1) = (PyData.int 4, ("1" : Str)) := by
      have h1 : nmD (.str "a") = true := by decide +kernel
      have h2 : nmD (.str "b") = true := by decide +kernel
      have hb : bad1 [((.str "a" : V), PyData.str "a"), (.str "b", .str "b")] = none := by simp [bad1, h1, h2]
      rw [outM_no (n := "a") (s := "b") hb rfl rfl (by rfl)]
      have : (PyData.int 1).shown = ("1" : Str) := by decide +kernel
      rw [← this]
    refine ⟨T0, fun H1 e1 T1 fa => ⟨rfl, rfl, fun x dx nx nd ne => meter_told (u1 := (.str "a", .str "a")) (u2 := (.str "b", .str "b")) (u3 := (.int 1, .int 1)) M2 M4 (ody_by (.dat (.str _)) (by decide +kernel)) (ody_by (.dat (.str _)) (by decide +kernel)) (ody_by (.dat (.int _)) (by decide +kernel)) nx nd ne fun H2 l2 s2 e2 => ?_⟩⟩
    rw [eo] at e2
    have dd : SeqAt.shaped (rowD (.int 4) "1") = true := shaped_list (n := 0) (fun d hd => by
      simp only [List.mem_cons, List.not_mem_nil, or_false] at hd
      rcases hd with rfl | rfl
      · exact ⟨by simp [PyData.canLay0], by simp [PyData.depth]⟩
      · exact ⟨by simp only [PyData.canLay0]; decide +kernel, by simp [PyData.depth]⟩) (by decide)
    refine ⟨(by show 2 ≤ sizeLine; decide), fun m nm' => ⟨rowD (.int 4) "1", rowD (.int 4) "1", .lst (SqL.of (same_new nm' _ _ e2)) (.cons (.int 4) (.cons (.str _) .nil)), .lst (SqL.of upd_same) (.cons (.int 4) (.cons (.str _) .nil)), dd, dd, _, rfl, ?_⟩⟩
    rw [SeqAt.eqv_refl _ (SeqAt.canLay_of_shaped dd)]
    refine iteF ?_
    have s3 : Same H1 (upd H2 m (.lst [.int 4, .str "1"])) := s2.trans (same_new nm')
    have e3 : ExtN H (upd H2 m (.lst [.int 4, .str "1"])) := e1.trans (ExtN.of s3)
    have T3 : Tabs T (upd H2 m (.lst [.int 4, .str "1"])) := Tabs.ext T1 s3
    revert e3 T3
    generalize upd H2 m (.lst [.int 4, .str "1"]) = H3
    intro e3 T3
    refine ⟨_, rfl, c, _, rfl, .inl (SqL.extN hS e3), _, _, rfl, _, _, rfl, ?_⟩
    rw [List.length_map]
    generalize hj : (if (if (5 : Int) < (ns.length : Int) then (5 : Int) else (ns.length : Int)) > 2 then (if (5 : Int) < (ns.length : Int) then (5 : Int) else (ns.length : Int)) else 2) = j
    have hj2 : 2 ≤ j ∧ j ≤ 5 := by
      subst hj
      constructor <;> (repeat' split) <;> omega
    clear hj
    refine ⟨j, rfl, by omega, by omega, for_range (lo := 0) (n := j.toNat) (fun i σ H' => ExtN H H' ∧ Tabs T H' ∧ ∃ o1 o2 o3, σ = [some (.ref c), o1, o2, o3]) ⟨e3, T3, none, none, none, rfl⟩ ?_ ?_⟩
    · rintro i σ H4 hi ⟨e4, T4, o1, o2, o3, rfl⟩
      refine ⟨_, rfl, _, rfl, c, ns, i, by rw [Int.zero_add]; rfl, SqL.extN hS e4, hl, by omega, fun a H5 na s5 w5 => ?_⟩
      have T5 : Tabs T H5 := Tabs.ext T4 s5
      refine ⟨10, rfl, by decide, by decide, fun D nD => lc_range (lo := 0) (n := 10) (fun i H' => ExtA a H5 H' ∧ Tabs T H' ∧ WellAt H' a (200 * i) ∧ H' D = some (.lst ((List.replicate i true).map V.bl))) ⟨fun b o _ e _ => same_new nD _ _ e, Tabs.ext T5 (same_new nD), w5.new nD, upd_same⟩ ?_ ?_⟩
      · rintro i H6 hi ⟨g6, T6, w6, d6⟩
        have nDa : D ≠ a := (w5.ne nD).symm
        refine ⟨rfl, _, rfl, irr ⟨a, 200 * i, rfl, w6, by omega, T6, fun H7 g7 T7 w7 => ⟨true, rfl, iteT ⟨_, rfl, irr ⟨a, 200 * i + 100, rfl, w7, by omega, T7, fun H8 g8 T8 w8 => ?_⟩⟩⟩⟩⟩
        have d8 : H8 D = some (.lst ((List.replicate i true).map V.bl)) := g8 D _ nDa (g7 D _ nDa d6 fun _ z => nomatch z) fun _ z => nomatch z
        refine ⟨_, d8, ?_, ?_⟩
        · rw [List.length_map, List.length_replicate]
          exact Nat.lt_of_lt_of_le (show i < 11 by omega) (by decide)
        · refine ⟨fun b o hb e t => ?_, Tabs.put T8 d8, ?_, ?_⟩
          · rw [upd_ne (ne_of_none e nD)]
            exact g8 b o hb (g7 b o hb (g6 b o hb e t) t) t
          · obtain ⟨x, y, z, ew, r⟩ := w8.mono (show 200 * i + 100 + 100 ≤ 200 * (i + 1) by omega)
            exact ⟨x, y, z, by rw [upd_ne nDa.symm]; exact ew, r⟩
          · rw [upd_same, List.replicate_succ', List.map_append]
            rfl
      · rintro H6 ⟨g6, T6, w6, d6⟩
        refine ⟨D, _, rfl, SqL.of d6, true, rfl, iteF ?_⟩
        refine ⟨fun b o e t => g6 b o ?_ (s5 b o (e4 b o e t)) t, T6, _, _, _, rfl⟩
        exact ne_of_none (e4 b o e t) na
    · rintro σ H4 ⟨e4, T4, o1, o2, o3, rfl⟩
      exact k H4
end
end RV
namespace RV
open PySem L2
theorem all_mk {l : PySem.W.OpenLaw} {w : World} {K : PySem.W.Frag} {h : Heap} {mg : Str → Option Value} {fa : Addr} (X : K.In h) (G : h.Ns mainGlobals mg) (hfa : mg "law" = some (.ref fa))
    {tkA : Tok}
    {tkB : Tok}
    {tkC : Tok}
    {tkF : Tok}
    {tkG : Tok}
    {fIn : Addr}
    {odIn anIn : Option Addr} {slIn : Array (Option Value)} {ocIn kVIn dcIn pmIn cdIn ctIn : Value}
    {fCn : Addr}
    {odCn anCn : Option Addr} {slCn : Array (Option Value)} {ocCn kVCn dcCn pmCn cdCn ctCn : Value}
    {CP : Addr}
    {CM : Addr}
    {fPi : Addr}
    {odPi anPi : Option Addr} {slPi : Array (Option Value)} {ocPi kVPi dcPi pmPi cdPi ctPi : Value}
    {fMi : Addr}
    {odMi anMi : Option Addr} {slMi : Array (Option Value)} {ocMi dcMi pmMi cdMi ctMi : Value} {kDMi : Addr}
    {ppn : Addr}
    {fpn : Addr}
    {rpn : List Value}
    {odpn anpn : Option Addr} {slpn : Array (Option Value)} {ocpn kVpn dcpn pmpn cdpn ctpn : Value}
    {pps : Addr}
    {fps : Addr}
    {rps : List Value}
    {odps anps : Option Addr} {slps : Array (Option Value)} {ocps kVps dcps pmps cdps ctps : Value}
    {ppe : Addr}
    {fpe : Addr}
    {rpe : List Value}
    {odpe anpe : Option Addr} {slpe : Array (Option Value)} {ocpe kVpe dcpe pmpe cdpe ctpe : Value}
    {pmn : Addr}
    {fmn : Addr}
    {rmn : List Value}
    {odmn anmn : Option Addr} {slmn : Array (Option Value)} {ocmn kVmn dcmn pmmn cdmn ctmn : Value}
    {pma : Addr}
    {fma : Addr}
    {rma : List Value}
    {odma anma : Option Addr} {slma : Array (Option Value)} {ocma kVma dcma pmma cdma ctma : Value}
    {pmz : Addr}
    {fmz : Addr}
    {rmz : List Value}
    {odmz anmz : Option Addr} {slmz : Array (Option Value)} {ocmz kVmz dcmz pmmz cdmz ctmz : Value}
    {fPq : Addr}
    {odPq anPq : Option Addr} {slPq : Array (Option Value)} {ocPq kVPq dcPq pmPq cdPq ctPq : Value}
    {fMq : Addr}
    {odMq anMq : Option Addr} {slMq : Array (Option Value)} {ocMq kVMq dcMq pmMq cdMq ctMq : Value}
    {CY0 : Addr}
    {CY1 : Addr}
    {CY2 : Addr}
    {fiY2 : Addr}
    {odiY2 aniY2 : Option Addr} {sliY2 : Array (Option Value)} {ociY2 kViY2 dciY2 pmiY2 cdiY2 ctiY2 : Value}
    {CY3 : Addr}
    {fiY3 : Addr}
    {odiY3 aniY3 : Option Addr} {sliY3 : Array (Option Value)} {ociY3 kViY3 dciY3 pmiY3 cdiY3 ctiY3 : Value}
    {CY4 : Addr}
    {fiY4 : Addr}
    {odiY4 aniY4 : Option Addr} {sliY4 : Array (Option Value)} {ociY4 kViY4 dciY4 pmiY4 cdiY4 ctiY4 : Value}
    {CY5 : Addr}
    {CY6 : Addr}
    {CY7 : Addr}
    {CYV : Addr}
    {CYB : Addr}
    {CYA : Addr}
    {CN : Addr}
    {CS : Addr}
    {fWe : Addr}
    {odWe anWe : Option Addr} {slWe : Array (Option Value)} {ocWe kVWe dcWe pmWe cdWe ctWe : Value}
    {fDi : Addr}
    {odDi anDi : Option Addr} {slDi : Array (Option Value)} {ocDi kVDi dcDi pmDi cdDi ctDi : Value}
    {fNa : Addr}
    {odNa anNa : Option Addr} {slNa : Array (Option Value)} {ocNa kVNa dcNa pmNa cdNa ctNa : Value}
    {fSg : Addr}
    {odSg anSg : Option Addr} {slSg : Array (Option Value)} {ocSg kVSg dcSg pmSg cdSg ctSg : Value}
    {fOd : Addr}
    {odOd anOd : Option Addr} {slOd : Array (Option Value)} {ocOd kVOd dcOd pmOd cdOd ctOd : Value}
    {fSe : Addr}
    {odSe anSe : Option Addr} {slSe : Array (Option Value)} {ocSe kVSe dcSe pmSe cdSe ctSe : Value}
    {fSa : Addr}
    {odSa anSa : Option Addr} {slSa : Array (Option Value)} {ocSa kVSa dcSa pmSa cdSa ctSa : Value}
    {fCg : Addr}
    {odCg anCg : Option Addr} {slCg : Array (Option Value)} {ocCg kVCg dcCg pmCg cdCg ctCg : Value}
    {fLn : Addr}
    {odLn anLn : Option Addr} {slLn : Array (Option Value)} {ocLn kVLn dcLn pmLn cdLn ctLn : Value}
    {fBn : Addr}
    {odBn anBn : Option Addr} {slBn : Array (Option Value)} {ocBn kVBn dcBn pmBn cdBn ctBn : Value}
    {fVa : Addr}
    {odVa anVa : Option Addr} {slVa : Array (Option Value)} {ocVa kVVa dcVa pmVa cdVa ctVa : Value}
    {fFb : Addr}
    {odFb anFb : Option Addr} {slFb : Array (Option Value)} {ocFb kVFb dcFb pmFb cdFb ctFb : Value}
    {fPr : Addr}
    {cPr : Addr}
    {tPr : Addr}
    {odPr anPr : Option Addr} {slPr : Array (Option Value)} {ocPr kVPr dcPr pmPr ctPr : Value}
    {ePr : Value} {ddPr : Option Addr} {vsPr : Array Value} {svPr : Array (Option Value)}
    {fMr : Addr}
    {cMr : Addr}
    {tMr : Addr}
    {odMr anMr : Option Addr} {slMr : Array (Option Value)} {ocMr kVMr dcMr pmMr ctMr : Value}
    {eMr : Value} {ddMr : Option Addr} {vsMr : Array Value} {svMr : Array (Option Value)}
    {fLa : Addr}
    {cLa : Addr}
    {tLa : Addr}
    {odLa anLa : Option Addr} {slLa : Array (Option Value)} {ocLa kVLa dcLa pmLa ctLa : Value}
    {eLa : Value} {ddLa : Option Addr} {vsLa : Array Value} {svLa : Array (Option Value)}
    (b_len : PySem.W.nsIn K mainGlobals "len" = some none)
    (b_int : PySem.W.nsIn K mainGlobals "int" = some none)
    (b_abs : PySem.W.nsIn K mainGlobals "abs" = some none)
    (b_max : PySem.W.nsIn K mainGlobals "max" = some none)
    (b_min : PySem.W.nsIn K mainGlobals "min" = some none)
    (b_all : PySem.W.nsIn K mainGlobals "all" = some none)
    (b_any : PySem.W.nsIn K mainGlobals "any" = some none)
    (b_repr : PySem.W.nsIn K mainGlobals "repr" = some none)
    (b_range : PySem.W.nsIn K mainGlobals "range" = some none)
    (b_divmod : PySem.W.nsIn K mainGlobals "divmod" = some none)
    (b_isinstance : PySem.W.nsIn K mainGlobals "isinstance" = some none)
    (b_str : PySem.W.nsIn K mainGlobals "str" = some none)
    (b_sum : PySem.W.nsIn K mainGlobals "sum" = some none)
    (b_sorted : PySem.W.nsIn K mainGlobals "sorted" = some none)
    (b_set : PySem.W.nsIn K mainGlobals "set" = some none)
    (b_tuple : PySem.W.nsIn K mainGlobals "tuple" = some none)
    (b_enumerate : PySem.W.nsIn K mainGlobals "enumerate" = some none)
    (b_bool : PySem.W.nsIn K mainGlobals "bool" = some none)
    (g__LETTERS : PySem.W.nsIn K mainGlobals "_LETTERS" = some (some (.str "abcdefghijklmnopqrstuvwxyz" tkA)))
    (g__DIGITS : PySem.W.nsIn K mainGlobals "_DIGITS" = some (some (.str "0123456789" tkB)))
    (g__LONGEST_NAME : PySem.W.nsIn K mainGlobals "_LONGEST_NAME" = some (some (.int 8 tkC)))
    (g_MOST_PIPES : PySem.W.nsIn K mainGlobals "MOST_PIPES" = some (some (.int 12 tkF)))
    (g_MOST_METERS : PySem.W.nsIn K mainGlobals "MOST_METERS" = some (some (.int 12 tkG)))
    (aIn : PySem.W.nsIn K mainGlobals "is_name" = some (some (.ref fIn)))
    (lIn : K.lookup fIn = some ⟨ocIn, odIn, .func (PySem.W.fnOf "is_name" "is_name" (defArgs s_is_name) (defBody s_is_name) (defScope s_is_name) .none kVIn dcIn pmIn anIn cdIn ctIn), slIn⟩)
    (cIn : PySem.W.codeIn K cdIn "is_name" = true)
    (kIn : PySem.W.keepIn K (.ref fIn) = true)
    (aCn : PySem.W.nsIn K mainGlobals "_check_names" = some (some (.ref fCn)))
    (lCn : K.lookup fCn = some ⟨ocCn, odCn, .func (PySem.W.fnOf "_check_names" "_check_names" (defArgs s_check_names) (defBody s_check_names) (defScope s_check_names) .none kVCn dcCn pmCn anCn cdCn ctCn), slCn⟩)
    (cCn : PySem.W.codeIn K cdCn "_check_names" = true)
    (kCn : PySem.W.keepIn K (.ref fCn) = true)
    (nP : PySem.W.nsIn K mainGlobals "Pipe" = some (some (.ref CP)))
    (pgP : PySem.W.plainGet K CP Str.empty = true)
    (hdP : PySem.W.hasDictIn K CP = true)
    (poP : PySem.W.plainOver K CP = true)
    (saP : PySem.W.findIn K (.ref CP) "__setattr__" = some (some (.builtin "object.__setattr__")))
    (mkP : PySem.W.makesIn K CP = true)
    (kcP : PySem.W.keepIn K (.ref CP) = true)
    (haP : PySem.W.findIn K (.ref CP) "__class__" = some (some (.builtin "object.__class__")))
    (hmP : PySem.W.mroIn K CP (.type "object") = some true)
    (tyP : PySem.W.typeIn K (.ref CP) = some (.type "type"))
    (suP : PySem.W.subIn K (.ref CP) (.ref CP) = some true)
    (obP : PySem.W.subIn K (.ref CP) (.type "object") = some true)
    (noP0 : PySem.W.findIn K (.ref CP) "_name" = some none)
    (noP1 : PySem.W.findIn K (.ref CP) "_start" = some none)
    (noP2 : PySem.W.findIn K (.ref CP) "_end" = some none)
    (nM : PySem.W.nsIn K mainGlobals "Meter" = some (some (.ref CM)))
    (pgM : PySem.W.plainGet K CM Str.empty = true)
    (hdM : PySem.W.hasDictIn K CM = true)
    (poM : PySem.W.plainOver K CM = true)
    (saM : PySem.W.findIn K (.ref CM) "__setattr__" = some (some (.builtin "object.__setattr__")))
    (mkM : PySem.W.makesIn K CM = true)
    (kcM : PySem.W.keepIn K (.ref CM) = true)
    (haM : PySem.W.findIn K (.ref CM) "__class__" = some (some (.builtin "object.__class__")))
    (hmM : PySem.W.mroIn K CM (.type "object") = some true)
    (tyM : PySem.W.typeIn K (.ref CM) = some (.type "type"))
    (suM : PySem.W.subIn K (.ref CM) (.ref CM) = some true)
    (obM : PySem.W.subIn K (.ref CM) (.type "object") = some true)
    (noM0 : PySem.W.findIn K (.ref CM) "_name" = some none)
    (noM1 : PySem.W.findIn K (.ref CM) "_at" = some none)
    (noM2 : PySem.W.findIn K (.ref CM) "_sealed" = some none)
    (hn : PySem.W.specialIn K (.builtin "object.__class__") "__get__" = some (some (.builtin "getset_descriptor.__get__")))
    (htk : PySem.W.takesIn K (.builtin "object.__class__") = some true)
    (neP : PySem.W.findIn K (.ref CP) "__ne__" = some (some (.builtin "object.__ne__")))
    (neM : PySem.W.findIn K (.ref CM) "__ne__" = some (some (.builtin "object.__ne__")))
    (aPi : PySem.W.findIn K (.ref CP) "__init__" = some (some (.ref fPi)))
    (iPi : PySem.W.isFn K (.ref fPi) = true)
    (lPi : K.lookup fPi = some ⟨ocPi, odPi, .func (PySem.W.fnOf "__init__" "Pipe.__init__" (defArgs s_Pipe___init__) (defBody s_Pipe___init__) (defScope s_Pipe___init__) .none kVPi dcPi pmPi anPi cdPi ctPi), slPi⟩)
    (cPi : PySem.W.codeIn K cdPi "Pipe.__init__" = true)
    (kPi : PySem.W.keepIn K (.ref fPi) = true)
    (aMi : PySem.W.findIn K (.ref CM) "__init__" = some (some (.ref fMi)))
    (iMi : PySem.W.isFn K (.ref fMi) = true)
    (lMi : K.lookup fMi = some ⟨ocMi, odMi, .func (PySem.W.fnOf "__init__" "Meter.__init__" (defArgs s_Meter___init__) (defBody s_Meter___init__) (defScope s_Meter___init__) .none (.ref kDMi) dcMi pmMi anMi cdMi ctMi), slMi⟩)
    (cMi : PySem.W.codeIn K cdMi "Meter.__init__" = true)
    (kMi : PySem.W.keepIn K (.ref fMi) = true)
    (kd : PySem.W.nsIn K kDMi "sealed" = some (some (.bool false)))
    (apn : PySem.W.findIn K (.ref CP) "name" = some (some (.ref ppn)))
    (gpn : PySem.W.specialIn K (.ref ppn) "__get__" = some (some (.builtin "property.__get__")))
    (tpn : PySem.W.takesIn K (.ref ppn) = some true)
    (rpn_ : PySem.W.recIn K ppn "property" = some (.ref fpn :: rpn))
    (lpn : K.lookup fpn = some ⟨ocpn, odpn, .func (PySem.W.fnOf "name" "Pipe.name" (defArgs s_Pipe_name) (defBody s_Pipe_name) (defScope s_Pipe_name) .none kVpn dcpn pmpn anpn cdpn ctpn), slpn⟩)
    (cpn : PySem.W.codeIn K cdpn "Pipe.name" = true)
    (kpn : PySem.W.keepIn K (.ref fpn) = true)
    (aps : PySem.W.findIn K (.ref CP) "start" = some (some (.ref pps)))
    (gps : PySem.W.specialIn K (.ref pps) "__get__" = some (some (.builtin "property.__get__")))
    (tps : PySem.W.takesIn K (.ref pps) = some true)
    (rps_ : PySem.W.recIn K pps "property" = some (.ref fps :: rps))
    (lps : K.lookup fps = some ⟨ocps, odps, .func (PySem.W.fnOf "start" "Pipe.start" (defArgs s_Pipe_start) (defBody s_Pipe_start) (defScope s_Pipe_start) .none kVps dcps pmps anps cdps ctps), slps⟩)
    (cps : PySem.W.codeIn K cdps "Pipe.start" = true)
    (kps : PySem.W.keepIn K (.ref fps) = true)
    (ape : PySem.W.findIn K (.ref CP) "end" = some (some (.ref ppe)))
    (gpe : PySem.W.specialIn K (.ref ppe) "__get__" = some (some (.builtin "property.__get__")))
    (tpe : PySem.W.takesIn K (.ref ppe) = some true)
    (rpe_ : PySem.W.recIn K ppe "property" = some (.ref fpe :: rpe))
    (lpe : K.lookup fpe = some ⟨ocpe, odpe, .func (PySem.W.fnOf "end" "Pipe.end" (defArgs s_Pipe_end) (defBody s_Pipe_end) (defScope s_Pipe_end) .none kVpe dcpe pmpe anpe cdpe ctpe), slpe⟩)
    (cpe : PySem.W.codeIn K cdpe "Pipe.end" = true)
    (kpe : PySem.W.keepIn K (.ref fpe) = true)
    (amn : PySem.W.findIn K (.ref CM) "name" = some (some (.ref pmn)))
    (gmn : PySem.W.specialIn K (.ref pmn) "__get__" = some (some (.builtin "property.__get__")))
    (tmn : PySem.W.takesIn K (.ref pmn) = some true)
    (rmn_ : PySem.W.recIn K pmn "property" = some (.ref fmn :: rmn))
    (lmn : K.lookup fmn = some ⟨ocmn, odmn, .func (PySem.W.fnOf "name" "Meter.name" (defArgs s_Meter_name) (defBody s_Meter_name) (defScope s_Meter_name) .none kVmn dcmn pmmn anmn cdmn ctmn), slmn⟩)
    (cmn : PySem.W.codeIn K cdmn "Meter.name" = true)
    (kmn : PySem.W.keepIn K (.ref fmn) = true)
    (ama : PySem.W.findIn K (.ref CM) "at" = some (some (.ref pma)))
    (gma : PySem.W.specialIn K (.ref pma) "__get__" = some (some (.builtin "property.__get__")))
    (tma : PySem.W.takesIn K (.ref pma) = some true)
    (rma_ : PySem.W.recIn K pma "property" = some (.ref fma :: rma))
    (lma : K.lookup fma = some ⟨ocma, odma, .func (PySem.W.fnOf "at" "Meter.at" (defArgs s_Meter_at) (defBody s_Meter_at) (defScope s_Meter_at) .none kVma dcma pmma anma cdma ctma), slma⟩)
    (cma : PySem.W.codeIn K cdma "Meter.at" = true)
    (kma : PySem.W.keepIn K (.ref fma) = true)
    (amz : PySem.W.findIn K (.ref CM) "sealed" = some (some (.ref pmz)))
    (gmz : PySem.W.specialIn K (.ref pmz) "__get__" = some (some (.builtin "property.__get__")))
    (tmz : PySem.W.takesIn K (.ref pmz) = some true)
    (rmz_ : PySem.W.recIn K pmz "property" = some (.ref fmz :: rmz))
    (lmz : K.lookup fmz = some ⟨ocmz, odmz, .func (PySem.W.fnOf "sealed" "Meter.sealed" (defArgs s_Meter_sealed) (defBody s_Meter_sealed) (defScope s_Meter_sealed) .none kVmz dcmz pmmz anmz cdmz ctmz), slmz⟩)
    (cmz : PySem.W.codeIn K cdmz "Meter.sealed" = true)
    (kmz : PySem.W.keepIn K (.ref fmz) = true)
    (aPq : PySem.W.findIn K (.ref CP) "__eq__" = some (some (.ref fPq)))
    (iPq : PySem.W.isFn K (.ref fPq) = true)
    (lPq : K.lookup fPq = some ⟨ocPq, odPq, .func (PySem.W.fnOf "__eq__" "Pipe.__eq__" (defArgs s_Pipe___eq__) (defBody s_Pipe___eq__) (defScope s_Pipe___eq__) .none kVPq dcPq pmPq anPq cdPq ctPq), slPq⟩)
    (cPq : PySem.W.codeIn K cdPq "Pipe.__eq__" = true)
    (kPq : PySem.W.keepIn K (.ref fPq) = true)
    (fiPq : PySem.W.fnIn K fPq = true)
    (aMq : PySem.W.findIn K (.ref CM) "__eq__" = some (some (.ref fMq)))
    (iMq : PySem.W.isFn K (.ref fMq) = true)
    (lMq : K.lookup fMq = some ⟨ocMq, odMq, .func (PySem.W.fnOf "__eq__" "Meter.__eq__" (defArgs s_Meter___eq__) (defBody s_Meter___eq__) (defScope s_Meter___eq__) .none kVMq dcMq pmMq anMq cdMq ctMq), slMq⟩)
    (cMq : PySem.W.codeIn K cdMq "Meter.__eq__" = true)
    (kMq : PySem.W.keepIn K (.ref fMq) = true)
    (fiMq : PySem.W.fnIn K fMq = true)
    (nY0 : PySem.W.nsIn K mainGlobals "InvalidPipes" = some (some (.ref CY0)))
    (hdY0 : PySem.W.hasDictIn K CY0 = true)
    (tyY0 : PySem.W.typeIn K (.ref CY0) = some (.type "type"))
    (suY0 : PySem.W.subIn K (.ref CY0) (.ref CY0) = some true)
    (nY1 : PySem.W.nsIn K mainGlobals "InvalidMeters" = some (some (.ref CY1)))
    (hdY1 : PySem.W.hasDictIn K CY1 = true)
    (tyY1 : PySem.W.typeIn K (.ref CY1) = some (.type "type"))
    (suY1 : PySem.W.subIn K (.ref CY1) (.ref CY1) = some true)
    (nY2 : PySem.W.nsIn K mainGlobals "InvalidName" = some (some (.ref CY2)))
    (hdY2 : PySem.W.hasDictIn K CY2 = true)
    (tyY2 : PySem.W.typeIn K (.ref CY2) = some (.type "type"))
    (suY2 : PySem.W.subIn K (.ref CY2) (.ref CY2) = some true)
    (inY2 : PySem.W.excInitIn K CY2 [.type "ValueError", .type "Exception", .type "BaseException", .type "object"] "ValueError.__new__" = true)
    (ovY2 : PySem.W.excOver K CY2 [.type "ValueError", .type "Exception", .type "BaseException", .type "object"] = true)
    (saY2 : PySem.W.findIn K (.ref CY2) "__setattr__" = some (some (.builtin "object.__setattr__")))
    (ebY2 : PySem.W.subIn K (.ref CY2) (.type "BaseException") = some true)
    (kpY2 : PySem.W.keepIn K (.ref CY2) = true)
    (gaY2 : PySem.W.findIn K (.ref CY2) "__getattribute__" = some (some (.builtin "BaseException.__getattribute__")))
    (ggY2 : PySem.W.findIn K (.ref CY2) "__getattr__" = some none)
    (haY2 : PySem.W.findIn K (.ref CY2) "__class__" = some (some (.builtin "object.__class__")))
    (hmY2 : PySem.W.mroIn K CY2 (.type "object") = some true)
    (tkY2 : PySem.W.takerIn K CY2 "given" = some none)
    (noY2 : PySem.W.findIn K (.ref CY2) "given" = some none)
    (aiY2 : PySem.W.findIn K (.ref CY2) "__init__" = some (some (.ref fiY2)))
    (iiY2 : PySem.W.isFn K (.ref fiY2) = true)
    (liY2 : K.lookup fiY2 = some ⟨ociY2, odiY2, .func (PySem.W.fnOf "__init__" "InvalidName.__init__" (defArgs s_InvalidName___init__) (defBody s_InvalidName___init__) (defScope s_InvalidName___init__) .none kViY2 dciY2 pmiY2 aniY2 cdiY2 ctiY2), sliY2⟩)
    (ciY2 : PySem.W.codeIn K cdiY2 "InvalidName.__init__" = true)
    (kiY2 : PySem.W.keepIn K (.ref fiY2) = true)
    (tiY2 : PySem.W.typeIn K (.ref fiY2) = some (.type "function"))
    (nY3 : PySem.W.nsIn K mainGlobals "InvalidEnd" = some (some (.ref CY3)))
    (hdY3 : PySem.W.hasDictIn K CY3 = true)
    (tyY3 : PySem.W.typeIn K (.ref CY3) = some (.type "type"))
    (suY3 : PySem.W.subIn K (.ref CY3) (.ref CY3) = some true)
    (inY3 : PySem.W.excInitIn K CY3 [.type "ValueError", .type "Exception", .type "BaseException", .type "object"] "ValueError.__new__" = true)
    (ovY3 : PySem.W.excOver K CY3 [.type "ValueError", .type "Exception", .type "BaseException", .type "object"] = true)
    (saY3 : PySem.W.findIn K (.ref CY3) "__setattr__" = some (some (.builtin "object.__setattr__")))
    (ebY3 : PySem.W.subIn K (.ref CY3) (.type "BaseException") = some true)
    (kpY3 : PySem.W.keepIn K (.ref CY3) = true)
    (gaY3 : PySem.W.findIn K (.ref CY3) "__getattribute__" = some (some (.builtin "BaseException.__getattribute__")))
    (ggY3 : PySem.W.findIn K (.ref CY3) "__getattr__" = some none)
    (haY3 : PySem.W.findIn K (.ref CY3) "__class__" = some (some (.builtin "object.__class__")))
    (hmY3 : PySem.W.mroIn K CY3 (.type "object") = some true)
    (tkY3 : PySem.W.takerIn K CY3 "given" = some none)
    (noY3 : PySem.W.findIn K (.ref CY3) "given" = some none)
    (aiY3 : PySem.W.findIn K (.ref CY3) "__init__" = some (some (.ref fiY3)))
    (iiY3 : PySem.W.isFn K (.ref fiY3) = true)
    (liY3 : K.lookup fiY3 = some ⟨ociY3, odiY3, .func (PySem.W.fnOf "__init__" "InvalidEnd.__init__" (defArgs s_InvalidEnd___init__) (defBody s_InvalidEnd___init__) (defScope s_InvalidEnd___init__) .none kViY3 dciY3 pmiY3 aniY3 cdiY3 ctiY3), sliY3⟩)
    (ciY3 : PySem.W.codeIn K cdiY3 "InvalidEnd.__init__" = true)
    (kiY3 : PySem.W.keepIn K (.ref fiY3) = true)
    (tiY3 : PySem.W.typeIn K (.ref fiY3) = some (.type "function"))
    (nY4 : PySem.W.nsIn K mainGlobals "InvalidFlag" = some (some (.ref CY4)))
    (hdY4 : PySem.W.hasDictIn K CY4 = true)
    (tyY4 : PySem.W.typeIn K (.ref CY4) = some (.type "type"))
    (suY4 : PySem.W.subIn K (.ref CY4) (.ref CY4) = some true)
    (inY4 : PySem.W.excInitIn K CY4 [.type "ValueError", .type "Exception", .type "BaseException", .type "object"] "ValueError.__new__" = true)
    (ovY4 : PySem.W.excOver K CY4 [.type "ValueError", .type "Exception", .type "BaseException", .type "object"] = true)
    (saY4 : PySem.W.findIn K (.ref CY4) "__setattr__" = some (some (.builtin "object.__setattr__")))
    (ebY4 : PySem.W.subIn K (.ref CY4) (.type "BaseException") = some true)
    (kpY4 : PySem.W.keepIn K (.ref CY4) = true)
    (gaY4 : PySem.W.findIn K (.ref CY4) "__getattribute__" = some (some (.builtin "BaseException.__getattribute__")))
    (ggY4 : PySem.W.findIn K (.ref CY4) "__getattr__" = some none)
    (haY4 : PySem.W.findIn K (.ref CY4) "__class__" = some (some (.builtin "object.__class__")))
    (hmY4 : PySem.W.mroIn K CY4 (.type "object") = some true)
    (tkY4 : PySem.W.takerIn K CY4 "given" = some none)
    (noY4 : PySem.W.findIn K (.ref CY4) "given" = some none)
    (aiY4 : PySem.W.findIn K (.ref CY4) "__init__" = some (some (.ref fiY4)))
    (iiY4 : PySem.W.isFn K (.ref fiY4) = true)
    (liY4 : K.lookup fiY4 = some ⟨ociY4, odiY4, .func (PySem.W.fnOf "__init__" "InvalidFlag.__init__" (defArgs s_InvalidFlag___init__) (defBody s_InvalidFlag___init__) (defScope s_InvalidFlag___init__) .none kViY4 dciY4 pmiY4 aniY4 cdiY4 ctiY4), sliY4⟩)
    (ciY4 : PySem.W.codeIn K cdiY4 "InvalidFlag.__init__" = true)
    (kiY4 : PySem.W.keepIn K (.ref fiY4) = true)
    (tiY4 : PySem.W.typeIn K (.ref fiY4) = some (.type "function"))
    (nY5 : PySem.W.nsIn K mainGlobals "InvalidText" = some (some (.ref CY5)))
    (hdY5 : PySem.W.hasDictIn K CY5 = true)
    (tyY5 : PySem.W.typeIn K (.ref CY5) = some (.type "type"))
    (suY5 : PySem.W.subIn K (.ref CY5) (.ref CY5) = some true)
    (nY6 : PySem.W.nsIn K mainGlobals "NotAMeter" = some (some (.ref CY6)))
    (hdY6 : PySem.W.hasDictIn K CY6 = true)
    (tyY6 : PySem.W.typeIn K (.ref CY6) = some (.type "type"))
    (suY6 : PySem.W.subIn K (.ref CY6) (.ref CY6) = some true)
    (nY7 : PySem.W.nsIn K mainGlobals "UnknownName" = some (some (.ref CY7)))
    (hdY7 : PySem.W.hasDictIn K CY7 = true)
    (tyY7 : PySem.W.typeIn K (.ref CY7) = some (.type "type"))
    (suY7 : PySem.W.subIn K (.ref CY7) (.ref CY7) = some true)
    (nYV : PySem.W.nsIn K mainGlobals "BadValue" = some (some (.ref CYV)))
    (hdYV : PySem.W.hasDictIn K CYV = true)
    (tyYV : PySem.W.typeIn K (.ref CYV) = some (.type "type"))
    (suYV : PySem.W.subIn K (.ref CYV) (.ref CYV) = some true)
    (ebYV : PySem.W.subIn K (.ref CYV) (.type "BaseException") = some true)
    (nYB : PySem.W.nsIn K mainGlobals "BadName" = some (some (.ref CYB)))
    (hdYB : PySem.W.hasDictIn K CYB = true)
    (tyYB : PySem.W.typeIn K (.ref CYB) = some (.type "type"))
    (suYB : PySem.W.subIn K (.ref CYB) (.ref CYB) = some true)
    (ebYB : PySem.W.subIn K (.ref CYB) (.type "BaseException") = some true)
    (nYA : PySem.W.nsIn K mainGlobals "NoAnswer" = some (some (.ref CYA)))
    (hdYA : PySem.W.hasDictIn K CYA = true)
    (tyYA : PySem.W.typeIn K (.ref CYA) = some (.type "type"))
    (suYA : PySem.W.subIn K (.ref CYA) (.ref CYA) = some true)
    (ebYA : PySem.W.subIn K (.ref CYA) (.type "BaseException") = some true)
    (s_Y2_Y0 : PySem.W.subIn K (.ref CY2) (.ref CY0) = some false)
    (s_Y2_Y1 : PySem.W.subIn K (.ref CY2) (.ref CY1) = some false)
    (s_Y2_Y3 : PySem.W.subIn K (.ref CY2) (.ref CY3) = some false)
    (s_Y2_Y4 : PySem.W.subIn K (.ref CY2) (.ref CY4) = some false)
    (s_Y2_Y5 : PySem.W.subIn K (.ref CY2) (.ref CY5) = some false)
    (s_Y2_Y6 : PySem.W.subIn K (.ref CY2) (.ref CY6) = some false)
    (s_Y2_Y7 : PySem.W.subIn K (.ref CY2) (.ref CY7) = some false)
    (s_Y2_YB : PySem.W.subIn K (.ref CY2) (.ref CYB) = some false)
    (s_Y2_YV : PySem.W.subIn K (.ref CY2) (.ref CYV) = some true)
    (s_Y2_YA : PySem.W.subIn K (.ref CY2) (.ref CYA) = some false)
    (s_Y3_Y0 : PySem.W.subIn K (.ref CY3) (.ref CY0) = some false)
    (s_Y3_Y1 : PySem.W.subIn K (.ref CY3) (.ref CY1) = some false)
    (s_Y3_Y2 : PySem.W.subIn K (.ref CY3) (.ref CY2) = some false)
    (s_Y3_Y4 : PySem.W.subIn K (.ref CY3) (.ref CY4) = some false)
    (s_Y3_Y5 : PySem.W.subIn K (.ref CY3) (.ref CY5) = some false)
    (s_Y3_Y6 : PySem.W.subIn K (.ref CY3) (.ref CY6) = some false)
    (s_Y3_Y7 : PySem.W.subIn K (.ref CY3) (.ref CY7) = some false)
    (s_Y3_YB : PySem.W.subIn K (.ref CY3) (.ref CYB) = some false)
    (s_Y3_YV : PySem.W.subIn K (.ref CY3) (.ref CYV) = some true)
    (s_Y3_YA : PySem.W.subIn K (.ref CY3) (.ref CYA) = some false)
    (s_Y4_Y0 : PySem.W.subIn K (.ref CY4) (.ref CY0) = some false)
    (s_Y4_Y1 : PySem.W.subIn K (.ref CY4) (.ref CY1) = some false)
    (s_Y4_Y2 : PySem.W.subIn K (.ref CY4) (.ref CY2) = some false)
    (s_Y4_Y3 : PySem.W.subIn K (.ref CY4) (.ref CY3) = some false)
    (s_Y4_Y5 : PySem.W.subIn K (.ref CY4) (.ref CY5) = some false)
    (s_Y4_Y6 : PySem.W.subIn K (.ref CY4) (.ref CY6) = some false)
    (s_Y4_Y7 : PySem.W.subIn K (.ref CY4) (.ref CY7) = some false)
    (s_Y4_YB : PySem.W.subIn K (.ref CY4) (.ref CYB) = some false)
    (s_Y4_YV : PySem.W.subIn K (.ref CY4) (.ref CYV) = some true)
    (s_Y4_YA : PySem.W.subIn K (.ref CY4) (.ref CYA) = some false)
    (nN : PySem.W.nsIn K mainGlobals "Net" = some (some (.ref CN)))
    (hdN : PySem.W.hasDictIn K CN = true)
    (tyN : PySem.W.typeIn K (.ref CN) = some (.type "type"))
    (suN : PySem.W.subIn K (.ref CN) (.ref CN) = some true)
    (nS : PySem.W.nsIn K mainGlobals "Sum" = some (some (.ref CS)))
    (hdS : PySem.W.hasDictIn K CS = true)
    (tyS : PySem.W.typeIn K (.ref CS) = some (.type "type"))
    (suS : PySem.W.subIn K (.ref CS) (.ref CS) = some true)
    (alP_NoneType : PySem.W.subIn K (.type "NoneType") (.ref CP) = some false)
    (alP_bool : PySem.W.subIn K (.type "bool") (.ref CP) = some false)
    (alP_int : PySem.W.subIn K (.type "int") (.ref CP) = some false)
    (alP_str : PySem.W.subIn K (.type "str") (.ref CP) = some false)
    (alP_list : PySem.W.subIn K (.type "list") (.ref CP) = some false)
    (alP_tuple : PySem.W.subIn K (.type "tuple") (.ref CP) = some false)
    (alP_dict : PySem.W.subIn K (.type "dict") (.ref CP) = some false)
    (alM_NoneType : PySem.W.subIn K (.type "NoneType") (.ref CM) = some false)
    (alM_bool : PySem.W.subIn K (.type "bool") (.ref CM) = some false)
    (alM_int : PySem.W.subIn K (.type "int") (.ref CM) = some false)
    (alM_str : PySem.W.subIn K (.type "str") (.ref CM) = some false)
    (alM_list : PySem.W.subIn K (.type "list") (.ref CM) = some false)
    (alM_tuple : PySem.W.subIn K (.type "tuple") (.ref CM) = some false)
    (alM_dict : PySem.W.subIn K (.type "dict") (.ref CM) = some false)
    (alN_NoneType : PySem.W.subIn K (.type "NoneType") (.ref CN) = some false)
    (alN_bool : PySem.W.subIn K (.type "bool") (.ref CN) = some false)
    (alN_int : PySem.W.subIn K (.type "int") (.ref CN) = some false)
    (alN_str : PySem.W.subIn K (.type "str") (.ref CN) = some false)
    (alN_list : PySem.W.subIn K (.type "list") (.ref CN) = some false)
    (alN_tuple : PySem.W.subIn K (.type "tuple") (.ref CN) = some false)
    (alN_dict : PySem.W.subIn K (.type "dict") (.ref CN) = some false)
    (alS_NoneType : PySem.W.subIn K (.type "NoneType") (.ref CS) = some false)
    (alS_bool : PySem.W.subIn K (.type "bool") (.ref CS) = some false)
    (alS_int : PySem.W.subIn K (.type "int") (.ref CS) = some false)
    (alS_str : PySem.W.subIn K (.type "str") (.ref CS) = some false)
    (alS_list : PySem.W.subIn K (.type "list") (.ref CS) = some false)
    (alS_tuple : PySem.W.subIn K (.type "tuple") (.ref CS) = some false)
    (alS_dict : PySem.W.subIn K (.type "dict") (.ref CS) = some false)
    (s_M_P : PySem.W.subIn K (.ref CM) (.ref CP) = some false)
    (aWe : PySem.W.nsIn K mainGlobals "_law_well" = some (some (.ref fWe)))
    (lWe : K.lookup fWe = some ⟨ocWe, odWe, .func (PySem.W.fnOf "_law_well" "_law_well" (defArgs s_well) (defBody s_well) (defScope s_well) .none kVWe dcWe pmWe anWe cdWe ctWe), slWe⟩)
    (cWe : PySem.W.codeIn K cdWe "_law_well" = true)
    (kWe : PySem.W.keepIn K (.ref fWe) = true)
    (aDi : PySem.W.nsIn K mainGlobals "_law_dip" = some (some (.ref fDi)))
    (lDi : K.lookup fDi = some ⟨ocDi, odDi, .func (PySem.W.fnOf "_law_dip" "_law_dip" (defArgs s_dip) (defBody s_dip) (defScope s_dip) .none kVDi dcDi pmDi anDi cdDi ctDi), slDi⟩)
    (cDi : PySem.W.codeIn K cdDi "_law_dip" = true)
    (kDi : PySem.W.keepIn K (.ref fDi) = true)
    (aNa : PySem.W.nsIn K mainGlobals "_law_name" = some (some (.ref fNa)))
    (lNa : K.lookup fNa = some ⟨ocNa, odNa, .func (PySem.W.fnOf "_law_name" "_law_name" (defArgs s_name) (defBody s_name) (defScope s_name) .none kVNa dcNa pmNa anNa cdNa ctNa), slNa⟩)
    (cNa : PySem.W.codeIn K cdNa "_law_name" = true)
    (kNa : PySem.W.keepIn K (.ref fNa) = true)
    (aSg : PySem.W.nsIn K mainGlobals "_law_sign" = some (some (.ref fSg)))
    (lSg : K.lookup fSg = some ⟨ocSg, odSg, .func (PySem.W.fnOf "_law_sign" "_law_sign" (defArgs s_sign) (defBody s_sign) (defScope s_sign) .none kVSg dcSg pmSg anSg cdSg ctSg), slSg⟩)
    (cSg : PySem.W.codeIn K cdSg "_law_sign" = true)
    (kSg : PySem.W.keepIn K (.ref fSg) = true)
    (aOd : PySem.W.nsIn K mainGlobals "_law_odd" = some (some (.ref fOd)))
    (lOd : K.lookup fOd = some ⟨ocOd, odOd, .func (PySem.W.fnOf "_law_odd" "_law_odd" (defArgs s_odd) (defBody s_odd) (defScope s_odd) .none kVOd dcOd pmOd anOd cdOd ctOd), slOd⟩)
    (cOd : PySem.W.codeIn K cdOd "_law_odd" = true)
    (kOd : PySem.W.keepIn K (.ref fOd) = true)
    (aSe : PySem.W.nsIn K mainGlobals "_law_seen" = some (some (.ref fSe)))
    (lSe : K.lookup fSe = some ⟨ocSe, odSe, .func (PySem.W.fnOf "_law_seen" "_law_seen" (defArgs s_seen) (defBody s_seen) (defScope s_seen) .none kVSe dcSe pmSe anSe cdSe ctSe), slSe⟩)
    (cSe : PySem.W.codeIn K cdSe "_law_seen" = true)
    (kSe : PySem.W.keepIn K (.ref fSe) = true)
    (aSa : PySem.W.nsIn K mainGlobals "_law_said" = some (some (.ref fSa)))
    (lSa : K.lookup fSa = some ⟨ocSa, odSa, .func (PySem.W.fnOf "_law_said" "_law_said" (defArgs s_said) (defBody s_said) (defScope s_said) .none kVSa dcSa pmSa anSa cdSa ctSa), slSa⟩)
    (cSa : PySem.W.codeIn K cdSa "_law_said" = true)
    (kSa : PySem.W.keepIn K (.ref fSa) = true)
    (aCg : PySem.W.nsIn K mainGlobals "_law_caught" = some (some (.ref fCg)))
    (lCg : K.lookup fCg = some ⟨ocCg, odCg, .func (PySem.W.fnOf "_law_caught" "_law_caught" (defArgs s_caught) (defBody s_caught) (defScope s_caught) .none kVCg dcCg pmCg anCg cdCg ctCg), slCg⟩)
    (cCg : PySem.W.codeIn K cdCg "_law_caught" = true)
    (kCg : PySem.W.keepIn K (.ref fCg) = true)
    (aLn : PySem.W.nsIn K mainGlobals "_law_is_name" = some (some (.ref fLn)))
    (lLn : K.lookup fLn = some ⟨ocLn, odLn, .func (PySem.W.fnOf "_law_is_name" "_law_is_name" (defArgs s_lis_name) (defBody s_lis_name) (defScope s_lis_name) .none kVLn dcLn pmLn anLn cdLn ctLn), slLn⟩)
    (cLn : PySem.W.codeIn K cdLn "_law_is_name" = true)
    (kLn : PySem.W.keepIn K (.ref fLn) = true)
    (aBn : PySem.W.nsIn K mainGlobals "_law_bent_name" = some (some (.ref fBn)))
    (lBn : K.lookup fBn = some ⟨ocBn, odBn, .func (PySem.W.fnOf "_law_bent_name" "_law_bent_name" (defArgs s_bent_name) (defBody s_bent_name) (defScope s_bent_name) .none kVBn dcBn pmBn anBn cdBn ctBn), slBn⟩)
    (cBn : PySem.W.codeIn K cdBn "_law_bent_name" = true)
    (kBn : PySem.W.keepIn K (.ref fBn) = true)
    (aVa : PySem.W.nsIn K mainGlobals "_law_value" = some (some (.ref fVa)))
    (lVa : K.lookup fVa = some ⟨ocVa, odVa, .func (PySem.W.fnOf "_law_value" "_law_value" (defArgs s_value) (defBody s_value) (defScope s_value) .none kVVa dcVa pmVa anVa cdVa ctVa), slVa⟩)
    (cVa : PySem.W.codeIn K cdVa "_law_value" = true)
    (kVa : PySem.W.keepIn K (.ref fVa) = true)
    (aFb : PySem.W.nsIn K mainGlobals "_law_first_bad" = some (some (.ref fFb)))
    (lFb : K.lookup fFb = some ⟨ocFb, odFb, .func (PySem.W.fnOf "_law_first_bad" "_law_first_bad" (defArgs s_first_bad) (defBody s_first_bad) (defScope s_first_bad) .none kVFb dcFb pmFb anFb cdFb ctFb), slFb⟩)
    (cFb : PySem.W.codeIn K cdFb "_law_first_bad" = true)
    (kFb : PySem.W.keepIn K (.ref fFb) = true)
    (aPr : PySem.W.nsIn K mainGlobals "_law_pipe_right" = some (some (.ref fPr)))
    (lPr : K.lookup fPr = some ⟨ocPr, odPr, .func (PySem.W.fnOf "_law_pipe_right" "_law_pipe_right" (defArgs s_pipe_right) (defBody s_pipe_right) (defScope s_pipe_right) .none kVPr dcPr pmPr anPr (.ref cPr) ctPr), slPr⟩)
    (cPr_ : PySem.W.codeIn K (.ref cPr) "_law_pipe_right" = true)
    (kPr : PySem.W.keepIn K (.ref fPr) = true)
    (lcPr : K.lookup cPr = some ⟨ePr, ddPr, .fields vsPr, svPr⟩)
    (vPr : vsPr[11]? = some (.ref tPr))
    (n_Pr : K.lookup tPr = none)
    (aMr : PySem.W.nsIn K mainGlobals "_law_meter_right" = some (some (.ref fMr)))
    (lMr : K.lookup fMr = some ⟨ocMr, odMr, .func (PySem.W.fnOf "_law_meter_right" "_law_meter_right" (defArgs s_meter_right) (defBody s_meter_right) (defScope s_meter_right) .none kVMr dcMr pmMr anMr (.ref cMr) ctMr), slMr⟩)
    (cMr_ : PySem.W.codeIn K (.ref cMr) "_law_meter_right" = true)
    (kMr : PySem.W.keepIn K (.ref fMr) = true)
    (lcMr : K.lookup cMr = some ⟨eMr, ddMr, .fields vsMr, svMr⟩)
    (vMr : vsMr[11]? = some (.ref tMr))
    (n_Mr : K.lookup tMr = none)
    (aLa : PySem.W.nsIn K mainGlobals "law" = some (some (.ref fLa)))
    (lLa : K.lookup fLa = some ⟨ocLa, odLa, .func (PySem.W.fnOf "law" "law" (defArgs s_law) (defBody s_law) (defScope s_law) .none kVLa dcLa pmLa anLa (.ref cLa) ctLa), slLa⟩)
    (cLa_ : PySem.W.codeIn K (.ref cLa) "law" = true)
    (kLa : PySem.W.keepIn K (.ref fLa) = true)
    (lcLa : K.lookup cLa = some ⟨eLa, ddLa, .fields vsLa, svLa⟩)
    (vLa : vsLa[11]? = some (.ref tLa))
    (n_La : K.lookup tLa = none)
    (d_Pr_Mr : tPr ≠ tMr)
    (d_Pr_La : tPr ≠ tLa)
    (d_Mr_La : tMr ≠ tLa)
    : ∃ (cs : List (Addr × Addr)) (fd : FuncData), (∀ p ∈ cs, (∃ y ∈ (["_law_pipe_right", "_law_meter_right", "law"] : List Str), PySem.W.tabIn K y = some p) ∧ K.lookup p.2 = none) ∧ (∀ (s : Shared) (v : Value), BindsTo s fd ⟨[v], []⟩ [("_law_cells", v)]) ∧ ∀ base : Heap, K.In base → base.Ns mainGlobals mg → (∀ p ∈ cs, LamX.TabB base mg p.1 p.2) → FnG l.prog w K mg base 10 fa fd ["_law_cells"] (spLawT K cs) := by
  have e := hfa.symm.trans (PySem.W.mg_of X G aLa)
  cases e
  have T : Blt mg := ⟨PySem.W.mg_none_of X G b_len, PySem.W.mg_none_of X G b_int, PySem.W.mg_none_of X G b_abs, PySem.W.mg_none_of X G b_max, PySem.W.mg_none_of X G b_min, PySem.W.mg_none_of X G b_all, PySem.W.mg_none_of X G b_any, PySem.W.mg_none_of X G b_repr, PySem.W.mg_none_of X G b_range, PySem.W.mg_none_of X G b_divmod, PySem.W.mg_none_of X G b_isinstance, PySem.W.mg_none_of X G b_str⟩
  have T2 : Blt2 mg := ⟨PySem.W.mg_none_of X G b_sum, PySem.W.mg_none_of X G b_sorted, PySem.W.mg_none_of X G b_set, PySem.W.mg_none_of X G b_tuple, PySem.W.mg_none_of X G b_enumerate, PySem.W.mg_none_of X G b_bool⟩
  have Cs : Cst mg := ⟨⟨_, PySem.W.mg_of X G g__LETTERS, _, rfl⟩, ⟨_, PySem.W.mg_of X G g__DIGITS, _, rfl⟩, ⟨_, PySem.W.mg_of X G g__LONGEST_NAME, _, rfl⟩⟩
  have FIn := fun_mk (st := s_is_name) lIn cIn kIn
  have bIn : Binds K _ ["value"] [] := FIn.binds (ps := ["value"]) fun _ _ _ _ _ _ us hl => match us, hl with | [_], _ => rfl
  have FCn := fun_mk (st := s_check_names) lCn cCn kCn
  have bCn : Binds K _ ["values"] [] := FCn.binds (ps := ["values"]) fun _ _ _ _ _ _ us hl => match us, hl with | [_], _ => rfl
  have clP : Cls K CP := ⟨pgP, hdP, poP, saP⟩
  have clM : Cls K CM := ⟨pgM, hdM, poM, saM⟩
  have PC : PClass K mg CP := ⟨⟨clP, haP, hn, htk, hmP⟩, PySem.W.mg_of X G nP, noP0, noP1, noP2, kit_self K CP⟩
  have MC : MClass K mg CM := ⟨⟨clM, haM, hn, htk, hmM⟩, PySem.W.mg_of X G nM, noM0, noM1, noM2, kit_self K CM⟩
  have FPi := fun_mk (st := s_Pipe___init__) lPi cPi kPi
  have bPi : Binds K _ ["self", "name", "start", "end"] [] := FPi.binds (ps := ["self", "name", "start", "end"]) fun _ _ _ _ _ _ us hl => match us, hl with | [_, _, _, _], _ => rfl
  have MkP : Mk K CP fPi := ⟨mkP, aPi, iPi, kcP⟩
  have FMi : FunD K "__init__" "Meter.__init__" (defArgs s_Meter___init__) (defBody s_Meter___init__) (defScope s_Meter___init__) [] [("sealed", V.bl false)] fMi _ := ⟨⟨_, _, _, _, _, _, _, _, _, _, rfl, lMi, cMi, .inl ⟨rfl, rfl⟩, .inr ⟨kDMi, rfl, fun q hq => by
    rw [List.mem_singleton.mp hq]
    exact ⟨_, kd, rfl⟩⟩⟩, kMi⟩
  have MkM : Mk K CM fMi := ⟨mkM, aMi, iMi, kcM⟩
  have Fpn := fun_mk (st := s_Pipe_name) lpn cpn kpn
  have bpn : Binds K _ ["self"] [] := Fpn.binds (ps := ["self"]) fun _ _ _ _ _ _ us hl => match us, hl with | [_], _ => rfl
  have Fps := fun_mk (st := s_Pipe_start) lps cps kps
  have bps : Binds K _ ["self"] [] := Fps.binds (ps := ["self"]) fun _ _ _ _ _ _ us hl => match us, hl with | [_], _ => rfl
  have Fpe := fun_mk (st := s_Pipe_end) lpe cpe kpe
  have bpe : Binds K _ ["self"] [] := Fpe.binds (ps := ["self"]) fun _ _ _ _ _ _ us hl => match us, hl with | [_], _ => rfl
  have Fmn := fun_mk (st := s_Meter_name) lmn cmn kmn
  have bmn : Binds K _ ["self"] [] := Fmn.binds (ps := ["self"]) fun _ _ _ _ _ _ us hl => match us, hl with | [_], _ => rfl
  have Fma := fun_mk (st := s_Meter_at) lma cma kma
  have bma : Binds K _ ["self"] [] := Fma.binds (ps := ["self"]) fun _ _ _ _ _ _ us hl => match us, hl with | [_], _ => rfl
  have Fmz := fun_mk (st := s_Meter_sealed) lmz cmz kmz
  have bmz : Binds K _ ["self"] [] := Fmz.binds (ps := ["self"]) fun _ _ _ _ _ _ us hl => match us, hl with | [_], _ => rfl
  have FPq := fun_mk (st := s_Pipe___eq__) lPq cPq kPq
  have bPq : Binds K _ ["self", "other"] [] := FPq.binds (ps := ["self", "other"]) fun _ _ _ _ _ _ us hl => match us, hl with | [_, _], _ => rfl
  have FMq := fun_mk (st := s_Meter___eq__) lMq cMq kMq
  have bMq : Binds K _ ["self", "other"] [] := FMq.binds (ps := ["self", "other"]) fun _ _ _ _ _ _ us hl => match us, hl with | [_, _], _ => rfl
  have FiY2 := fun_mk (st := s_InvalidName___init__) liY2 ciY2 kiY2
  have biY2 : Binds K _ ["self", "given"] [] := FiY2.binds (ps := ["self", "given"]) fun _ _ _ _ _ _ us hl => match us, hl with | [_, _], _ => rfl
  have OY2 : OwnX K CY2 := ⟨_, _, _, _, ⟨PySem.F.excBase_ValueError, PySem.F.store_ValueError, inY2, ovY2, hdY2, saY2, ebY2, tyY2, kpY2, gaY2, ggY2, haY2, hn, htk, hmY2⟩⟩
  have FiY3 := fun_mk (st := s_InvalidEnd___init__) liY3 ciY3 kiY3
  have biY3 : Binds K _ ["self", "given"] [] := FiY3.binds (ps := ["self", "given"]) fun _ _ _ _ _ _ us hl => match us, hl with | [_, _], _ => rfl
  have OY3 : OwnX K CY3 := ⟨_, _, _, _, ⟨PySem.F.excBase_ValueError, PySem.F.store_ValueError, inY3, ovY3, hdY3, saY3, ebY3, tyY3, kpY3, gaY3, ggY3, haY3, hn, htk, hmY3⟩⟩
  have FiY4 := fun_mk (st := s_InvalidFlag___init__) liY4 ciY4 kiY4
  have biY4 : Binds K _ ["self", "given"] [] := FiY4.binds (ps := ["self", "given"]) fun _ _ _ _ _ _ us hl => match us, hl with | [_, _], _ => rfl
  have OY4 : OwnX K CY4 := ⟨_, _, _, _, ⟨PySem.F.excBase_ValueError, PySem.F.store_ValueError, inY4, ovY4, hdY4, saY4, ebY4, tyY4, kpY4, gaY4, ggY4, haY4, hn, htk, hmY4⟩⟩
  have E8 : Eight mg CY0 CY1 CY2 CY3 CY4 CY5 CY6 CY7 CYB CYV := ⟨PySem.W.mg_of X G nY0, PySem.W.mg_of X G nY1, PySem.W.mg_of X G nY2, PySem.W.mg_of X G nY3, PySem.W.mg_of X G nY4, PySem.W.mg_of X G nY5, PySem.W.mg_of X G nY6, PySem.W.mg_of X G nY7, PySem.W.mg_of X G nYB, PySem.W.mg_of X G nYV⟩
  have Q2 : ErrC K [CY0, CY1, CY2, CY3, CY4, CY5, CY6, CY7] CYB CYV CYA (fun i => decide (i = 7)) (fun i => !decide (i = 7)) fld8 CY2 2 := ⟨OY2, noY2, ⟨by show 2 < 8; decide, so8 (kit_eq hdY0 tyY0 suY0 s_Y2_Y0) (kit_eq hdY1 tyY1 suY1 s_Y2_Y1) (kit_eq hdY2 tyY2 suY2 suY2) (kit_eq hdY3 tyY3 suY3 s_Y2_Y3) (kit_eq hdY4 tyY4 suY4 s_Y2_Y4) (kit_eq hdY5 tyY5 suY5 s_Y2_Y5) (kit_eq hdY6 tyY6 suY6 s_Y2_Y6) (kit_eq hdY7 tyY7 suY7 s_Y2_Y7), kit_eq hdYB tyYB suYB s_Y2_YB, kit_eq hdYV tyYV suYV s_Y2_YV⟩, ex3 (exm_eq ebYV hdYV tyYV s_Y2_YV) (exm_eq ebYB hdYB tyYB s_Y2_YB) (exm_eq ebYA hdYA tyYA s_Y2_YA) rfl, rfl⟩
  have Q3 : ErrC K [CY0, CY1, CY2, CY3, CY4, CY5, CY6, CY7] CYB CYV CYA (fun i => decide (i = 7)) (fun i => !decide (i = 7)) fld8 CY3 3 := ⟨OY3, noY3, ⟨by show 3 < 8; decide, so8 (kit_eq hdY0 tyY0 suY0 s_Y3_Y0) (kit_eq hdY1 tyY1 suY1 s_Y3_Y1) (kit_eq hdY2 tyY2 suY2 s_Y3_Y2) (kit_eq hdY3 tyY3 suY3 suY3) (kit_eq hdY4 tyY4 suY4 s_Y3_Y4) (kit_eq hdY5 tyY5 suY5 s_Y3_Y5) (kit_eq hdY6 tyY6 suY6 s_Y3_Y6) (kit_eq hdY7 tyY7 suY7 s_Y3_Y7), kit_eq hdYB tyYB suYB s_Y3_YB, kit_eq hdYV tyYV suYV s_Y3_YV⟩, ex3 (exm_eq ebYV hdYV tyYV s_Y3_YV) (exm_eq ebYB hdYB tyYB s_Y3_YB) (exm_eq ebYA hdYA tyYA s_Y3_YA) rfl, rfl⟩
  have Q4 : ErrC K [CY0, CY1, CY2, CY3, CY4, CY5, CY6, CY7] CYB CYV CYA (fun i => decide (i = 7)) (fun i => !decide (i = 7)) fld8 CY4 4 := ⟨OY4, noY4, ⟨by show 4 < 8; decide, so8 (kit_eq hdY0 tyY0 suY0 s_Y4_Y0) (kit_eq hdY1 tyY1 suY1 s_Y4_Y1) (kit_eq hdY2 tyY2 suY2 s_Y4_Y2) (kit_eq hdY3 tyY3 suY3 s_Y4_Y3) (kit_eq hdY4 tyY4 suY4 suY4) (kit_eq hdY5 tyY5 suY5 s_Y4_Y5) (kit_eq hdY6 tyY6 suY6 s_Y4_Y6) (kit_eq hdY7 tyY7 suY7 s_Y4_Y7), kit_eq hdYB tyYB suYB s_Y4_YB, kit_eq hdYV tyYV suYV s_Y4_YV⟩, ex3 (exm_eq ebYV hdYV tyYV s_Y4_YV) (exm_eq ebYB hdYB tyYB s_Y4_YB) (exm_eq ebYA hdYA tyYA s_Y4_YA) rfl, rfl⟩
  have alP : Alien K CP := fun d => by cases d <;> first | exact kit_eq hdP tyP suP alP_NoneType | exact kit_eq hdP tyP suP alP_bool | exact kit_eq hdP tyP suP alP_int | exact kit_eq hdP tyP suP alP_str | exact kit_eq hdP tyP suP alP_list | exact kit_eq hdP tyP suP alP_tuple | exact kit_eq hdP tyP suP alP_dict
  have alM : Alien K CM := fun d => by cases d <;> first | exact kit_eq hdM tyM suM alM_NoneType | exact kit_eq hdM tyM suM alM_bool | exact kit_eq hdM tyM suM alM_int | exact kit_eq hdM tyM suM alM_str | exact kit_eq hdM tyM suM alM_list | exact kit_eq hdM tyM suM alM_tuple | exact kit_eq hdM tyM suM alM_dict
  have alN : Alien K CN := fun d => by cases d <;> first | exact kit_eq hdN tyN suN alN_NoneType | exact kit_eq hdN tyN suN alN_bool | exact kit_eq hdN tyN suN alN_int | exact kit_eq hdN tyN suN alN_str | exact kit_eq hdN tyN suN alN_list | exact kit_eq hdN tyN suN alN_tuple | exact kit_eq hdN tyN suN alN_dict
  have alS : Alien K CS := fun d => by cases d <;> first | exact kit_eq hdS tyS suS alS_NoneType | exact kit_eq hdS tyS suS alS_bool | exact kit_eq hdS tyS suS alS_int | exact kit_eq hdS tyS suS alS_str | exact kit_eq hdS tyS suS alS_list | exact kit_eq hdS tyS suS alS_tuple | exact kit_eq hdS tyS suS alS_dict
  have F4 : Four K mg CP CM CN CS := ⟨PC.k, MC.k, PySem.W.mg_of X G nN, PySem.W.mg_of X G nS, alP, alM, alN, alS⟩
  have FWe := fun_mk (st := s_well) lWe cWe kWe
  have bWe : Binds K _ ["_law_cells", "_law_k"] [] := FWe.binds (ps := ["_law_cells", "_law_k"]) fun _ _ _ _ _ _ us hl => match us, hl with | [_, _], _ => rfl
  have FDi := fun_mk (st := s_dip) lDi cDi kDi
  have bDi : Binds K _ ["_law_well_here", "_law_many"] [] := FDi.binds (ps := ["_law_well_here", "_law_many"]) fun _ _ _ _ _ _ us hl => match us, hl with | [_, _], _ => rfl
  have FNa := fun_mk (st := s_name) lNa cNa kNa
  have bNa : Binds K _ ["_law_well_here"] [] := FNa.binds (ps := ["_law_well_here"]) fun _ _ _ _ _ _ us hl => match us, hl with | [_], _ => rfl
  have FSg := fun_mk (st := s_sign) lSg cSg kSg
  have bSg : Binds K _ ["_law_well_here", "_law_often"] [] := FSg.binds (ps := ["_law_well_here", "_law_often"]) fun _ _ _ _ _ _ us hl => match us, hl with | [_, _], _ => rfl
  have FOd := fun_mk (st := s_odd) lOd cOd kOd
  have bOd : Binds K _ ["_law_well_here"] [] := FOd.binds (ps := ["_law_well_here"]) fun _ _ _ _ _ _ us hl => match us, hl with | [_], _ => rfl
  have FSe := fun_mk (st := s_seen) lSe cSe kSe
  have bSe : Binds K _ ["_law_thing"] [] := FSe.binds (ps := ["_law_thing"]) fun _ _ _ _ _ _ us hl => match us, hl with | [_], _ => rfl
  have FSa := fun_mk (st := s_said) lSa cSa kSa
  have bSa : Binds K _ ["_law_e"] [] := FSa.binds (ps := ["_law_e"]) fun _ _ _ _ _ _ us hl => match us, hl with | [_], _ => rfl
  have FCg := fun_mk (st := s_caught) lCg cCg kCg
  have bCg : Binds K _ ["_law_act"] [] := FCg.binds (ps := ["_law_act"]) fun _ _ _ _ _ _ us hl => match us, hl with | [_], _ => rfl
  have FLn := fun_mk (st := s_lis_name) lLn cLn kLn
  have bLn : Binds K _ ["_law_word"] [] := FLn.binds (ps := ["_law_word"]) fun _ _ _ _ _ _ us hl => match us, hl with | [_], _ => rfl
  have FBn := fun_mk (st := s_bent_name) lBn cBn kBn
  have bBn : Binds K _ ["_law_well_here"] [] := FBn.binds (ps := ["_law_well_here"]) fun _ _ _ _ _ _ us hl => match us, hl with | [_], _ => rfl
  have FVa := fun_mk (st := s_value) lVa cVa kVa
  have bVa : Binds K _ ["_law_well_here"] [] := FVa.binds (ps := ["_law_well_here"]) fun _ _ _ _ _ _ us hl => match us, hl with | [_], _ => rfl
  have FFb := fun_mk (st := s_first_bad) lFb cFb kFb
  have bFb : Binds K _ ["_law_some"] [] := FFb.binds (ps := ["_law_some"]) fun _ _ _ _ _ _ us hl => match us, hl with | [_], _ => rfl
  have FPr := funC_mk (st := s_pipe_right) lPr cPr_ kPr
  have bPr : Binds K _ ["_law_well_here"] [] := FPr.fn.binds (ps := ["_law_well_here"]) fun _ _ _ _ _ _ us hl => match us, hl with | [_], _ => rfl
  have FMr := funC_mk (st := s_meter_right) lMr cMr_ kMr
  have bMr : Binds K _ ["_law_well_here"] [] := FMr.fn.binds (ps := ["_law_well_here"]) fun _ _ _ _ _ _ us hl => match us, hl with | [_], _ => rfl
  have FLa := funC_mk (st := s_law) lLa cLa_ kLa
  refine ⟨[(cPr, tPr), (cMr, tMr), (cLa, tLa)], PySem.W.fnOf "law" "law" (defArgs s_law) (defBody s_law) (defScope s_law) .none kVLa dcLa pmLa anLa (.ref cLa) ctLa, fun p hp => ?_, fun s v => .of_eq rfl, fun base _ _ tb => ?_⟩
  · simp only [List.mem_cons, List.not_mem_nil, or_false] at hp
    rcases hp with rfl | rfl | rfl
    · exact ⟨⟨_, by simp, tabIn_of FPr aPr lcPr vPr⟩, n_Pr⟩
    · exact ⟨⟨_, by simp, tabIn_of FMr aMr lcMr vMr⟩, n_Mr⟩
    · exact ⟨⟨_, by simp, tabIn_of FLa aLa lcLa vLa⟩, n_La⟩
  have tbPr := tb (cPr, tPr) (by simp)
  have tbMr := tb (cMr, tMr) (by simp)
  have tbLa := tb (cLa, tLa) (by simp)
  have GIn : Fn l.prog w K mg base "is_name" 1 ["value"] (sp_is_name K) := ⟨_, _, PySem.W.mg_of X G aIn, kIn, bIn, ok_is_name FIn T Cs⟩
  have GCn : Fn l.prog w K mg base "_check_names" 2 ["values"] (sp_check K) := ⟨_, _, PySem.W.mg_of X G aCn, kCn, bCn, ok_check_names FCn GIn.irr⟩
  have OPi : FnOk l.prog w K mg base CX0 3 fPi _ ["self", "name", "start", "end"] (sp_Pipe CP) := ok_Pipe_i FPi PC GCn.irr
  have P0 : Mkr l.prog w K mg base "Pipe" CP 3 (sp_Pipe CP) [] := ⟨PC.k, _, _, _, [], MkP, bPi, .nil, OPi⟩
  have OMi : FnOk l.prog w K mg base CX0 3 fMi _ ["self", "name", "at", "sealed"] (sp_Meter CM) := ok_Meter_i FMi MC GCn.irr
  have M2 : MkrK l.prog w K mg base "Meter" CM 3 2 ["sealed"] (sp_Meter CM) gM2 := ⟨MC.k, _, _, _, _, MkM, kbM2 FMi, OMi⟩
  have Gpn : Prp l.prog w K mg base CP "name" 1 (sp_pn CP) := ⟨clP, _, _, _, _, ⟨apn, gpn, tpn, _, rpn_⟩, bpn, ok_Pipe_name Fpn PC⟩
  have Gps : Prp l.prog w K mg base CP "start" 1 (sp_ps CP) := ⟨clP, _, _, _, _, ⟨aps, gps, tps, _, rps_⟩, bps, ok_Pipe_start Fps PC⟩
  have Gpe : Prp l.prog w K mg base CP "end" 1 (sp_pe CP) := ⟨clP, _, _, _, _, ⟨ape, gpe, tpe, _, rpe_⟩, bpe, ok_Pipe_end Fpe PC⟩
  have Gmn : Prp l.prog w K mg base CM "name" 1 (sp_mn CM) := ⟨clM, _, _, _, _, ⟨amn, gmn, tmn, _, rmn_⟩, bmn, ok_Meter_name Fmn MC⟩
  have Gma : Prp l.prog w K mg base CM "at" 1 (sp_ma CM) := ⟨clM, _, _, _, _, ⟨ama, gma, tma, _, rma_⟩, bma, ok_Meter_at Fma MC⟩
  have Gmz : Prp l.prog w K mg base CM "sealed" 1 (sp_mz CM) := ⟨clM, _, _, _, _, ⟨amz, gmz, tmz, _, rmz_⟩, bmz, ok_Meter_sealed Fmz MC⟩
  have GPq : OwnM l.prog w K mg base CP "__eq__" 1 (sp_Peq CP) := ⟨_, _, _, aPq, iPq, fiPq, bPq, ok_Pipe_q FPq PC T⟩
  have GMq : OwnM l.prog w K mg base CM "__eq__" 1 (sp_Meq CM) := ⟨_, _, _, aMq, iMq, fiMq, bMq, ok_Meter_q FMq MC T⟩
  have qP : OwnEq l.prog w K mg base CP 1 (sp_Peq CP) := ⟨⟨_, _, _, aPq, iPq, bPq, ok_Pipe_q FPq PC T⟩, neP, obP⟩
  have qM : OwnEq l.prog w K mg base CM 1 (sp_Meq CM) := ⟨⟨_, _, _, aMq, iMq, bMq, ok_Meter_q FMq MC T⟩, neM, obM⟩
  have EY2 : Err l.prog w K mg base "InvalidName" CY2 "given" := ⟨PySem.W.mg_of X G nY2, OY2, tkY2, noY2, fiY2, _, ["self", "given"], aiY2, tiY2, biY2, ok_give_InvalidName FiY2 OY2 tkY2⟩
  have EY3 : Err l.prog w K mg base "InvalidEnd" CY3 "given" := ⟨PySem.W.mg_of X G nY3, OY3, tkY3, noY3, fiY3, _, ["self", "given"], aiY3, tiY3, biY3, ok_give_InvalidEnd FiY3 OY3 tkY3⟩
  have EY4 : Err l.prog w K mg base "InvalidFlag" CY4 "given" := ⟨PySem.W.mg_of X G nY4, OY4, tkY4, noY4, fiY4, _, ["self", "given"], aiY4, tiY4, biY4, ok_give_InvalidFlag FiY4 OY4 tkY4⟩
  have XCn : Fx l.prog w K mg base "_check_names" 3 ["values"] (orS (sp_check K) (sp_checkX K CY2)) := ⟨_, _, PySem.W.mg_of X G aCn, kCn, bCn, fok_or ((ok_check_names FCn GIn.irr).mono (by decide)) (ok_check_namesX FCn GIn.irr EY2)⟩
  have OPi2 : FnOk l.prog w K mg base (L2.CX l.prog w) 4 fPi _ ["self", "name", "start", "end"] (orS (sp_Pipe CP) (sp_PipeX K CP CY2 CY3)) := fok_or (OPi.mono (by decide)) (ok_Pipe_iX FPi XCn.irr EY3)
  have PX0 : MkrX l.prog w K mg base "Pipe" CP 4 (orS (sp_Pipe CP) (sp_PipeX K CP CY2 CY3)) [] := ⟨PC.k, _, _, _, [], MkP, bPi, .nil, OPi2⟩
  have OMi2 : FnOk l.prog w K mg base (L2.CX l.prog w) 4 fMi _ ["self", "name", "at", "sealed"] (orS (sp_Meter CM) (sp_MeterX K CM CY2 CY4)) := fok_or (OMi.mono (by decide)) (ok_Meter_iX FMi XCn.irr EY4)
  have MX2 : MkrKX l.prog w K mg base "Meter" CM 4 2 ["sealed"] (orS (sp_Meter CM) (sp_MeterX K CM CY2 CY4)) gM2 := ⟨MC.k, _, _, _, _, MkM, kbM2 FMi, OMi2⟩
  have PXK : MkrKX l.prog w K mg base "Pipe" CP 4 0 ["start", "end", "name"] (orS (sp_Pipe CP) (sp_PipeX K CP CY2 CY3)) gCab := ⟨PC.k, _, _, _, _, MkP, kbPs FPi, OPi2⟩
  have MXK : MkrKX l.prog w K mg base "Meter" CM 4 0 ["sealed", "at", "name"] (orS (sp_Meter CM) (sp_MeterX K CM CY2 CY4)) gCba := ⟨MC.k, _, _, _, _, MkM, kbMs FMi, OMi2⟩
  have GWe : Fn l.prog w K mg base "_law_well" 1 ["_law_cells", "_law_k"] (sp_well K) := ⟨_, _, PySem.W.mg_of X G aWe, kWe, bWe, ok_well FWe T⟩
  have GDi : Fn l.prog w K mg base "_law_dip" 1 ["_law_well_here", "_law_many"] (sp_dip) := ⟨_, _, PySem.W.mg_of X G aDi, kDi, bDi, ok_dip FDi T⟩
  have GNa : Fn l.prog w K mg base "_law_name" 2 ["_law_well_here"] (sp_name) := ⟨_, _, PySem.W.mg_of X G aNa, kNa, bNa, ok_name FNa T GDi⟩
  have GSg : Fn l.prog w K mg base "_law_sign" 2 ["_law_well_here", "_law_often"] (sp_sign) := ⟨_, _, PySem.W.mg_of X G aSg, kSg, bSg, ok_sign FSg T GDi.irr⟩
  have GOd : Fn l.prog w K mg base "_law_odd" 2 ["_law_well_here"] (sp_odd K) := ⟨_, _, PySem.W.mg_of X G aOd, kOd, bOd, ok_odd FOd GDi.irr⟩
  have GSe : FnGd l.prog w K mg base "_law_seen" 3 ["_law_thing"] (sp_seen3 K CP CM) := ⟨_, _, PySem.W.mg_of X G aSe, kSe, bSe, ok_seen3 FSe T F4 PC MC (kit_eq hdP tyP suP s_M_P) Gpn.irr Gps.irr Gpe.irr Gmn.irr Gma.irr Gmz.irr⟩
  have HSe : FnEd l.prog w K mg base "_law_seen" 1 ["_law_thing"] (sp_seenE K) := ⟨_, _, PySem.W.mg_of X G aSe, kSe, bSe, ok_seenE FSe T F4⟩
  have HSa : FnEd l.prog w K mg base "_law_said" 2 ["_law_e"] (sp_said K [CY0, CY1, CY2, CY3, CY4, CY5, CY6, CY7] CYB CYV (fun i => decide (i = 7)) (fun i => !decide (i = 7)) fld8) := ⟨_, _, PySem.W.mg_of X G aSa, kSa, bSa, ok_said8 FSa T E8 HSe⟩
  have HSa3 : FnEd l.prog w K mg base "_law_said" 3 ["_law_e"] (sp_said K [CY0, CY1, CY2, CY3, CY4, CY5, CY6, CY7] CYB CYV (fun i => decide (i = 7)) (fun i => !decide (i = 7)) fld8) := HSa.mono (by decide)
  have GC : Ctch l.prog w K mg base 3 CYV CYB CYA (sp_said K [CY0, CY1, CY2, CY3, CY4, CY5, CY6, CY7] CYB CYV (fun i => decide (i = 7)) (fun i => !decide (i = 7)) fld8) (Irr (sp_seen3 K CP CM)) := ⟨⟨_, _, PySem.W.mg_of X G aCg, FCg, bCg⟩, E8.gV, E8.gB, PySem.W.mg_of X G nYA, HSa3, GSe.irr⟩
  have GLn : Fn l.prog w K mg base "_law_is_name" 1 ["_law_word"] (sp_lname) := ⟨_, _, PySem.W.mg_of X G aLn, kLn, bLn, ok_lname FLn T⟩
  have GBn : Fn l.prog w K mg base "_law_bent_name" 3 ["_law_well_here"] (sp_bent) := ⟨_, _, PySem.W.mg_of X G aBn, kBn, bBn, ok_bent_name FBn GDi.irr GNa.irr GSg.irr⟩
  have GVa : Fn l.prog w K mg base "_law_value" 4 ["_law_well_here"] (sp_value K) := ⟨_, _, PySem.W.mg_of X G aVa, kVa, bVa, ok_value FVa GDi.irr GNa.irr GOd.irr GBn.irr⟩
  have GFb : Fn l.prog w K mg base "_law_first_bad" 2 ["_law_some"] (sp_fbad K) := ⟨_, _, PySem.W.mg_of X G aFb, kFb, bFb, ok_first_bad FFb T GLn.irr⟩
  have GPr : ∀ T, T = [(tPr, ("_law_pipe_right" : Str) ++ ".<locals>." ++ "<lambda>"), (tMr, ("_law_meter_right" : Str) ++ ".<locals>." ++ "<lambda>"), (tLa, ("law" : Str) ++ ".<locals>." ++ "<lambda>")] → FnGd l.prog w K mg base "_law_pipe_right" 9 ["_law_well_here"] (Irr (sp_lright T 600000 100)) := fun TT e => FnGd.irr ⟨_, _, PySem.W.mg_of X G aPr, kPr, bPr, ok_pipe_right FPr T tbPr (by rw [e]; simp) (by
      intro p hp q
      rw [e] at hp
      simp only [List.mem_cons, List.not_mem_nil, or_false] at hp
      rcases hp with rfl | rfl | rfl
      · rfl
      · exact absurd q.symm d_Pr_Mr
      · exact absurd q.symm d_Pr_La) Q2 Q3 GDi.irr GVa.irr GFb.irr GSe.irr GC PX0.irr PXK.irr⟩
  have GMr : ∀ T, T = [(tPr, ("_law_pipe_right" : Str) ++ ".<locals>." ++ "<lambda>"), (tMr, ("_law_meter_right" : Str) ++ ".<locals>." ++ "<lambda>"), (tLa, ("law" : Str) ++ ".<locals>." ++ "<lambda>")] → FnGd l.prog w K mg base "_law_meter_right" 9 ["_law_well_here"] (Irr (sp_lright T 600000 100)) := fun TT e => FnGd.irr ⟨_, _, PySem.W.mg_of X G aMr, kMr, bMr, ok_meter_right FMr T (PySem.W.mg_none_of X G b_bool) tbMr (by rw [e]; simp) (by
      intro p hp q
      rw [e] at hp
      simp only [List.mem_cons, List.not_mem_nil, or_false] at hp
      rcases hp with rfl | rfl | rfl
      · exact absurd q d_Pr_Mr
      · rfl
      · exact absurd q.symm d_Mr_La) Q2 Q4 GDi.irr GOd.irr GVa.irr GFb.irr GSe.irr GC MX2.irr MXK.irr⟩
  exact ok_law FLa T d_Pr_Mr d_Pr_La d_Mr_La tbLa Q2 Q4 GWe GC MX2.irr GPr GMr
end RV
namespace HV
open PySem PySem.W PySem.Calls PyProof.Rows
/-- the same as left_oneK, with the tables that the law's lambdas use -/
theorem left_oneM {p q : Program} {loose : List PySem.Str} {Xt : Shared → Bool} {K : Params → Frag} {as : List Addr} {ek : ∀ P, as = (K P).map (·.1)} {ts : List Addr} {N M : Nat}
    (e : opening p = plainProg p.main.scope.names) (hN : Nat.ble 600 N = true) (f : ∀ s, fenceModules? p s = some s) (le : Nat.ble M N = true)
    (run : ∀ (w : World) (os : OsState), (HeadRun.endF (HeadRun.stepQ (HeadRun.denQ HeadRun.tabQ) p w) M p w os).map (fun s => (HeadRun.looksF p (boot_heap w.params) s.abs, HeadRun.seenQ q loose (importedModules p.main.body) Xt s.abs, (as.map (HeadRun.getT s), ts.map (HeadRun.getT s)))) = some (true, openGood q loose, ((K w.params).map fun x => some x.2, ts.map fun _ => some (tabObj #[])))) :
    LeftO p q loose Xt (Hook.obs (kmHook K as ek ts)) (Hook.val (kmHook K as ek ts)) N true :=
  HeadRun.left_one (M := M) e hN f le fun w os => by
    have z := run w os
    have eo : (fun s : SharedT => (HeadRun.looksF p (boot_heap w.params) s.abs, HeadRun.seenQ q loose (importedModules p.main.body) Xt s.abs, (as.map (HeadRun.getT s), ts.map (HeadRun.getT s)))) = fun s => (HeadRun.looksF p (boot_heap w.params) s.abs, HeadRun.seenQ q loose (importedModules p.main.body) Xt s.abs, Hook.obs (kmHook K as ek ts) s.abs) := by
      funext s
      have q1 : as.map (HeadRun.getT s) = as.map s.abs.heap.get? := List.map_congr_left fun a _ => HeadRun.getT_eq s a
      have q2 : ts.map (HeadRun.getT s) = ts.map s.abs.heap.get? := List.map_congr_left fun a _ => HeadRun.getT_eq s a
      rw [q1, q2]
      rfl
    rw [eo] at z
    simp only [HeadRun.endQ_eq, HeadRun.seenQ_eq]
    exact z
def hview : Program := { PySem.Challenge.pw_ringvotes_k10_pipes_and_meters_refused with main := { PySem.Challenge.pw_ringvotes_k10_pipes_and_meters_refused.main with body := [PySem.Challenge.pw_ringvotes_k10_pipes_and_meters_refused.main.body.getD 67 (.Pass ⟨0, 0, 0, 0⟩), PySem.Challenge.pw_ringvotes_k10_pipes_and_meters_refused.main.body.getD 68 (.Pass ⟨0, 0, 0, 0⟩), PySem.Challenge.pw_ringvotes_k10_pipes_and_meters_refused.main.body.getD 69 (.Pass ⟨0, 0, 0, 0⟩)] } }
def hloose0 : List PySem.Str := [PySem.Str.ofString "_wall", PySem.Str.ofString "_LETTERS", PySem.Str.ofString "_DIGITS", PySem.Str.ofString "_LONGEST_NAME", PySem.Str.ofString "_PIECE", PySem.Str.ofString "_PIECE_WORTH", PySem.Str.ofString "is_number", PySem.Str.ofString "is_name", PySem.Str.ofString "is_digits", PySem.Str.ofString "written_number", PySem.Str.ofString "read_number", PySem.Str.ofString "BadValue", PySem.Str.ofString "InvalidName", PySem.Str.ofString "InvalidEnd", PySem.Str.ofString "InvalidFlag", PySem.Str.ofString "InvalidText", PySem.Str.ofString "InvalidNumber", PySem.Str.ofString "NotAMeter", PySem.Str.ofString "NotASum", PySem.Str.ofString "InvalidPipes", PySem.Str.ofString "InvalidMeters", PySem.Str.ofString "InvalidTerms", PySem.Str.ofString "BadName", PySem.Str.ofString "UnknownName", PySem.Str.ofString "NoAnswer", PySem.Str.ofString "MOST_PIPES", PySem.Str.ofString "MOST_METERS", PySem.Str.ofString "Pipe", PySem.Str.ofString "Meter", PySem.Str.ofString "Net"]
def hloose1 : List PySem.Str := [PySem.Str.ofString "_check_names", PySem.Str.ofString "_check_pipes", PySem.Str.ofString "_check_meters", PySem.Str.ofString "_index_of", PySem.Str.ofString "_lines", PySem.Str.ofString "_pipe_line", PySem.Str.ofString "_meter_line", PySem.Str.ofString "_rows_in", PySem.Str.ofString "_pipes_in", PySem.Str.ofString "_meters_in", PySem.Str.ofString "Sum", PySem.Str.ofString "_check_terms", PySem.Str.ofString "_is_term", PySem.Str.ofString "_collected", PySem.Str.ofString "_written_terms", PySem.Str.ofString "_written_further", PySem.Str.ofString "_without_sign", PySem.Str.ofString "_terms_in", PySem.Str.ofString "_with_sign_apart", PySem.Str.ofString "_read_term", PySem.Str.ofString "_law_well", PySem.Str.ofString "_law_dip", PySem.Str.ofString "_law_name", PySem.Str.ofString "_law_sign", PySem.Str.ofString "_law_odd", PySem.Str.ofString "_law_seen", PySem.Str.ofString "_law_said", PySem.Str.ofString "_law_caught", PySem.Str.ofString "_law_is_name", PySem.Str.ofString "_law_bent_name"]
def hloose2 : List PySem.Str := [PySem.Str.ofString "_law_value", PySem.Str.ofString "_law_first_bad"]
def hloose : List PySem.Str := hloose0 ++ hloose1 ++ hloose2
end HV
set_option hygiene false in
open PySem PySem.W PySem.Calls PyProof.Rows in
local macro_rules | `(tactic| o_head $H) => `(tactic| ((refine holds_open (q := HV.hview) (loose := HV.hloose) (Xt := fun s => xlAt HV.hview [] s && recOk (RowW.records (OpenRow.toRowW (OpenLaw.row PySem.Challenge.rw_ringvotes_k10_pipes_and_meters_refused))) s) (XP := XL HV.hview []) (Yf := Hook.obs $H) (Ya := Hook.val $H) (YP := Hook.says $H) (N := 16042) ?hl (Hook.of $H) (Hook.keeps $H) (fun s e => xl_of s (Bool.and_eq_true_iff.mp e).1) XL.keeps (by rfl) (by rfl) (by rfl) (fun s e => recFacts_of (Bool.and_eq_true_iff.mp e).2) (by rfl) (by first | assumption | decide +kernel) (by decide +kernel) ⟨rfl, rfl, rfl, rfl, rfl, by decide +kernel⟩ ?hw ?hc); (case hl => (refine HV.left_oneM (M := 15342) (by kernel_rfl) (by rfl) (fun s => by kernel_rfl) (by rfl) ?_; intro w os; kernel_rfl))))
open PySem PySem.W PyProof.Rows in
set_option maxRecDepth 100000 in
set_option maxHeartbeats 0 in
theorem PySem.Challenge.cw_ringvotes_k10_pipes_and_meters_refused_holds : PySem.Challenge.rw_ringvotes_k10_pipes_and_meters_refused.Holds := by
  w_on; o_law; k_head; (case hw => w_witness2)
  k_fill
  refine RV.walkGT "_law_cells" 10 ["_law_pipe_right", "_law_meter_right", "law"] (l := PySem.Challenge.rw_ringvotes_k10_pipes_and_meters_refused) ⟨rfl, by decide, by decide⟩ rfl rfl ?XS (fun w h Y => PySem.W.km_in_of Y) ?F
  case XS =>
    intro y hy
    simp only [List.mem_cons, List.not_mem_nil, or_false] at hy
    rcases hy with rfl | rfl | rfl <;> exact ⟨_, rfl⟩
  case F =>
    intro w mg fa h KX G hmg
    refine' RV.all_mk KX G hmg ?b_len ?b_int ?b_abs ?b_max ?b_min ?b_all ?b_any ?b_repr ?b_range ?b_divmod ?b_isinstance ?b_str ?b_sum ?b_sorted ?b_set ?b_tuple ?b_enumerate ?b_bool ?g__LETTERS ?g__DIGITS ?g__LONGEST_NAME ?g_MOST_PIPES ?g_MOST_METERS ?aIn ?lIn ?cIn ?kIn ?aCn ?lCn ?cCn ?kCn ?nP ?pgP ?hdP ?poP ?saP ?mkP ?kcP ?haP ?hmP ?tyP ?suP ?obP ?noP0 ?noP1 ?noP2 ?nM ?pgM ?hdM ?poM ?saM ?mkM ?kcM ?haM ?hmM ?tyM ?suM ?obM ?noM0 ?noM1 ?noM2 ?hn ?htk ?neP ?neM ?aPi ?iPi ?lPi ?cPi ?kPi ?aMi ?iMi ?lMi ?cMi ?kMi ?kd ?apn ?gpn ?tpn ?rpn_ ?lpn ?cpn ?kpn ?aps ?gps ?tps ?rps_ ?lps ?cps ?kps ?ape ?gpe ?tpe ?rpe_ ?lpe ?cpe ?kpe ?amn ?gmn ?tmn ?rmn_ ?lmn ?cmn ?kmn ?ama ?gma ?tma ?rma_ ?lma ?cma ?kma ?amz ?gmz ?tmz ?rmz_ ?lmz ?cmz ?kmz ?aPq ?iPq ?lPq ?cPq ?kPq ?fiPq ?aMq ?iMq ?lMq ?cMq ?kMq ?fiMq ?nY0 ?hdY0 ?tyY0 ?suY0 ?nY1 ?hdY1 ?tyY1 ?suY1 ?nY2 ?hdY2 ?tyY2 ?suY2 ?inY2 ?ovY2 ?saY2 ?ebY2 ?kpY2 ?gaY2 ?ggY2 ?haY2 ?hmY2 ?tkY2 ?noY2 ?aiY2 ?iiY2 ?liY2 ?ciY2 ?kiY2 ?tiY2 ?nY3 ?hdY3 ?tyY3 ?suY3 ?inY3 ?ovY3 ?saY3 ?ebY3 ?kpY3 ?gaY3 ?ggY3 ?haY3 ?hmY3 ?tkY3 ?noY3 ?aiY3 ?iiY3 ?liY3 ?ciY3 ?kiY3 ?tiY3 ?nY4 ?hdY4 ?tyY4 ?suY4 ?inY4 ?ovY4 ?saY4 ?ebY4 ?kpY4 ?gaY4 ?ggY4 ?haY4 ?hmY4 ?tkY4 ?noY4 ?aiY4 ?iiY4 ?liY4 ?ciY4 ?kiY4 ?tiY4 ?nY5 ?hdY5 ?tyY5 ?suY5 ?nY6 ?hdY6 ?tyY6 ?suY6 ?nY7 ?hdY7 ?tyY7 ?suY7 ?nYV ?hdYV ?tyYV ?suYV ?ebYV ?nYB ?hdYB ?tyYB ?suYB ?ebYB ?nYA ?hdYA ?tyYA ?suYA ?ebYA ?s_Y2_Y0 ?s_Y2_Y1 ?s_Y2_Y3 ?s_Y2_Y4 ?s_Y2_Y5 ?s_Y2_Y6 ?s_Y2_Y7 ?s_Y2_YB ?s_Y2_YV ?s_Y2_YA ?s_Y3_Y0 ?s_Y3_Y1 ?s_Y3_Y2 ?s_Y3_Y4 ?s_Y3_Y5 ?s_Y3_Y6 ?s_Y3_Y7 ?s_Y3_YB ?s_Y3_YV ?s_Y3_YA ?s_Y4_Y0 ?s_Y4_Y1 ?s_Y4_Y2 ?s_Y4_Y3 ?s_Y4_Y5 ?s_Y4_Y6 ?s_Y4_Y7 ?s_Y4_YB ?s_Y4_YV ?s_Y4_YA ?nN ?hdN ?tyN ?suN ?nS ?hdS ?tyS ?suS ?alP_NoneType ?alP_bool ?alP_int ?alP_str ?alP_list ?alP_tuple ?alP_dict ?alM_NoneType ?alM_bool ?alM_int ?alM_str ?alM_list ?alM_tuple ?alM_dict ?alN_NoneType ?alN_bool ?alN_int ?alN_str ?alN_list ?alN_tuple ?alN_dict ?alS_NoneType ?alS_bool ?alS_int ?alS_str ?alS_list ?alS_tuple ?alS_dict ?s_M_P ?aWe ?lWe ?cWe ?kWe ?aDi ?lDi ?cDi ?kDi ?aNa ?lNa ?cNa ?kNa ?aSg ?lSg ?cSg ?kSg ?aOd ?lOd ?cOd ?kOd ?aSe ?lSe ?cSe ?kSe ?aSa ?lSa ?cSa ?kSa ?aCg ?lCg ?cCg ?kCg ?aLn ?lLn ?cLn ?kLn ?aBn ?lBn ?cBn ?kBn ?aVa ?lVa ?cVa ?kVa ?aFb ?lFb ?cFb ?kFb ?aPr ?lPr ?cPr_ ?kPr ?lcPr ?vPr ?n_Pr ?aMr ?lMr ?cMr_ ?kMr ?lcMr ?vMr ?n_Mr ?aLa ?lLa ?cLa_ ?kLa ?lcLa ?vLa ?n_La ?d_Pr_Mr ?d_Pr_La ?d_Mr_La
    (case b_len => k_is)
    (case b_int => k_is)
    (case b_abs => k_is)
    (case b_max => k_is)
    (case b_min => k_is)
    (case b_all => k_is)
    (case b_any => k_is)
    (case b_repr => k_is)
    (case b_range => k_is)
    (case b_divmod => k_is)
    (case b_isinstance => k_is)
    (case b_str => k_is)
    (case b_sum => k_is)
    (case b_sorted => k_is)
    (case b_set => k_is)
    (case b_tuple => k_is)
    (case b_enumerate => k_is)
    (case b_bool => k_is)
    (case g__LETTERS => k_is)
    (case g__DIGITS => k_is)
    (case g__LONGEST_NAME => k_is)
    (case g_MOST_PIPES => k_is)
    (case g_MOST_METERS => k_is)
    (case aIn => k_is)
    (case lIn => k_is)
    (case cIn => k_is)
    (case kIn => k_is)
    (case aCn => k_is)
    (case lCn => k_is)
    (case cCn => k_is)
    (case kCn => k_is)
    (case nP => k_is)
    (case pgP => k_is)
    (case hdP => k_is)
    (case poP => k_is)
    (case saP => k_is)
    (case mkP => k_is)
    (case kcP => k_is)
    (case haP => k_is)
    (case hmP => k_is)
    (case tyP => k_is)
    (case suP => k_is)
    (case obP => k_is)
    (case noP0 => k_is)
    (case noP1 => k_is)
    (case noP2 => k_is)
    (case nM => k_is)
    (case pgM => k_is)
    (case hdM => k_is)
    (case poM => k_is)
    (case saM => k_is)
    (case mkM => k_is)
    (case kcM => k_is)
    (case haM => k_is)
    (case hmM => k_is)
    (case tyM => k_is)
    (case suM => k_is)
    (case obM => k_is)
    (case noM0 => k_is)
    (case noM1 => k_is)
    (case noM2 => k_is)
    (case hn => k_is)
    (case htk => k_is)
    (case neP => k_is)
    (case neM => k_is)
    (case aPi => k_is)
    (case iPi => k_is)
    (case lPi => k_is)
    (case cPi => k_is)
    (case kPi => k_is)
    (case aMi => k_is)
    (case iMi => k_is)
    (case lMi => k_is)
    (case cMi => k_is)
    (case kMi => k_is)
    (case kd => k_is)
    (case apn => k_is)
    (case gpn => k_is)
    (case tpn => k_is)
    (case rpn_ => k_is)
    (case lpn => k_is)
    (case cpn => k_is)
    (case kpn => k_is)
    (case aps => k_is)
    (case gps => k_is)
    (case tps => k_is)
    (case rps_ => k_is)
    (case lps => k_is)
    (case cps => k_is)
    (case kps => k_is)
    (case ape => k_is)
    (case gpe => k_is)
    (case tpe => k_is)
    (case rpe_ => k_is)
    (case lpe => k_is)
    (case cpe => k_is)
    (case kpe => k_is)
    (case amn => k_is)
    (case gmn => k_is)
    (case tmn => k_is)
    (case rmn_ => k_is)
    (case lmn => k_is)
    (case cmn => k_is)
    (case kmn => k_is)
    (case ama => k_is)
    (case gma => k_is)
    (case tma => k_is)
    (case rma_ => k_is)
    (case lma => k_is)
    (case cma => k_is)
    (case kma => k_is)
    (case amz => k_is)
    (case gmz => k_is)
    (case tmz => k_is)
    (case rmz_ => k_is)
    (case lmz => k_is)
    (case cmz => k_is)
    (case kmz => k_is)
    (case aPq => k_is)
    (case iPq => k_is)
    (case lPq => k_is)
    (case cPq => k_is)
    (case kPq => k_is)
    (case fiPq => k_is)
    (case aMq => k_is)
    (case iMq => k_is)
    (case lMq => k_is)
    (case cMq => k_is)
    (case kMq => k_is)
    (case fiMq => k_is)
    (case nY0 => k_is)
    (case hdY0 => k_is)
    (case tyY0 => k_is)
    (case suY0 => k_is)
    (case nY1 => k_is)
    (case hdY1 => k_is)
    (case tyY1 => k_is)
    (case suY1 => k_is)
    (case nY2 => k_is)
    (case hdY2 => k_is)
    (case tyY2 => k_is)
    (case suY2 => k_is)
    (case inY2 => kx_is)
    (case ovY2 => kx_is)
    (case saY2 => k_is)
    (case ebY2 => k_is)
    (case kpY2 => k_is)
    (case gaY2 => k_is)
    (case ggY2 => k_is)
    (case haY2 => k_is)
    (case hmY2 => k_is)
    (case tkY2 => k_is)
    (case noY2 => k_is)
    (case aiY2 => k_is)
    (case iiY2 => k_is)
    (case liY2 => k_is)
    (case ciY2 => k_is)
    (case kiY2 => k_is)
    (case tiY2 => k_is)
    (case nY3 => k_is)
    (case hdY3 => k_is)
    (case tyY3 => k_is)
    (case suY3 => k_is)
    (case inY3 => kx_is)
    (case ovY3 => kx_is)
    (case saY3 => k_is)
    (case ebY3 => k_is)
    (case kpY3 => k_is)
    (case gaY3 => k_is)
    (case ggY3 => k_is)
    (case haY3 => k_is)
    (case hmY3 => k_is)
    (case tkY3 => k_is)
    (case noY3 => k_is)
    (case aiY3 => k_is)
    (case iiY3 => k_is)
    (case liY3 => k_is)
    (case ciY3 => k_is)
    (case kiY3 => k_is)
    (case tiY3 => k_is)
    (case nY4 => k_is)
    (case hdY4 => k_is)
    (case tyY4 => k_is)
    (case suY4 => k_is)
    (case inY4 => kx_is)
    (case ovY4 => kx_is)
    (case saY4 => k_is)
    (case ebY4 => k_is)
    (case kpY4 => k_is)
    (case gaY4 => k_is)
    (case ggY4 => k_is)
    (case haY4 => k_is)
    (case hmY4 => k_is)
    (case tkY4 => k_is)
    (case noY4 => k_is)
    (case aiY4 => k_is)
    (case iiY4 => k_is)
    (case liY4 => k_is)
    (case ciY4 => k_is)
    (case kiY4 => k_is)
    (case tiY4 => k_is)
    (case nY5 => k_is)
    (case hdY5 => k_is)
    (case tyY5 => k_is)
    (case suY5 => k_is)
    (case nY6 => k_is)
    (case hdY6 => k_is)
    (case tyY6 => k_is)
    (case suY6 => k_is)
    (case nY7 => k_is)
    (case hdY7 => k_is)
    (case tyY7 => k_is)
    (case suY7 => k_is)
    (case nYV => k_is)
    (case hdYV => k_is)
    (case tyYV => k_is)
    (case suYV => k_is)
    (case ebYV => k_is)
    (case nYB => k_is)
    (case hdYB => k_is)
    (case tyYB => k_is)
    (case suYB => k_is)
    (case ebYB => k_is)
    (case nYA => k_is)
    (case hdYA => k_is)
    (case tyYA => k_is)
    (case suYA => k_is)
    (case ebYA => k_is)
    (case s_Y2_Y0 => k_is)
    (case s_Y2_Y1 => k_is)
    (case s_Y2_Y3 => k_is)
    (case s_Y2_Y4 => k_is)
    (case s_Y2_Y5 => k_is)
    (case s_Y2_Y6 => k_is)
    (case s_Y2_Y7 => k_is)
    (case s_Y2_YB => k_is)
    (case s_Y2_YV => k_is)
    (case s_Y2_YA => k_is)
    (case s_Y3_Y0 => k_is)
    (case s_Y3_Y1 => k_is)
    (case s_Y3_Y2 => k_is)
    (case s_Y3_Y4 => k_is)
    (case s_Y3_Y5 => k_is)
    (case s_Y3_Y6 => k_is)
    (case s_Y3_Y7 => k_is)
    (case s_Y3_YB => k_is)
    (case s_Y3_YV => k_is)
    (case s_Y3_YA => k_is)
    (case s_Y4_Y0 => k_is)
    (case s_Y4_Y1 => k_is)
    (case s_Y4_Y2 => k_is)
    (case s_Y4_Y3 => k_is)
    (case s_Y4_Y5 => k_is)
    (case s_Y4_Y6 => k_is)
    (case s_Y4_Y7 => k_is)
    (case s_Y4_YB => k_is)
    (case s_Y4_YV => k_is)
    (case s_Y4_YA => k_is)
    (case nN => k_is)
    (case hdN => k_is)
    (case tyN => k_is)
    (case suN => k_is)
    (case nS => k_is)
    (case hdS => k_is)
    (case tyS => k_is)
    (case suS => k_is)
    (case alP_NoneType => k_is)
    (case alP_bool => k_is)
    (case alP_int => k_is)
    (case alP_str => k_is)
    (case alP_list => k_is)
    (case alP_tuple => k_is)
    (case alP_dict => k_is)
    (case alM_NoneType => k_is)
    (case alM_bool => k_is)
    (case alM_int => k_is)
    (case alM_str => k_is)
    (case alM_list => k_is)
    (case alM_tuple => k_is)
    (case alM_dict => k_is)
    (case alN_NoneType => k_is)
    (case alN_bool => k_is)
    (case alN_int => k_is)
    (case alN_str => k_is)
    (case alN_list => k_is)
    (case alN_tuple => k_is)
    (case alN_dict => k_is)
    (case alS_NoneType => k_is)
    (case alS_bool => k_is)
    (case alS_int => k_is)
    (case alS_str => k_is)
    (case alS_list => k_is)
    (case alS_tuple => k_is)
    (case alS_dict => k_is)
    (case s_M_P => k_is)
    (case aWe => k_is)
    (case lWe => k_is)
    (case cWe => k_is)
    (case kWe => k_is)
    (case aDi => k_is)
    (case lDi => k_is)
    (case cDi => k_is)
    (case kDi => k_is)
    (case aNa => k_is)
    (case lNa => k_is)
    (case cNa => k_is)
    (case kNa => k_is)
    (case aSg => k_is)
    (case lSg => k_is)
    (case cSg => k_is)
    (case kSg => k_is)
    (case aOd => k_is)
    (case lOd => k_is)
    (case cOd => k_is)
    (case kOd => k_is)
    (case aSe => k_is)
    (case lSe => k_is)
    (case cSe => k_is)
    (case kSe => k_is)
    (case aSa => k_is)
    (case lSa => k_is)
    (case cSa => k_is)
    (case kSa => k_is)
    (case aCg => k_is)
    (case lCg => k_is)
    (case cCg => k_is)
    (case kCg => k_is)
    (case aLn => k_is)
    (case lLn => k_is)
    (case cLn => k_is)
    (case kLn => k_is)
    (case aBn => k_is)
    (case lBn => k_is)
    (case cBn => k_is)
    (case kBn => k_is)
    (case aVa => k_is)
    (case lVa => k_is)
    (case cVa => k_is)
    (case kVa => k_is)
    (case aFb => k_is)
    (case lFb => k_is)
    (case cFb => k_is)
    (case kFb => k_is)
    (case aPr => k_is)
    (case lPr => k_is)
    (case cPr_ => k_is)
    (case kPr => k_is)
    (case lcPr => k_is)
    (case vPr => exact rfl)
    (case n_Pr => exact rfl)
    (case aMr => k_is)
    (case lMr => k_is)
    (case cMr_ => k_is)
    (case kMr => k_is)
    (case lcMr => k_is)
    (case vMr => exact rfl)
    (case n_Mr => exact rfl)
    (case aLa => k_is)
    (case lLa => k_is)
    (case cLa_ => k_is)
    (case kLa => k_is)
    (case lcLa => k_is)
    (case vLa => exact rfl)
    (case n_La => exact rfl)
    (case d_Pr_Mr => decide)
    (case d_Pr_La => decide)
    (case d_Mr_La => decide)
