import PyProof.Rows.All
import Wide.All
import OpenK.AllK
import Wide.FinOn
import HandS.ForMost
import HandS.WideBits
import HandS.Wide
import HandS.IsInst
import HandS.Property
import HandS.MakeKwOnly
import HandS.Defaults
import HandS.OwnEq
import HandS.Steps
import HandS.TupLe
import KE.GoesMore
import HandS.TupSets
import HandS.SetFor
import HandS.Strs
import PyProof.Rows.SortShellAny
import HandS.Words
import HandS.Style
import HandS.WordsDict
import HandS.More
import PyProof.Rows.RegStrFacts
import HandS.RaiseMore
import HandS.Text
import HandS.StrMore
import HandS.FStr
import KE.KCallOwn
import PyProof.EqKinds
import PyProof.Raises
import HandS.ClsMeth
import HandS.CallLocal
import HandS.Walk
import HandS.Iter
import KE.KOpsOwn
import PyProof.TwoTypes
import HandS.TupAny
import HandS.Star
import HandS.Zip
import KE.KTupSum
import HandS.SetBool
import KE.GoesNew
import HandS.DictComp
import HandS.SortRule
import KE.KSortedM
import KE.KSortTupG
import HandS.TupMul
import PySem.Challenge.RW_ringvotes_k47_rules_made
set_option Elab.async false
set_option maxRecDepth 100000
set_option maxHeartbeats 8000000
/-! What every law of this program shares: the well from which it draws, what is known of the heap, the end. -/
namespace RV
open PySem L2

/-! ### what is known of the heap -/
/-- a list of three ints from which numbers are drawn, at a; at most n draws so far -/
def WellAt (H : Hp) (a : Addr) (n : Nat) : Prop :=
  ∃ x y z : Int, H a = some (.lst [.int x, .int y, .int z]) ∧ (0 ≤ x ∧ x < 2147483629) ∧ 0 ≤ y ∧ (0 ≤ z ∧ z ≤ n)
/-- all but the well stands as it stood -/
def Grow (a : Addr) (H H' : Hp) : Prop := ∀ b o, b ≠ a → H b = some o → H' b = some o
theorem Grow.refl (a : Addr) (H : Hp) : Grow a H H := fun _ _ _ h => h
theorem Grow.trans {a : Addr} {H H1 H2 : Hp} (g : Grow a H H1) (k : Grow a H1 H2) : Grow a H H2 := fun b o n h => k b o n (g b o n h)
theorem Grow.new {a p : Addr} {H : Hp} {o : HO} (np : H p = none) : Grow a H (upd H p o) := fun b u _ h => by
  rw [upd_ne (ne_of_none h np)]
  exact h
/-- from the heap H0 on all but the well at a is kept; the well; things that stand elsewhere -/
structure Has (H0 : Hp) (a : Addr) (n : Nat) (L : List (Addr × HO)) (H : Hp) : Prop where
  gr : Grow a H0 H
  well : WellAt H a n
  here : ∀ p ∈ L, p.1 ≠ a ∧ H p.1 = some p.2
section
variable {a p : Addr} {n m : Nat} {L : List (Addr × HO)} {H0 H H' : Hp} {o : HO}
end

/-! ### the end -/
def spLaw (K : PySem.W.Frag) : Sp := fun vs H Q _ => ∃ (a : Addr) (ns : List Int), vs = [.ref a] ∧ SqL K H a (ns.map V.int) ∧ ns.length ≤ 63 ∧ ∀ H', Q (.bl true) H'
end RV
namespace RV
open PySem L2
section
variable {σ : L2.St} {H : Hp} {t : TT} {ta tb : TE} {Q : VK} {b : Bool}
/-- an int on either way: what follows is shown once -/
theorem tif_int (ht : Ans t σ H b) (ha : b = true → ∃ z : Int, Val ta σ H (.int z)) (hb : b = false → ∃ z : Int, Val tb σ H (.int z)) (k : ∀ z : Int, Q (.int z) H) : tIf t ta tb σ H Q := by
  refine ht _ ?_
  cases b with
  | true => exact iteT (let ⟨z, h⟩ := ha rfl; h _ (k z))
  | false => exact iteF (let ⟨z, h⟩ := hb rfl; h _ (k z))
end
/-- a function of the module, as its callers see it -/
def Fn (P : Program) (w : World) (K : PySem.W.Frag) (mg : Str → Option Value) (base : Heap) (x : Str) (k : Nat) (ps : List Str) (sp : Sp) : Prop :=
  ∃ f fd, mg x = some (.ref f) ∧ PySem.W.keepIn K (.ref f) = true ∧ Binds K fd ps [] ∧ FnOk P w K mg base CX0 k f fd ps sp
section
variable {X : Cx} {x : Str} {k : Nat} {ps : List Str} {sp : Sp} {e : Expr} {es : List Expr} {t : TA} {p pos : Pos}
theorem pe_fn (h : Fn X.prog X.w X.K X.mg X.base x k ps sp) (hr : Room k X.A) (ha : PA X (e :: es) t) (hg : Gl X x := by rfl) (hdb : (x == ("__debug__" : Str)) = false := by decide)
    (he : starEach (e :: es) X.env = (false, eval e X.env) :: starEach es X.env := by rfl) (hpl : (backTo pos (starEach es X.env)).any (·.1) = false := by rfl) :
    PE X (.Call (.Name x p) (e :: es) [] pos) (tCall sp [] E0 t) := by
  obtain ⟨f, fd, hm, hk, hb, F⟩ := h
  exact pe_call F hr hg hm hk hb .nil pass0 ha hdb he hpl
/-- a text, an int of the module's top -/
theorem pe_gS {z : Str} (h : ∃ u, X.mg x = some u ∧ RelV (.str z) u) (hg : Gl X x := by rfl) (hd : (x == ("__debug__" : Str)) = false := by decide) : PE X (.Name x pos) (tC (.str z)) := by
  obtain ⟨u, hm, r⟩ := h
  exact pe_glob hg hm r hd
theorem pe_gI {z : Int} (h : ∃ u, X.mg x = some u ∧ RelV (.int z) u) (hg : Gl X x := by rfl) (hd : (x == ("__debug__" : Str)) = false := by decide) : PE X (.Name x pos) (tC (.int z)) := by
  obtain ⟨u, hm, r⟩ := h
  exact pe_glob hg hm r hd
theorem pe_gC {C : Addr} (hm : X.mg x = some (.ref C)) (hg : Gl X x := by rfl) (hd : (x == ("__debug__" : Str)) = false := by decide) : PE X (.Name x pos) (tC (.ref C)) := pe_glob hg hm rfl hd
end
end RV
namespace RV
open PySem L2
/-! the same rules where the written part is a letter (within a comprehension's block) -/
section
variable {X : Cx} {K : PySem.W.Frag}
theorem op_notInK (h : X.K = K := by rfl) : OpR X (compareOp .NotIn) (rIn K true) := h ▸ op_notIn_seq
theorem ix_tupK (h : X.K = K := by rfl) : IxR X (rIxT K) := h ▸ ix_tup
def rLenQ (K : PySem.W.Frag) : List V → Hp → VK → Prop := fun xs H Q => ∃ p ys, xs = [.ref p] ∧ (SqL K H p ys ∨ SqT K H p ys) ∧ Q (.int ys.length) H
end
end RV
/-! Names: what they are, by their signs. -/
namespace RV
open PySem L2
def lowC (c : Nat) : Bool := decide (97 ≤ c) && decide (c ≤ 122)
def digC (c : Nat) : Bool := decide (48 ≤ c) && decide (c ≤ 57)
def tailC (c : Nat) : Bool := lowC c || digC c
/-- one to eight signs, letters and digits, a letter first -/
def isNm : List Nat → Bool
  | [] => false
  | c :: r => lowC c && r.all tailC && decide (r.length ≤ 7)
def IsNm (x : Str) : Prop := isNm x.cps.toList = true
abbrev cd (x : Str) : List Nat := x.cps.toList
theorem cd_inj {x y : Str} (h : cd x = cd y) : x = y := PyProof.Rows.ext_toList h
theorem cd_app (x y : Str) : cd (x ++ y) = cd x ++ cd y := by
  show (x ++ y).cps.toList = _
  exact Array.toList_append
theorem cd_len (x : Str) : x.length = (cd x).length := by
  show x.cps.size = x.cps.toList.length
  rw [Array.length_toList]
theorem cd_one (c : Nat) : cd ⟨#[c]⟩ = [c] := rfl
theorem isNm_iff {l : List Nat} : isNm l = true ↔ ∃ c r, l = c :: r ∧ lowC c = true ∧ r.all tailC = true ∧ r.length ≤ 7 := by
  cases l with
  | nil => simp [isNm]
  | cons c r =>
    constructor
    · intro h
      simp only [isNm, Bool.and_eq_true, decide_eq_true_eq] at h
      exact ⟨c, r, rfl, h.1.1, h.1.2, h.2⟩
    · rintro ⟨c', r', e, h1, h2, h3⟩
      cases e
      simp [isNm, h1, h2, h3]
theorem isNm_len {l : List Nat} (h : isNm l = true) : 1 ≤ l.length ∧ l.length ≤ 8 := by
  obtain ⟨c, r, rfl, _, _, h3⟩ := isNm_iff.mp h
  simp
  omega
theorem isNm_snoc {l : List Nat} {c : Nat} (h : isNm l = true) (hl : l.length ≤ 7) (hc : tailC c = true) : isNm (l ++ [c]) = true := by
  obtain ⟨d, r, rfl, h1, h2, _⟩ := isNm_iff.mp h
  refine isNm_iff.mpr ⟨d, r ++ [c], rfl, h1, ?_, ?_⟩
  · rw [List.all_append, h2]
    simp [hc]
  · simp at hl ⊢
    omega
theorem tail_of_low {c : Nat} (h : lowC c = true) : tailC c = true := by simp [tailC, h]
theorem isNm_all {l : List Nat} (h : isNm l = true) : l.all tailC = true := by
  obtain ⟨d, r, rfl, h1, h2, _⟩ := isNm_iff.mp h
  simp only [List.all_cons, tail_of_low h1, h2, Bool.and_self]
theorem all_take {l : List Nat} {k : Nat} (h : l.all tailC = true) : (l.take k).all tailC = true := by
  rw [List.all_eq_true] at h ⊢
  exact fun x hx => h x (List.mem_of_mem_take hx)
/-- the first signs of a name with more signs behind it -/
theorem isNm_cut {l m : List Nat} {k : Nat} (h : isNm l = true) (hm : m.all tailC = true) (h1 : 1 ≤ k) (h8 : k ≤ 8) : isNm ((l ++ m).take k) = true := by
  obtain ⟨d, r, rfl, a1, a2, _⟩ := isNm_iff.mp h
  obtain ⟨j, rfl⟩ : ∃ j, k = j + 1 := ⟨k - 1, by omega⟩
  refine isNm_iff.mpr ⟨d, (r ++ m).take j, by simp, a1, all_take ?_, ?_⟩
  · rw [List.all_append, a2, hm]
    rfl
  · rw [List.length_take]
    omega
theorem isNm_take {l : List Nat} {k : Nat} (h : isNm l = true) (h1 : 1 ≤ k) (h8 : k ≤ 8) : isNm (l.take k) = true := by
  have := isNm_cut (m := []) h rfl h1 h8
  rwa [List.append_nil] at this
def signs : Str := "abcdefghijklmnopqrstuvwxyz0123456789"
theorem cd_signs : cd signs = [97, 98, 99, 100, 101, 102, 103, 104, 105, 106, 107, 108, 109, 110, 111, 112, 113, 114, 115, 116, 117, 118, 119, 120, 121, 122, 48, 49, 50, 51, 52, 53, 54, 55, 56, 57] := by decide +kernel
theorem sign_low : ∀ i : Fin 26, ∃ c, (cd signs)[i.val]? = some c ∧ lowC c = true := by
  rw [cd_signs]
  intro i
  have h : ∀ i : Fin 26, (match ([97, 98, 99, 100, 101, 102, 103, 104, 105, 106, 107, 108, 109, 110, 111, 112, 113, 114, 115, 116, 117, 118, 119, 120, 121, 122, 48, 49, 50, 51, 52, 53, 54, 55, 56, 57] : List Nat)[i.val]? with | some c => lowC c | none => false) = true := by decide
  have hi := h i
  split at hi
  · rename_i c e
    exact ⟨c, e, hi⟩
  · cases hi
theorem sign_tail : ∀ i : Fin 36, ∃ c, (cd signs)[i.val]? = some c ∧ tailC c = true := by
  rw [cd_signs]
  intro i
  have h : ∀ i : Fin 36, (match ([97, 98, 99, 100, 101, 102, 103, 104, 105, 106, 107, 108, 109, 110, 111, 112, 113, 114, 115, 116, 117, 118, 119, 120, 121, 122, 48, 49, 50, 51, 52, 53, 54, 55, 56, 57] : List Nat)[i.val]? with | some c => tailC c | none => false) = true := by decide
  have hi := h i
  split at hi
  · rename_i c e
    exact ⟨c, e, hi⟩
  · cases hi
theorem at_low {r : Int} (h0 : 0 ≤ r) (h : r < 26) : ∃ c, atI (cd signs) r = some c ∧ lowC c = true := by
  obtain ⟨n, rfl⟩ := Int.eq_ofNat_of_zero_le h0
  obtain ⟨c, e, hc⟩ := sign_low ⟨n, by omega⟩
  exact ⟨c, atI_nat e, hc⟩
theorem at_tail {r : Int} (h0 : 0 ≤ r) (h : r < 36) : ∃ c, atI (cd signs) r = some c ∧ tailC c = true := by
  obtain ⟨n, rfl⟩ := Int.eq_ofNat_of_zero_le h0
  obtain ⟨c, e, hc⟩ := sign_tail ⟨n, by omega⟩
  exact ⟨c, atI_nat e, hc⟩
/-! slices of texts -/
theorem cd_cutS (z : Str) (lo hi : Option Int) : cd (cutS z lo hi) = ((cd z).drop (HT.sIx z.length 0 lo)).take (HT.sIx z.length z.length hi - HT.sIx z.length 0 lo) := by
  show (((z.cps.toList.drop _).take _).toArray).toList = _
  rfl
theorem sIx_some (n d : Nat) (k : Nat) : HT.sIx n d (some (k : Int)) = min k n := by
  unfold HT.sIx
  simp
  omega
theorem sIx_none (n d : Nat) : HT.sIx n d none = d := rfl
theorem cd_pre (z : Str) (k : Nat) : cd (cutS z none (some (k : Int))) = (cd z).take k := by
  rw [cd_cutS, sIx_none, sIx_some, List.drop_zero, Nat.sub_zero, cd_len]
  rw [← List.take_take, List.take_length]
theorem inV_str (x : Str) (xs : List Str) : inV (.str x) (xs.map V.str) = decide (x ∈ xs) := by
  induction xs with
  | nil => rfl
  | cons y ys ih =>
    show (eqV (.str y) (.str x) || inV (.str x) (ys.map V.str)) = _
    rw [ih]
    show ((y == x) || decide (x ∈ ys)) = _
    by_cases e : y = x
    · subst e
      simp
    · have e' : ¬ x = y := fun h => e h.symm
      simp [e, e']
theorem flat_str (xs : List Str) : (xs.map V.str).all flatV = true := by
  rw [List.all_eq_true]
  intro v hv
  obtain ⟨x, _, rfl⟩ := List.mem_map.mp hv
  rfl
/-- of more different things than a list has one is not in it -/
theorem one_free {α : Type} [DecidableEq α] : ∀ {ys xs : List α}, ys.Nodup → xs.length < ys.length → ∃ y ∈ ys, y ∉ xs
  | [], xs, _, h => by simp at h
  | y :: ys, xs, hn, h => by
    by_cases hy : y ∈ xs
    · obtain ⟨hy', hn'⟩ := List.nodup_cons.mp hn
      have hl : (xs.erase y).length < ys.length := by
        rw [List.length_erase_of_mem hy]
        have : 0 < xs.length := List.length_pos_of_mem hy
        simp at h
        omega
      obtain ⟨z, hz, hzx⟩ := one_free hn' hl
      refine ⟨z, List.mem_cons_of_mem _ hz, fun q => hzx ?_⟩
      have hne : z ≠ y := fun e => hy' (e ▸ hz)
      exact (List.mem_erase_of_ne hne).mpr q
    · exact ⟨y, List.mem_cons_self, hy⟩
/-! walks over any thing that is walked in order -/
theorem lc_it {J : It} {n : Nat} {g : TG} {tt : TT} {te : TE} {vs : List Nat} {σ : L2.St} {H1 : Hp} {D : Addr} {Qd : Hp → Prop} (Pv : Nat → Hp → Prop)
    (hgo : ∀ i H, i < n → Pv i H → J.go i H) (hst : ∀ H, Pv n H → J.stop n H) (h0 : Pv 0 (upd H1 D (.lst [])))
    (hs : ∀ i x H H', i < n → Pv i H → J.yld i H x H' → g x (wipe σ vs) H' fun σ2 H2 => wipe σ2 vs = wipe σ vs ∧ tt σ2 H2 fun b H3 =>
      if b = true then te σ2 H3 fun y H4 => ∃ acc, H4 D = some (.lst acc) ∧ acc.length < sizeLine ∧ Pv (i + 1) (upd H4 D (.lst (acc ++ [y]))) else Pv (i + 1) H3) (hd : ∀ H, Pv n H → Qd H) :
    ∃ W : Nat → Nat → Hp → Prop, (∃ m, W 0 m (upd H1 D (.lst []))) ∧ ∀ i m H, W i m H →
      (J.stop i H ∧ Qd H) ∨ (J.go i H ∧ ∃ Nx : Hp → Prop, (∀ H', Nx H' → ∃ m', m' < m ∧ W (i + 1) m' H') ∧ ∀ x H', J.yld i H x H' → g x (wipe σ vs) H' fun σ2 H2 => wipe σ2 vs = wipe σ vs ∧ tt σ2 H2 fun b H3 =>
        if b = true then te σ2 H3 fun y H4 => ∃ acc, H4 D = some (.lst acc) ∧ acc.length < sizeLine ∧ Nx (upd H4 D (.lst (acc ++ [y]))) else Nx H3) := by
  refine ⟨fun i m H => m = n - i ∧ i ≤ n ∧ Pv i H, ⟨n, by simp, Nat.zero_le _, h0⟩, ?_⟩
  rintro i m H ⟨rfl, hi, p⟩
  by_cases hlt : i < n
  · refine .inr ⟨hgo i H hlt p, Pv (i + 1), fun H' p' => ⟨n - (i + 1), by omega, rfl, hlt, p'⟩, fun x H' y => ?_⟩
    exact hs i x H H' hlt p y
  · have e : i = n := by omega
    subst e
    exact .inl ⟨hst H p, hd H p⟩
theorem lc_str {z : Str} {g : TG} {tt : TT} {te : TE} {vs : List Nat} {σ : L2.St} {H1 : Hp} {D : Addr} {Qd : Hp → Prop} (Pv : Nat → Hp → Prop) (h0 : Pv 0 (upd H1 D (.lst [])))
    (hs : ∀ i c H, (cd z)[i]? = some c → Pv i H → g (.str ⟨#[c]⟩) (wipe σ vs) H fun σ2 H2 => wipe σ2 vs = wipe σ vs ∧ tt σ2 H2 fun b H3 =>
      if b = true then te σ2 H3 fun y H4 => ∃ acc, H4 D = some (.lst acc) ∧ acc.length < sizeLine ∧ Pv (i + 1) (upd H4 D (.lst (acc ++ [y]))) else Pv (i + 1) H3) (hd : ∀ H, Pv (cd z).length H → Qd H) :
    ∃ W : Nat → Nat → Hp → Prop, (∃ m, W 0 m (upd H1 D (.lst []))) ∧ ∀ i m H, W i m H →
      ((Its z).stop i H ∧ Qd H) ∨ ((Its z).go i H ∧ ∃ Nx : Hp → Prop, (∀ H', Nx H' → ∃ m', m' < m ∧ W (i + 1) m' H') ∧ ∀ x H', (Its z).yld i H x H' → g x (wipe σ vs) H' fun σ2 H2 => wipe σ2 vs = wipe σ vs ∧ tt σ2 H2 fun b H3 =>
        if b = true then te σ2 H3 fun y H4 => ∃ acc, H4 D = some (.lst acc) ∧ acc.length < sizeLine ∧ Nx (upd H4 D (.lst (acc ++ [y]))) else Nx H3) :=
  lc_it (J := Its z) (n := (cd z).length) Pv (fun i _ h _ => by
    show i < z.cps.size
    rwa [← Array.length_toList]) (fun _ _ => by
    show z.cps.size ≤ (cd z).length
    rw [← Array.length_toList]
    exact Nat.le_refl _) h0 (fun i x H H' hi p y => by
    obtain ⟨e, c, hc, ex⟩ := y
    subst e ex
    exact hs i c H' (by rw [← hc]; exact Array.getElem?_toList ..) p) hd
end RV
namespace RV
open PySem L2
/-- what follows a statement is shown once, from what the statement leaves -/
theorem seq_of {t R : TS} {D : Ends} {σ : L2.St} {H : Hp} (mid : L2.St → Hp → Prop) (h2 : ∀ σ' H', mid σ' H' → R D σ' H') (h1 : ∀ N : L2.St → Hp → Prop, (∀ σ' H', mid σ' H' → N σ' H') → t { D with nx := N } σ H) : tSeq t R D σ H := h1 (R D) h2
theorem val_of {te : TE} {σ : L2.St} {H : Hp} {Q : VK} (mid : V → Hp → Prop) (k : ∀ v H', mid v H' → Q v H') (h : ∀ Q' : VK, (∀ v H', mid v H' → Q' v H') → te σ H Q') : te σ H Q := h Q k
theorem szn {n : Nat} (h : n ≤ 1000) : n ≤ sizeLine := Nat.le_trans h (by decide)
end RV
/-! Rules for own classes: ==, !=, truth; repr of data. -/
namespace PySem.W
open PySem PySem.Calls PyProof.Rows Builtin
section
variable {prog : Program} {w : World} {A : Around} {E : Value → Shared → Prop} {s : Shared} {K : Frag} {x C L f : Addr} {h₀ : Heap} {m : Str → Option Value} {ox : Obj} {od : Option Obj} {b tb : Value}
/-- the default !=, by the class's own == that gives a bool -/
theorem rv_ne_K {Q : Value → Shared → Prop} (hu : A.units + 1 < cLine) (F : Fr h₀ L s.heap m) (X₀ : K.In h₀) (I : InstAt s.heap x ox C od) (hb : Looks (model prog w) s.heap (typeOf b) tb) (hn : notFirst K C tb = true)
    (hs : findIn K (.ref C) "__eq__" = some (some (.ref f))) (hf : isFn K (.ref f) = true) (hne : findIn K (.ref C) "__ne__" = some (some (.builtin "object.__ne__"))) (hob : subIn K (.ref C) (.type "object") = some true)
    (h : wpAny (model prog w) A.in1 (call (.ref f) [.ref x, b]) (fun v s' => ∃ c, v = .bool c ∧ Q (.bool (!c)) s') E s) : wpAny (model prog w) A (richCompare .NotEq (.ref x) b) Q E s := by
  have X := X₀.keeps F.keep
  have entry : wpAny (model prog w) A.in1 (Builtin.«object.__ne__» ⟨[.ref x, b], []⟩) (fun fin s' => ∃ v, fin = .done (.ret v) ∧ ∃ c, v = .bool (!c) ∧ Q (.bool (!c)) s') E s := by
    unfold Builtin.«object.__ne__»
    refine wpAny_bind (m := slotArgs "__ne__" 1 _) (wpAny_pure ?_)
    refine wpAny_bind (wpAny_cRoomFor (show A.units + 1 < cLine from hu) ?_)
    refine wpAny_bind (m := callSpecialIfBound? (.ref x) (Str.ofString "__eq__") [b]) (ifBound_K X I hs hf (wpAny_mono h (fun v s' hv => ?_) fun _ _ e => e))
    obtain ⟨c, rfl, hq⟩ := hv
    refine wpAny_bind (m := truthy (.bool c)) (wpAny_truthy_bool ?_)
    exact wpAny_pure ⟨_, rfl, c, rfl, hq⟩
  have chk : wpAny (model prog w) A.in1 (checkBuiltinCall "object.__ne__" ⟨[.ref x, b], []⟩) (fun _ s1 => s1 = s) E s := by
    simp only [checkBuiltinCall, PySem.F.cmpKind_ne, PySem.F.cmpSplit_ne]
    refine wpAny_bind ?_
    unfold isInstance
    refine wpAny_bind (I.type.here ?_)
    refine (looks_subIn X hob).here ?_
    have ha : argsOk "object.__ne__" ⟨[.ref x, b], []⟩ := PySem.F.cmpArgs_ne _ _
    cases hsig : Manifest.signature? "object.__ne__" with
    | none => exact wpAny_pure rfl
    | some sig =>
      simp only [argsOk, hsig] at ha
      have h2 : Bind.checkArgs "object.__ne__" sig ⟨[.ref x, b], []⟩ = pure () := ha
      show wpAny _ A.in1 (Bind.checkArgs "object.__ne__" sig ⟨[.ref x, b], []⟩) _ E _
      rw [h2]
      exact wpAny_pure rfl
  have callne : wpAny (model prog w) A (call (.builtin "object.__ne__") [.ref x, b]) (fun v s' => ∃ c, v = .bool (!c) ∧ Q (.bool (!c)) s') E s := by
    refine wpAny_call (codeAny_call_builtin PySem.F.slot_object_ne.plain PySem.F.cmpEntry_ne (wpAny_mono chk (fun _ s1 e => ?_) fun _ _ e => e))
    subst e
    refine wpAny_mono entry (fun fin s' hq => ?_) fun _ _ e => e
    obtain ⟨v, rfl, c, rfl, q⟩ := hq
    exact ⟨c, rfl, q⟩
  have one : wpAny (model prog w) A (tryCompare (.ref x) "__ne__" b) (fun r s' => ∃ v, r = some v ∧ Q v s') E s := by
    unfold tryCompare
    refine wpAny_bind (m := callSpecialIfBound? (.ref x) (Str.ofString "__ne__") [b]) ?_
    simp only [callSpecialIfBound?, bindSpecialIfBound?]
    refine wpAny_holding (wpAny_bind (wpAny_bind (wpAny_bind (I.type.here ((looks_findIn X hne).here ?_)))))
    simp only [PySem.F.slot_object_ne.bind]
    refine wpAny_bind (wpAny_askSetting (wpAny_ite ?_))
    have fin : ∀ R : Option Value → Shared → Prop, (∀ (c : Bool) s', Q (.bool (!c)) s' → R (some (.bool (!c))) s') → wpAny (model prog w) A (call (.builtin "object.__ne__") ([.ref x] ++ [b]) >>= fun v => pure (some v)) R E s := by
      intro R hR
      refine wpAny_bind (wpAny_mono callne (fun v s' hq => ?_) fun _ _ e => e)
      obtain ⟨c, rfl, q⟩ := hq
      exact wpAny_pure (hR c s' q)
    split
    · exact wpAny_bind (wpAny_pure (wpAny_pure (fin _ fun c s' q => wpAny_pure ⟨_, rfl, q⟩)))
    · exact wpAny_tryCatch (wpAny_bind (wpAny_pure (wpAny_pure (fin _ fun c s' q => wpAny_pure ⟨_, rfl, q⟩))))
  unfold richCompare
  simp only [oneThing_ref]
  refine wpAny_holding (wpAny_bind (wpAny_cRoomFor (Nat.lt_of_succ_lt hu) ?_))
  rw [cmpInfo_NotEq]
  dsimp only
  refine wpAny_bind (I.type.here (wpAny_bind (hb.here ?_)))
  split
  · rename_i q
    have e : subIn K tb (.ref C) = some false := by
      rcases Bool.or_eq_true_iff.mp hn with e | e
      · rw [beq_iff_eq.mp e] at q; simp at q
      · exact beq_iff_eq.mp e
    refine wpAny_bind ((looks_subIn X e).here ?_)
    simp only [Bool.false_eq_true, if_false]
    refine wpAny_bind (wpAny_mono one (fun r s' z => ?_) fun _ _ e => e)
    obtain ⟨v, rfl, hq⟩ := z
    exact wpAny_pure hq
  · refine wpAny_bind (wpAny_pure ?_)
    simp only [Bool.false_eq_true, if_false]
    refine wpAny_bind (wpAny_mono one (fun r s' z => ?_) fun _ _ e => e)
    obtain ⟨v, rfl, hq⟩ := z
    exact wpAny_pure hq
end
end PySem.W

namespace RV
open PySem L2
/-- the kind of a value, for a comparison -/
inductive TyL (H : Hp) : V → Value → Prop where
  | non : TyL H .non (.type "NoneType")
  | bl (b : Bool) : TyL H (.bl b) (.type "bool")
  | int (i : Int) : TyL H (.int i) (.type "int")
  | str (x : Str) : TyL H (.str x) (.type "str")
  | lst {a : Addr} {xs : List V} (e : H a = some (.lst xs)) : TyL H (.ref a) (.type "list")
  | tup {a : Addr} {xs : List V} (e : H a = some (.tup xs)) : TyL H (.ref a) (.type "tuple")
  | dK {a : Addr} {kvs : List (Key × V)} (e : H a = some (.dK kvs)) : TyL H (.ref a) (.type "dict")
  | ins {a C dx : Addr} {fs : List (Str × V)} (e : H a = some (.ins C dx fs)) : TyL H (.ref a) (.ref C)
section
variable {X : Cx} {pins : List (Addr × Obj)} {σ : L2.St} {H : Hp} {s : Shared}
theorem looks_obj {M : Model} {h : Heap} {a : Addr} {o : Obj} {t : Value} (e : h.get? a = some o) (c : o.cls = t) : PySem.W.Looks M h (typeOf (.ref a)) t := by
  intro A Q E s k q
  exact wpAny_typeOf_ref (k _ _ e) (c ▸ q)
theorem TyL.looks (I : Inv X pins σ H s) {v : V} {u t : Value} (r : RelV v u) (ty : TyL H v t) : PySem.W.Looks (model X.prog X.w) s.heap (typeOf u) t := by
  cases ty with
  | non => cases r; exact PySem.W.Looks.of_pure rfl
  | bl b => cases r; exact PySem.W.Looks.of_pure rfl
  | int i => obtain ⟨_, rfl⟩ := r; exact PySem.W.Looks.of_pure rfl
  | str x => obtain ⟨_, rfl⟩ := r; exact PySem.W.Looks.of_pure rfl
  | lst e => cases r; obtain ⟨_, _, _, _, g⟩ := I.hok _ _ e; exact looks_obj g rfl
  | tup e => cases r; obtain ⟨_, _, _, o, g, c, _⟩ := I.hok _ _ e; exact looks_obj g c
  | dK e => cases r; obtain ⟨_, _, _, _, o, es, ep, g, c, _⟩ := I.hok _ _ e; exact looks_obj g c.1
  | ins e => cases r; obtain ⟨mA, J, _⟩ := ins_get I.hok e; obtain ⟨od, J, _⟩ := J.look; exact J.type

/-- the class C has an own == that promises sp, and no own != -/
structure OwnEq (P : Program) (w : World) (K : PySem.W.Frag) (mg : Str → Option Value) (base : Heap) (C : Addr) (k : Nat) (sp : Sp) : Prop where
  fn : ∃ f fd ps, PySem.W.findIn K (.ref C) "__eq__" = some (some (.ref f)) ∧ PySem.W.isFn K (.ref f) = true ∧ Binds K fd ps [] ∧ FnOk P w K mg base CX0 k f fd ps sp
  ne : PySem.W.findIn K (.ref C) "__ne__" = some (some (.builtin "object.__ne__"))
  ob : PySem.W.subIn K (.ref C) (.type "object") = some true
@[irreducible] def rEqO (neg : Bool) (K : PySem.W.Frag) (C : Addr) (sp : Sp) : R2 := fun x y H Q => ∃ a dx fs t, x = .ref a ∧ H a = some (.ins C dx fs) ∧ TyL H y t ∧ PySem.W.notFirst K C t = true ∧
  sp [x, y] H (fun v H' => ∃ b, v = .bl b ∧ Q (.bl (if neg then !b else b)) H') E0
variable {P : Program} {w : World} {K : PySem.W.Frag} {mg : Str → Option Value} {base : Heap} {C : Addr} {k : Nat} {sp : Sp}
theorem call_own {A : Around} {f : Addr} {fd : FuncData} {ps : List Str} {Q : VK} {x y : V} {u v : Value} (F : FnOk X.prog X.w X.K X.mg X.base CX0 k f fd ps sp) (hb : Binds X.K fd ps []) (hr : Room k A) (hf : A.frames = X.A.frames)
    (I : Inv X pins σ H s) (rx : RelV x u) (ry : RelV y v) (hsp : sp [x, y] H Q E0) : wpAny (model X.prog X.w) A (call (.ref f) [u, v]) (EP X pins σ Q) X.xe s := by
  have e0 : Env0 X.prog X.w X.K X.mg X.base A X.stack s H := by
    have e := I.env0
    exact ⟨by rw [hf]; exact e.frames, e.mod, e.bs, e.bsz, e.funs, e.frf, e.hok, e.bare⟩
  have hl := F.len _ _ _ _ hsp
  have r2 : Vals [x, y] [u, v] := .cons rx (.cons ry .nil)
  refine wpAny_call (codeAny_mono (F.run A X.stack s H ⟨[u, v], []⟩ [u, v] [x, y] _ E0 hr e0 (by
    have := hb s [u, v] I.kIn (by simpa using hl)
    simpa using this) r2 hsp) fun r s' hq => ?_)
  cases r with
  | error e => exact (hq : False).elim
  | ok fl =>
    cases fl with
    | ret w => exact I.after hq
    | next => exact False.elim hq
    | brk => exact False.elim hq
    | cont => exact False.elim hq
theorem op_eqO (h : OwnEq X.prog X.w X.K X.mg X.base C k sp) (hr : Room k X.A) : OpR X (compareOp .Eq) (rEqO false X.K C sp) := by
  intro pins s σ H x y v u Q I rx ry hq
  unfold rEqO at hq
  obtain ⟨a, dx, fs, t, rfl, ha, ty, hn, hsp⟩ := hq
  obtain ⟨f, fd, ps, hs, hf, hb, F⟩ := h.fn
  have rx' := rx
  cases rx
  have lb := ty.looks I ry
  obtain ⟨mA, J, _⟩ := ins_get I.hok ha
  obtain ⟨od, J, _⟩ := J.look
  obtain ⟨m, hF⟩ := I.fr
  show wpAny (model X.prog X.w) X.A (richCompare .Eq (.ref a) u) (EP X pins σ Q) X.xe s
  refine PySem.W.cmp_K (op := .Eq) (tb := t) hr.units0 hF I.ok.mod.kin J lb hn hs hf ?_
  refine wpAny_mono (call_own F hb hr rfl I rx' ry hsp) (fun r s' z => ?_) fun _ _ x => x
  obtain ⟨v, H', I', rv, b, ev, q⟩ := z
  subst ev
  cases rv
  exact ⟨.bl b, H', I', rfl, q⟩
theorem op_neO (h : OwnEq X.prog X.w X.K X.mg X.base C k sp) (hr : Room (k + 1) X.A) : OpR X (compareOp .NotEq) (rEqO true X.K C sp) := by
  intro pins s σ H x y v u Q I rx ry hq
  unfold rEqO at hq
  obtain ⟨a, dx, fs, t, rfl, ha, ty, hn, hsp⟩ := hq
  obtain ⟨f, fd, ps, hs, hf, hb, F⟩ := h.fn
  have rx' := rx
  cases rx
  have lb := ty.looks I ry
  obtain ⟨mA, J, _⟩ := ins_get I.hok ha
  obtain ⟨od, J, _⟩ := J.look
  obtain ⟨m, hF⟩ := I.fr
  show wpAny (model X.prog X.w) X.A (richCompare .NotEq (.ref a) u) (EP X pins σ Q) X.xe s
  refine PySem.W.rv_ne_K (tb := t) (by have := hr.units; omega) hF I.ok.mod.kin J lb hn hs hf h.ne h.ob ?_
  refine wpAny_mono (call_own F hb hr.in1 rfl I rx' ry hsp) (fun r s' z => ?_) fun _ _ x => x
  obtain ⟨v, H', I', rv, b, ev, q⟩ := z
  subst ev
  cases rv
  exact ⟨b, rfl, .bl (!b), H', I', rfl, q⟩
theorem op_eqOK (h : OwnEq P w K mg base C k sp) (hr : Room k X.A) (e : X.prog = P ∧ X.w = w ∧ X.K = K ∧ X.mg = mg ∧ X.base = base := by exact ⟨rfl, rfl, rfl, rfl, rfl⟩) : OpR X (compareOp .Eq) (rEqO false K C sp) := by
  obtain ⟨rfl, rfl, rfl, rfl, rfl⟩ := e
  exact op_eqO h hr
theorem op_neOK (h : OwnEq P w K mg base C k sp) (hr : Room (k + 1) X.A) (e : X.prog = P ∧ X.w = w ∧ X.K = K ∧ X.mg = mg ∧ X.base = base := by exact ⟨rfl, rfl, rfl, rfl, rfl⟩) : OpR X (compareOp .NotEq) (rEqO true K C sp) := by
  obtain ⟨rfl, rfl, rfl, rfl, rfl⟩ := e
  exact op_neO h hr
/-- an instance of a class without a truth or a length of its own is true -/
def rTrO (C : Addr) : V → Hp → (Bool → Hp → Prop) → Prop := fun x H Q => ∃ a dx fs, x = .ref a ∧ H a = some (.ins C dx fs) ∧ Q true H
/-! ### repr -/
mutual
theorem Dp.noDict {K : PySem.W.Frag} {H : Hp} : ∀ {v : V} {d : PyData}, Dp K H v d → d.hasDict = false
  | _, _, .non => by simp [PyData.hasDict]
  | _, _, .bl _ => by simp [PyData.hasDict]
  | _, _, .int _ => by simp [PyData.hasDict]
  | _, _, .str _ => by simp [PyData.hasDict]
  | _, _, .lst _ h => by simp [PyData.hasDict, DpAll.noDict h]
  | _, _, .tup _ h => by simp [PyData.hasDict, DpAll.noDict h]
theorem DpAll.noDict {K : PySem.W.Frag} {H : Hp} : ∀ {vs : List V} {ds : List PyData}, DpAll K H vs ds → PyData.hasDictAll ds = false
  | _, _, .nil => by simp [PyData.hasDictAll]
  | _, _, .cons h t => by simp [PyData.hasDictAll, Dp.noDict h, DpAll.noDict t]
end
@[irreducible] def rRepr (K : PySem.W.Frag) : List V → Hp → VK → Prop := fun xs H Q => ∃ a d, xs = [.ref a] ∧ Dp K H (.ref a) d ∧ d.showable = true ∧ d.depth ≤ 60 ∧ d.shown.length ≤ sizeLine ∧ Q (.str d.shown) H
theorem call_reprD (hu : X.A.units + 64 < cLine) (hg : X.A.guards = some []) : CallR X (.builtin "repr") (rRepr X.K) := by
  intro pins s σ H xs us Q I r h
  unfold rRepr at h
  obtain ⟨a, d, rfl, hd, hs, hdp, hsz, q⟩ := h
  obtain ⟨as, rd⟩ := Dp.reads I d _ _ hd (rfl : RelV (.ref a) (.ref a))
  have eu : us = [.ref a] := by
    cases r with
    | cons r1 r2 => cases r2; cases r1; rfl
  subst eu
  have nod : d.hasDict = true → sysModules ∉ as := fun hh => by
    rw [Dp.noDict hd] at hh
    cases hh
  refine repr_of_reads' rd hs nod hg (by omega) (fun _ _ e => e) (fun h' u tk hk => ⟨.str d.shown, H, I.kept hk, ⟨u, rfl⟩, q⟩) hsz
end
end RV
/-! Defs that must not run within a repr: as FnOk, but only where no repr is under way. -/
namespace RV
open PySem L2 PyProof.Rows
section
variable {P : Program} {w : World} {K : PySem.W.Frag} {mg : Str → Option Value} {base : Heap}
structure FnG (P : Program) (w : World) (K : PySem.W.Frag) (mg : Str → Option Value) (base : Heap) (k : Nat) (f : Addr) (fd : FuncData) (ps : List Str) (sp : Sp) : Prop where
  len : ∀ vs H Q E, sp vs H Q E → vs.length = ps.length
  run : ∀ (A : Around) (outer : List Env) (s : Shared) (H : Hp) (args : Args) (us : List Value) (vs : List V) (Q : VK) (E : XK), A.guards = some [] → Room k A → Env0 P w K mg base A outer s H → BindsTo s fd args (ps.zip us) → Vals vs us → sp vs H Q E →
    codeAny (model P w) A (.call (.ref f) args) (CR CX0 outer P w H s Q E) s
theorem gFun {x qual : Str} {st : Stmt} {f : Addr} {fd : FuncData} {N ps : List Str} {k : Nat} {sp : Sp} (F : Fun K x qual st f fd) (S : FnScope N ps (defScope st)) (len : ∀ vs H Q E, sp vs H Q E → vs.length = ps.length)
    (hbody : ∀ (cdv : Value) (A : Around) (outer : List Env) (s : Shared) (H : Hp) (vs : List V) (Q : VK) (E : XK), (A.deeper (envOfC qual (defScope st) s.heap.objs.size f cdv)).guards = some [] → Room k (A.deeper (envOfC qual (defScope st) s.heap.objs.size f cdv)) → sp vs H Q E →
      ∃ t, PSs (cxOf CX0 P w K mg base N qual (defScope st) f cdv A outer s H E).nox (defBody st) t ∧ t { nx := fun _ H' => Q .non H', rt := Q } (start N vs) H) : FnG P w K mg base (k + 1) f fd ps sp := by
  refine ⟨len, fun A outer s H args us vs Q E gs hr e0 hb r hsp => ?_⟩


  obtain ⟨oc, od, kV, doc, pm, an, cdv, ct, osl, rfl, lk, hcd⟩ := F.ex
  have hl := len _ _ _ _ hsp
  have KX : K.In s.heap := e0.mod.kin.keeps fun b o e => (e0.bs b o e).1
  have lim := e0.mod.nolimit.keeps fun b o e => (e0.bs b o e).1
  refine codeAny_call_function hr.depth (KX _ _ lk) rfl S.co S.gen rfl (PySem.W.codeRec_of KX hcd) (hb _ _ _ _ ?_)
  refine wpAny_newFunctionEnv_cells S.kind (fun y hy => ?_) fun env he s1 x => ?_
  · have hin : y.1 ∈ ps := by
      obtain ⟨n, v⟩ := y
      exact (List.of_mem_zip hy).1
    exact (S.par _ hin).imp id fun q => ⟨q, PySem.W.cellsFrom_some _ _ _ (.inl q)⟩
  subst he
  refine ⟨lim.keeps x.toInCall.keep, codeAny_func ?_⟩
  obtain ⟨t, ht, hq⟩ := hbody cdv A outer s H vs Q E gs (hr.deeper _) hsp
  have I := inv_start (CX := CX0) (cd := cdv) (E := E) S hr.hd e0 hl r x
  refine wpAny_mono (ht.nox.run [] s1 (start N vs) H _ I hq) (fun fl s' hs => ?_) fun _ _ hs => hs
  match fl, hs with
  | .ret u, ⟨v, _, H', J, rv, q⟩ => exact ⟨v, H', J.os, J.bare, J.base, J.hok, rv, q⟩
  | .next, ⟨_, H', J, q⟩ => exact ⟨V.non, H', J.os, J.bare, J.base, J.hok, rfl, q⟩
  | .brk, ⟨_, _, _, q⟩ => exact q.elim
  | .cont, ⟨_, _, _, q⟩ => exact q.elim
/-- such a function of the module, as its callers see it -/
def FnGd (P : Program) (w : World) (K : PySem.W.Frag) (mg : Str → Option Value) (base : Heap) (x : Str) (k : Nat) (ps : List Str) (sp : Sp) : Prop :=
  ∃ f fd, mg x = some (.ref f) ∧ PySem.W.keepIn K (.ref f) = true ∧ Binds K fd ps [] ∧ FnG P w K mg base k f fd ps sp
end
section
variable {X : Cx} {x : Str} {k : Nat} {ps : List Str} {sp : Sp} {e : Expr} {es : List Expr} {t : TA} {p pos : Pos}
theorem pe_fnG (h : FnGd X.prog X.w X.K X.mg X.base x k ps sp) (gs : X.A.guards = some []) (hr : Room k X.A) (ha : PA X (e :: es) t) (hg : Gl X x := by rfl) (hdb : (x == ("__debug__" : Str)) = false := by decide)
    (he : starEach (e :: es) X.env = (false, eval e X.env) :: starEach es X.env := by rfl) (hpl : (backTo pos (starEach es X.env)).any (·.1) = false := by rfl) :
    PE X (.Call (.Name x p) (e :: es) [] pos) (tCall sp [] E0 t) := by
  obtain ⟨f, fd, hm, hk, hb, F⟩ := h
  refine ⟨fun pins s σ H Q I h => wpAny_Call_Name_kw (ld_glob I hg hm ?_ hdb)⟩
  refine PySem.W.callWith_K (h₀ := X.base) I.ok.mod.kin hk (thn (ha.run pos pins s σ H _ I h) fun us s1 ⟨vs, H1, I1, r, q⟩ => ⟨I1.kIn, ?_⟩) he hpl
  have q' : sp vs H1 Q E0 := by rw [← List.append_nil vs]; exact q
  have hl : us.length = ps.length := r.length ▸ F.len _ _ _ _ q'
  have hbb : BindsTo s1 fd ⟨us, []⟩ (ps.zip us) := by
    have z := hb s1 us I1.kIn (by rw [List.append_nil]; exact hl)
    rwa [List.append_nil] at z
  refine wpAny_call (codeAny_mono (F.run X.A X.stack s1 H1 ⟨us, []⟩ us vs Q E0 gs hr I1.env0 hbb r q') fun res s' hq => ?_)
  match res, hq with
  | .ok (.ret u), hq => exact I1.after hq
  | .ok .next, hq => exact False.elim hq
  | .ok .brk, hq => exact False.elim hq
  | .ok .cont, hq => exact False.elim hq
  | .error e, hq => exact False.elim hq
end
/-- the law's own call: nothing is tracked but the script -/
theorem callG {P : Program} {w : World} {K : PySem.W.Frag} {mg mb : Str → Option Value} {k : Nat} {fa a : Addr} {fd : FuncData} {x : Str} {sp : Sp} {s₁ : Shared} {vs : List Value} {ns : List Int}
    (KX : K.In s₁.heap) (hns : s₁.heap.Ns mainGlobals mg) (hb : s₁.heap.Ns builtinsNs mb) (hbb : ∀ x : Str, x ≠ "__name__" → mb x = bootBuiltins x) (hlim : s₁.heap.NoLimit) (hg : s₁.gens = #[])
    (ha : s₁.heap.get? a = some { cls := .type "list", data := .seq vs.toArray }) (hi : IntsAre vs ns) (hl : ns.length ≤ sizeLine) (hr : Room k callerA)
    (F : ∀ base : Heap, K.In base → base.Ns mainGlobals mg → FnG P w K mg base k fa fd [x] sp) (hbind : ∀ (s : Shared) (u : Value), BindsTo s fd ⟨[u], []⟩ [(x, u)])
    (hsp : ∀ H : Hp, SqL K H a (ns.map V.int) → sp [.ref a] H (fun v _ => v = .bl true) E0) :
    codeAny (model P w) callerA (.call (.ref fa) ⟨[.ref a], []⟩) (fun r s' => r = .ok (.ret (.bool true)) ∧ OldK s₁.heap s'.heap ∧ s'.os = s₁.os ∧ AllBare s'.gens) s₁ := by
  have rv := vals_ints hi
  let scr : Obj := { cls := .type "list", data := .seq vs.toArray }
  -- H tracks at most the script, locked
  have core : ∀ H : Hp, (∀ b u, H b = some u → b = a ∧ u = .frz scr (.lst (ns.map V.int)) ∧ K.lookup a = none) → SqL K H a (ns.map V.int) →
      codeAny (model P w) callerA (.call (.ref fa) ⟨[.ref a], []⟩) (fun r s' => r = .ok (.ret (.bool true)) ∧ OldK s₁.heap s'.heap ∧ s'.os = s₁.os ∧ AllBare s'.gens) s₁ := by
    intro H hO hS
    have hok : HOk P w H s₁.heap := fun b u e => by
      obtain ⟨rfl, rfl, _⟩ := hO b u e
      exact ⟨ha, by rw [List.length_map]; exact hl, vs, _, rv, ha⟩
    have other : ∀ {b : Addr} {o : Obj}, s₁.heap.get? b = some o → o ≠ scr → H b = none := fun {b o} e d => by
      cases q : H b with
      | none => rfl
      | some u =>
        obtain ⟨rfl, _, _⟩ := hO b u q
        rw [ha] at e
        exact absurd (Option.some.inj e).symm d
    have spaces : ∀ {b : Addr} {m : Str → Option Value}, s₁.heap.Ns b m → (hidT s₁.heap H).Ns b m := fun {b m} z => by
      obtain ⟨o, es, ep, e, d, r⟩ := z
      refine ⟨o, es, ep, hidT_get e (other e fun q => ?_), d, r⟩
      subst q
      obtain ⟨_, d'⟩ := d
    have kin : K.In (hidT s₁.heap H) := fun b o e => hidT_get (KX b o e) (by
      cases q : H b with
      | none => rfl
      | some u =>
        obtain ⟨rfl, _, z⟩ := hO b u q
        rw [z] at e
        cases e)
    obtain ⟨mc, l1, l2⟩ := hlim
    have e0 : Env0 P w K mg (hidT s₁.heap H) callerA [] s₁ H :=
      { frames := rfl, mod := ⟨kin, spaces hns, ⟨mb, spaces hb, hbb⟩, ⟨mc, spaces l1, l2⟩⟩, bs := fun _ _ e => of_hidT e, bsz := Nat.le_of_eq (hidT_size _ _), funs := trivial, frf := fun _ hb => (nomatch hb), hok := hok, bare := .of_eq hg }
    refine codeAny_mono ((F _ kin (spaces hns)).run callerA [] s₁ H ⟨[.ref a], []⟩ [.ref a] [.ref a] _ _ rfl hr e0 (hbind s₁ (.ref a)) (.cons rfl .nil) (hsp H hS)) fun res s' z => ?_
    match res, z with
    | .ok (.ret u), ⟨v, H', os, bare, un, hok', rel, ev⟩ =>
      have ev' : v = .bl true := ev
      subst ev'
      have eu : u = Value.bool true := rel
      subst eu
      refine ⟨rfl, OldK.of_keep fun b o e => ?_, os, bare⟩
      cases q : H b with
      | none => exact un.keep b o e q (fun z => nomatch z) (fun z => nomatch z)
      | some u =>
        obtain ⟨rfl, rfl, _⟩ := hO b u q
        have z1 := (hok' b _ (un.frzs b _ _ q)).1
        rw [ha] at e
        rw [← e]
        exact z1
    | .ok .next, z => exact False.elim z
    | .ok .brk, z => exact False.elim z
    | .ok .cont, z => exact False.elim z
    | .error e, z => exact False.elim z
  cases hk : K.lookup a with
  | some o =>
    have e := KX a o hk
    rw [ha] at e
    cases e
    exact core (fun _ => none) (fun _ _ z => nomatch z) (.inr ⟨_, vs.toArray, _, hk, rfl, rfl, rfl, by rw [List.size_toArray, hi.length]; exact hl, by simpa using rv⟩)
  | none =>
    refine core (fun b => if b = a then some (.frz scr (.lst (ns.map V.int))) else none) (fun b u z => ?_) (.inl (.inr ⟨scr, if_pos rfl⟩))
    by_cases hb : b = a
    · rw [if_pos hb] at z
      exact ⟨hb, (Option.some.inj z).symm, hk⟩
    · rw [if_neg hb] at z
      cases z
theorem walkG (k : Nat) {l : PySem.W.OpenLaw} {q : Program} {loose : List Str} {XP : (Str → Option Value) → Heap → Prop} {YP : World → Heap → Prop} {d : DefRec} {K : Params → PySem.W.Frag} (hr : Room k callerA) (hn : l.most = some 63) (hdf : d.params.defaults = [])
    (hY : ∀ (w : World) (h : Heap), YP w h → (K w.params).In h)
    (F : ∀ (w : World) (mg : Str → Option Value) (fa : Addr) (h : Heap), (K w.params).In h → h.Ns mainGlobals mg → mg d.name = some (.ref fa) →
      ∃ fd : FuncData, (∀ (s : Shared) (u : Value), BindsTo s fd ⟨[u], []⟩ [("_law_cells", u)]) ∧ ∀ base : Heap, (K w.params).In base → base.Ns mainGlobals mg → FnG l.prog w (K w.params) mg base k fa fd ["_law_cells"] (spLaw (K w.params))) :
    PySem.W.WalkO q loose XP YP l.row.toRowW d [] (fun f vs => PySem.call f vs) := by
  refine Att.attach_call hn hdf fun w s₀ s₁ mg mb fa o pm cd doc a vs ns G Y ho hd hcd hmg hobj hints hlen hg => ?_
  obtain ⟨fd, hb, hF⟩ := F w mg fa _ (hY w _ Y) G.T.g hmg
  exact callG (hY w _ Y) G.T.g G.T.b G.T.builtins G.T.nolimit hg hobj hints (Nat.le_trans hlen (by decide)) hr hF hb fun H hS => ⟨a, ns, rfl, hS, hlen, fun _ => rfl⟩
end RV
/-! Classes of the text, as their callers see them. -/
namespace RV
open PySem L2 PyProof.Rows
/-- the class x of the module stands at C; C(..) of positional values, the defaults dvs behind them -/
def Mkr (P : Program) (w : World) (K : PySem.W.Frag) (mg : Str → Option Value) (base : Heap) (x : Str) (C : Addr) (k : Nat) (sp : Sp) (dvs : List V) : Prop :=
  mg x = some (.ref C) ∧ ∃ f fd ps ds, Mk K C f ∧ Binds K fd ps ds ∧ Vals dvs ds ∧ FnOk P w K mg base CX0 k f fd ps sp
def MkrK (P : Program) (w : World) (K : PySem.W.Frag) (mg : Str → Option Value) (base : Heap) (x : Str) (C : Addr) (k n : Nat) (ks : List Str) (sp : Sp) (gV : List V → List V → List V) : Prop :=
  mg x = some (.ref C) ∧ ∃ f fd ps g, Mk K C f ∧ KBn K fd ps (n + 1) ks g gV ∧ FnOk P w K mg base CX0 k f fd ps sp
/-- what isinstance asks of a class of the text -/
structure ClsX (K : PySem.W.Frag) (C : Addr) : Prop where
  cl : Cls K C
  ha : PySem.W.findIn K (.ref C) "__class__" = some (some (.builtin "object.__class__"))
  hn : PySem.W.specialIn K (.builtin "object.__class__") "__get__" = some (some (.builtin "getset_descriptor.__get__"))
  htk : PySem.W.takesIn K (.builtin "object.__class__") = some true
  hm : PySem.W.mroIn K C (.type "object") = some true
theorem ClsX.ty {K : PySem.W.Frag} {C a dx : Addr} {H : Hp} {fs : List (Str × V)} (c : ClsX K C) (e : H a = some (.ins C dx fs)) : TyX K H (.ref a) (.ref C) := .base (.ins e c.cl c.ha c.hn c.htk c.hm)
/-- a property -/
def Prp (P : Program) (w : World) (K : PySem.W.Frag) (mg : Str → Option Value) (base : Heap) (C : Addr) (f : Str) (k : Nat) (sp : Sp) : Prop :=
  Cls K C ∧ ∃ p g fd ps, PropOf K C f p g ∧ Binds K fd ps [] ∧ FnOk P w K mg base CX0 k g fd ps sp
section
variable {X : Cx} {x f : Str} {C : Addr} {k n : Nat} {ks : List Str} {sp : Sp} {dvs : List V} {gV : List V → List V → List V} {e : Expr} {es : List Expr} {kws : List Keyword} {t tk : TA} {ta : TE} {p pos : Pos}
theorem pe_mk (h : Mkr X.prog X.w X.K X.mg X.base x C k sp dvs) (hr : Room (k + 1) X.A) (ha : PA X (e :: es) t) (hg : Gl X x := by rfl) (hdb : (x == ("__debug__" : Str)) = false := by decide)
    (he : starEach (e :: es) X.env = (false, eval e X.env) :: starEach es X.env := by rfl) (hpl : (backTo pos (starEach es X.env)).any (·.1) = false := by rfl) : PE X (.Call (.Name x p) (e :: es) [] pos) (tMake C sp dvs E0 t) := by
  obtain ⟨hm, f, fd, ps, ds, M, hb, hd, F⟩ := h
  exact pe_make M F hr hg hm hb hd pass0 ha hdb he hpl
theorem pe_mkK0 (h : MkrK X.prog X.w X.K X.mg X.base x C k 0 ks sp gV) (hr : Room (k + 1) X.A) (hkw : PK X kws tk) (hg : Gl X x := by rfl)
    (hall : (backToKw pos (keywordEach kws X.env)).all (·.1.isSome) = true := by rfl) (hks : (backToKw pos (keywordEach kws X.env)).filterMap (·.1) = ks := by rfl) (hdb : (x == ("__debug__" : Str)) = false := by decide)
    (hpl : ((backTo pos (starEach [] X.env)).any (·.1) || (backToKw pos (keywordEach kws X.env)).any (·.1.isNone)) = false := by rfl) :
    PE X (.Call (.Name x p) [] kws pos) (tMakeK C 0 ks.length sp gV E0 tNil tk) := by
  obtain ⟨hm, f, fd, ps, g, M, hb, F⟩ := h
  exact pe_makeK0 M F hr hg hm hb pass0 hkw hall hks hdb hpl
theorem pe_propN (h : Prp X.prog X.w X.K X.mg X.base C f k sp) (hr : Room (k + 1) X.A) (he : PE X e ta) (hab : attributeBase e f X.env (eval e X.env) = eval e X.env := by rfl) : PE X (.Attribute e f pos) (tProp C sp [] E0 ta) := by
  obtain ⟨c, q, g, fd, ps, hp, hb, F⟩ := h
  exact pe_prop he c hp F hr hb .nil pass0 hab
end
end RV
/-! What is known of the heap, step by step; repr of lists of short things. -/
namespace RV
open PySem L2 PyProof.Rows
/-- the built-in names that the text uses are still the built-ins -/
structure Blt (mg : Str → Option Value) : Prop where
  b_len : mg "len" = none
  b_int : mg "int" = none
  b_abs : mg "abs" = none
  b_max : mg "max" = none
  b_min : mg "min" = none
  b_all : mg "all" = none
  b_any : mg "any" = none
  b_repr : mg "repr" = none
  b_range : mg "range" = none
  b_divmod : mg "divmod" = none
  b_isinstance : mg "isinstance" = none
  b_str : mg "str" = none

/-! ### the well -/
def sp_well (K : PySem.W.Frag) : Sp := fun vs H Q _ => ∃ (c : Addr) (ns : List Int) (k : Nat), vs = [.ref c, .int k] ∧ SqL K H c (ns.map V.int) ∧ ns.length ≤ 63 ∧ k ≤ 100 ∧
  ∀ a H', H a = none → Same H H' → WellAt H' a 0 → Q (.ref a) H'
def sp_dip : Sp := fun vs H Q _ => ∃ (a : Addr) (m : Int) (n : Nat), vs = [.ref a, .int m] ∧ WellAt H a n ∧ n < 1000000 ∧ 0 < m ∧ m ≤ 10 ^ 60 ∧
  ∀ (r : Int) H', 0 ≤ r → r < m → Grow a H H' → WellAt H' a (n + 1) → Q (.int r) H'
theorem WellAt.mono {H : Hp} {a : Addr} {n m : Nat} (w : WellAt H a n) (h : n ≤ m) : WellAt H a m := by
  obtain ⟨x, y, z, e, hx, hy, hz⟩ := w
  exact ⟨x, y, z, e, hx, hy, by omega, by omega⟩
theorem WellAt.new {H : Hp} {a p : Addr} {n : Nat} {o : HO} (w : WellAt H a n) (np : H p = none) : WellAt (upd H p o) a n := by
  obtain ⟨x, y, z, e, hx, hy, hz⟩ := w
  exact ⟨x, y, z, by rw [upd_ne (ne_of_none e np)]; exact e, hx, hy, hz⟩
theorem WellAt.ne {H : Hp} {a p : Addr} {n : Nat} (w : WellAt H a n) (np : H p = none) : a ≠ p := by
  obtain ⟨x, y, z, e, _⟩ := w
  exact ne_of_none e np
def sp_name : Sp := fun vs H Q _ => ∃ (a : Addr) (n : Nat), vs = [.ref a] ∧ WellAt H a n ∧ n < 900000 ∧
  ∀ (x : Str) H', IsNm x → Grow a H H' → WellAt H' a (n + 10) → Q (.str x) H'
def sp_fresh : Sp := fun vs H Q _ => ∃ (a t : Addr) (n : Nat) (xs : List Str), vs = [.ref a, .ref t] ∧ WellAt H a n ∧ n < 800000 ∧ H t = some (.lst (xs.map V.str)) ∧ t ≠ a ∧ (∀ x ∈ xs, IsNm x) ∧ xs.length ≤ 35 ∧
  ∀ (x : Str) H', IsNm x → x ∉ xs → Grow a H H' → WellAt H' a (n + 13) → Q (.str x) H'
/-- the names that differ from x in their last sign alone -/
def cands (x : Str) : List Str := (cd signs).map fun c => cutS x none (some 7) ++ ⟨#[c]⟩
theorem cand_cd (x : Str) (c : Nat) : cd (cutS x none (some 7) ++ ⟨#[c]⟩) = (cd x).take 7 ++ [c] := by
  rw [cd_app, cd_one]
  exact congrArg (· ++ [c]) (cd_pre x 7)
theorem cands_nm {x : Str} (h : IsNm x) : ∀ y ∈ cands x, IsNm y := by
  intro y hy
  obtain ⟨c, hc, rfl⟩ := List.mem_map.mp hy
  have ht : tailC c = true := by
    have : ((cd signs).all tailC) = true := by rw [cd_signs]; decide
    exact List.all_eq_true.mp this c hc
  show isNm (cd _) = true
  rw [cand_cd]
  exact isNm_snoc (isNm_take h (by decide) (by decide)) (by rw [List.length_take]; omega) ht
theorem nodup_map {α β : Type} {f : α → β} (hf : ∀ a b, f a = f b → a = b) : ∀ {l : List α}, l.Nodup → (l.map f).Nodup
  | [], _ => List.nodup_nil
  | a :: l, h => by
    obtain ⟨h1, h2⟩ := List.nodup_cons.mp h
    rw [List.map_cons, List.nodup_cons]
    refine ⟨fun hm => ?_, nodup_map hf h2⟩
    obtain ⟨b, hb, e⟩ := List.mem_map.mp hm
    exact h1 (hf _ _ e ▸ hb)
theorem cands_nodup (x : Str) : (cands x).Nodup := by
  refine nodup_map (fun a b e => ?_) (by rw [cd_signs]; decide)
  have e2 := congrArg cd e
  rw [cand_cd, cand_cd] at e2
  have e3 := List.append_cancel_left e2
  exact (List.cons.inj e3).1
theorem cands_len (x : Str) : (cands x).length = 36 := by
  unfold cands
  rw [List.length_map, cd_signs]
  rfl
/-- what is_name says of any value whose kind is known -/
def sp_is_name (K : PySem.W.Frag) : Sp := fun vs H Q _ => ∃ v, vs = [v] ∧ ((∃ x : Str, v = .str x ∧ x.length ≤ sizeLine ∧ ∀ H', Same H H' → Q (.bl (isNm (cd x))) H') ∨
  (∃ t, TyX K H v t ∧ PySem.W.kitOne K t (.type "str") = some false ∧ Q (.bl false) H))
structure Cst (mg : Str → Option Value) : Prop where
  c__LETTERS : ∃ u, mg "_LETTERS" = some u ∧ RelV (.str "abcdefghijklmnopqrstuvwxyz") u
  c__DIGITS : ∃ u, mg "_DIGITS" = some u ∧ RelV (.str "0123456789") u
  c__LONGEST_NAME : ∃ u, mg "_LONGEST_NAME" = some u ∧ RelV (.int 8) u
theorem cd_letters : cd "abcdefghijklmnopqrstuvwxyz" = [97, 98, 99, 100, 101, 102, 103, 104, 105, 106, 107, 108, 109, 110, 111, 112, 113, 114, 115, 116, 117, 118, 119, 120, 121, 122] := by decide +kernel
theorem cd_digits : cd "0123456789" = [48, 49, 50, 51, 52, 53, 54, 55, 56, 57] := by decide +kernel
theorem low_in (c : Nat) : decide (c ∈ cd "abcdefghijklmnopqrstuvwxyz") = lowC c := by
  rw [cd_letters]
  simp only [lowC]
  by_cases h : 97 ≤ c ∧ c ≤ 122
  · have : c = 97 ∨ c = 98 ∨ c = 99 ∨ c = 100 ∨ c = 101 ∨ c = 102 ∨ c = 103 ∨ c = 104 ∨ c = 105 ∨ c = 106 ∨ c = 107 ∨ c = 108 ∨ c = 109 ∨ c = 110 ∨ c = 111 ∨ c = 112 ∨ c = 113 ∨ c = 114 ∨ c = 115 ∨ c = 116 ∨ c = 117 ∨ c = 118 ∨ c = 119 ∨ c = 120 ∨ c = 121 ∨ c = 122 := by omega
    rcases this with e | e | e | e | e | e | e | e | e | e | e | e | e | e | e | e | e | e | e | e | e | e | e | e | e | e <;> subst e <;> decide
  · have h1 : (decide (97 ≤ c) && decide (c ≤ 122)) = false := by
      simp only [Bool.and_eq_false_iff, decide_eq_false_iff_not]
      omega
    rw [h1]
    simp only [decide_eq_false_iff_not, List.mem_cons, List.not_mem_nil, or_false]
    omega
theorem tail_in (c : Nat) : decide (c ∈ cd (("abcdefghijklmnopqrstuvwxyz" : Str) ++ ("0123456789" : Str))) = tailC c := by
  rw [cd_app]
  have h2 : decide (c ∈ cd "0123456789") = digC c := by
    rw [cd_digits]
    simp only [digC]
    by_cases h : 48 ≤ c ∧ c ≤ 57
    · have : c = 48 ∨ c = 49 ∨ c = 50 ∨ c = 51 ∨ c = 52 ∨ c = 53 ∨ c = 54 ∨ c = 55 ∨ c = 56 ∨ c = 57 := by omega
      rcases this with e | e | e | e | e | e | e | e | e | e <;> subst e <;> decide
    · have h1 : (decide (48 ≤ c) && decide (c ≤ 57)) = false := by
        simp only [Bool.and_eq_false_iff, decide_eq_false_iff_not]
        omega
      rw [h1]
      simp only [decide_eq_false_iff_not, List.mem_cons, List.not_mem_nil, or_false]
      omega
  rw [tailC, ← low_in, ← h2]
  by_cases a : c ∈ cd "abcdefghijklmnopqrstuvwxyz" <;> by_cases b : c ∈ cd "0123456789" <;> simp [a, b]
/-- a promise that the unifier does not open -/
@[irreducible] def Irr (sp : Sp) : Sp := sp
theorem irr {sp : Sp} {vs : List V} {H : Hp} {Q : VK} {E : XK} (h : sp vs H Q E) : Irr sp vs H Q E := by unfold Irr; exact h
theorem irr_of {sp : Sp} {vs : List V} {H : Hp} {Q : VK} {E : XK} (h : Irr sp vs H Q E) : sp vs H Q E := by unfold Irr at h; exact h
theorem Fn.irr {P : Program} {w : World} {K : PySem.W.Frag} {mg : Str → Option Value} {base : Heap} {x : Str} {k : Nat} {ps : List Str} {sp : Sp} (h : Fn P w K mg base x k ps sp) : Fn P w K mg base x k ps (Irr sp) := by
  obtain ⟨f, fd, a, b, c, F⟩ := h
  exact ⟨f, fd, a, b, c, F.imp fun _ _ _ _ z => irr_of z⟩
theorem Mkr.irr {P : Program} {w : World} {K : PySem.W.Frag} {mg : Str → Option Value} {base : Heap} {x : Str} {C : Addr} {k : Nat} {sp : Sp} {dvs : List V} (h : Mkr P w K mg base x C k sp dvs) : Mkr P w K mg base x C k (Irr sp) dvs := by
  obtain ⟨m, f, fd, ps, ds, a, b, c, F⟩ := h
  exact ⟨m, f, fd, ps, ds, a, b, c, F.imp fun _ _ _ _ z => irr_of z⟩
theorem MkrK.irr {P : Program} {w : World} {K : PySem.W.Frag} {mg : Str → Option Value} {base : Heap} {x : Str} {C : Addr} {k n : Nat} {ks : List Str} {sp : Sp} {gV : List V → List V → List V} (h : MkrK P w K mg base x C k n ks sp gV) : MkrK P w K mg base x C k n ks (Irr sp) gV := by
  obtain ⟨m, f, fd, ps, g, a, b, F⟩ := h
  exact ⟨m, f, fd, ps, g, a, b, F.imp fun _ _ _ _ z => irr_of z⟩
section
variable {a p x : Addr} {n m : Nat} {L : List (Addr × HO)} {H0 H : Hp} {o : HO} {Q : VK} {E : XK}
end
/-! ### short data -/
structure Short (d : PyData) : Prop where
  sh : d.showable = true
  dp : d.depth = 0
  ln : d.shown.length ≤ 100
theorem short_bl (b : Bool) : Short (.bool b) := by
  refine ⟨by simp [PyData.showable], by simp [PyData.depth], ?_⟩
  cases b <;> simp only [PyData.shown] <;> decide +kernel
end RV
/-! for i, x in enumerate(t), t a tuple. -/
namespace PySem
open AutoSeq1 (wpAny_loadPart')
set_option maxHeartbeats 4000000 in
theorem rv_meets_enum_tuple (l : Addr) (items : Array Value) (n : Nat) (dct : Option Addr) (sl : Array (Option Value)) :
    Meets (Builtin.«enumerate.__new__» ⟨[.type "enumerate", .ref l], []⟩) (fun _ R s => s.heap.get? l = some { cls := .type "tuple", dict := dct, data := .seq items n, slots := sl } ∧
      R (.ok (.ret (.ref (s.heap.push { cls := .type "tuple_iterator", data := .fields #[.ref l, .int 0 0] }).objs.size)))
        { s with heap := (s.heap.push { cls := .type "tuple_iterator", data := .fields #[.ref l, .int 0 0] }).push { cls := .type "enumerate", data := .fields #[.none, .bool false, .ref s.heap.objs.size, rawInt 0, .none, .none] } }) :=
  .of_wp fun prog w A R s h => by
    obtain ⟨hp, g, d, tk, os⟩ := s
    obtain ⟨hl, h⟩ := h
    have q := sub_enumerate
    have hT : Heap.IsTuple (Shared.heap ⟨hp, g, d, tk, os⟩) l items := ⟨_, hl, rfl, n, rfl⟩
    wp_walk using wpAny_loadPart' hl
    refine wpAny_stack_any fun st => wpAny_pure ?_
    split
    · rename_i c _ _ _ _ _
      cases (c == Value.type "enumerate") <;> (wp_walk using wpAny_loadPart' hl, wpAny_pyIter_tuple hT; exact ⟨_, rfl, h⟩)
    · wp_walk using wpAny_loadPart' hl, wpAny_pyIter_tuple hT
      exact ⟨_, rfl, h⟩
section
variable {prog : Program} {w : World} {A : Around} {E : Value → Shared → Prop} {s : Shared}
theorem rv_call_enum_tuple {l : Addr} {items : Array Value} {Q : Value → Shared → Prop} (hT : s.heap.IsTuple l items)
    (h : ∀ h', IsEnum h' (s.heap.objs.size + 1) s.heap.objs.size 0 .none → h'.IsTupleIter s.heap.objs.size l 0 → h'.objs.size = s.heap.objs.size + 2 → (∀ b o, s.heap.get? b = some o → h'.get? b = some o) → Q (.ref (s.heap.objs.size + 1)) { s with heap := h' }) :
    wpAny (model prog w) A (call (.type "enumerate") [.ref l]) Q E s := by
  obtain ⟨⟨c, dct, dt, sl⟩, hl, hc, n, hd⟩ := hT
  obtain rfl : c = .type "tuple" := hc
  obtain rfl : dt = .seq items n := hd
  refine callType_new F.called_enumerate (by decide) (F.typeCall_enumerate_1 _) (F.newCall_enumerate_1 _) (fun obj => F.args_object_init_2 obj _) F.entry_enumerate_new (rv_meets_enum_tuple l items n dct sl) ⟨hl, ?_⟩
  let h1 := s.heap.push { cls := .type "tuple_iterator", data := .fields #[.ref l, .int 0 0] }
  have z1 : h1.objs.size = s.heap.objs.size + 1 := Heap.size_push ..
  show _ ∧ _
  rw [show (s.heap.push { cls := .type "tuple_iterator", data := .fields #[.ref l, .int 0 0] }).objs.size = s.heap.objs.size + 1 from z1]
  have he : IsEnum (h1.push { cls := .type "enumerate", data := .fields #[.none, .bool false, .ref s.heap.objs.size, rawInt 0, .none, .none] }) (s.heap.objs.size + 1) s.heap.objs.size 0 .none := by
    have t := Heap.get?_push_size h1 (o := { cls := .type "enumerate", data := .fields #[.none, .bool false, .ref s.heap.objs.size, rawInt 0, .none, .none] }) rfl
    rw [z1] at t
    exact t
  exact ⟨⟨_, he, rfl⟩, h _ he ⟨_, Heap.get?_push_of_some _ (Heap.get?_push_size _ rfl), rfl, rfl⟩ (by rw [Heap.size_push, z1]) fun b o x => Heap.get?_push_of_some _ (Heap.get?_push_of_some _ x)⟩
end
end PySem
namespace RV
open PySem L2 PyProof.Rows
/-- the tuple at a, each item in a new pair with its number -/
def Iet (K : PySem.W.Frag) (a : Addr) : It :=
  ⟨fun i H => ∃ (xs : List V) (x : V), SqT K H a xs ∧ xs[i]? = some x, fun i H v H' => ∃ T x, v = .ref T ∧ H T = none ∧ H' = upd H T (.tup [.int (i : Nat), x]) ∧ ∀ xs, SqT K H a xs → xs[i]? = some x, fun i H => ∃ xs : List V, SqT K H a xs ∧ xs.length = i⟩
theorem turn_enumT {P : Program} {w : World} {K : PySem.W.Frag} {elts : List Expr} {kk : Nat} {tpos : Pos} (a e it : Addr) :
    Turn P w K (.Tuple elts kk tpos) (Iet K a) [e, it] e (fun i h => (∃ old, IsEnum h e it ((i : Nat) : Int) old) ∧ h.IsTupleIter it a i ∧ e ≠ it) where
  mem := List.Mem.head _
  obj := fun i h st b hb => by
    obtain ⟨⟨old, he⟩, ⟨o, ho, hc, hd⟩, _⟩ := st
    rcases (by simpa using hb : b = e ∨ b = it) with rfl | rfl
    · exact ⟨_, he, fun v q => nomatch q⟩
    · exact ⟨o, ho, fun v q => by rw [hd] at q; cases q⟩
  keep := fun i h h' st k => by
    obtain ⟨⟨old, he⟩, hi, hne⟩ := st
    exact ⟨⟨old, k e (List.Mem.head _) _ he⟩, hi.at fun o q => k it (.tail _ (.head _)) o q, hne⟩
  item := by
    intro X hP hw hK hc i pins s σ H E I hf st hg
    subst hP hw hK
    obtain ⟨⟨old, he⟩, hit, hne⟩ := st
    obtain ⟨xs, x, hq, hx⟩ := hg
    obtain ⟨its, rv, p, hz⟩ := I.tuple hq
    obtain ⟨u, hu, ru⟩ := rv.get hx
    have hel : e < s.heap.objs.size := Heap.lt_size he
    have hil : it < s.heap.objs.size := by obtain ⟨_, q, _⟩ := hit; exact Heap.lt_size q
    have pt : s.heap.IsTuple a its.toArray := p
    have ait : a ≠ it := fun z => by
      obtain ⟨o, ho, hc, _⟩ := hit
      obtain ⟨o', ho', hc', _⟩ := pt
      rw [z, ho] at ho'
      cases ho'
      rw [hc] at hc'
      injection hc' with q
      exact absurd q (by decide)
    have ae : a ≠ e := fun z => by
      obtain ⟨o', ho', hc', _⟩ := pt
      rw [z, he] at ho'
      cases ho'
      injection hc' with q
      exact absurd q (by decide)
    have lt : i < its.toArray.size := by
      have := (List.getElem?_eq_some_iff.mp hu).1
      simpa using this
    refine wpAny_pyNext_enum_itemD (Draws.tuple (A := X.A.in1) (I.ok.hd hc) it a ait its.toArray) he ⟨hit, pt⟩ lt hne (by simp [hne, ae.symm]) fun y h' tk hy ho hst hT hsz hk => ?_
    have ey : y = u := by
      have e1 : its.toArray[i]? = some u := by simpa using hu
      rw [e1] at hy
      exact (Option.some.inj hy).symm
    subst ey
    refine ⟨_, rfl, wpAny_letOwnedTupleGo_enum (s := { s with heap := h', toks := tk + 1 }) ho fun h'' he' sb => ?_⟩
    have hT2 : h''.get? s.heap.objs.size = some { cls := .type "tuple", data := .seq #[.int i tk, y] } := (sb.2 _ (Nat.ne_of_gt hel)).trans hT
    have new : ObjOk X.prog X.w (upd H s.heap.objs.size (.tup [.int (i : Nat), x])) h'' s.heap.objs.size (.tup [.int (i : Nat), x]) :=
      ⟨by show 2 ≤ sizeLine; decide, [.int i tk, y], .cons ⟨_, rfl⟩ (.cons ru .nil), ⟨_, hT2, rfl, _, rfl⟩⟩
    have I1 : Inv X pins σ (upd H s.heap.objs.size (.tup [.int (i : Nat), x])) { s with heap := h'', toks := tk + 1 } :=
      I.turnedNew (ch := [e, it]) (fun b ob hb q => (sb.2 b (fun z => hb (by simp [z]))).trans (hk b ob (fun z => hb (by simp [z])) (fun z => hb (by simp [z])) q)) hf (Nat.le_refl _) new
    refine ⟨.ref s.heap.objs.size, _, I1, rfl, ⟨_, x, rfl, I.hok.fresh (Nat.le_refl _), rfl, fun ys hy => by rw [I.tuple_inj hy hq]; exact hx⟩, ⟨⟨y, ?_⟩, hst.1.at fun o q => (sb.2 it (Ne.symm hne)).trans q, hne⟩, fun b hb => ?_⟩
    · rw [show ((i + 1 : Nat) : Int) = (i : Int) + 1 by omega]
      exact he'
    · have hb' : b < s.heap.objs.size := by
        rcases (by simpa using hb : b = e ∨ b = it) with rfl | rfl
        · exact hel
        · exact hil
      rw [upd_ne (Nat.ne_of_lt hb')]
      exact (hf b hb).1
  done := by
    intro X hP hw hK hc i pins s σ H E I hf st hg
    subst hP hw hK
    obtain ⟨⟨old, he⟩, hit, hne⟩ := st
    obtain ⟨xs, hq, hx⟩ := hg
    obtain ⟨its, rv, p, hz⟩ := I.tuple hq
    obtain ⟨f0, f1, f2, f3, f4, f5⟩ := hf it (by simp)
    have pt : s.heap.IsTuple a its.toArray := p
    have ait : a ≠ it := fun z => by
      obtain ⟨o, ho, hc, _⟩ := hit
      obtain ⟨o', ho', hc', _⟩ := pt
      rw [z, ho] at ho'
      cases ho'
      rw [hc] at hc'
      injection hc' with q
      exact absurd q (by decide)
    have en : i = its.toArray.size := by
      rw [List.size_toArray, ← rv.length]
      exact hx.symm
    subst en
    exact wpAny_pyNext_enum_endD (Draws.tuple (A := X.A.in1) (I.ok.hd hc) it a ait its.toArray) he ⟨hit, pt⟩ fun h' eb => ⟨rfl, I.turned (t' := s.toks) (fun b o hb q => eb b o hb q) f0 f1 f3 f4 f5⟩
  self := fun A i s Q E st h => let ⟨⟨_, he⟩, _⟩ := st; wpAny_pyIter_enum he h
def iEnumT (K : PySem.W.Frag) (ta : TA) : TI := fun σ H R => ta σ H fun vs H1 => ∃ a xs, vs = [.ref a] ∧ SqT K H1 a xs ∧ R (Iet K a) H1
theorem pi_enumT {X : Cx} {e : Expr} {ta : TA} {p pos tpos : Pos} {elts : List Expr} {kk : Nat} (hg : Gl X "enumerate") (hm : X.mg "enumerate" = none) (ha : PA X [e] ta) (hs : starEach [e] X.env = [(false, eval e X.env)] := by rfl) :
    PI X (.Tuple elts kk tpos) (.Call (.Name "enumerate" p) [e] [] pos) (iEnumT X.K ta) := by
  refine ⟨fun pins s σ H R I h => ?_⟩
  refine Call_ (ld_blt I hg hm boot_enumerate (PyProof.Rows.callWith_type1 (thn (ha.run pos pins s σ H _ I h) fun us s1 ⟨vs, H1, I1, r1, q1⟩ => ?_) hs rfl))
  obtain ⟨a, xs, ex, hq, q⟩ := q1
  subst ex
  have eu : us = [.ref a] := by
    cases r1 with
    | cons r2 r3 => cases r3; cases r2; rfl
  subst eu
  obtain ⟨its, rv, p', hz⟩ := I1.tuple hq
  refine rv_call_enum_tuple (show s1.heap.IsTuple a its.toArray from p') fun h' he hit hsz hk => wpAny_pyIter_enum he ?_
  have I2 : Inv X pins σ H1 { s1 with heap := h' } := I1.kept (t' := s1.toks) hk
  refine ⟨s1.heap.objs.size + 1, [s1.heap.objs.size + 1, s1.heap.objs.size], _, _, H1, rfl, I2, turn_enumT a (s1.heap.objs.size + 1) s1.heap.objs.size, ⟨⟨.none, he⟩, hit, Nat.succ_ne_self _⟩, fun b hb => ?_, q⟩
  have hle : s1.heap.objs.size ≤ b := by
    rcases (by simpa using hb : b = s1.heap.objs.size + 1 ∨ b = s1.heap.objs.size) with rfl | rfl
    · exact Nat.le_succ _
    · exact Nat.le_refl _
  exact I1.fpOk hle (I1.hok.fresh hle)
/-- a loop over the numbered items of a tuple that stands still -/
theorem for_enumT {K : PySem.W.Frag} {a : Addr} {xs : List V} {g : TG} {tb : TS} {D : Ends} {σ : L2.St} {H : Hp} (Pv : Nat → L2.St → Hp → Prop) (h0 : Pv 0 σ H) (hl : ∀ i σ H, i ≤ xs.length → Pv i σ H → SqT K H a xs)
    (hs : ∀ i x σ H T, xs[i]? = some x → Pv i σ H → H T = none → g (.ref T) σ (upd H T (.tup [.int (i : Nat), x])) fun σ2 H2 => tb { D with nx := Pv (i + 1), ct := Pv (i + 1), bk := D.nx } σ2 H2) (hd : ∀ σ H, Pv xs.length σ H → D.nx σ H) :
    ∃ W : Nat → Nat → L2.St → Hp → Prop, (∃ m, W 0 m σ H) ∧ ∀ i m σ H, W i m σ H →
      ((Iet K a).stop i H ∧ D.nx σ H) ∨ ((Iet K a).go i H ∧ ∃ N : L2.St → Hp → Prop, (∀ σ' H', N σ' H' → ∃ m', m' < m ∧ W (i + 1) m' σ' H') ∧ ∀ x H', (Iet K a).yld i H x H' → g x σ H' fun σ2 H2 => tb { D with nx := N, ct := N, bk := D.nx } σ2 H2) := by
  refine ⟨fun i m σ H => m = xs.length - i ∧ i ≤ xs.length ∧ Pv i σ H, ⟨xs.length, by simp, Nat.zero_le _, h0⟩, ?_⟩
  rintro i m σ H ⟨rfl, hi, p⟩
  have q := hl i σ H hi p
  by_cases hlt : i < xs.length
  · refine .inr ⟨⟨xs, xs[i], q, List.getElem?_eq_getElem hlt⟩, Pv (i + 1), fun σ' H' p' => ⟨xs.length - (i + 1), by omega, rfl, hlt, p'⟩, fun x H' y => ?_⟩
    obtain ⟨T, y, rfl, hT, rfl, hy⟩ := y
    exact hs i y σ H T (hy xs q) p hT
  · have e : i = xs.length := by omega
    subst e
    exact .inl ⟨⟨xs, q, rfl⟩, hd σ H p⟩
end RV
set_option linter.all false
/-! Sets of keys of one kind that can be walked and sorted: set(list of texts), sorted(set of texts). -/
namespace RV
open PySem L2 PySem.Spec PyProof.Rows
section
variable {P : Program} {w : World} {κ : Type} [DecidableEq κ] {knd : KeyKind P w κ}
/-- no two of them are the same key -/
def Apart (knd : KeyKind P w κ) (l : List (Int × Value)) : Prop := l.Pairwise fun e f => ∀ k, ¬ (knd.is k e.2 = true ∧ knd.is k f.2 = true)
/-- a set at a with the members S, n of them, whose table rises -/
def SetX (knd : KeyKind P w κ) (h : Heap) (a : Addr) (S : κ → Bool) (n : Nat) : Prop :=
  ∃ o es ep t, (h.get? a = some o ∧ o.ExactSet ∧ o.data = .set es ep t) ∧ (ElemsOf knd es.toList ∧ Apart knd es.toList ∧ ∀ k, S k = true ↔ ∃ e ∈ es.toList, knd.is k e.2 = true) ∧
    es.size < scanBound ∧ t.fits es.size = true ∧ es.size = n ∧ Ris t.place.toList ∧ (w.params.followText "set-order" = true ∨ t.led = true)
theorem Apart.perm {l l' : List (Int × Value)} (h : Apart knd l) (p : l'.Perm l) : Apart knd l' :=
  (p.pairwise_iff (fun {_ _} z k q => z k ⟨q.2, q.1⟩)).mpr h
theorem SetX.at {h h' : Heap} {a : Addr} {S : κ → Bool} {n : Nat} (R : SetX knd h a S n) (k : ∀ o, h.get? a = some o → h'.get? a = some o) : SetX knd h' a S n := by
  obtain ⟨o, es, ep, t, ⟨ho, r1⟩, r⟩ := R
  exact ⟨o, es, ep, t, ⟨k o ho, r1⟩, r⟩
theorem SetX.congr {h : Heap} {a : Addr} {S S' : κ → Bool} {n : Nat} (R : SetX knd h a S n) (e : ∀ k, S' k = S k) : SetX knd h a S' n := by
  rw [show S' = S from funext e]
  exact R
theorem SetX.fresh {h : Heap} {a : Addr} (ho : h.get? a = some { cls := .type "set", dict := none, data := .set #[] 0 (.fresh 0 0 (!w.params.followText "set-order")) }) : SetX knd h a (fun _ => false) 0 := by
  refine ⟨_, #[], 0, _, ⟨ho, ⟨rfl, rfl, rfl⟩, rfl⟩, ⟨fun e he => (by simp at he), List.Pairwise.nil, fun k => (by simp)⟩, by decide, rfl, rfl, List.Pairwise.nil, ?_⟩
  show _ ∨ (!w.params.followText "set-order") = true
  cases w.params.followText "set-order" <;> simp
variable {A : Around} {E : Value → Shared → Prop} {s : Shared} {a : Addr}
/-- what is stored once the new entry has its place -/
theorem setX_store {g : Bool → Sem Unit} (hg : ∀ (b : Bool) (s₁ : Shared) (Q' : Unit → Shared → Prop), Q' () s₁ → wpAny (model P w) A (g b) Q' E s₁)
    {o : Obj} {es es1 : Array (Int × Value)} {ep : Nat} {t t1 : SetTable} {S' : κ → Bool} (ho : s.heap.get? a = some o ∧ o.ExactSet ∧ o.data = .set es ep t)
    (hm : ElemsOf knd es1.toList ∧ Apart knd es1.toList ∧ ∀ k, S' k = true ↔ ∃ e ∈ es1.toList, knd.is k e.2 = true) (hb : es1.size < scanBound) (hf : t1.fits es1.size = true)
    (hr : Ris t1.place.toList) (hl : w.params.followText "set-order" = true ∨ t1.led = true) {wasDummy : Bool} {R : Option Bool → Shared → Prop}
    (hR : ∀ h', Heap.SameBut a s.heap h' → SetX knd h' a S' es1.size → R (some true) { s with heap := h' }) :
    wpAny (model P w) A (do
        storeSet a es1 t1
        if (!wasDummy && t1.tooFull) = true then do
            g (relayAll t1 es1 (SetTable.grown es1.size)).2.2
            storeSet a (relayAll t1 es1 (SetTable.grown es1.size)).1 (relayAll t1 es1 (SetTable.grown es1.size)).2.1
            pure (some true)
          else pure (some true)) R E s := by
  obtain ⟨ho, hex, hd⟩ := ho
  obtain ⟨hel, hap, hmem⟩ := hm
  have same := Heap.SameBut.update s.heap a (Obj.putSet es1 t1)
  have o1 := store_at (es' := es1) (t' := t1) ho hd
  refine wpAny_bind (wpAny_storeSet_of ho hd ?_ (fits_of_scanBound hb))
  split
  · obtain ⟨p, f, r, l⟩ := (⟨relayAll_perm t1 es1 (SetTable.grown es1.size), relayAll_fits t1 es1 (SetTable.grown es1.size), relayAll_ris t1 es1 (SetTable.grown es1.size), relayAll_led t1 es1 (SetTable.grown es1.size)⟩ : _ ∧ _ ∧ _ ∧ _)
    generalize relayAll t1 es1 (SetTable.grown es1.size) = Z at p f r l ⊢
    obtain ⟨es2, t2, gv⟩ := Z
    dsimp only at p f r l ⊢
    have sz : es2.size = es1.size := by rw [← Array.length_toList, p.length_eq, Array.length_toList]
    have hb2 : es2.size < scanBound := by omega
    refine wpAny_bind (hg _ _ _ (wpAny_bind (wpAny_storeSet_of o1 rfl ?_ (fits_of_scanBound hb2))))
    refine wpAny_pure (hR _ (same.trans (Heap.SameBut.update _ a _)) ⟨_, es2, _, t2, ⟨store_at o1 rfl, hex, rfl⟩, ⟨hel.perm p, hap.perm p, fun k => (hmem k).trans ?_⟩, hb2, f, sz, r, hl.imp id fun z => by rw [l]; exact z⟩)
    exact ⟨fun ⟨e, he, q⟩ => ⟨e, p.mem_iff.mpr he, q⟩, fun ⟨e, he, q⟩ => ⟨e, p.mem_iff.mp he, q⟩⟩
  · exact wpAny_pure (hR _ same ⟨_, es1, _, t1, ⟨o1, hex, rfl⟩, ⟨hel, hap, hmem⟩, hb, hf, rfl, hr, hl⟩)
theorem setX_add {S : κ → Bool} {n : Nat} {k : κ} {x : Value} {Q : Bool → Shared → Prop} (hk : knd.is k x = true) (hs : x.scannable = true) (R : SetX knd s.heap a S n) (room : n + 1 < scanBound)
    (hQ : ∀ h', Heap.SameBut a s.heap h' → SetX knd h' a (fun j => S j || decide (j = k)) (if S k = true then n else n + 1) → Q (!S k) { s with heap := h' }) :
    wpAny (model P w) A (setAddHashed a x (knd.hash k)) Q E s := by
  obtain ⟨o, es, ep, t, ⟨ho, hex, hd⟩, ⟨hel, hap, hmem⟩, hb, hf, hn, hr, hl⟩ := R
  unfold setAddHashed setAddHashedIn
  refine wpAny_holding (wpAny_bind (wpAny_setState_of ho hd hf ?_))
  dsimp only
  rw [byScan_of hs hb hel]
  simp only [↓reduceIte]
  unfold setAddByScan
  refine wpAny_bind (wpAny_bind (wpAny_rule (wpAny_bind (wpAny_setScan_of hk ho hd hf hel ?_))))
  cases hfi : List.findIdx? (fun e => knd.is k e.2) es.toList with
  | some j =>
    dsimp only
    obtain ⟨hj, pj, _⟩ := List.findIdx?_eq_some_iff_getElem.mp hfi
    have hSk : S k = true := (hmem k).2 ⟨_, List.getElem_mem hj, pj⟩
    have q := hQ s.heap (Heap.SameBut.refl a s.heap)
    rw [if_pos hSk, hSk] at q
    refine wpAny_pure (wpAny_pure (q ⟨o, es, ep, t, ⟨ho, hex, hd⟩, ⟨hel, hap, fun i => ?_⟩, hb, hf, hn, hr, hl⟩))
    rw [← hmem i, Bool.or_eq_true, decide_eq_true_eq]
    exact ⟨fun z => z.elim id fun e => e ▸ hSk, .inl⟩
  | none =>
    dsimp only
    have out : ∀ e ∈ es.toList, knd.is k e.2 = false := fun e he => by
      have := List.findIdx?_eq_none_iff.mp hfi e he
      simpa using this
    have hSk : S k = false := by
      cases q : S k with
      | false => rfl
      | true =>
        obtain ⟨e, he, z⟩ := (hmem k).1 q
        rw [out e he] at z
        cases z
    have gw : ∀ (b : Bool) {s₁ : Shared} {Q' : Unit → Shared → Prop}, Q' () s₁ → wpAny (model P w) A (match b with | true => rule "set.scan.the-table-gave-way" | false => pure ()) Q' E s₁ := fun b _ _ q => by
      cases b <;> first | exact wpAny_pure q | exact wpAny_rule q
    obtain ⟨p, f, r, l⟩ := (⟨layNew_perm t es (knd.hash k) x, layNew_fits t es (knd.hash k) x, layNew_ris t es (knd.hash k) x hr, layNew_led t es (knd.hash k) x⟩ : _ ∧ _ ∧ _ ∧ _)
    generalize layNew t es (knd.hash k) x = Z at p f r l ⊢
    obtain ⟨es1, t1, wasDummy, gv⟩ := Z
    dsimp only at p f r l ⊢
    rw [Array.toList_push] at p
    have pc : es1.toList.Perm ((knd.hash k, x) :: es.toList) := p.trans (List.perm_append_singleton _ _)
    have hm1 : ElemsOf knd es1.toList ∧ Apart knd es1.toList ∧ ∀ i, (S i || decide (i = k)) = true ↔ ∃ e ∈ es1.toList, knd.is i e.2 = true := by
      refine ⟨(hel.push hk hs).perm p, Apart.perm (List.pairwise_cons.mpr ⟨fun e he i z => ?_, hap⟩) pc, mem_push_iff hk hmem p⟩
      have ei : i = k := knd.inj x i k z.1 hk
      have q := z.2
      rw [ei, out e he] at q
      cases q
    have sz : es1.size = n + 1 := by rw [← Array.length_toList, pc.length_eq, List.length_cons, Array.length_toList, hn]
    have fin : ∀ h', Heap.SameBut a s.heap h' → SetX knd h' a (fun j => S j || decide (j = k)) es1.size → Q true { s with heap := h' } := fun h' sb r => by
      have q := hQ h' sb
      rw [hSk, if_neg (by decide)] at q
      exact q (sz ▸ r)
    have hl1 : w.params.followText "set-order" = true ∨ t1.led = true := hl.imp id fun z => by rw [l]; exact z
    refine wpAny_bind (gw _ ?_)
    split
    · refine wpAny_bind ?_
      rw [hashByValue_scannable 8 hs]
      refine wpAny_pure (setX_store (fun b s₁ Q' q => ?_) ⟨ho, hex, hd⟩ hm1 (by omega) ?_ ?_ ?_ fun h' sb r => ?_)
      · cases b <;> first | exact wpAny_pure q | exact wpAny_rule q
      · first | (split <;> first | exact f | exact SetTable.fits_plain_off f) | exact f
      · first | (split <;> exact r) | exact r
      · first | (split <;> exact hl1) | exact hl1
      · dsimp only
        exact wpAny_pure (fin h' sb r)
    · refine wpAny_bind (wpAny_pure ?_)
      simp only [↓reduceIte]
      refine setX_store (fun b s₁ Q' q => ?_) ⟨ho, hex, hd⟩ hm1 (by omega) f r hl1 fun h' sb r => ?_
      · cases b <;> first | exact wpAny_pure q | exact wpAny_rule q
      · dsimp only
        exact wpAny_pure (fin h' sb r)
end
end RV
set_option linter.all false
/-! set(list of texts), sorted(set of texts). -/
namespace RV
open PySem L2 PySem.Spec PyProof.Rows
section
variable {P : Program} {w : World} {A : Around} {E : Value → Shared → Prop} {s : Shared}
abbrev SetS (P : Program) (w : World) (h : Heap) (a : Addr) (S : Str → Bool) (n : Nat) : Prop := SetX (PySem.strKind P w) h a S n
theorem fill_loop {I : Addr} {fp wr : List Addr} {G : Array GenState → Array GenState → Prop} {n : Nat} {Pv : Nat → Value → Prop} {St : Nat → Shared → Prop} {R : Result → Shared → Prop}
    (W : WalksS P w A.in1 I fp wr G n Pv St) (S : Addr) (off : S ∉ fp) (xs : List Str) (hn : n = xs.length) (room : xs.length + 1 < scanBound) (hval : ∀ i v, Pv i v → ∃ x t, xs[i]? = some x ∧ v = .str x t) :
    ∀ (k i : Nat) (s : Shared), n - i = k → i ≤ n → St i s → (∃ c, c ≤ i ∧ SetS P w s.heap S (fun x => decide (x ∈ xs.take i)) c) →
      (∀ s' c, Moved (S :: wr) G s s' → c ≤ n → SetS P w s'.heap S (fun x => decide (x ∈ xs)) c → R (.ok (.ret .none)) s') →
      codeAny (model P w) A (.builtin "set.update.loop" ⟨[.ref S, .ref I], []⟩) R s := by
  have offw : S ∉ wr := fun z => off (W.sub _ z)
  have more : ∀ b ∈ wr, b ∈ S :: wr := fun b hb => List.mem_cons_of_mem _ hb
  intro k
  induction k with
  | zero =>
    rintro i s hk hi st ⟨c, hc, x⟩ hR
    obtain rfl : i = n := by omega
    refine codeAny_builtin F.entry_set_update_loop ?_
    rw [Around.under_plainId F.plain_set_update_loop _]
    show wpAny _ A.in1 (pyNext (.ref I) >>= _) _ _ s
    refine wpAny_bind (W.done s _ _ st fun s' m => ?_)
    show wpAny _ A.in1 (ret Value.none) _ _ s'
    rw [List.take_of_length_le (by omega)] at x
    exact wpAny_pure (hR s' c (m.mono more) hc (x.at fun o e => m.heap S o offw e))
  | succ k ih =>
    rintro i s hk hi st ⟨c, hc, x⟩ hR
    have hlt : i < n := by omega
    refine codeAny_builtin F.entry_set_update_loop ?_
    rw [Around.under_plainId F.plain_set_update_loop _]
    show wpAny _ A.in1 (pyNext (.ref I) >>= _) _ _ s
    refine wpAny_bind (W.item i s _ _ hlt st fun v s' pv st' m => ?_)
    obtain ⟨y, t, hy, rfl⟩ := hval i v pv
    have x' := x.at (h' := s'.heap) fun o e => m.heap S o offw e
    show wpAny _ A.in1 (holding [Value.str y t] (setAdd S (.str y t)) >>= _) _ _ s'
    refine wpAny_bind (wpAny_holding ?_)
    unfold setAdd
    refine wpAny_holding (wpAny_bind ((PySem.strKind P w).pyHash (k := y) (strKind_is _ _ _ _) ?_))
    refine setX_add (knd := PySem.strKind P w) (s := { s' with toks := s'.toks + 1 }) (strKind_is _ _ _ _) rfl x' (by omega) fun h' sb x2 => ?_
    refine wpAny_pure ⟨plainId_quiet F.plain_set_update_loop _, ih (i + 1) _ (by omega) hlt (W.frame _ s' _ _ st' (Nat.le_succ _) fun b hb o e => ?_) ⟨_, ?_, x2.congr fun j => ?_⟩ fun s2 c2 m2 hc2 x3 => ?_⟩
    · rw [sb.2 b (fun z => off (z ▸ hb))]
      exact e
    · split <;> omega
    · rw [List.take_add_one, hy]
      simp [List.mem_append]
    · refine hR s2 c2 (Moved.trans W.gtrans ((m.mono more).then_heap (Nat.le_succ _) fun b o hb e => ?_) m2) hc2 x3
      rw [sb.2 b (fun z => hb (by rw [z]; exact List.mem_cons_self))]
      exact e
abbrev emptySet (w : World) : Obj := { cls := .type "set", dict := none, data := .set #[] 0 (.fresh 0 0 (!w.params.followText "set-order")) }
set_option maxHeartbeats 8000000 in
/-- set(xs), xs a list of texts -/
theorem set_of_strs {l : Addr} {items : Array Value} (xs : List Str) {Q : Value → Shared → Prop} (hh : A.handled = none) (hl : s.heap.IsList l items) (hit : StrsAre items.toList xs) (room : xs.length + 1 < scanBound)
    (h : ∀ (h' : Heap) (tk c : Nat), SetS P w h' s.heap.objs.size (fun x => decide (x ∈ xs)) c → c ≤ xs.length → (∀ b o, s.heap.get? b = some o → h'.get? b = some o) → Q (.ref s.heap.objs.size) { s with heap := h', toks := tk }) :
    wpAny (model P w) A (call (.type "set") [.ref l]) Q E s := by
  have hlen : items.size = xs.length := by rw [← Array.length_toList]; exact hit.len_eq
  obtain ⟨c, tl, hmro⟩ := F.called_set.mro
  have hmade := F.called_set.made
  have hsub := F.called_set.sub
  refine wpAny_call (codeAny_of_tree ?_)
  show wpAny _ _ (callAny (.type "set") _) _ _ _
  refine wpAny_pure ⟨Code.quiet_builtin _ (by decide +kernel), codeAny_builtin F.entry_type_call ?_⟩
  rw [Around.under_plain (weight_type_call_type "set" [.ref l] []) rfl]
  have n1 := F.called_set.notType
  have n2 := F.called_set.canCreate
  have n3 := F.typeCall_set_1 (.ref l)
  repeat (any_goals (first | assumption | wp_step))
  refine codeAny_mono (code_set_led1 (.ref l) (E := E) (Q₁ := fun obj s₁ => obj = .ref s.heap.objs.size ∧ s₁ = { s with heap := s.heap.push (emptySet w) }) ⟨rfl, rfl⟩) fun r s₁ hr => ?_
  cases r with
  | error e => exact hr
  | ok fl =>
    cases fl with
    | ret obj =>
      obtain ⟨rfl, rfl⟩ := hr
      have hS : (s.heap.push (emptySet w)).get? s.heap.objs.size = some (emptySet w) := Heap.get?_push_size _ rfl
      have hT : Shared.TypeIs { s with heap := s.heap.push (emptySet w) } (.ref s.heap.objs.size) "set" := ⟨_, hS, rfl⟩
      have hli := F.called_set.init.lookup
      have hbi := F.called_set.init.bind (.ref s.heap.objs.size)
      repeat (any_goals (first | assumption | wp_step))
      refine codeAny_mono (codeAny_call_builtin (R := wants (fun r s₂ => r = .none ∧ ∃ h' tk c, s₂ = { s with heap := h', toks := tk } ∧ SetS P w h' s.heap.objs.size (fun x => decide (x ∈ xs)) c ∧ c ≤ xs.length ∧
          (∀ b o, s.heap.get? b = some o → h'.get? b = some o)) E) F.called_set.init.plain F.entry_set_init (check_set_init_1 hT ?_)) fun r₂ s₂ hr₂ => ?_
      · obtain ⟨ol, hol, hcl, nl, hdl⟩ := hl
        obtain ⟨ocls, odict, odata, oslots⟩ := ol
        simp only at hcl hdl
        subst hcl; subst hdl
        have hol' : (s.heap.push (emptySet w)).get? l = some { cls := .type "list", dict := odict, data := .seq items nl, slots := oslots } := Heap.get?_push_of_some _ hol
        have u1 := F.sub_list_set
        have u2 := F.sub_list_frozenset
        have u3 : (Value.type "list" == Value.type "dict") = false := by decide
        have hl1 : (s.heap.push (emptySet w)).IsList l items := ⟨_, hol', rfl, nl, rfl⟩
        unfold Builtin.«set.__init__» noKeywords Builtin.Frozenset.updateFrom
        generalize hPI : pyIter = PI
        wp_walk
        subst hPI
        refine wpAny_pyIter_list hl1 (wpAny_bind (wpAny_runValue ?_))
        have hlS : l < s.heap.objs.size := Heap.lt_size hol
        have off : s.heap.objs.size ∉ [(s.heap.push (emptySet w)).objs.size, l] := by
          rw [Heap.size_push]
          simp only [List.mem_cons, List.mem_singleton, List.not_mem_nil, or_false, not_or]
          exact ⟨Nat.ne_of_lt (Nat.lt_succ_self _), Nat.ne_of_gt hlS⟩
        have nI : l ≠ (s.heap.push (emptySet w)).objs.size := by
          rw [Heap.size_push]
          exact Nat.ne_of_lt (Nat.lt_succ_of_lt hlS)
        have h3 : A.in1.in1.in1.handled = none := by simp [hh]
        refine fill_loop ((Walks.list h3 _ l nI items).toS) s.heap.objs.size off xs hlen room (fun i v hv => ?_) (items.size - 0) 0 _ (by omega) (Nat.zero_le _)
          ⟨⟨_, Heap.get?_push_size _ rfl, rfl, rfl⟩, (hl1.push _)⟩ ⟨0, Nat.le_refl _, ?_⟩ fun s' c m hc x => ?_
        · have q : items.toList[i]? = some v := by rw [Array.getElem?_toList]; exact hv
          obtain ⟨t, e⟩ := SS.strs_at hit i v q
          have hi : i < xs.length := by
            have := (List.getElem?_eq_some_iff.mp q).1
            rw [hit.len_eq] at this
            exact this
          refine ⟨_, t, List.getElem?_eq_getElem hi, ?_⟩
          rw [e, List.getD_eq_getElem?_getD, List.getElem?_eq_getElem hi]
          rfl
        · refine (SetX.fresh (knd := PySem.strKind P w) ?_).congr fun k => by simp
          exact Heap.get?_push_of_some _ hS
        · obtain ⟨h', g2, d', tk', os'⟩ := s'
          obtain rfl : g2 = s.gens := m.gens
          obtain rfl : d' = s.drawn := m.drawn
          obtain rfl : os' = s.os := m.os
          show wpAny _ _ _ _ _ _
          refine wpAny_pure ?_
          show wpAny _ _ (ret Value.none) _ _ _
          refine wpAny_pure ⟨rfl, h', tk', c, rfl, x, by omega, fun b o e => ?_⟩
          have hb : b < s.heap.objs.size := Heap.lt_size e
          refine m.heap b o ?_ (Heap.get?_push_of_some _ (Heap.get?_push_of_some _ e))
          rw [Heap.size_push]
          simp only [List.mem_cons, List.mem_singleton, List.not_mem_nil, or_false, not_or]
          exact ⟨Nat.ne_of_lt hb, Nat.ne_of_lt (Nat.lt_succ_of_lt hb)⟩
      · cases r₂ with
        | error e => exact hr₂
        | ok fl₂ =>
          cases fl₂ with
          | ret r =>
            obtain ⟨rfl, h', tk, c, rfl, x, hc, hk⟩ := hr₂
            repeat (any_goals (first | assumption | wp_step))
            exact h _ _ _ x hc hk
          | _ => exact hr₂.elim
    | _ => exact hr.elim
end
end RV
set_option linter.all false
/-! the rules: set(list of texts), sorted(set of texts) -/
namespace RV
open PySem L2 PySem.Spec PyProof.Rows
section
variable {P : Program} {w : World} {A : Around} {E : Value → Shared → Prop} {s : Shared}
theorem str_of_is {k : Str} {v : Value} (h : (PySem.strKind P w).is k v = true) : ∃ t, v = .str k t := by
  cases v <;> simp [PySem.strKind, Value.isStrOf] at h
  subst h
  exact ⟨_, rfl⟩
theorem strsAre_of : ∀ {vs : List Value}, (∀ v ∈ vs, ∃ k t, v = Value.str k t) → ∃ xs, StrsAre vs xs
  | [], _ => ⟨[], .nil⟩
  | v :: vs, h => by
    obtain ⟨k, t, rfl⟩ := h v List.mem_cons_self
    obtain ⟨xs, r⟩ := strsAre_of fun u hu => h u (List.mem_cons_of_mem _ hu)
    exact ⟨k :: xs, .cons k t r⟩
theorem strsAre_mem : ∀ {vs : List Value} {xs : List Str}, StrsAre vs xs → ∀ x, x ∈ xs ↔ ∃ t, Value.str x t ∈ vs
  | _, _, .nil, x => by simp
  | _, _, .cons k t r, x => by
    rw [List.mem_cons, strsAre_mem r x]
    constructor
    · rintro (rfl | ⟨t', h⟩)
      · exact ⟨t, List.mem_cons_self⟩
      · exact ⟨t', List.mem_cons_of_mem _ h⟩
    · rintro ⟨t', h⟩
      rcases List.mem_cons.mp h with e | h
      · injection e with e1 e2
        exact .inl e1
      · exact .inr ⟨t', h⟩
theorem strsAre_nodup : ∀ {vs : List Value} {xs : List Str}, StrsAre vs xs → vs.Pairwise (fun u v => ∀ k t t', ¬ (u = Value.str k t ∧ v = Value.str k t')) → xs.Nodup
  | _, _, .nil, _ => List.nodup_nil
  | _, _, .cons k t r, h => by
    obtain ⟨h1, h2⟩ := List.pairwise_cons.mp h
    refine List.nodup_cons.mpr ⟨fun hm => ?_, strsAre_nodup r h2⟩
    obtain ⟨t', ht⟩ := (strsAre_mem r k).mp hm
    exact h1 _ ht k t t' ⟨rfl, rfl⟩
theorem sorted_of_set {a : Addr} {S : Str → Bool} {n : Nat} {Q : Value → Shared → Prop} (R : SetS P w s.heap a S n) (hh : A.handled = none)
    (hQ : ∀ s' p (out : Array Value) (c : Nat) (xs : List Str), (∀ b o, s.heap.get? b = some o → s'.heap.get? b = some o) → s'.gens = s.gens → s'.os = s.os → s.heap.objs.size ≤ p →
      s'.heap.get? p = some (seqObj "list" out c) → StrsAre out.toList xs → sortedS xs = true → xs.Nodup → (∀ k, k ∈ xs ↔ S k = true) → xs.length = n → Q (.ref p) s') :
    wpAny (model P w) A (call (.builtin "sorted") [.ref a]) Q E s := by
  obtain ⟨o, es, ep, t, ⟨ho, hex, hd⟩, ⟨hel, hap, hmem⟩, hb, hf, hn, hr, hl⟩ := R
  refine Calls.call_function_entry kind_sorted plain_sorted entry_sorted (args_sorted1 _) ?_
  unfold Builtin.«sorted»
  refine wpAny_bind (m := checkCount "sorted" 1 1 _) (wpAny_pure ?_)
  refine wpAny_bind (collect_set (A := A.in1) hh ⟨o, ho, hex.1, hd⟩ hf hb hr hl fun s1 vs k1 hz g1 o1 pm => ?_)
  have hvl : vs.length = n := by rw [pm.length_eq, List.length_map, Array.length_toList]; exact hn
  have hsz : vs.length ≤ sizeLine := by rw [hvl, ← hn]; exact fits_of_scanBound hb
  obtain ⟨xs, hS⟩ := strsAre_of (vs := vs) fun v hv => by
    obtain ⟨e, he, q⟩ := List.mem_map.mp (pm.mem_iff.mp hv)
    obtain ⟨⟨k, hk, _⟩, _⟩ := hel e he
    obtain ⟨tk, ek⟩ := str_of_is hk
    exact ⟨k, tk, by rw [← q]; exact ek⟩
  have hnd : xs.Nodup := by
    refine strsAre_nodup hS ((pm.pairwise_iff (fun {_ _} z k t t' q => z k t' t ⟨q.2, q.1⟩)).mpr ?_)
    rw [List.pairwise_map]
    refine hap.imp fun z k t t' q => z k ?_
    rw [q.1, q.2]
    exact ⟨strKind_is _ _ _ _, strKind_is _ _ _ _⟩
  have hin : ∀ k, k ∈ xs ↔ S k = true := fun k => by
    rw [strsAre_mem hS k, hmem k]
    constructor
    · rintro ⟨t', h⟩
      obtain ⟨e, he, q⟩ := List.mem_map.mp (pm.mem_iff.mp h)
      exact ⟨e, he, by rw [q]; exact strKind_is _ _ _ _⟩
    · rintro ⟨e, he, q⟩
      obtain ⟨t', et⟩ := str_of_is q
      exact ⟨t', pm.mem_iff.mpr (List.mem_map.mpr ⟨e, he, et⟩)⟩
  refine wpAny_bind (wpAny_newList ?_ hsz)
  have hoL : (s1.heap.push (seqObj "list" vs.toArray 0)).get? s1.heap.objs.size = some (seqObj "list" vs.toArray 0) := Heap.get?_push_size _ rfl
  refine wpAny_bind (wpAny_holding (wpAny_call_entry slot_list_sort ⟨_, hoL, rfl⟩ entry_list_sort (list_sort_treeKAny PyProof.Rows.strKind_oneLt hoL hS.keysOf (fun v₁ v₂ rest e => keyKind_strs (by rw [← e]; exact hS)) hsz fun st' hp hs => ⟨_, rfl, ?_⟩) (args_list_sort _)))
  obtain ⟨ys, q1, q2, q3⟩ := sorted_out_str hS hp hs
  obtain ⟨c, hc⟩ := sortedHeap_at (vs := vs) (out := (arrOf st').map (·.2)) hoL
  refine wpAny_pure ⟨_, rfl, hQ _ s1.heap.objs.size _ c ys (fun b u e => ?_) g1 o1 hz hc q1 q3 (q2.nodup_iff.mpr hnd) (fun k => q2.mem_iff.trans (hin k)) ?_⟩
  · have q := k1 b u e
    have hlt := Heap.lt_size q
    show (sortedHeap (s1.heap.push (seqObj "list" vs.toArray 0)) s1.heap.objs.size vs _).get? b = some u
    rw [sortedHeap_old (Nat.ne_of_lt hlt) (by rw [size_push']; exact Nat.lt_succ_of_lt hlt)]
    exact Heap.get?_push_of_some _ q
  · rw [q2.length_eq, ← hS.len_eq]
    exact hvl
end
/-- a set of texts in the ledger -/
def SetT (P : Program) (w : World) (a : Addr) (S : Str → Bool) (n : Nat) : HO := .ext fun h => SetS P w h a S n
section
variable {X : Cx}
theorem setT_new {w : World} {P : Program} {H : Hp} {h : Heap} {a : Addr} {S : Str → Bool} {n : Nat} (R : SetS P w h a S n) : ObjOk P w H h a (SetT P w a S n) := by
  obtain ⟨o, es, ep, t, ⟨ho, _⟩, _⟩ := id R
  exact ⟨R, ⟨o, ho⟩, fun h1 h2 p k => p.at k⟩
theorem vals_strsAre : ∀ {xs : List Str} {us : List Value}, StrsAre us xs → Vals (xs.map V.str) us
  | _, _, .nil => .nil
  | _, _, .cons k t r => .cons ⟨t, rfl⟩ (vals_strsAre r)
theorem strsAre_vals : ∀ {xs : List Str} {us : List Value}, Vals (xs.map V.str) us → StrsAre us xs
  | [], _, .nil => .nil
  | x :: xs, _, .cons r q => by
    obtain ⟨t, rfl⟩ := r
    exact .cons x t (strsAre_vals q)
def rSetS (K : PySem.W.Frag) (P : Program) (w : World) : List V → Hp → VK → Prop := fun vs H Q => ∃ (l : Addr) (xs : List Str), vs = [V.ref l] ∧ SqL K H l (xs.map V.str) ∧ xs.length < 4000 ∧
  ∀ a n, H a = none → n ≤ xs.length → Q (.ref a) (upd H a (SetT P w a (fun x => decide (x ∈ xs)) n))
theorem cr_setS (hc : X.calm = true) : CallR X (.type "set") (rSetS X.K X.prog X.w) := by
  intro pins s σ H vs us Q I r h
  obtain ⟨l, xs, rfl, hl, hf, q⟩ := h
  rw [Vals.ref1 r]
  obtain ⟨its, rv, pl, hz⟩ := I.list hl
  have hn : H s.heap.objs.size = none := I.hok.fresh (Nat.le_refl _)
  refine set_of_strs (P := X.prog) (w := X.w) xs (I.ok.hd hc) pl.isList (by simpa using strsAre_vals rv) (by unfold scanBound; omega) fun h' tk c R hcl k => ?_
  exact ⟨.ref s.heap.objs.size, upd H s.heap.objs.size (SetT X.prog X.w s.heap.objs.size _ c), I.laid (t' := tk) k (Nat.le_refl _) (setT_new R), rfl, q _ c hn hcl⟩
def rSortS (P : Program) (w : World) : List V → Hp → VK → Prop := fun vs H Q => ∃ (a : Addr) (S : Str → Bool) (n : Nat), vs = [V.ref a] ∧ H a = some (SetT P w a S n) ∧
  ∀ (xs : List Str) (p : Addr), sortedS xs = true → xs.Nodup → (∀ k, k ∈ xs ↔ S k = true) → xs.length = n → H p = none → Q (.ref p) (upd H p (.lst (xs.map V.str)))
theorem cr_sortS (hc : X.calm = true) : CallR X (.builtin "sorted") (rSortS X.prog X.w) := by
  intro pins s σ H vs us Q I r h
  obtain ⟨a, S, n, rfl, ha, q⟩ := h
  have R : SetS X.prog X.w s.heap a S n := (I.hok a _ ha).1
  rw [Vals.ref1 r]
  have hb : n ≤ sizeLine := by
    obtain ⟨o, es, ep, t, _, _, hb, _, hn, _⟩ := id R
    rw [← hn]
    exact fits_of_scanBound hb
  refine sorted_of_set R (I.ok.hd hc) fun s' p out c xs k g o hp hg hS h1 h2 h3 h4 => ?_
  have hn : H p = none := I.hok.fresh hp
  have J : Inv X pins σ (upd H p (.lst (xs.map V.str))) { s with heap := s'.heap, gens := s'.gens, drawn := s'.drawn, toks := s'.toks } :=
    I.call (ch := []) (Un.laid k hp hn) (I.hok.laid k hp ⟨by rw [List.length_map, h4]; exact hb, out.toList, c, vals_strsAre hS, hg⟩) (by rw [g]; exact I.bare) (fun _ z => nomatch z)
  have e : s' = { s with heap := s'.heap, gens := s'.gens, drawn := s'.drawn, toks := s'.toks } := by
    cases s'
    cases s
    cases o
    rfl
  rw [e]
  exact ⟨.ref p, _, J, rfl, q xs p h1 h2 h3 h4 hn⟩
end
end RV
/-! promises of the laws about sums; pairs of a name and an integer -/
namespace RV
open PySem L2
structure Blt2 (mg : Str → Option Value) : Prop where
  b_sum : mg "sum" = none
  b_sorted : mg "sorted" = none
  b_set : mg "set" = none
  b_tuple : mg "tuple" = none
  b_enumerate : mg "enumerate" = none
  b_bool : mg "bool" = none
def big : Int := 10 ^ 30
def sp_number : Sp := fun vs H Q _ => ∃ (a : Addr) (n : Nat), vs = [.ref a] ∧ WellAt H a n ∧ n < 900000 ∧
  ∀ (z : Int) H', -big < z → z < big → Grow a H H' → WellAt H' a (n + 5) → Q (.int z) H'
theorem pg_tupK {X : Cx} {K : PySem.W.Frag} {es : List Expr} {k : Nat} {t : TGs} {n : Nat} {pos : Pos} (hc : X.calm = true) (h : PGs X es t)
    (hn : (assignEach es X.env).length = n := by rfl) (hst : (assignEach es X.env).findIdx? (·.1) = none := by rfl) (hK : X.K = K := by rfl) : PG X (.Tuple es k pos) (gTup K n t) := hK ▸ pg_tup hc h hn hst
/-! ### lists of pairs of a text and an integer, each at its address -/
abbrev TP := Addr × Str × Int
def vP (us : List TP) : List V := us.map fun u => .ref u.1
def prs (us : List TP) : List (Str × Int) := us.map (·.2)
def oP (q : Str × Int) : HO := .tup [.str q.1, .int q.2]
def lP (us : List TP) : List (Addr × HO) := us.map fun u => (u.1, oP u.2)
def TPs (K : PySem.W.Frag) (H : Hp) (us : List TP) : Prop := ∀ u ∈ us, SqT K H u.1 [.str u.2.1, .int u.2.2]
theorem TPs.ext {K : PySem.W.Frag} {H H' : Hp} {us : List TP} (h : TPs K H us) (e : Same H H') : TPs K H' us := fun u hu => (h u hu).ext e
theorem vP_app (us vs : List TP) : vP (us ++ vs) = vP us ++ vP vs := List.map_append
theorem prs_app (us vs : List TP) : prs (us ++ vs) = prs us ++ prs vs := List.map_append
theorem lP_app (us vs : List TP) : lP (us ++ vs) = lP us ++ lP vs := List.map_append
theorem vP_len (us : List TP) : (vP us).length = us.length := List.length_map _
theorem prs_len (us : List TP) : (prs us).length = us.length := List.length_map _
abbrev gPr (K : PySem.W.Frag) (i j : Nat) : TG := gTup K 2 (gCons (gName i) (gCons (gName j) gNil))
theorem gPr_at {K : PySem.W.Frag} {i j : Nat} {u : TP} {σ : L2.St} {H : Hp} {R : L2.St → Hp → Prop} (ht : SqT K H u.1 [.str u.2.1, .int u.2.2]) (h : R ((σ.set i (some (.str u.2.1))).set j (some (.int u.2.2))) H) : gPr K i j (.ref u.1) σ H R :=
  ⟨u.1, _, rfl, ht, rfl, _, _, rfl, _, _, rfl, ⟨rfl, h⟩⟩
/-! ### how great they are -/
def tot (qs : List (Str × Int)) : Nat := (qs.map fun q => q.2.natAbs).sum
theorem tot_mem {q : Str × Int} : ∀ {qs : List (Str × Int)}, q ∈ qs → q.2.natAbs ≤ tot qs
  | r :: qs, h => by
    have e : tot (r :: qs) = r.2.natAbs + tot qs := rfl
    rcases List.mem_cons.mp h with rfl | h
    · omega
    · have := tot_mem h
      omega
end RV
/-! drawn pairs -/
namespace RV
open PySem L2
structure Pairs (us : List TP) (m : Nat) : Prop where
  nm : ∀ q ∈ prs us, IsNm q.1
  gr : (tot (prs us) : Int) ≤ big * 2 ^ m
  ln : us.length ≤ m
/-- drawn pairs; at most ten -/
def sp_pairs : Sp := fun vs H Q _ => ∃ (a : Addr) (n m : Nat), vs = [.ref a, .int m] ∧ WellAt H a n ∧ n < 700000 ∧ m ≤ 20 ∧
  ∀ (us : List TP) (l : Addr) H', Pairs us m → (∀ p ∈ (l, HO.lst (vP us)) :: lP us, p.1 ≠ a ∧ H' p.1 = some p.2) → H l = none → Grow a H H' → WellAt H' a (n + 1000) → Q (.ref l) H'
end RV
namespace RV
open PySem L2
end RV
/-! the order of texts; sums as ascending pairs; things made by a function that keeps all that stood -/
namespace RV
open PySem L2
open PySem.Spec (ltCps)
open PyProof.Rows (sortedS risingS)
theorem lt_irr : ∀ a : List Nat, ltCps a a = false
  | [] => rfl
  | c :: r => by simp [ltCps, lt_irr r]
theorem lt_tr : ∀ {a b c : List Nat}, ltCps a b = true → ltCps b c = true → ltCps a c = true
  | [], [], _, h, _ => by simp [ltCps] at h
  | [], _ :: _, [], _, h => by simp [ltCps] at h
  | [], _ :: _, _ :: _, _, _ => rfl
  | _ :: _, [], _, h, _ => by simp [ltCps] at h
  | _ :: _, _ :: _, [], _, h => by simp [ltCps] at h
  | x :: a, y :: b, z :: c, h, k => by
    simp only [ltCps, Bool.or_eq_true, decide_eq_true_eq, Bool.and_eq_true, beq_iff_eq] at h k ⊢
    rcases h with h | ⟨h, h'⟩ <;> rcases k with k | ⟨k, k'⟩
    · exact .inl (by omega)
    · exact .inl (by omega)
    · exact .inl (by omega)
    · exact .inr ⟨by omega, lt_tr h' k'⟩
theorem lt_tri : ∀ {a b : List Nat}, ltCps a b = false → ltCps b a = false → a = b
  | [], [], _, _ => rfl
  | [], _ :: _, h, _ => by simp [ltCps] at h
  | _ :: _, [], _, h => by simp [ltCps] at h
  | x :: a, y :: b, h, k => by
    simp only [ltCps, Bool.or_eq_false_iff, decide_eq_false_iff_not, Bool.and_eq_false_iff, beq_eq_false_iff_ne] at h k
    have e : x = y := by omega
    subst e
    rw [lt_tri (h.2.resolve_left fun z => z rfl) (k.2.resolve_left fun z => z rfl)]
def Lt (a b : Str) : Prop := ltCps (cd a) (cd b) = true
theorem Lt.irr (a : Str) : ¬ Lt a a := fun h => by rw [Lt, lt_irr] at h; cases h
theorem Lt.tr {a b c : Str} (h : Lt a b) (k : Lt b c) : Lt a c := lt_tr h k
theorem asc_of : ∀ {xs : List Str}, sortedS xs = true → xs.Nodup → xs.Pairwise Lt
  | [], _, _ => .nil
  | [x], _, _ => List.pairwise_cons.mpr ⟨fun _ h => (nomatch h), .nil⟩
  | x :: y :: r, h, d => by
    have h' : (!ltCps (cd y) (cd x) && risingS y r) = true := h
    rw [Bool.and_eq_true] at h'
    obtain ⟨d1, d2⟩ := List.nodup_cons.mp d
    have ih := asc_of (xs := y :: r) h'.2 d2
    have lt : Lt x y := by
      cases e : ltCps (cd x) (cd y) with
      | true => exact e
      | false =>
        have e2 : ltCps (cd y) (cd x) = false := by simpa using h'.1
        exact absurd (cd_inj (lt_tri e e2) ▸ List.mem_cons_self) d1
    refine List.pairwise_cons.mpr ⟨fun z hz => ?_, ih⟩
    rcases List.mem_cons.mp hz with rfl | hz
    · exact lt
    · exact lt.tr ((List.pairwise_cons.mp ih).1 z hz)
theorem asc_uniq {α : Type} {R : α → α → Prop} (irr : ∀ a, ¬ R a a) (tr : ∀ {a b c}, R a b → R b c → R a c) : ∀ {l m : List α}, l.Pairwise R → m.Pairwise R → (∀ x, x ∈ l ↔ x ∈ m) → l = m
  | [], [], _, _, _ => rfl
  | [], y :: m, _, _, h => nomatch (h y).2 List.mem_cons_self
  | x :: l, [], _, _, h => nomatch (h x).1 List.mem_cons_self
  | x :: l, y :: m, hl, hm, h => by
    obtain ⟨a1, a2⟩ := List.pairwise_cons.mp hl
    obtain ⟨b1, b2⟩ := List.pairwise_cons.mp hm
    have e : x = y := by
      rcases List.mem_cons.mp ((h x).1 List.mem_cons_self) with e | hx
      · exact e
      rcases List.mem_cons.mp ((h y).2 List.mem_cons_self) with e | hy
      · exact e.symm
      exact absurd (tr (a1 y hy) (b1 x hx)) (irr x)
    subst e
    have : l = m := asc_uniq irr tr a2 b2 fun z => by
      constructor
      · intro hz
        rcases List.mem_cons.mp ((h z).1 (List.mem_cons_of_mem _ hz)) with e | h'
        · exact absurd (e ▸ a1 z hz) (irr x)
        · exact h'
      · intro hz
        rcases List.mem_cons.mp ((h z).2 (List.mem_cons_of_mem _ hz)) with e | h'
        · exact absurd (e ▸ b1 z hz) (irr x)
        · exact h'
    rw [this]
/-! ### the coefficient of a name -/
def co (qs : List (Str × Int)) (x : Str) : Int := ((qs.filter fun q => decide (q.1 = x)).map fun q => q.2).sum
theorem co_nil (x : Str) : co [] x = 0 := rfl
theorem co_cons (q : Str × Int) (qs : List (Str × Int)) (x : Str) : co (q :: qs) x = (if q.1 = x then q.2 else 0) + co qs x := by
  unfold co
  by_cases h : q.1 = x <;> simp [List.filter_cons, h]
theorem co_app (a b : List (Str × Int)) (x : Str) : co (a ++ b) x = co a x + co b x := by
  unfold co
  rw [List.filter_append, List.map_append, List.sum_append]
theorem co_none {qs : List (Str × Int)} {x : Str} (h : ∀ q ∈ qs, q.1 ≠ x) : co qs x = 0 := by
  unfold co
  rw [List.filter_eq_nil_iff.mpr fun q hq => by simpa using h q hq]
  rfl
/-- ascending pairs, none with 0 -/
structure Nrm (rs : List (Str × Int)) : Prop where
  asc : (rs.map (·.1)).Pairwise Lt
  no0 : ∀ q ∈ rs, q.2 ≠ 0
theorem co_asc {q : Str × Int} : ∀ {rs : List (Str × Int)}, (rs.map (·.1)).Pairwise Lt → q ∈ rs → co rs q.1 = q.2
  | [], _, hq => nomatch hq
  | r :: rs, ha, hq => by
    rw [List.map_cons, List.pairwise_cons] at ha
    rw [co_cons]
    rcases List.mem_cons.mp hq with e | hq
    · subst e
      rw [if_pos rfl, co_none (fun r hr e => ?_), Int.add_zero]
      have := ha.1 r.1 (List.mem_map.mpr ⟨r, hr, rfl⟩)
      rw [e] at this
      exact Lt.irr _ this
    · rw [if_neg (fun e => ?_), co_asc ha.2 hq, Int.zero_add]
      have := ha.1 q.1 (List.mem_map.mpr ⟨q, hq, rfl⟩)
      rw [e] at this
      exact Lt.irr _ this
theorem Nrm.co {rs : List (Str × Int)} (h : Nrm rs) {q : Str × Int} (hq : q ∈ rs) : co rs q.1 = q.2 := co_asc h.asc hq
theorem Nrm.mem {rs : List (Str × Int)} (h : Nrm rs) (x : Str) : x ∈ rs.map (·.1) ↔ RV.co rs x ≠ 0 := by
  constructor
  · intro hx
    obtain ⟨q, hq, rfl⟩ := List.mem_map.mp hx
    rw [h.co hq]
    exact h.no0 q hq
  · intro hx
    refine Classical.byContradiction fun hn => hx (co_none fun q hq e => hn (List.mem_map.mpr ⟨q, hq, e⟩))
theorem Nrm.uniq {rs ss : List (Str × Int)} (h : Nrm rs) (k : Nrm ss) (e : ∀ x, RV.co rs x = RV.co ss x) : rs = ss := by
  have e1 : rs.map (·.1) = ss.map (·.1) := asc_uniq Lt.irr Lt.tr h.asc k.asc fun x => by rw [h.mem, k.mem, e]
  have back : ∀ {ts : List (Str × Int)}, Nrm ts → ts = (ts.map (·.1)).map fun x => (x, RV.co ts x) := fun {ts} n => by
    rw [List.map_map]
    refine (List.map_id ts).symm.trans (List.map_congr_left fun q hq => ?_)
    show q = (q.1, RV.co ts q.1)
    rw [n.co hq]
  rw [back h, back k, e1]
  exact List.map_congr_left fun x _ => by rw [e]
theorem nrm_of {xs : List Str} {c : Str → Int} (ha : xs.Pairwise Lt) : Nrm ((xs.map fun x => (x, c x)).filter fun q => !decide (q.2 = 0)) := by
  refine ⟨?_, fun q hq => by simpa using (List.mem_filter.mp hq).2⟩
  refine List.Pairwise.sublist ((List.filter_sublist).map _) ?_
  rw [List.map_map]
  have : xs.map ((fun q : Str × Int => q.1) ∘ fun x => (x, c x)) = xs := (List.map_congr_left fun _ _ => rfl).trans (List.map_id xs)
  rw [this]
  exact ha
theorem nrm_co {xs : List Str} {c : Str → Int} (ha : xs.Pairwise Lt) (hc : ∀ x, x ∉ xs → c x = 0) (x : Str) : RV.co ((xs.map fun x => (x, c x)).filter fun q => !decide (q.2 = 0)) x = c x := by
  have n := nrm_of (c := c) ha
  by_cases h : x ∈ xs ∧ c x ≠ 0
  · exact n.co (q := (x, c x)) (List.mem_filter.mpr ⟨List.mem_map.mpr ⟨x, h.1, rfl⟩, by simpa using h.2⟩)
  · have c0 : c x = 0 := by
      by_cases hx : x ∈ xs
      · exact Classical.byContradiction fun k => h ⟨hx, k⟩
      · exact hc x hx
    rw [c0]
    refine co_none fun q hq e => ?_
    obtain ⟨h1, h2⟩ := List.mem_filter.mp hq
    obtain ⟨y, _, rfl⟩ := List.mem_map.mp h1
    have e' : y = x := e
    subst e'
    simp [c0] at h2
/-! ### what a function that keeps all that stood leaves -/
structure Kp (H0 : Hp) (L : List (Addr × HO)) (H : Hp) : Prop where
  sm : Same H0 H
  nw : ∀ p ∈ L, H0 p.1 = none ∧ H p.1 = some p.2
section
variable {H0 H H' : Hp} {L L' : List (Addr × HO)} {p q a : Addr} {o o' : HO} {n : Nat}
theorem Kp.start (H : Hp) : Kp H [] H := ⟨fun _ _ e => e, fun _ h => nomatch h⟩
theorem Kp.next (h : Kp H0 L H) (g : Same H H') : Kp H0 L H' := ⟨fun b o e => g b o (h.sm b o e), fun p hp => ⟨(h.nw p hp).1, g _ _ (h.nw p hp).2⟩⟩
theorem Kp.none0 (h : Kp H0 L H) (np : H p = none) : H0 p = none := by
  cases e : H0 p with
  | none => rfl
  | some o => rw [h.sm p o e] at np; cases np
theorem Kp.new (h : Kp H0 L H) (np : H p = none) : Kp H0 ((p, o) :: L) (upd H p o) := by
  have g : Same H (upd H p o) := fun b u e => by rw [upd_ne (ne_of_none e np)]; exact e
  refine ⟨fun b u e => g b u (h.sm b u e), fun r hr => ?_⟩
  rcases List.mem_cons.mp hr with rfl | hr
  · exact ⟨h.none0 np, upd_same⟩
  · exact ⟨(h.nw r hr).1, g _ _ (h.nw r hr).2⟩
theorem Kp.sub (h : Kp H0 L H) (s : ∀ p ∈ L', p ∈ L) : Kp H0 L' H := ⟨h.sm, fun p hp => h.nw p (s p hp)⟩
theorem Kp.at (h : Kp H0 L H) (hp : (p, o) ∈ L) : H p = some o := (h.nw _ hp).2
theorem Kp.apart (h : Kp H0 L H) (hp : (p, o) ∈ L) (hq : (q, o') ∈ L) (d : o ≠ o') : p ≠ q := fun e => by
  have h1 := h.at hp
  rw [e, h.at hq] at h1
  exact d (Option.some.inj h1).symm
theorem Kp.reset (h : Kp H0 ((p, o) :: L) H) (hp : ∀ q ∈ L, q.1 ≠ p) : Kp H0 ((p, o') :: L) (upd H p o') := by
  have p0 := (h.nw (p, o) List.mem_cons_self).1
  refine ⟨fun b u e => by rw [upd_ne (ne_of_none e p0)]; exact h.sm b u e, fun r hr => ?_⟩
  rcases List.mem_cons.mp hr with rfl | hr
  · exact ⟨p0, upd_same⟩
  · exact ⟨(h.nw r (List.mem_cons_of_mem _ hr)).1, by rw [upd_ne (hp r hr)]; exact (h.nw r (List.mem_cons_of_mem _ hr)).2⟩
end
/-! ### merged -/
def sp_merged (K : PySem.W.Frag) : Sp := fun vs H Q _ => ∃ (l : Addr) (us : List TP), vs = [.ref l] ∧ SqL K H l (vP us) ∧ TPs K H us ∧ us.length ≤ 120 ∧
  ∀ (ds : List TP) (m : Addr) H', Nrm (prs ds) → (∀ x, co (prs ds) x = co (prs us) x) → (∀ q ∈ prs ds, q.1 ∈ (prs us).map (·.1)) → ds.length ≤ us.length → Kp H ((m, .lst (vP ds)) :: lP ds) H' → Q (.ref m) H'
end RV
/-! numbers, terms, what a sum makes of its terms -/
namespace RV
open PySem L2
theorem tyx_tup {K : PySem.W.Frag} {H : Hp} {a : Addr} {xs : List V} (h : SqT K H a xs) : TyX K H (.ref a) (.type "tuple") := by
  rcases h with (h | ⟨o, h⟩) | ⟨o, its, n, h, hc, _⟩
  · exact .base (.tup h)
  · exact .fTuple h
  · exact .kTuple h hc
def sp_is_number (K : PySem.W.Frag) : Sp := fun vs H Q _ => ∃ v, vs = [v] ∧ ((∃ z : Int, v = .int z ∧ Q (.bl true) H) ∨ (∃ b : Bool, v = .bl b ∧ Q (.bl false) H) ∨
  (∃ t, TyX K H v t ∧ PySem.W.kitOne K t (.type "int") = some false ∧ Q (.bl false) H))
/-- a pair of a name and an integer -/
def sp_is_term (K : PySem.W.Frag) : Sp := fun vs H Q _ => ∃ (t : Addr) (x : Str) (z : Int), vs = [.ref t] ∧ SqT K H t [.str x, .int z] ∧ IsNm x ∧ ∀ H', Same H H' → Q (.bl true) H'
/-- a tuple of such pairs -/
def sp_check_terms (K : PySem.W.Frag) : Sp := fun vs H Q _ => ∃ (t : Addr) (us : List TP), vs = [.ref t] ∧ SqT K H t (vP us) ∧ TPs K H us ∧ (∀ q ∈ prs us, IsNm q.1) ∧ us.length ≤ 120 ∧ ∀ H', Same H H' → Q .non H'
/-- at most 120, with at most 60 different names -/
def Few (qs : List (Str × Int)) : Prop := qs.length ≤ 120 ∧ ∃ pool : List Str, pool.length ≤ 60 ∧ ∀ q ∈ qs, q.1 ∈ pool
theorem Few.of {qs : List (Str × Int)} (h : qs.length ≤ 60) : Few qs := ⟨Nat.le_trans h (by decide), qs.map (·.1), by rw [List.length_map]; exact h, fun q hq => List.mem_map.mpr ⟨q, hq, rfl⟩⟩
theorem nodup_len : ∀ {xs ys : List Str}, xs.Nodup → (∀ x ∈ xs, x ∈ ys) → xs.length ≤ ys.length
  | [], _, _, _ => Nat.zero_le _
  | x :: xs, ys, h, s => by
    rw [List.nodup_cons] at h
    have hx := s x List.mem_cons_self
    have := nodup_len (ys := ys.erase x) h.2 fun y hy => (List.mem_erase_of_ne (fun e => h.1 (by rw [← e]; exact hy))).mpr (s y (List.mem_cons_of_mem _ hy))
    rw [List.length_erase_of_mem hx] at this
    have := List.length_pos_of_mem hx
    rw [List.length_cons]
    omega
def sp_collected (K : PySem.W.Frag) : Sp := fun vs H Q _ => ∃ (t : Addr) (us : List TP), vs = [.ref t] ∧ SqT K H t (vP us) ∧ TPs K H us ∧ Few (prs us) ∧
  ∀ (ds : List TP) (m : Addr) H', Nrm (prs ds) → (∀ x, co (prs ds) x = co (prs us) x) → (∀ q ∈ prs ds, q.1 ∈ (prs us).map (·.1)) → ds.length ≤ us.length → Kp H ((m, .tup (vP ds)) :: lP ds) H' → Q (.ref m) H'
end RV
/-! a dict that counts -/
namespace RV
open PySem L2
structure Dct (kvs : List (Key × V)) (qs : List (Str × Int)) (ks : List Str) : Prop where
  keys : kvs.map (·.1) = ks.map Sum.inr
  nd : ks.Nodup
  mem : ∀ x, x ∈ ks ↔ x ∈ qs.map (·.1)
  val : ∀ x, valV kvs (.inr x) = if x ∈ ks then some (.int (co qs x)) else none
  ln : ks.length ≤ qs.length
theorem Dct.nil : Dct [] [] [] := ⟨rfl, .nil, fun _ => Iff.rfl, fun _ => rfl, Nat.le_refl _⟩
theorem putK_keys {κ : Type} [DecidableEq κ] {kvs : List (κ × V)} {k : κ} {v : V} (h : (valV kvs k).isSome = true) : (putK kvs k v).map (·.1) = kvs.map (·.1) := by
  unfold putK
  rw [valV_any, if_pos h, List.map_map]
  refine List.map_congr_left fun kv _ => ?_
  show (if kv.1 = k then (kv.1, v) else kv).1 = kv.1
  split <;> rfl
theorem Dct.get {kvs : List (Key × V)} {qs : List (Str × Int)} {ks : List Str} (h : Dct kvs qs ks) (x : Str) : (valV kvs (.inr x)).getD (.int 0) = .int (co qs x) := by
  rw [h.val]
  split
  · rfl
  · rename_i hn
    rw [co_none fun q hq e => hn ((h.mem x).2 (List.mem_map.mpr ⟨q, hq, e⟩))]
    rfl
theorem Dct.put {kvs : List (Key × V)} {qs : List (Str × Int)} {ks : List Str} (h : Dct kvs qs ks) (x : Str) (z : Int) : ∃ ks', Dct (putK kvs (.inr x) (.int (co qs x + z))) (qs ++ [(x, z)]) ks' := by
  have cx : ∀ y, co (qs ++ [(x, z)]) y = co qs y + if x = y then z else 0 := fun y => by
    rw [co_app, co_cons, co_nil, Int.add_zero]
  by_cases hx : x ∈ ks
  · have hs : valV kvs (.inr x) = some (.int (co qs x)) := by rw [h.val, if_pos hx]
    refine ⟨ks, ⟨by rw [putK_keys (by rw [hs]; rfl)]; exact h.keys, h.nd, fun y => ?_, fun y => ?_, by rw [List.length_append]; exact Nat.le_succ_of_le h.ln⟩⟩
    · rw [h.mem, List.map_append, List.mem_append]
      refine ⟨.inl, fun z => z.elim id fun e => ?_⟩
      rw [List.mem_singleton.mp e]
      exact (h.mem x).1 hx
    · rw [valV_put, h.val, cx]
      by_cases e : y = x
      · subst e
        simp [hx]
      · have e' : ¬ x = y := fun z => e z.symm
        simp [e, e']
  · have hs : valV kvs (.inr x) = none := by rw [h.val, if_neg hx]
    refine ⟨ks ++ [x], ⟨?_, ?_, fun y => ?_, fun y => ?_, by rw [List.length_append, List.length_append]; exact Nat.succ_le_succ h.ln⟩⟩
    · rw [putK_new _ hs, List.map_append, List.map_append, h.keys]
      rfl
    · rw [List.nodup_append]
      refine ⟨h.nd, by simp, fun a ha b hb e => ?_⟩
      rw [List.mem_singleton.mp hb] at e
      exact hx (e ▸ ha)
    · rw [List.mem_append, h.mem, List.map_append, List.mem_append]
      rfl
    · rw [valV_put, h.val, cx]
      by_cases e : y = x
      · subst e
        simp
      · have e' : ¬ x = y := fun z => e z.symm
        simp [e, e']
end RV
/-! what an own class says of len, x in o, o[x], truth -/
namespace RV
open PySem L2 PyProof.Rows
/-- the class C has an own method m that promises sp -/
def OwnM (P : Program) (w : World) (K : PySem.W.Frag) (mg : Str → Option Value) (base : Heap) (C : Addr) (m : String) (k : Nat) (sp : Sp) : Prop :=
  ∃ f fd ps, PySem.W.findIn K (.ref C) m = some (some (.ref f)) ∧ PySem.W.isFn K (.ref f) = true ∧ PySem.W.fnIn K f = true ∧ Binds K fd ps [] ∧ FnOk P w K mg base CX0 k f fd ps sp
section
variable {X : Cx} {pins : List (Addr × Obj)} {σ : L2.St} {H : Hp} {s : Shared} {C : Addr} {k : Nat} {sp : Sp}
theorem call_owns {A : Around} {f : Addr} {fd : FuncData} {ps : List Str} {Q : VK} {xs : List V} {us : List Value} (F : FnOk X.prog X.w X.K X.mg X.base CX0 k f fd ps sp) (hb : Binds X.K fd ps []) (hr : Room k A) (hf : A.frames = X.A.frames)
    (I : Inv X pins σ H s) (rx : Vals xs us) (hsp : sp xs H Q E0) : wpAny (model X.prog X.w) A (call (.ref f) us) (EP X pins σ Q) X.xe s := by
  have e0 : Env0 X.prog X.w X.K X.mg X.base A X.stack s H := by
    have e := I.env0
    exact ⟨by rw [hf]; exact e.frames, e.mod, e.bs, e.bsz, e.funs, e.frf, e.hok, e.bare⟩
  have hl := F.len _ _ _ _ hsp
  refine wpAny_call (codeAny_mono (F.run A X.stack s H ⟨us, []⟩ us xs _ E0 hr e0 (by
    have := hb s us I.kIn (by rw [List.append_nil, ← rx.length]; exact hl)
    simpa using this) rx hsp) fun r s' hq => ?_)
  cases r with
  | error e => exact (hq : False).elim
  | ok fl =>
    cases fl with
    | ret w => exact I.after hq
    | next => exact False.elim hq
    | brk => exact False.elim hq
    | cont => exact False.elim hq
def rLenO (C : Addr) (sp : Sp) : List V → Hp → VK → Prop := fun xs H Q => ∃ a dx fs, xs = [.ref a] ∧ H a = some (.ins C dx fs) ∧ sp [.ref a] H (fun v H' => ∃ n : Nat, v = .int n ∧ n < 100000 ∧ Q (.int n) H') E0
theorem call_lenO (h : OwnM X.prog X.w X.K X.mg X.base C "__len__" k sp) (hr : Room (k + 1) X.A) : CallR X (.builtin "len") (rLenO C sp) := by
  intro pins s σ H xs us Q I rx hq
  obtain ⟨a, dx, fs, rfl, ha, hsp⟩ := hq
  obtain ⟨f, fd, ps, hs, hf, _, hb, F⟩ := h
  obtain rfl : us = [.ref a] := Vals.ref1 rx
  obtain ⟨mA, J, _⟩ := ins_get I.hok ha
  obtain ⟨od, J, _⟩ := J.look
  obtain ⟨m, hF⟩ := I.fr
  refine PySem.W.len_K hF I.ok.mod.kin J hs hf (wpAny_mono (call_owns (A := X.A.in1) F hb hr.in1 rfl I rx hsp) (fun r s' z => ?_) fun _ _ x => x)
  obtain ⟨v, H', I', rv, n, rfl, hn, q⟩ := z
  obtain ⟨t, rfl⟩ := rv
  exact ⟨⟨by omega, by omega⟩, .int n, H', I'.tok _, ⟨_, rfl⟩, q⟩
def rInO (neg : Bool) (C : Addr) (sp : Sp) : R2 := fun x y H Q => ∃ a dx fs, y = .ref a ∧ H a = some (.ins C dx fs) ∧ sp [.ref a, x] H (fun v H' => ∃ b, v = .bl b ∧ Q (.bl (if neg then !b else b)) H') E0
/-- truth by the class's own __bool__ -/
def rTrM (C : Addr) (sp : Sp) : V → Hp → (Bool → Hp → Prop) → Prop := fun x H Q => ∃ a dx fs, x = .ref a ∧ H a = some (.ins C dx fs) ∧ sp [.ref a] H (fun v H' => ∃ b, v = .bl b ∧ Q b H') E0
def rIxO (C : Addr) (sp : Sp) : R2 := fun x y H Q => ∃ a dx fs, x = .ref a ∧ H a = some (.ins C dx fs) ∧ sp [.ref a, y] H Q E0
end
end RV
/-! sums as they stand in the heap, and what their methods promise -/
namespace RV
open PySem L2
/-- the things of a sum at a whose terms are the tuple at t -/
def lS (C a dx t : Addr) (us : List TP) : List (Addr × HO) := (a, .ins C dx [("_terms", .ref t)]) :: (t, .tup (vP us)) :: lP us
def SumR (C : Addr) (H : Hp) (a : Addr) (qs : List (Str × Int)) : Prop := ∃ dx t us, prs us = qs ∧ ∀ p ∈ lS C a dx t us, H p.1 = some p.2
theorem SumR.ext {C a : Addr} {H H' : Hp} {qs : List (Str × Int)} (h : SumR C H a qs) (g : Same H H') : SumR C H' a qs := by
  obtain ⟨dx, t, us, e, k⟩ := h
  exact ⟨dx, t, us, e, fun p hp => g _ _ (k p hp)⟩
structure SClass (K : PySem.W.Frag) (mg : Str → Option Value) (C : Addr) : Prop where
  x : ClsX K C
  k : mg "Sum" = some (.ref C)
  n1 : NoAttr K C "_terms"
  me : PySem.W.kitOne K (.ref C) (.ref C) = some true
/-- terms that may be given -/
structure Trm (K : PySem.W.Frag) (H : Hp) (t : Addr) (us : List TP) : Prop where
  tp : SqT K H t (vP us)
  ps : TPs K H us
  nm : ∀ q ∈ prs us, IsNm q.1
  ln : us.length ≤ 60
structure TrmF (K : PySem.W.Frag) (H : Hp) (t : Addr) (us : List TP) : Prop where
  tp : SqT K H t (vP us)
  ps : TPs K H us
  nm : ∀ q ∈ prs us, IsNm q.1
  ln : Few (prs us)
theorem Trm.few {K : PySem.W.Frag} {H : Hp} {t : Addr} {us : List TP} (h : Trm K H t us) : TrmF K H t us := ⟨h.tp, h.ps, h.nm, Few.of (by rw [prs_len]; exact h.ln)⟩
/-- what a sum of these terms is -/
structure Mad (qs rs : List (Str × Int)) : Prop where
  nr : Nrm rs
  co : ∀ x, co rs x = co qs x
  nm : ∀ q ∈ rs, q.1 ∈ qs.map (·.1)
  ln : rs.length ≤ qs.length
def sp_Sum (K : PySem.W.Frag) (C : Addr) : Sp := fun vs H Q _ => ∃ (x dx t : Addr) (us : List TP), vs = [.ref x, .ref t] ∧ H x = some (.ins C dx []) ∧ TrmF K H t us ∧
  ∀ (ds : List TP) (m dx' : Addr) H', Mad (prs us) (prs ds) → (∀ b o, b ≠ x → H b = some o → H' b = some o) → (∀ p ∈ (m, HO.tup (vP ds)) :: lP ds, H p.1 = none) → (∀ p ∈ lS C x dx' m ds, H' p.1 = some p.2) → Q .non H'
def sp_len (C : Addr) : Sp := fun vs H Q _ => ∃ (a : Addr) (qs : List (Str × Int)), vs = [.ref a] ∧ SumR C H a qs ∧ Q (.int (qs.length : Nat)) H
def sp_yes : Sp := fun vs H Q _ => ∃ (a : Addr), vs = [.ref a] ∧ Q (.bl true) H
def sp_terms (C : Addr) : Sp := fun vs H Q _ => ∃ (a dx t : Addr) (us : List TP), vs = [.ref a] ∧ (∀ p ∈ lS C a dx t us, H p.1 = some p.2) ∧ Q (.ref t) H
def sp_get (C : Addr) : Sp := fun vs H Q _ => ∃ (a : Addr) (x : Str) (qs : List (Str × Int)), vs = [.ref a, .str x] ∧ IsNm x ∧ SumR C H a qs ∧ Nrm qs ∧ ∀ H', Same H H' → Q (.int (co qs x)) H'
def sp_has (C : Addr) : Sp := fun vs H Q _ => ∃ (a : Addr) (x : Str) (qs : List (Str × Int)), vs = [.ref a, .str x] ∧ IsNm x ∧ SumR C H a qs ∧ Nrm qs ∧ ∀ H', Same H H' → Q (.bl (!decide (co qs x = 0))) H'
end RV
/-! pairs as data -/
namespace RV
open PySem L2
def dq (q : Str × Int) : PyData := .tuple [.str q.1, .int q.2]
def dQ (qs : List (Str × Int)) : PyData := .tuple (qs.map dq)
def sp_eqS (K : PySem.W.Frag) (C : Addr) : Sp := fun vs H Q _ => ∃ (a : Addr) (y : V) (qs : List (Str × Int)), vs = [.ref a, y] ∧ SumR C H a qs ∧ (∀ q ∈ qs, IsNm q.1) ∧
  ((∃ b rs, y = .ref b ∧ SumR C H b rs ∧ (∀ q ∈ rs, IsNm q.1) ∧ Q (.bl (decide (qs = rs))) H) ∨ (∃ t, TyX K H y t ∧ PySem.W.kitOne K t (.ref C) = some false ∧ Q (.bl false) H))
end RV
/-! the same pairs in another order, some in two parts -/
namespace RV
open PySem L2
theorem cutV_suf (us : List TP) (k : Nat) : cutV (vP us) (some (k : Int)) none = vP (us.drop k) := by
  unfold cutV
  rw [sIx_none, sIx_some, vP_len, List.take_of_length_le (by rw [List.length_drop, vP_len]; omega), vP, vP, List.map_drop]
  by_cases h : k ≤ us.length
  · rw [Nat.min_eq_left h]
  · rw [List.drop_eq_nil_of_le (by rw [List.length_map]; omega), List.drop_eq_nil_of_le (by rw [List.length_map]; omega)]
structure Oth (us vs : List TP) : Prop where
  co : ∀ x, co (prs vs) x = co (prs us) x
  nm : ∀ q ∈ prs vs, q.1 ∈ (prs us).map (·.1)
  ln : vs.length ≤ 2 * us.length
def sp_parted : Sp := fun vs H Q _ => ∃ (a l : Addr) (n : Nat) (us : List TP), vs = [.ref a, .ref l] ∧ WellAt H a n ∧ n < 600000 ∧ us.length ≤ 20 ∧ (∀ p ∈ (l, HO.lst (vP us)) :: lP us, p.1 ≠ a ∧ H p.1 = some p.2) ∧
  ∀ (vs : List TP) (m : Addr) H', Oth us vs → H m = none → Has H a (n + 1000) ((m, .lst (vP vs)) :: lP vs) H' → Q (.ref m) H'
end RV
/-! texts of pairs -/
namespace RV
open PySem L2 PyProof.Rows
theorem log_small {z : Int} (h : z.natAbs ≤ 10 ^ 45) : z.natAbs.log2 < 1920 := by
  have q := PySem.Flt.log2_lt_of (n := z.natAbs) (k := 200) (by decide) (by omega)
  omega
/-- a sum shows these pairs, a list of them -/
def sp_shows (K : PySem.W.Frag) (C : Addr) : Sp := fun vs H Q _ => ∃ (a l : Addr) (ds : List TP), vs = [.ref a, .ref l] ∧ SumR C H a (prs ds) ∧ SqL K H l (vP ds) ∧ TPs K H ds ∧ Nrm (prs ds) ∧ (∀ q ∈ prs ds, IsNm q.1) ∧ tot (prs ds) ≤ 10 ^ 45 ∧ ds.length ≤ 60 ∧
  ∀ H', Same H H' → Q (.bl true) H'
/-- names that are much like a name -/
def nearL (x : Str) : List Str := [cutS x none (some (-1)), cutS (x ++ "a") none (some 8), cutS (x ++ "0") none (some 8), ("z" : Str) ++ cutS x (some 1) none]
theorem cd_rest (x : Str) : cd (cutS x (some 1) none) = (cd x).drop 1 := by
  rw [cd_cutS, sIx_none, show (some (1 : Int)) = some ((1 : Nat) : Int) from rfl, sIx_some, cd_len]
  by_cases h : 1 ≤ (cd x).length
  · rw [Nat.min_eq_left h]
    exact List.take_of_length_le (by rw [List.length_drop]; omega)
  · have e : cd x = [] := List.eq_nil_of_length_eq_zero (by omega)
    rw [e]
    rfl
end RV
/-! written numbers and terms -/
namespace RV
open PySem L2
structure Cst2 (mg : Str → Option Value) : Prop where
  worth : ∃ u, mg "_PIECE_WORTH" = some u ∧ RelV (.int (10 ^ 64)) u
  piece : ∃ u, mg "_PIECE" = some u ∧ RelV (.int 64) u
def num (z : Int) : Str := Str.ofString (toString z)
/-- a written number of at most 64 digits -/
def sp_written : Sp := fun vs H Q _ => ∃ z : Int, vs = [.int z] ∧ 0 ≤ z ∧ z < 10 ^ 64 ∧ ∀ H', Same H H' → Q (.str (num z)) H'
theorem join_one (a x : Str) : Txt.join a [x] = x := by
  first | rfl | simp [Txt.join] | (unfold Txt.join; rfl)
def ab (z : Int) : Int := if z < 0 then -z else z
/-- a term without its sign -/
def wo (x : Str) (z : Int) : Str := if ab z = 1 then x else ((Str.empty ++ num (ab z)) ++ ("*" : Str)) ++ x
/-- a term that is not the first -/
def fu (q : Str × Int) : Str := (((Str.empty ++ (" " : Str)) ++ (if q.2 < 0 then ("-" : Str) else "+")) ++ (" " : Str)) ++ wo q.1 q.2
def fi (q : Str × Int) : Str := (if q.2 < 0 then ("-" : Str) else "") ++ wo q.1 q.2
def pieces : List (Str × Int) → List Str
  | [] => ["0"]
  | q :: qs => fi q :: qs.map fu
/-- the text of a sum -/
def txt (qs : List (Str × Int)) : Str := Txt.join "" (pieces qs)
theorem sl_app (a b : Str) : (a ++ b).length = a.length + b.length := by rw [cd_len, cd_app, List.length_append, ← cd_len, ← cd_len]
theorem ab_lt {z : Int} (h : z.natAbs < 10 ^ 64) : 0 ≤ ab z ∧ ab z < 10 ^ 64 := by
  unfold ab
  split <;> omega
theorem num_len {z : Int} (h : 0 ≤ z ∧ z < 10 ^ 64) : (num z).length ≤ 1921 := by
  refine PyProof.Rows.int_text_len_1921 ?_
  have q := PySem.Flt.log2_lt_of (n := z.natAbs) (k := 300) (by decide) (by omega)
  omega
theorem wo_len {x : Str} {z : Int} (hx : IsNm x) (hz : z.natAbs < 10 ^ 64) : (wo x z).length ≤ 2000 := by
  have lx : 1 ≤ (cd x).length ∧ (cd x).length ≤ 8 := isNm_len hx
  rw [← cd_len] at lx
  unfold wo
  split
  · omega
  · have h1 := num_len (ab_lt hz)
    have h2 : Str.length "*" = 1 := by decide +kernel
    have h3 : Str.length Str.empty = 0 := by decide +kernel
    rw [sl_app, sl_app, sl_app, h2, h3]
    omega
theorem sg_len (z : Int) : (if z < 0 then ("-" : Str) else "+").length ≤ 1 ∧ (if z < 0 then ("-" : Str) else "").length ≤ 1 := by
  have h1 : Str.length "-" = 1 := by decide +kernel
  have h2 : Str.length "+" = 1 := by decide +kernel
  have h3 : Str.length "" = 0 := by decide +kernel
  constructor <;> split <;> omega
theorem fu_len {q : Str × Int} (hx : IsNm q.1) (hz : q.2.natAbs < 10 ^ 64) : (fu q).length ≤ 2010 := by
  have h1 := wo_len hx hz
  have h2 : Str.length " " = 1 := by decide +kernel
  have h3 : Str.length Str.empty = 0 := by decide +kernel
  have h4 := (sg_len q.2).1
  unfold fu
  rw [sl_app, sl_app, sl_app, sl_app, h2, h3]
  omega
def sp_without : Sp := fun vs H Q _ => ∃ (x : Str) (z : Int), vs = [.str x, .int z] ∧ IsNm x ∧ z.natAbs < 10 ^ 64 ∧ ∀ H', Same H H' → Q (.str (wo x z)) H'
def sp_further : Sp := fun vs H Q _ => ∃ (q : Str × Int), vs = [.str q.1, .int q.2] ∧ IsNm q.1 ∧ q.2.natAbs < 10 ^ 64 ∧ ∀ H', Same H H' → Q (.str (fu q)) H'
def sp_wterms (K : PySem.W.Frag) : Sp := fun vs H Q _ => ∃ (t : Addr) (us : List TP), vs = [.ref t] ∧ SqT K H t (vP us) ∧ TPs K H us ∧ (∀ q ∈ prs us, IsNm q.1 ∧ q.2.natAbs < 10 ^ 64) ∧ us.length ≤ 100 ∧
  ∀ m H', Kp H [(m, .lst ((pieces (prs us)).map V.str))] H' → Q (.ref m) H'
def sp_text (C : Addr) : Sp := fun vs H Q _ => ∃ (a : Addr) (qs : List (Str × Int)), vs = [.ref a] ∧ SumR C H a qs ∧ (∀ q ∈ qs, IsNm q.1 ∧ q.2.natAbs < 10 ^ 64) ∧ qs.length ≤ 100 ∧ ∀ H', Same H H' → Q (.str (txt qs)) H'
/-- [f(x, z) for x, z in t], t a tuple of pairs; f may make things -/
theorem lc_pairsT {K : PySem.W.Frag} {a : Addr} {us : List TP} {i j : Nat} {te : TE} {vs : List Nat} {σ : L2.St} {H1 : Hp} {D : Addr} {Qd : Hp → Prop} (f : Str × Int → V)
    (hl : SqT K H1 a (vP us)) (ht : TPs K H1 us) (nD : H1 D = none) (len : us.length ≤ 1000) (hw : ∀ x y, wipe (((wipe σ vs).set i x).set j y) vs = wipe σ vs)
    (h : ∀ q ∈ prs us, ∀ H2, Same H1 H2 → ∀ R : VK, (∀ H3, Same H2 H3 → R (f q) H3) → te (((wipe σ vs).set i (some (.str q.1))).set j (some (.int q.2))) H2 R)
    (k : ∀ H', Same H1 H' → H' D = some (.lst ((prs us).map f)) → Qd H') :
    ∃ W : Nat → Nat → Hp → Prop, (∃ m, W 0 m (upd H1 D (.lst []))) ∧ ∀ i' m H, W i' m H →
      ((Itt K a).stop i' H ∧ Qd H) ∨ ((Itt K a).go i' H ∧ ∃ Nx : Hp → Prop, (∀ H', Nx H' → ∃ m', m' < m ∧ W (i' + 1) m' H') ∧ ∀ x H', (Itt K a).yld i' H x H' → gPr K i j x (wipe σ vs) H' fun σ2 H2 => wipe σ2 vs = wipe σ vs ∧ tYes σ2 H2 fun b H3 =>
        if b = true then te σ2 H3 fun y H4 => ∃ acc, H4 D = some (.lst acc) ∧ acc.length < sizeLine ∧ Nx (upd H4 D (.lst (acc ++ [y]))) else Nx H3) := by
  refine lc_tup (xs := vP us) (fun i' H => Same H1 H ∧ H D = some (.lst (((prs us).take i').map f))) ⟨fun b o e => by rw [upd_ne (ne_of_none e nD)]; exact e, upd_same⟩ (fun _ H _ z => hl.ext z.1) ?_ ?_
  · rintro i' x H hx ⟨sm, hD⟩
    rw [vP, List.getElem?_map] at hx
    cases hu : us[i']? with
    | none => rw [hu] at hx; cases hx
    | some u =>
      rw [hu] at hx
      obtain rfl : V.ref u.1 = x := Option.some.inj hx
      have hm : u ∈ us := List.mem_of_getElem? hu
      have et : (prs us).take (i' + 1) = (prs us).take i' ++ [u.2] := by
        rw [List.take_add_one, prs, List.getElem?_map, hu]
        rfl
      refine gPr_at ((ht u hm).ext sm) ⟨hw _ _, ?_⟩
      have e0 : ∀ (σ : L2.St) (H : Hp) (R : Bool → Hp → Prop), R true H → tYes σ H R := fun _ _ _ r => r
      refine e0 _ _ _ ?_
      simp only [↓reduceIte]
      refine h u.2 (List.mem_map.mpr ⟨u, hm, rfl⟩) H sm _ fun H3 s3 => ⟨_, s3 _ _ hD, ?_, fun b o e => ?_, ?_⟩
      · have l3 := List.length_take_le' i' (prs us)
        rw [prs_len] at l3
        rw [List.length_map]
        exact Nat.lt_of_le_of_lt l3 (Nat.lt_of_le_of_lt len (by decide))
      · rw [upd_ne (ne_of_none e nD)]
        exact s3 b o (sm b o e)
      · rw [upd_same, et, List.map_append]
        rfl
  · rintro H ⟨sm, hD⟩
    rw [vP_len, ← prs_len, List.take_length] at hD
    exact k H sm hD
end RV
/-! str(o) of an own class -/
namespace RV
open PySem L2 PyProof.Rows
section
variable {X : Cx} {C : Addr} {k : Nat} {sp : Sp}
def rStrO (C : Addr) (sp : Sp) : List V → Hp → VK → Prop := fun xs H Q => ∃ a dx fs, xs = [.ref a] ∧ H a = some (.ins C dx fs) ∧ sp [.ref a] H (fun v H' => ∃ y : Str, v = .str y ∧ Q (.str y) H') E0
theorem call_strO (h : OwnM X.prog X.w X.K X.mg X.base C "__str__" k sp) (hr : Room (k + 2) X.A) : CallR X (.type "str") (rStrO C sp) := by
  intro pins s σ H xs us Q I rx hq
  obtain ⟨a, dx, fs, rfl, ha, hsp⟩ := hq
  obtain ⟨f, fd, ps, hs, hf, _, hb, F⟩ := h
  obtain rfl : us = [.ref a] := Vals.ref1 rx
  obtain ⟨mA, J, _⟩ := ins_get I.hok ha
  obtain ⟨od, J, _⟩ := J.look
  refine PySem.W.kso_call (hr.in1.in1.units0) I.kIn J hs hf (wpAny_mono (call_owns (A := X.A.in1.in1) F hb hr.in1.in1 rfl I rx hsp) (fun r s' z => ?_) fun _ _ x => x)
  obtain ⟨v, H', I', rv, y, rfl, q⟩ := z
  obtain ⟨t, rfl⟩ := rv
  exact ⟨.str y, H', I', ⟨_, rfl⟩, q⟩
end
theorem pieces_sum {qs : List (Str × Int)} (h : ∀ q ∈ qs, IsNm q.1 ∧ q.2.natAbs < 10 ^ 64) : ((pieces qs).map (·.length)).sum ≤ 2010 * (qs.length + 1) := by
  have h1 : ∀ qs : List (Str × Int), (∀ q ∈ qs, IsNm q.1 ∧ q.2.natAbs < 10 ^ 64) → ((qs.map fu).map (·.length)).sum ≤ 2010 * qs.length := by
    intro qs
    induction qs with
    | nil => intro _; exact Nat.le_refl _
    | cons q qs ih =>
      intro h
      have a := fu_len (h q List.mem_cons_self).1 (h q List.mem_cons_self).2
      have b := ih fun r hr => h r (List.mem_cons_of_mem _ hr)
      simp only [List.map_cons, List.sum_cons, List.length_cons]
      omega
  cases qs with
  | nil => decide +kernel
  | cons q qs =>
    have a := wo_len (h q List.mem_cons_self).1 (h q List.mem_cons_self).2
    have b := h1 qs fun r hr => h r (List.mem_cons_of_mem _ hr)
    have c := (sg_len q.2).2
    simp only [pieces, List.map_cons, List.sum_cons, List.length_cons, fi, sl_app]
    omega
theorem pieces_length (qs : List (Str × Int)) : (pieces qs).length ≤ qs.length + 1 := by
  cases qs <;> simp [pieces]
end RV
/-! sums made -/
namespace RV
open PySem L2
theorem sum_make {K : PySem.W.Frag} {C x dx t : Addr} {us : List TP} {H1 : Hp} {Q : VK} {E : XK} (ht : TrmF K H1 t us) (nx : H1 x = none) (nd : H1 dx = none) (_ne : dx ≠ x)
    (k : ∀ (ds : List TP) (m dx' : Addr) H2, Mad (prs us) (prs ds) → Kp H1 (lS C x dx' m ds) H2 → Q (.ref x) H2) :
    Irr (sp_Sum K C) [.ref x, .ref t] (upd (upd H1 dx (.own x)) x (.ins C dx [])) (fun v H2 => v = .non ∧ Q (.ref x) H2) E := by
  have sm : Same H1 (upd (upd H1 dx (.own x)) x (.ins C dx [])) := fun b o e => by
    rw [upd_ne (ne_of_none e nx), upd_ne (ne_of_none e nd)]
    exact e
  refine irr ⟨x, dx, t, us, rfl, upd_same, ⟨ht.tp.ext sm, ht.ps.ext sm, ht.nm, ht.ln⟩, fun ds m dx' H2 md keep new here => ⟨rfl, k ds m dx' H2 md ⟨fun b o e => keep b o (ne_of_none e nx) (sm b o e), fun p hp => ⟨?_, here p hp⟩⟩⟩⟩
  rcases List.mem_cons.mp hp with rfl | hp
  · exact nx
  · have q := new p hp
    have h1 : p.1 ≠ x := fun e => by rw [e, upd_same] at q; cases q
    rw [upd_ne h1] at q
    have h2 : p.1 ≠ dx := fun e => by rw [e, upd_same] at q; cases q
    rwa [upd_ne h2] at q
theorem SumR.of {C x dx t : Addr} {us : List TP} {H : Hp} (h : ∀ p ∈ lS C x dx t us, H p.1 = some p.2) : SumR C H x (prs us) := ⟨dx, t, us, rfl, h⟩
end RV
/-! an int == an own object: the class's own == answers -/
namespace PySem
open AutoSeq1 (wpAny_loadPart')
set_option maxHeartbeats 4000000 in
theorem rv_int_eq_inst (b : Int) (u : Tok) (l C dx : Addr) :
    Meets (Builtin.«int.__eq__» ⟨[.int b u, .ref l], []⟩) (fun _ R s => s.heap.get? l = some (PySem.W.instObj C dx) ∧ R (.ok (.ret .notImplemented)) s) :=
  .of_wp fun prog w A R s h => by
    obtain ⟨hp, g, d, tk, os⟩ := s
    obtain ⟨hl, h⟩ := h
    unfold PySem.W.instObj at hl
    wp_walk using wpAny_loadPart' hl, wpAny_load hl
    exact ⟨_, rfl, h⟩
end PySem
namespace RV
open PySem L2 PyProof.Rows
section
variable {prog : Program} {w : World} {A : Around} {E : Value → Shared → Prop} {s : Shared} {K : PySem.W.Frag} {x C dx L f : Addr} {h₀ : Heap} {m : Str → Option Value} {od : Option Obj} {i : Int} {t : Tok}
open PySem.W in
end
section
variable {X : Cx} {C : Addr} {k : Nat} {sp : Sp}
/-- i == o -/
def rEqI (C : Addr) (sp : Sp) : R2 := fun x y H Q => ∃ (i : Int) (a dx : Addr) (fs : List (Str × V)), x = .int i ∧ y = .ref a ∧ H a = some (.ins C dx fs) ∧ sp [.ref a, .int i] H (fun v H' => ∃ b, v = .bl b ∧ Q (.bl b) H') E0
end
end RV
namespace RV
open PySem L2
def sp_rightS : Sp := fun vs H Q _ => ∃ (a : Addr) (n : Nat), vs = [.ref a] ∧ WellAt H a n ∧ n < 500000 ∧ ∀ H', Grow a H H' → WellAt H' a (n + 3000) → Q (.bl true) H'
def gS (vs zs : List V) : List V := match vs, zs with
  | [x], [t] => [x, t]
  | _, _ => []
/-- what sums and other values are to each other -/
structure SKinds (K : PySem.W.Frag) (C : Addr) : Prop where
  sI : PySem.W.subIn K (.ref C) (.type "int") = some false
  nS : PySem.W.notFirst K C (.ref C) = true
  nT : PySem.W.notFirst K C (.type "tuple") = true
  nX : PySem.W.notFirst K C (.type "str") = true
  nN : PySem.W.notFirst K C (.type "NoneType") = true
  kT : PySem.W.kitOne K (.type "tuple") (.ref C) = some false
  kX : PySem.W.kitOne K (.type "str") (.ref C) = some false
  kN : PySem.W.kitOne K (.type "NoneType") (.ref C) = some false
  kI : PySem.W.kitOne K (.type "int") (.ref C) = some false
section
variable {K : PySem.W.Frag} {C a : Addr} {H : Hp} {Q : VK} {neg : Bool} {qs rs : List (Str × Int)} {y : V} {t : Value}
end
end RV
/-! a ledger in parts; steps of the sums' own methods over it -/
namespace RV
open PySem L2
abbrev lT (l : Addr) (us : List TP) : List (Addr × HO) := (l, .lst (vP us)) :: lP us
/-- pairs that a sum shows -/
structure Due (qs : List (Str × Int)) : Prop where
  nr : Nrm qs
  nm : ∀ q ∈ qs, IsNm q.1
  tt : tot qs ≤ 10 ^ 45
  ln : qs.length ≤ 60
section
variable {K : PySem.W.Frag} {C a l x dx m t : Addr} {n n' : Nat} {L L' L2 : List (Addr × HO)} {H0 H H' : Hp} {us ds : List TP} {Q : VK} {E : XK}
theorem Sum_kp {R : Hp → Prop} (ht : Trm K H t us) (nx : H x = none) (nd : H dx = none) (ne : dx ≠ x)
    (k : ∀ (ds : List TP) (m dx' : Addr) H2, Mad (prs us) (prs ds) → Kp H (lS C x dx' m ds) H2 → R H2) :
    Irr (sp_Sum K C) [.ref x, .ref t] (upd (upd H dx (.own x)) x (.ins C dx [])) (fun v H2 => v = .non ∧ R H2) E := sum_make (Q := fun _ => R) ht.few nx nd ne k
end
theorem OwnM.irr {P : Program} {w : World} {K : PySem.W.Frag} {mg : Str → Option Value} {base : Heap} {C : Addr} {m : String} {k : Nat} {sp : Sp} (h : OwnM P w K mg base C m k sp) : OwnM P w K mg base C m k (Irr sp) := by
  obtain ⟨f, fd, ps, a, b, c, d, F⟩ := h
  exact ⟨f, fd, ps, a, b, c, d, F.imp fun _ _ _ _ z => irr_of z⟩
theorem Prp.irr {P : Program} {w : World} {K : PySem.W.Frag} {mg : Str → Option Value} {base : Heap} {C : Addr} {m : Str} {k : Nat} {sp : Sp} (h : Prp P w K mg base C m k sp) : Prp P w K mg base C m k (Irr sp) := by
  obtain ⟨c, p, g, fd, ps, a, b, F⟩ := h
  exact ⟨c, p, g, fd, ps, a, b, F.imp fun _ _ _ _ z => irr_of z⟩
theorem nf_self (K : PySem.W.Frag) (C : Addr) : PySem.W.notFirst K C (.ref C) = true := by simp [PySem.W.notFirst]
theorem kit_self (K : PySem.W.Frag) (C : Addr) : PySem.W.kitOne K (.ref C) (.ref C) = some true := by
  unfold PySem.W.kitOne
  rw [if_pos (by simp)]
theorem kit_sub {K : PySem.W.Frag} {C : Addr} {t : Value} (hd : PySem.W.hasDictIn K C = true) (ty : PySem.W.typeIn K (.ref C) = some (.type "type")) (self : PySem.W.subIn K (.ref C) (.ref C) = some true) (hs : PySem.W.subIn K t (.ref C) = some false) : PySem.W.kitOne K t (.ref C) = some false := by
  obtain ⟨cd, hc, _⟩ := PySem.W.any_some hd
  have hne : ¬ (t == Value.ref C) = true := fun e => by
    rw [beq_iff_eq.mp e, self] at hs
    cases hs
  unfold PySem.W.kitOne
  rw [if_neg hne]
  show (if ((PySem.W.clsIn K C).isSome && PySem.W.typeIn K (Value.ref C) == some (Value.type "type")) = true then PySem.W.subIn K t (Value.ref C) else none) = some false
  rw [if_pos (by rw [hc, ty]; simp)]
  exact hs
end RV
/-! rpartition; xs[i::2]; a class in a slot, called; class methods -/
namespace RV
open PySem L2 PyProof.Rows Builtin TL
section
variable {X : Cx} {pins : List (Addr × Obj)} {σ : L2.St} {H : Hp} {s : Shared}
theorem mt_rpartition : MtR X "str.rpartition" (fun x xs H Q => ∃ a b, x = .str a ∧ xs = [.str b] ∧ (b.length == 0) = false ∧ a.length ≤ sizeLine ∧
    ∀ p, H p = none → Q (.ref p) (upd H p (.tup [.str (Txt.rpartition a b).1, .str (Txt.rpartition a b).2.1, .str (Txt.rpartition a b).2.2]))) := by
  intro pins s σ H x xs v us Q I rx rs h
  obtain ⟨a, b, rfl, rfl, hb, hz, h⟩ := h
  obtain ⟨t, rfl⟩ := rx
  cases rs with
  | cons r1 rs =>
    cases rs
    obtain ⟨u, rfl⟩ := r1
    refine call_meets PySem.F.slot_str_rpartition (typeIs_str _ _ _) PySem.F.entry_str_rpartition (PySem.F.args_str_rpartition_2 _ _) (meets_str_rpartition a b t u hb hz) ?_
    unfold Txt.rpartition at h
    revert h
    cases Builtin.Str.lastOccurrence a b 0 a.length with
    | none => intro h; exact laid_parts I h
    | some i => intro h; exact laid_parts I h
theorem pe_rpartition {o e : Expr} {to te : TE} {apos pos : Pos} (ho : PE X o to) (he : PE X e te) (hs : starEach [e] X.env = [(false, eval e X.env)] := by rfl) (hbase : attributeBase o "rpartition" X.env (eval o X.env) = eval o X.env := by rfl) (hline : (apos.endLine == pos.line) = true := by rfl) :
    PE X (.Call (.Attribute o "rpartition" apos) [e] [] pos) (tM1 (fun x xs H Q => ∃ a b, x = .str a ∧ xs = [.str b] ∧ (b.length == 0) = false ∧ a.length ≤ sizeLine ∧
      ∀ p, H p = none → Q (.ref p) (upd H p (.tup [.str (Txt.rpartition a b).1, .str (Txt.rpartition a b).2.1, .str (Txt.rpartition a b).2.2]))) to te) :=
  pe_m1 PySem.F.slot_str_rpartition PySem.F.type_str_rpartition mt_rpartition ho he hs hbase hline
/-- a text cut at its last separator -/
theorem rpart_app {y : Str} {s : Nat} (ey : tl y = [s]) {a b : Str} (h : s ∉ tl b) : Txt.rpartition (a ++ y ++ b) y = (a, y, b) := by
  have hy : tl y ≠ [] := by rw [ey]; simp
  have el : y.length = 1 := by rw [len_tl, ey]; rfl
  have ex : tl (a ++ y ++ b) = tl a ++ (s :: tl b) := by rw [tl_append, tl_append, ey, List.append_assoc]; rfl
  have xl : (a ++ y ++ b).length = (tl a).length + (1 + (tl b).length) := by rw [len_tl, ex, List.length_append, List.length_cons]; omega
  have atA : StrLaws.At (a ++ y ++ b) y (a ++ y ++ b).length (tl a).length := (at_iff hy _).mpr (by
    rw [ex, List.drop_left, ey]
    simp [pre])
  have notB : ∀ k, (tl a).length < k → ¬ StrLaws.At (a ++ y ++ b) y (a ++ y ++ b).length k := fun k hk z => by
    have q := (at_iff hy k).mp z
    obtain ⟨j, rfl⟩ : ∃ j, k = (tl a).length + (j + 1) := ⟨k - (tl a).length - 1, by omega⟩
    rw [ex, List.drop_append, List.drop_eq_nil_of_le (by omega), List.nil_append, show (tl a).length + (j + 1) - (tl a).length = j + 1 by omega, List.drop_succ_cons, ey] at q
    cases e : (tl b).drop j with
    | nil => rw [e] at q; simp [pre] at q
    | cons c r =>
      rw [e] at q
      simp only [pre] at q
      have hc : c = s := by simpa using q
      subst hc
      exact h (List.mem_of_mem_drop (i := j) (by rw [e]; exact List.mem_cons_self))
  rcases StrLaws.last_spec (a ++ y ++ b) y with ⟨_, n⟩ | ⟨i, e, h1, h2⟩
  · exact absurd atA (n _)
  · have hi : i = (tl a).length := by
      rcases Nat.lt_trichotomy i (tl a).length with q | q | q
      · exact absurd atA (h2 _ q)
      · exact q
      · exact absurd h1 (notB _ q)
    subst hi
    unfold Txt.rpartition
    rw [e]
    dsimp only
    refine Prod.ext (cd_inj ?_) (Prod.ext rfl (cd_inj ?_))
    · show tl (Builtin.Str.strSub _ _ _) = tl a
      rw [tl_strSub, ex, List.drop_zero, Nat.sub_zero, List.take_left]
    · show tl (Builtin.Str.strSub _ _ _) = tl b
      rw [tl_strSub_end, ex, el, List.drop_append, List.drop_eq_nil_of_le (by omega), List.nil_append, show (tl a).length + 1 - (tl a).length = 1 by omega, List.drop_succ_cons, List.drop_zero]
theorem rpart_none {y : Str} {s : Nat} (ey : tl y = [s]) {a : Str} (h : s ∉ tl a) : Txt.rpartition a y = (Str.empty, Str.empty, a) := by
  have hy : tl y ≠ [] := by rw [ey]; simp
  rcases StrLaws.last_spec a y with ⟨e, _⟩ | ⟨i, e, h1, _⟩
  · unfold Txt.rpartition
    rw [e]
  · have q := (at_iff hy i).mp h1
    rw [ey] at q
    cases e2 : (tl a).drop i with
    | nil => rw [e2] at q; simp [pre] at q
    | cons c r =>
      rw [e2] at q
      simp only [pre] at q
      have hc : c = s := by simpa using q
      subst hc
      exact absurd (List.mem_of_mem_drop (i := i) (by rw [e2]; exact List.mem_cons_self)) h
end
/-! ### every other item of a list -/
def step2 {α : Type} (i : Nat) (xs : List α) : List α := (sliceRange (min i xs.length : Nat) xs.length 2).filterMap (xs[·]?)
theorem vals_at : ∀ {xs : List V} {us : List Value}, Vals xs us → ∀ j : Nat, (xs[j]? = none ∧ us[j]? = none) ∨ ∃ x u, xs[j]? = some x ∧ us[j]? = some u ∧ RelV x u
  | _, _, .nil, j => .inl ⟨rfl, rfl⟩
  | _, _, .cons a r, 0 => .inr ⟨_, _, rfl, rfl, a⟩
  | _, _, .cons a r, j + 1 => by simpa using vals_at r j
theorem vals_pick {xs : List V} {us : List Value} (r : Vals xs us) : ∀ js : List Nat, Vals (js.filterMap (xs[·]?)) (js.filterMap (us[·]?))
  | [] => .nil
  | j :: js => by
    rcases vals_at r j with ⟨e1, e2⟩ | ⟨x, u, e1, e2, a⟩
    · rw [List.filterMap_cons_none e1, List.filterMap_cons_none e2]
      exact vals_pick r js
    · rw [List.filterMap_cons_some e1, List.filterMap_cons_some e2]
      exact .cons a (vals_pick r js)
def tSl2 (K : PySem.W.Frag) (i : Nat) (te : TE) : TE := fun σ H Q => te σ H fun x H1 => ∃ a xs, x = .ref a ∧ SqL K H1 a xs ∧ ∀ p, H1 p = none → Q (.ref p) (upd H1 p (.lst (step2 i xs)))
theorem pe_sl2 {X : Cx} {e : Expr} {te : TE} {i k1 k2 : Nat} {p1 p2 p3 pos : Pos} (he : PE X e te) : PE X (.Subscript e (.Slice (some (.Constant (.int (i : Nat)) k1 p1)) none (some (.Constant (.int 2) k2 p2)) p3) pos) (tSl2 X.K i te) := by
  refine ⟨fun pins s σ H Q I h => ?_⟩
  refine Subscript_ (thn (he.run pins s σ H _ I h) fun v s1 ⟨x, H1, I1, r1, q1⟩ => ?_)
  obtain ⟨a, xs, ex, hx, q⟩ := q1
  subst ex
  cases r1
  have hlo : PO X (some (.Constant (.int (i : Nat)) k1 p1)) (tPart (tC (.int (i : Nat)))) := po_some pe_int
  have hst : PO X (some (.Constant (.int 2) k2 p2)) (tPart (tC (.int 2))) := po_some pe_int
  refine wpAny_Slice (thn (hlo.run pins s1 σ H1 (fun o H2 => o = some (i : Int) ∧ H2 = H1) I1 ⟨_, rfl, rfl, rfl⟩) fun vl s2 ⟨l, H2, I2, pl, el, e2⟩ => ?_)
  subst el e2
  refine thn (po_none.run pins s2 σ H2 (fun o H3 => o = none ∧ H3 = H2) I2 ⟨rfl, rfl⟩) fun vu s3 ⟨u, H3, I3, pu, eu, e3⟩ => ?_
  subst eu e3
  refine thn (hst.run pins s3 σ H3 (fun o H4 => o = some 2 ∧ H4 = H3) I3 ⟨_, rfl, rfl, rfl⟩) fun vs s4 ⟨o, H4, I4, ps, eo, e4⟩ => ?_
  subst eo e4
  have I5 : Inv X pins σ H4 { s4 with heap := s4.heap.push { cls := .type "slice", data := .fields #[vl, vu, vs] } } := I4.kept (t' := s4.toks) fun b ob q => Heap.get?_push_of_some _ q
  obtain ⟨its, r, ht, hz⟩ := I5.list hx
  have hlen := r.length
  show wpAny (model X.prog X.w) X.A (subscriptTail e (.Slice (some (.Constant (.int (i : Nat)) k1 p1)) none (some (.Constant (.int 2) k2 p2)) p3) (.ref a) (.ref s4.heap.objs.size)) (EP X pins σ Q) X.xe { s4 with heap := s4.heap.push { cls := .type "slice", data := .fields #[vl, vu, vs] } }
  refine tail_any (ops := [.ref a, .ref s4.heap.objs.size]) ht.isList.typeIs (PySem.slot_list_getitem.lookup) ?_ (by with_unfolding_all rfl)
  refine wpAny_getItem_list_slice ht.isList (Heap.IsSliceOf.new _ vl vu vs) pl pu ps (by decide) ?_ (by rw [List.size_toArray]; omega)
  have e : slicePick its.toArray (some (i : Int)) none (some 2) = (step2 i its).toArray := by
    unfold slicePick step2
    have b : sliceBounds (some (i : Int)) none (some 2) its.toArray.size = (((min i its.length : Nat) : Int), (its.length : Int), 2) := by
      simp only [sliceBounds, Option.getD_some, List.size_toArray]
      have h0 : ¬ (i : Int) < 0 := by omega
      simp only [h0, if_false, show (2 : Int) > 0 by decide, if_true]
      congr 1
      omega
    rw [b]
    simp
  rw [e]
  have hl2 : (step2 i xs).length ≤ sizeLine := by
    refine Nat.le_trans (List.length_filterMap_le _ _) ?_
    unfold sliceRange
    rw [List.length_map, List.length_range]
    simp only [show (2 : Int) > 0 by decide, if_true]
    split <;> omega
  refine ⟨.ref _, _, I5.laid (t' := s4.toks) (o := .lst (step2 i xs)) (fun b ob q => Heap.get?_push_of_some _ q) (Nat.le_refl _) ?_, rfl, q _ (I5.hok.fresh (Nat.le_refl _))⟩
  refine ⟨hl2, _, 0, ?_, Heap.get?_push_size _ rfl⟩
  unfold step2
  rw [hlen]
  exact vals_pick r _
/-! ### a class in a slot -/
theorem pe_mkL {X : Cx} {C : Addr} {k i : Nat} {sp : Sp} {dvs : List V} {x y : Str} {p pos : Pos} {e : Expr} {es : List Expr} {t : TA} (h : Mkr X.prog X.w X.K X.mg X.base y C k sp dvs) (hr : Room (k + 1) X.A) (hN : X.N[i]? = some x) (hv : Vis X.env.scope x) (ha : PA X (e :: es) t)
    (hdb : (x == ("__debug__" : Str)) = false := by decide) (hcd : (x == ("__classdict__" : Str)) = false := by decide)
    (he : starEach (e :: es) X.env = (false, eval e X.env) :: starEach es X.env := by rfl) (hpl : (backTo pos (starEach es X.env)).any (·.1) = false := by rfl) : PE X (.Call (.Name x p) (e :: es) [] pos) (fun σ H Q => σ[i]? = some (some (.ref C)) ∧ tMake C sp dvs E0 t σ H Q) := by
  obtain ⟨_, f, fd, ps, ds, M, hb, hd, F⟩ := h
  refine ⟨fun pins s σ H Q I h => ?_⟩
  obtain ⟨hs, ht⟩ := h
  refine wpAny_Call_Name_kw (thn ((pe_var (pos := p) hN hv hdb hcd).run pins s σ H (fun v H1 => v = .ref C ∧ H1 = H) I ⟨.ref C, hs, rfl, rfl⟩) fun u s1 ⟨v, H1, I1, r1, q1⟩ => ?_)
  obtain ⟨rfl, rfl⟩ := q1
  cases r1
  refine PySem.W.callWith_K (h₀ := X.base) I.ok.mod.kin M.kp (thn (ha.run pos pins s1 σ _ _ I1 ht) fun us s2 ⟨vs, H2, I2, r, q⟩ => ⟨I2.kIn, ?_⟩) he hpl
  exact run_make M F hr hb hd pass0 I2 r q
end RV
/-! class methods; repr of a text; texts of sums, cut again -/
namespace RV
open PySem L2 PyProof.Rows ClX
/-- the class C has a class method m that promises sp -/
def ClsM (P : Program) (w : World) (K : PySem.W.Frag) (mg : Str → Option Value) (base : Heap) (C : Addr) (m : Str) (k : Nat) (ps : List Str) (sp : Sp) : Prop :=
  ∃ mc p g fd, CRead K C mc ∧ CMet K C mc m p g ∧ Binds K fd ps [] ∧ FnOk P w K mg base CX0 k g fd ps sp
/-- .. called by keywords -/
def ClsMK (P : Program) (w : World) (K : PySem.W.Frag) (mg : Str → Option Value) (base : Heap) (C : Addr) (m : Str) (k : Nat) (ks : List Str) (sp : Sp) (gV : List V → List V → List V) : Prop :=
  ∃ mc p g fd ps gg, CRead K C mc ∧ CMet K C mc m p g ∧ KBn K fd ps 1 ks gg gV ∧ FnOk P w K mg base CX0 k g fd ps sp
theorem ClsM.irr {P : Program} {w : World} {K : PySem.W.Frag} {mg : Str → Option Value} {base : Heap} {C : Addr} {m : Str} {k : Nat} {ps : List Str} {sp : Sp} (h : ClsM P w K mg base C m k ps sp) : ClsM P w K mg base C m k ps (Irr sp) := by
  obtain ⟨mc, p, g, fd, a, b, c, F⟩ := h
  exact ⟨mc, p, g, fd, a, b, c, F.imp fun _ _ _ _ z => irr_of z⟩
section
variable {X : Cx} {C : Addr} {k : Nat} {m : Str} {ps ks : List Str} {sp : Sp} {gV : List V → List V → List V} {o e : Expr} {es : List Expr} {kws : List Keyword} {t tk : TA} {ta : TE} {pos apos : Pos} {pl : Sem Bool}
theorem pe_cm (h : ClsM X.prog X.w X.K X.mg X.base C m k ps sp) (hr : Room k X.A) (he : PE X o ta) (ha : PA X (e :: es) t)
    (hst : starEach (e :: es) X.env = (false, eval e X.env) :: starEach es X.env := by rfl) (hpl : (backTo pos (starEach es X.env)).any (·.1) = false := by rfl)
    (ht : eval (.Call (.Attribute o m apos) (e :: es) [] pos) X.env = (do
      let ov ← eval o X.env
      standAt apos.atName
      let (f, first) ← holding [ov] (getMethod ov m pl)
      callWith pos f first (backTo pos (starEach (e :: es) X.env)) (backToKw pos (keywordEach [] X.env))) := by rfl) :
    PE X (.Call (.Attribute o m apos) (e :: es) [] pos) (tCMeth C sp E0 ta t) := by
  obtain ⟨mc, p, g, fd, r, c, hb, F⟩ := h
  exact pe_cmeth he r c ((FnOk.raw F hb .nil).imp fun vs H Q E z => by rw [List.append_nil]; exact z) hr pass0 ha hst hpl ht
def tCMethK (C : Addr) (n : Nat) (sp : Sp) (gV : List V → List V → List V) (ta : TE) (tk : TA) : TE := fun σ H Q => ta σ H fun x H1 => x = .ref C ∧ tk σ H1 fun zs H2 => zs.length = n ∧ sp (gV [.ref C] zs) H2 Q E0
@[irreducible] def rReprS : List V → Hp → VK → Prop := fun xs H Q => ∃ x : Str, xs = [.str x] ∧ (reprText x).length ≤ sizeLine ∧ Q (.str (reprText x)) H
end
end RV
/-! the text of a sum, cut into its words -/
namespace RV
open PySem L2 PyProof.Rows TL
def sgn (q : Str × Int) : Str := if q.2 < 0 then "-" else "+"
def parts (qs : List (Str × Int)) : List Str := qs.flatMap fun q => [sgn q, wo q.1 q.2]
def partsZ (qs : List (Str × Int)) : List Str := if qs = [] then ["+", "0"] else parts qs
def apart (z : Str) : Str := if Txt.startswith z "-" then ("- " : Str) ++ cutS z (some 1) none else ("+ " : Str) ++ z
theorem cd_em : cd Str.empty = [] := by decide +kernel
theorem cd_sp : cd " " = [32] := by decide +kernel
theorem cd_mi : cd "-" = [45] := by decide +kernel
theorem cd_pl : cd "+" = [43] := by decide +kernel
theorem cd_st : cd "*" = [42] := by decide +kernel
theorem cd_no : cd "" = [] := by decide +kernel
theorem cd_ze : cd "0" = [48] := by decide +kernel
theorem joinL_nil : ∀ l : List (List Nat), joinL [] l = l.flatten
  | [] => rfl
  | [p] => by simp [joinL]
  | p :: q :: r => by
    show p ++ ([] ++ joinL [] (q :: r)) = _
    rw [joinL_nil (q :: r), List.nil_append]
    rfl
theorem cd_fu (q : Str × Int) : cd (fu q) = 32 :: (cd (sgn q) ++ (32 :: cd (wo q.1 q.2))) := by
  unfold fu sgn
  rw [cd_app, cd_app, cd_app, cd_app, cd_em, cd_sp]
  simp
theorem cd_txt (q : Str × Int) (qs : List (Str × Int)) : cd (txt (q :: qs)) = cd (fi q) ++ (qs.map fun r => cd (fu r)).flatten := by
  unfold txt
  rw [join_eq]
  show tl _ = _
  rw [tl_join, show tl "" = [] from cd_no, joinL_nil]
  show ((fi q :: qs.map fu).map tl).flatten = _
  rw [List.map_cons, List.flatten_cons, List.map_map]
  rfl
theorem join_parts : ∀ (q : Str × Int) (qs : List (Str × Int)), joinL [32] ((parts (q :: qs)).map tl) = cd (sgn q) ++ (32 :: (cd (wo q.1 q.2) ++ (qs.map fun r => cd (fu r)).flatten))
  | q, [] => by simp [parts, joinL]
  | q, r :: qs => by
    have ih := join_parts r qs
    show tl (sgn q) ++ ([32] ++ (tl (wo q.1 q.2) ++ ([32] ++ joinL [32] ((parts (r :: qs)).map tl)))) = _
    rw [ih, List.map_cons, List.flatten_cons, cd_fu]
    simp
/-! the signs of words -/
def okC (c : Nat) : Bool := tailC c || c == 42
theorem okC_of {c : Nat} (h : tailC c = true) : okC c = true := by unfold okC; rw [h]; rfl
theorem num_cd {z : Int} (h : 0 ≤ z) : cd (num z) = numL z.toNat := by
  have := tl_num z.toNat
  rwa [Int.toNat_of_nonneg h] at this
theorem num_dig {z : Int} (h : 0 ≤ z) : ∀ c ∈ cd (num z), digC c = true := by
  rw [num_cd h]
  intro c hc
  have := numL_digits z.toNat c hc
  simp only [digC, Bool.and_eq_true, decide_eq_true_eq]
  omega
theorem ab_nn (z : Int) : 0 ≤ ab z := by unfold ab; split <;> omega
theorem wo_ok {x : Str} {z : Int} (hx : IsNm x) : ∀ c ∈ cd (wo x z), okC c = true := by
  have h1 : ∀ c ∈ cd x, okC c = true := fun c hc => okC_of (List.all_eq_true.mp (isNm_all hx) c hc)
  unfold wo
  split
  · exact h1
  · intro c hc
    rw [cd_app, cd_app, cd_app, cd_em, cd_st, List.nil_append] at hc
    rcases List.mem_append.mp hc with hc | hc
    · rcases List.mem_append.mp hc with hc | hc
      · exact okC_of (by rw [tailC, num_dig (ab_nn z) c hc, Bool.or_true])
      · rw [List.mem_singleton.mp hc]
        rfl
    · exact h1 c hc
theorem okC_32 {c : Nat} (h : okC c = true) : c ≠ 32 ∧ c ≠ 45 ∧ c < 127 ∧ 42 ≤ c := by
  simp only [okC, tailC, lowC, digC, Bool.or_eq_true, Bool.and_eq_true, decide_eq_true_eq, beq_iff_eq] at h
  omega
theorem wo_ne {x : Str} {z : Int} (hx : IsNm x) : ∃ c r, cd (wo x z) = c :: r := by
  cases e : cd (wo x z) with
  | cons c r => exact ⟨c, r, rfl⟩
  | nil =>
    exfalso
    unfold wo at e
    split at e
    · have := (isNm_len hx).1
      rw [show x.cps.toList = [] from e] at this
      exact absurd this (by decide)
    · rw [cd_app, cd_app, cd_st] at e
      simp at e
theorem pre_one (s c : Nat) (r : List Nat) : pre [s] (c :: r) = (c == s) := by simp [pre]
theorem sw_cons {z : Str} {c : Nat} {r : List Nat} (h : cd z = c :: r) : Txt.startswith z "-" = (c == 45) := by
  have hy : tl "-" ≠ [] := by rw [show tl "-" = [45] from cd_mi]; simp
  have i := at_iff (x := z) hy 0
  rw [List.drop_zero, show tl z = c :: r from h, show tl "-" = [45] from cd_mi, pre_one] at i
  have e : Txt.startswith z "-" = true ↔ StrLaws.At z "-" z.length 0 := by
    unfold Txt.startswith StrLaws.At
    rw [Bool.and_eq_true, decide_eq_true_eq]
  cases hb : (c == 45) with
  | true => exact e.mpr (i.mpr hb)
  | false =>
    cases hs : Txt.startswith z "-" with
    | false => rfl
    | true => rw [i.mp (e.mp hs)] at hb; cases hb
theorem apart_txt {qs : List (Str × Int)} (h : ∀ q ∈ qs, IsNm q.1) : apart (txt qs) = Txt.join " " (partsZ qs) := by
  refine cd_inj ?_
  rw [join_eq]
  show _ = tl _
  rw [tl_join, show tl " " = [32] from cd_sp]
  cases qs with
  | nil => decide +kernel
  | cons q qs =>
    have e : partsZ (q :: qs) = parts (q :: qs) := if_neg (by simp)
    rw [e, join_parts]
    obtain ⟨c, r, hc⟩ := wo_ne (z := q.2) (h q List.mem_cons_self)
    have c45 := (okC_32 (wo_ok (z := q.2) (h q List.mem_cons_self) c (by rw [hc]; exact List.mem_cons_self))).2.1
    have ct := cd_txt q qs
    unfold apart sgn
    unfold fi at ct
    by_cases hz : q.2 < 0
    · rw [if_pos hz, cd_app, cd_mi] at ct
      rw [if_pos hz, sw_cons (c := 45) (by rw [ct]; rfl), if_pos (by rfl), cd_app, cd_rest, ct, cd_mi]
      have : cd ("- " : Str) = [45, 32] := by decide +kernel
      rw [this]
      simp
    · rw [if_neg hz, cd_app, cd_no, List.nil_append] at ct
      rw [if_neg hz, sw_cons (c := c) (by rw [ct, hc]; rfl), if_neg (by simp [c45]), cd_app, ct, cd_pl]
      have : cd ("+ " : Str) = [43, 32] := by decide +kernel
      rw [this]
      simp
theorem parts_free {qs : List (Str × Int)} (h : ∀ q ∈ qs, IsNm q.1) : ∀ p ∈ partsZ qs, 32 ∉ tl p := by
  unfold partsZ
  split
  · decide +kernel
  · intro p hp
    obtain ⟨q, hq, hp⟩ := List.mem_flatMap.mp hp
    simp only [List.mem_cons, List.not_mem_nil, or_false] at hp
    rcases hp with rfl | rfl
    · unfold sgn
      split <;> decide +kernel
    · intro hc
      exact (okC_32 (wo_ok (h q hq) 32 hc)).1 rfl
theorem split_apart {qs : List (Str × Int)} (h : ∀ q ∈ qs, IsNm q.1) : Txt.split (Txt.join " " (partsZ qs)) " " = partsZ qs := by
  refine split_join (s := 32) (S := []) cd_sp (by decide +kernel) (fun e => ?_) (parts_free h)
  unfold partsZ at e
  split at e
  · cases e
  · rename_i hn
    cases qs with
    | nil => exact hn rfl
    | cons q qs => simp [parts] at e
/-! a word, cut at its star -/
theorem star_one {x : Str} {z : Int} (hx : IsNm x) (h1 : ab z = 1) : Txt.rpartition (wo x z) "*" = (Str.empty, Str.empty, x) := by
  unfold wo
  rw [if_pos h1]
  refine rpart_none (s := 42) cd_st fun hc => ?_
  have := List.all_eq_true.mp (isNm_all hx) 42 hc
  exact absurd this (by decide)
theorem star_two {x : Str} {z : Int} (hx : IsNm x) (h1 : ¬ ab z = 1) : Txt.rpartition (wo x z) "*" = (num (ab z), ("*" : Str), x) := by
  unfold wo
  rw [if_neg h1]
  have e : Str.empty ++ num (ab z) = num (ab z) := cd_inj (by rw [cd_app, cd_em, List.nil_append])
  rw [e]
  refine rpart_app (s := 42) cd_st fun hc => ?_
  have := List.all_eq_true.mp (isNm_all hx) 42 hc
  exact absurd this (by decide)
theorem star_zero : Txt.rpartition "0" "*" = (Str.empty, Str.empty, ("0" : Str)) := rpart_none (s := 42) (a := "0") cd_st (by decide +kernel)
/-! every other of the words -/
theorem range_map {α β : Type} (f : α → β) (l : List α) : (List.range l.length).filterMap (fun j => (l[j]?).map f) = l.map f := by
  induction l with
  | nil => rfl
  | cons a l ih =>
    rw [List.length_cons, List.range_succ_eq_map]
    have e : (List.filterMap (fun j => ((a :: l)[j]?).map f) (0 :: (List.range l.length).map Nat.succ)) = f a :: List.filterMap (fun j => ((a :: l)[j]?).map f) ((List.range l.length).map Nat.succ) := List.filterMap_cons_some rfl
    rw [e, List.filterMap_map, List.map_cons, ← ih]
    rfl
theorem flat_even {α : Type} (f g : α → V) : ∀ (l : List α) (j : Nat), (l.flatMap fun q => [f q, g q])[2 * j]? = (l[j]?).map f ∧ (l.flatMap fun q => [f q, g q])[2 * j + 1]? = (l[j]?).map g
  | [], j => by simp
  | q :: l, 0 => by simp
  | q :: l, j + 1 => by
    obtain ⟨a, b⟩ := flat_even f g l j
    have e : (q :: l).flatMap (fun q => [f q, g q]) = f q :: g q :: l.flatMap fun q => [f q, g q] := rfl
    rw [e, show 2 * (j + 1) = 2 * j + 1 + 1 by omega, show 2 * j + 1 + 1 + 1 = (2 * j + 1) + 1 + 1 by omega]
    simp only [List.getElem?_cons_succ]
    exact ⟨a, b⟩
theorem flat_len {α : Type} (f g : α → V) (l : List α) : (l.flatMap fun q => [f q, g q]).length = 2 * l.length := by
  induction l with
  | nil => rfl
  | cons q l ih =>
    show (f q :: g q :: l.flatMap fun q => [f q, g q]).length = _
    rw [List.length_cons, List.length_cons, ih, List.length_cons]
    omega
theorem step2_even {α : Type} (f g : α → V) (l : List α) : step2 0 (l.flatMap fun q => [f q, g q]) = l.map f := by
  unfold step2
  rw [flat_len, Nat.zero_min, ← range_map f l]
  unfold sliceRange
  have hc : (if (2 : Int) > 0 then (if ((0 : Nat) : Int) < ((2 * l.length : Nat) : Int) then (((2 * l.length : Nat) : Int) - ((0 : Nat) : Int) + 2 - 1) / 2 else 0) else (if ((0 : Nat) : Int) > ((2 * l.length : Nat) : Int) then (((0 : Nat) : Int) - ((2 * l.length : Nat) : Int) - 2 - 1) / (-2) else 0)).toNat = l.length := by
    simp only [show (2 : Int) > 0 by decide, if_true]
    split <;> omega
  simp only [hc]
  rw [List.filterMap_map]
  congr 1
  funext j
  show (l.flatMap fun q => [f q, g q])[(((0 : Nat) : Int) + 2 * (j : Int)).toNat]? = _
  rw [show (((0 : Nat) : Int) + 2 * (j : Int)).toNat = 2 * j by omega]
  exact (flat_even f g l j).1
theorem step2_odd {α : Type} (f g : α → V) (l : List α) : step2 1 (l.flatMap fun q => [f q, g q]) = l.map g := by
  cases l with
  | nil => rfl
  | cons q0 l0 =>
    generalize hl : q0 :: l0 = l
    have h1 : 1 ≤ l.length := by rw [← hl, List.length_cons]; omega
    unfold step2
    rw [flat_len, Nat.min_eq_left (by omega), ← range_map g l]
    unfold sliceRange
    have hc : (if (2 : Int) > 0 then (if ((1 : Nat) : Int) < ((2 * l.length : Nat) : Int) then (((2 * l.length : Nat) : Int) - ((1 : Nat) : Int) + 2 - 1) / 2 else 0) else (if ((1 : Nat) : Int) > ((2 * l.length : Nat) : Int) then (((1 : Nat) : Int) - ((2 * l.length : Nat) : Int) - 2 - 1) / (-2) else 0)).toNat = l.length := by
      simp only [show (2 : Int) > 0 by decide, if_true]
      split <;> omega
    simp only [hc]
    rw [List.filterMap_map]
    congr 1
    funext j
    show (l.flatMap fun q => [f q, g q])[(((1 : Nat) : Int) + 2 * (j : Int)).toNat]? = _
    rw [show (((1 : Nat) : Int) + 2 * (j : Int)).toNat = 2 * j + 1 by omega]
    exact (flat_even f g l j).2
end RV
/-! what reading a text promises -/
namespace RV
open PySem L2 PyProof.Rows TL
def sp_digits : Sp := fun vs H Q _ => ∃ z : Int, vs = [.str (num z)] ∧ 0 ≤ z ∧ Q (.bl true) H
def sp_readnum : Sp := fun vs H Q _ => ∃ z : Int, vs = [.str (num z)] ∧ 0 ≤ z ∧ z < 10 ^ 60 ∧ Q (.int z) H
def sp_apart : Sp := fun vs H Q _ => ∃ z : Str, vs = [.str z] ∧ z.length ≤ 1000000 ∧ Q (.str (apart z)) H
/-- a word of a sum's text -/
def sp_rterm (_K : PySem.W.Frag) : Sp := fun vs H Q _ => (∃ q : Str × Int, vs = [.str (sgn q), .str (wo q.1 q.2)] ∧ IsNm q.1 ∧ q.2.natAbs < 10 ^ 60 ∧ ∀ t H', Kp H [(t, oP q)] H' → Q (.ref t) H') ∨
  (vs = [.str "+", .str "0"] ∧ ∀ H', Same H H' → Q .non H')
def sp_termsin (_K : PySem.W.Frag) : Sp := fun vs H Q _ => ∃ qs : List (Str × Int), vs = [.str (txt qs)] ∧ Due qs ∧ ∀ (us : List TP) (m : Addr) H', prs us = qs → Kp H ((m, .tup (vP us)) :: lP us) H' → Q (.ref m) H'
def sp_read (C : Addr) : Sp := fun vs H Q _ => ∃ qs : List (Str × Int), vs = [.ref C, .str (txt qs)] ∧ Due qs ∧ ∀ (x dx m : Addr) (us : List TP) H', prs us = qs → Kp H (lS C x dx m us) H' → Q (.ref x) H'
theorem all_cps {p : Nat → Bool} {x : Str} (h : ∀ c ∈ cd x, p c = true) : x.cps.all p = true := by
  rw [← Array.all_toList]
  exact List.all_eq_true.mpr h
theorem num_ascii {z : Int} (h : 0 ≤ z) : Txt.isascii (num z) = true := all_cps fun c hc => by
  have := num_dig h c hc
  simp only [digC, Bool.and_eq_true, decide_eq_true_eq] at this ⊢
  omega
theorem dig_uni {c : Nat} (h : digC c = true) : Unicode.isDigit c = true := by
  simp only [digC, Bool.and_eq_true, decide_eq_true_eq] at h
  have : c = 48 ∨ c = 49 ∨ c = 50 ∨ c = 51 ∨ c = 52 ∨ c = 53 ∨ c = 54 ∨ c = 55 ∨ c = 56 ∨ c = 57 := by omega
  rcases this with e | e | e | e | e | e | e | e | e | e <;> subst e <;> decide +kernel
theorem num_len0 {z : Int} (h : 0 ≤ z) : 1 ≤ (num z).length := by
  rw [cd_len, num_cd h]
  exact List.length_pos_iff.mpr (numL_ne _)
theorem num_digit {z : Int} (h : 0 ≤ z) : Txt.isdigit (num z) = true := by
  unfold Txt.isdigit
  rw [Bool.and_eq_true, decide_eq_true_eq]
  exact ⟨num_len0 h, all_cps fun c hc => dig_uni (num_dig h c hc)⟩
theorem num_len60 {z : Int} (h : 0 ≤ z) (h1 : z < 10 ^ 60) : (num z).length ≤ 60 := by
  rw [cd_len, num_cd h]
  refine numL_len (by decide) ?_
  have : ((z.toNat : Nat) : Int) < ((10 ^ 60 : Nat) : Int) := by
    rw [Int.toNat_of_nonneg h]
    exact h1
  exact Int.ofNat_lt.mp this
/-- int of a 0 and the digits -/
theorem int_back {z : Int} (h : 0 ≤ z) (h1 : z < 10 ^ 60) : intText? (("0" : Str) ++ num z) = some z := by
  have e : cd (("0" : Str) ++ num z) = 48 :: numL z.toNat := by rw [cd_app, cd_ze, num_cd h]; rfl
  have l := num_len60 h h1
  rw [cd_len, num_cd h] at l
  have r := intText_digits (x := ("0" : Str) ++ num z) (by
    rw [show (("0" : Str) ++ num z).cps.toList = 48 :: numL z.toNat from e]
    intro c hc
    rcases List.mem_cons.mp hc with rfl | hc
    · decide
    · exact numL_digits _ c hc) (by rw [show (("0" : Str) ++ num z).cps.toList = 48 :: numL z.toNat from e]; simp) (by
    rw [cd_len, e, List.length_cons]
    omega)
  rw [r, show (("0" : Str) ++ num z).cps.toList = 48 :: numL z.toNat from e]
  have v : NumText.digitsVal (48 :: numL z.toNat) = NumText.digitsVal (numL z.toNat) := rfl
  rw [v, numL_val, Int.toNat_of_nonneg h]
theorem txt_len {qs : List (Str × Int)} (d : Due qs) : (txt qs).length ≤ 200000 := by
  have h : ∀ q ∈ qs, IsNm q.1 ∧ q.2.natAbs < 10 ^ 64 := fun q hq => ⟨d.nm q hq, Nat.lt_of_le_of_lt (tot_mem hq) (Nat.lt_of_le_of_lt d.tt (by decide))⟩
  have e : (txt qs).length = ((pieces qs).map (·.length)).sum := by
    unfold txt
    rw [join_eq, len_tl, tl_join, show tl "" = [] from cd_no, joinL_nil, List.length_flatten, List.map_map]
    exact congrArg List.sum (List.map_congr_left fun x _ => (len_tl x).symm)
  have h1 := pieces_sum h
  have h2 := d.ln
  rw [e]
  omega
theorem Kp.thn {H0 H H' : Hp} {L L' : List (Addr × HO)} (h : Kp H0 L H) (k : Kp H L' H') : Kp H0 (L' ++ L) H' := ⟨fun b o e => k.sm b o (h.sm b o e), fun p hp => (List.mem_append.mp hp).elim (fun z => ⟨h.none0 (k.nw p z).1, (k.nw p z).2⟩) fun z => ⟨(h.nw p z).1, k.sm _ _ (h.nw p z).2⟩⟩
theorem Kp.put {H0 H : Hp} {L : List (Addr × HO)} {D : Addr} {o : HO} (h : Kp H0 L H) (h0 : H0 D = none) (hp : ∀ p ∈ L, p.1 ≠ D) : Kp H0 L (upd H D o) :=
  ⟨fun b u e => by rw [upd_ne (ne_of_none e h0)]; exact h.sm b u e, fun p hq => ⟨(h.nw p hq).1, by rw [upd_ne (hp p hq)]; exact (h.nw p hq).2⟩⟩
theorem Kp.off {H0 H : Hp} {us : List TP} {D : Addr} {xs : List V} (h : Kp H0 (lP us) H) (e : H D = some (.lst xs)) : ∀ p ∈ lP us, p.1 ≠ D := fun p hp z => by
  have q := (h.nw p hp).2
  rw [z, e] at q
  obtain ⟨u, _, rfl⟩ := List.mem_map.mp hp
  cases Option.some.inj q
/-- [f(s, w) for s, w in zip(xs, ys)]: f may make things -/
theorem cutS_all (z : Str) (k : Nat) (h : z.length ≤ k) : cutS z none (some (k : Int)) = z := cd_inj (by rw [cd_pre, List.take_of_length_le (by rw [← cd_len]; exact h)])
end RV
/-! the text of a sum, term by term -/
namespace RV
open PySem L2 PyProof.Rows TL
/-- the line behind some terms -/
def line (qs : List (Str × Int)) : Str := if qs = [] then "" else txt qs
theorem line_ne {q : Str × Int} {qs : List (Str × Int)} (h : IsNm q.1) : ¬ line (q :: qs) = "" := fun e => by
  have e2 := congrArg cd e
  rw [line, if_neg (by simp), cd_txt, cd_no] at e2
  obtain ⟨c, r, hc⟩ := wo_ne (z := q.2) h
  unfold fi at e2
  rw [cd_app, hc] at e2
  simp at e2
theorem wo_law (x : Str) (z : Int) (h : ¬ ab z = 1) : (num (ab z) ++ ("*" : Str)) ++ x = wo x z := cd_inj (by
  unfold wo
  rw [if_neg h, cd_app, cd_app, cd_app, cd_app, cd_app, cd_em, List.nil_append])
theorem line_one (q : Str × Int) : (if q.2 < 0 then ("-" : Str) ++ wo q.1 q.2 else wo q.1 q.2) = line [q] := cd_inj (by
  rw [show line [q] = txt [q] from if_neg (by simp), cd_txt]
  unfold fi
  split
  · rw [cd_app]; simp
  · rw [cd_app, cd_no]; simp)
theorem line_more (q r : Str × Int) (qs : List (Str × Int)) : (line (q :: qs) ++ (if r.2 < 0 then (" - " : Str) else " + ")) ++ wo r.1 r.2 = line (q :: qs ++ [r]) := cd_inj (by
  rw [show line (q :: qs ++ [r]) = txt (q :: (qs ++ [r])) from if_neg (by simp), show line (q :: qs) = txt (q :: qs) from if_neg (by simp), cd_txt, List.map_append, List.flatten_append, cd_app, cd_app, cd_txt]
  have e : (List.map (fun r => cd (fu r)) [r]).flatten = cd (fu r) := by simp
  rw [e, cd_fu]
  have h1 : cd " - " = [32, 45, 32] := by decide +kernel
  have h2 : cd " + " = [32, 43, 32] := by decide +kernel
  unfold sgn
  split
  · rw [h1, cd_mi]; simp
  · rw [h2, cd_pl]; simp)
theorem line_len {qs : List (Str × Int)} (h : ∀ q ∈ qs, IsNm q.1 ∧ q.2.natAbs < 10 ^ 64) (hl : qs.length ≤ 60) : (line qs).length ≤ 200000 := by
  unfold line
  split
  · decide +kernel
  · have e : (txt qs).length = ((pieces qs).map (·.length)).sum := by
      unfold txt
      rw [join_eq, len_tl, tl_join, show tl "" = [] from cd_no, joinL_nil, List.length_flatten, List.map_map]
      exact congrArg List.sum (List.map_congr_left fun x _ => (len_tl x).symm)
    have h1 := pieces_sum h
    rw [e]
    omega
def sp_sumtext (K : PySem.W.Frag) : Sp := fun vs H Q _ => ∃ (l : Addr) (ds : List TP), vs = [.ref l] ∧ SqL K H l (vP ds) ∧ TPs K H ds ∧ Due (prs ds) ∧ Q (.str (txt (prs ds))) H
end RV
/-! steps over a ledger: sums read, texts shown -/
namespace RV
open PySem L2 PyProof.Rows TL
def gR (vs zs : List V) : List V := match vs, zs with
  | [x], [t] => [x, t]
  | _, _ => []
section
variable {K : PySem.W.Frag} {C a l x : Addr} {n : Nat} {L : List (Addr × HO)} {H0 H : Hp} {us ds : List TP} {Q : VK} {E : XK} {qs : List (Str × Int)}
end
end RV
/-! -o, o + p, o - p, o * n, n * o of own classes -/
namespace PySem
open AutoSeq1 (wpAny_loadPart')
set_option maxHeartbeats 4000000 in
theorem rv_int_mul_inst (b : Int) (u : Tok) (l C dx : Addr) :
    Meets (Builtin.«int.__mul__» ⟨[.int b u, .ref l], []⟩) (fun _ R s => s.heap.get? l = some (PySem.W.instObj C dx) ∧ R (.ok (.ret .notImplemented)) s) :=
  .of_wp fun prog w A R s h => by
    obtain ⟨hp, g, d, tk, os⟩ := s
    obtain ⟨hl, h⟩ := h
    unfold PySem.W.instObj at hl
    wp_walk using wpAny_loadPart' hl, wpAny_load hl
    exact ⟨_, rfl, h⟩
end PySem
namespace PySem.W
open PySem PySem.Calls PyProof.Rows
section
variable {prog : Program} {w : World} {A : Around} {E : Value → Shared → Prop} {s : Shared} {K : Frag} {x C dx L f g : Addr} {h₀ : Heap} {m : Str → Option Value} {od : Option Obj} {i : Int} {t : Tok} {fo ro : Option Value}
theorem rv_mulI {Q : Value → Shared → Prop} (F : Fr h₀ L s.heap m) (X₀ : K.In h₀) (I : InstAt s.heap x (instObj C dx) C od) (hc : selfFirst K C = true)
    (hs : findIn K (.ref C) (PySem.dunder "mul") = some (some (.ref f))) (hr : findIn K (.ref C) (dunderR "mul") = some (some (.ref g))) (hg : isFn K (.ref g) = true)
    (h1 : findIn K (.type "int") (PySem.dunder "mul") = some fo) (h2 : findIn K (.type "int") (dunderR "mul") = some ro) (hsub : subIn K (.ref C) (.type "int") = some false)
    (h : wpAny (model prog w) A (call (.ref g) [.ref x, .int i t]) (CmpBack Q) E s) : wpAny (model prog w) A (binaryOp .Mult (.int i t) (.ref x)) Q E s := by
  have X := X₀.keeps F.keep
  obtain ⟨cd, rest, hcd, hm⟩ := ksp_first hc
  have one := ksp_try X I hr hg h
  have decl : wpAny (model prog w) A (tryMethod (.int i t) (PySem.dunder "mul") (.ref x)) (fun r s' => r = none ∧ s' = s) E s :=
    wpAny_tryMethod_declines (Q := fun r s' => r = none ∧ s' = s) (typeIs_int _ _ _) PySem.F.slot_int_mul (call_meets PySem.F.slot_int_mul (typeIs_int _ _ _) PySem.F.entry_int_mul (PySem.F.args_int_mul_2 _ _) (PySem.rv_int_mul_inst i t x C dx) ⟨I.at_, rfl, rfl, rfl⟩)
  obtain ⟨hh, g', d, tt, os⟩ := s
  have L1 : Looks (model prog w) hh (typeOf (.int i t)) (.type "int") := Looks.of_pure rfl
  have L2 : Looks (model prog w) hh (typeOf (.ref x)) (.ref C) := I.type
  have L3 : Looks (model prog w) hh (fillsNumberSlot (.ref C) "mul") true := fills_K X hcd hm hs
  have L4 : Looks (model prog w) hh (fillsNumberSlot (.type "int") "mul") ((fo.isSome && !isSeqSlot fo) || (ro.isSome && !isSeqSlot ro)) := ksp_fillsT X h1 h2
  have L5 : Looks (model prog w) hh (isSubtype (.ref C) (.type "int")) false := looks_subIn X hsub
  have L7 : Looks (model prog w) hh (numberSlotInPython (.type "int") "mul") false := Looks.of_pure rfl
  generalize ((fo.isSome && !isSeqSlot fo) || (ro.isSome && !isSeqSlot ro)) = left at L4
  have hne : (Value.type "int" == Value.ref C) = false := Bool.eq_false_iff.mpr fun q => by cases beq_iff_eq.mp q
  simp only [binaryOp, show Operator.info .Mult = ("*", "mul") from rfl]
  refine wpAny_holding (wpAny_bind ?_)
  unfold binaryOp1
  refine wpAny_bind (L1.at (wpAny_bind (L2.at (wpAny_bind (L4.at ?_)))))
  simp only [hne, Bool.false_eq_true, if_false]
  cases left with
  | false =>
    ksp_lk
    refine wpAny_mono one (fun r s' hr' => ?_) fun _ _ e => e
    obtain ⟨v, rfl, hq⟩ := hr'
    ksp_lk
    exact hq
  | true =>
    ksp_lk
    refine wpAny_mono decl (fun r s' hd => ?_) fun _ _ e => e
    obtain ⟨rfl, rfl⟩ := hd
    ksp_lk
    refine wpAny_mono one (fun r s' hr' => ?_) fun _ _ e => e
    obtain ⟨v, rfl, hq⟩ := hr'
    ksp_lk
    exact hq
end
end PySem.W
namespace RV
open PySem L2 PyProof.Rows
section
variable {X : Cx} {C : Addr} {k : Nat} {sp : Sp}
@[irreducible] def rBinO (C : Addr) (sp : Sp) : R2 := fun x y H Q => ∃ a b dx fs dy gs, x = .ref a ∧ y = .ref b ∧ H a = some (.ins C dx fs) ∧ H b = some (.ins C dy gs) ∧ sp [.ref a, .ref b] H (fun v H' => ∃ p, v = .ref p ∧ Q (.ref p) H') E0
@[irreducible] def rMulO (C : Addr) (sp : Sp) : R2 := fun x y H Q => ∃ (a : Addr) (i : Int) (dx : Addr) (fs : List (Str × V)), x = .ref a ∧ y = .int i ∧ H a = some (.ins C dx fs) ∧ sp [.ref a, .int i] H (fun v H' => ∃ p, v = .ref p ∧ Q (.ref p) H') E0
@[irreducible] def rMulI (C : Addr) (sp : Sp) : R2 := fun x y H Q => ∃ (a : Addr) (i : Int) (dx : Addr) (fs : List (Str × V)), x = .int i ∧ y = .ref a ∧ H a = some (.ins C dx fs) ∧ sp [.ref a, .int i] H (fun v H' => ∃ p, v = .ref p ∧ Q (.ref p) H') E0
@[irreducible] def rNegO (C : Addr) (sp : Sp) : V → Hp → VK → Prop := fun x H Q => ∃ a dx fs, x = .ref a ∧ H a = some (.ins C dx fs) ∧ sp [.ref a] H Q E0
end
end RV
/-! sums by operators -/
namespace RV
open PySem L2 PyProof.Rows TL
def scl (i : Int) (qs : List (Str × Int)) : List (Str × Int) := qs.map fun q => (q.1, i * q.2)
/-- numbers small enough -/
structure Lit (qs : List (Str × Int)) : Prop where
  nm : ∀ q ∈ qs, IsNm q.1
  sm : ∀ q ∈ qs, q.2.natAbs < 10 ^ 60
  ln : qs.length ≤ 60
section
variable {K : PySem.W.Frag} {a D : Addr} {us : List TP} {i j : Nat} {te : TE} {vs : List Nat} {σ : L2.St} {H1 : Hp} {Qd : Hp → Prop}
end
/-- [(x, n * z) for x, z in xs] -/
def sp_times (K : PySem.W.Frag) : Sp := fun vs H Q _ => ∃ (l : Addr) (us : List TP) (i : Int), vs = [.ref l, .int i] ∧ SqL K H l (vP us) ∧ TPs K H us ∧ (∀ q ∈ prs us, q.2.natAbs < 10 ^ 60) ∧ us.length ≤ 60 ∧ i.natAbs < 10 ^ 60 ∧
  ∀ (ws : List TP) (m : Addr) H', prs ws = scl i (prs us) → Kp H (lT m ws) H' → Q (.ref m) H'
def sp_mulS (C : Addr) : Sp := fun vs H Q _ => ∃ (a : Addr) (qs : List (Str × Int)) (i : Int), vs = [.ref a, .int i] ∧ SumR C H a qs ∧ Lit qs ∧ i.natAbs < 10 ^ 60 ∧
  ∀ (x dx m : Addr) (ds : List TP) H', Mad (scl i qs) (prs ds) → Kp H (lS C x dx m ds) H' → Q (.ref x) H'
def sp_negS (C : Addr) : Sp := fun vs H Q _ => ∃ (a : Addr) (qs : List (Str × Int)), vs = [.ref a] ∧ SumR C H a qs ∧ Lit qs ∧
  ∀ (x dx m : Addr) (ds : List TP) H', Mad (scl (-1) qs) (prs ds) → Kp H (lS C x dx m ds) H' → Q (.ref x) H'
def sp_addS (C : Addr) : Sp := fun vs H Q _ => ∃ (a b : Addr) (qs rs : List (Str × Int)), vs = [.ref a, .ref b] ∧ SumR C H a qs ∧ SumR C H b rs ∧ (∀ q ∈ qs ++ rs, IsNm q.1) ∧ Few (qs ++ rs) ∧
  ∀ (x dx m : Addr) (ds : List TP) H', Mad (qs ++ rs) (prs ds) → Kp H (lS C x dx m ds) H' → Q (.ref x) H'
def sp_subS (C : Addr) : Sp := fun vs H Q _ => ∃ (a b : Addr) (qs rs : List (Str × Int)), vs = [.ref a, .ref b] ∧ SumR C H a qs ∧ SumR C H b rs ∧ (∀ q ∈ qs, IsNm q.1) ∧ Lit rs ∧ Few (qs ++ rs) ∧
  ∀ (x dx m : Addr) (ds : List TP) H', Mad (qs ++ scl (-1) rs) (prs ds) → Kp H (lS C x dx m ds) H' → Q (.ref x) H'
/-- a sum is the one of these pairs -/
def sp_is (K : PySem.W.Frag) (C : Addr) : Sp := fun vs H Q _ => ∃ (x l : Addr) (qs : List (Str × Int)) (us : List TP), vs = [.ref x, .ref l] ∧ SumR C H x qs ∧ Nrm qs ∧ SqL K H l (vP us) ∧ TPs K H us ∧ (∀ q ∈ prs us, IsNm q.1) ∧ us.length ≤ 60 ∧ tot (prs us) ≤ 10 ^ 42 ∧ (∀ y, co qs y = co (prs us) y) ∧
  ∀ H', Same H H' → Q (.bl true) H'
end RV
/-! sums of names -/
namespace RV
open PySem L2 PyProof.Rows ClX
def ones (ns : List Str) : List (Str × Int) := ns.map fun x => (x, 1)
def sp_ofB (K : PySem.W.Frag) (C : Addr) : Sp := fun vs H Q _ => ∃ (p : Addr) (ns : List Str), vs = [.ref C, .ref p] ∧ SqT K H p (ns.map V.str) ∧ (∀ x ∈ ns, IsNm x) ∧ ns.length ≤ 60 ∧
  ∀ (x dx m : Addr) (ds : List TP) H', Mad (ones ns) (prs ds) → Kp H (lS C x dx m ds) H' → Q (.ref x) H'
def sp_of (C : Addr) : Sp := fun vs H Q _ => ∃ ns : List Str, vs = .ref C :: ns.map V.str ∧ (∀ x ∈ ns, IsNm x) ∧ ns.length ≤ 60 ∧
  ∀ (x dx m : Addr) (ds : List TP) H', Mad (ones ns) (prs ds) → Kp H (lS C x dx m ds) H' → Q (.ref x) H'
/-- a class method that takes any number of values -/
def ClsR (P : Program) (w : World) (K : PySem.W.Frag) (mg : Str → Option Value) (base : Heap) (C : Addr) (m : Str) (k : Nat) (sp : Sp) : Prop :=
  ∃ mc p g, CRead K C mc ∧ CMet K C mc m p g ∧ FnR P w K mg base CX0 k g sp
end RV
/-! steps with sums over a heap that only grows -/
namespace RV
open PySem L2 PyProof.Rows TL
/-- pairs of names, so many, so great in all -/
structure Raw (qs : List (Str × Int)) (n b : Nat) : Prop where
  nm : ∀ q ∈ qs, IsNm q.1
  ln : qs.length ≤ n
  tt : tot qs ≤ b
/-- a sum of these pairs, as they were given -/
def Own (C : Addr) (H : Hp) (x : Addr) (qs : List (Str × Int)) : Prop := ∃ rs, SumR C H x rs ∧ Mad qs rs
section
variable {K : PySem.W.Frag} {C a b l x : Addr} {H H' : Hp} {qs rs : List (Str × Int)} {n m c d : Nat} {Q : VK} {E : XK} {us : List TP}
/-- a list of pairs -/
structure Lsp (K : PySem.W.Frag) (H : Hp) (l : Addr) (us : List TP) : Prop where
  hd : H l = some (.lst (vP us))
  ps : TPs K H us
end
def sp_mults : Sp := fun vs H Q _ => ∃ (a : Addr) (n : Nat), vs = [.ref a] ∧ WellAt H a n ∧ n < 800000 ∧ ∀ H', Grow a H H' → WellAt H' a (n + 100) → Q (.bl true) H'
end RV
/-! rows of sums beside their models -/
namespace RV
open PySem L2 PyProof.Rows TL
/-! ### data that are equal -/
/-! ### what stands, where a list is changed -/
section
variable {K : PySem.W.Frag} {C t p l x : Addr} {H H' : Hp} {xs ys : List V} {us : List TP} {qs : List (Str × Int)}
end
/-! ### a sum and its model -/
abbrev Rw := Addr × Addr × List TP
structure One (K : PySem.W.Frag) (C : Addr) (H : Hp) (r : Rw) : Prop where
  sr : SumR C H r.1 (prs r.2.2)
  ls : Lsp K H r.2.1 r.2.2
/-- no coefficient of a model is greater -/
def lim : Nat := 3 * 10 ^ 33
structure Fit (pool : List Str) (us : List TP) : Prop where
  nr : Nrm (prs us)
  nm : ∀ q ∈ prs us, IsNm q.1
  pl : ∀ q ∈ prs us, q.1 ∈ pool
  sm : ∀ q ∈ prs us, q.2.natAbs ≤ lim
section
variable {pool pool' : List Str} {us ds : List TP} {K : PySem.W.Frag} {C x : Addr} {H : Hp} {qs rs : List (Str × Int)}
end
/-! ### steps with greater sums -/
section
variable {K : PySem.W.Frag} {C a b : Addr} {H : Hp} {qs rs : List (Str × Int)} {n m c d : Nat} {Q : VK}
end
section
variable {K : PySem.W.Frag} {l D : Addr} {us : List TP} {i j : Nat} {te : TE} {vs : List Nat} {σ : L2.St} {H1 : Hp} {Qd : Hp → Prop}
end
def rTupOf (K : PySem.W.Frag) : List V → Hp → VK → Prop := fun xs H Q => ∃ p ys, xs = [V.ref p] ∧ ((SqL K H p ys ∧ ∀ l, H l = none → Q (.ref l) (upd H l (.tup ys))) ∨ (SqT K H p ys ∧ Q (.ref p) H))
/-! ### promises -/
def vS (rs : List Rw) : List V := rs.map fun r => .ref r.1
def vM (rs : List Rw) : List V := rs.map fun r => .ref r.2.1
section
variable {K : PySem.W.Frag} {a D : Addr} {rs : List Rw} {i : Nat} {te : TE} {vs : List Nat} {σ : L2.St} {H1 : Hp} {Qd : Hp → Prop}
end
/-- the greatest size -/
def sp_much (K : PySem.W.Frag) : Sp := fun vs H Q _ => ∃ (l : Addr) (us : List TP), vs = [.ref l] ∧ Lsp K H l us ∧ us.length ≤ 60 ∧ ∀ (m : Int) H', (∀ q ∈ prs us, (q.2.natAbs : Int) ≤ m) → Same H H' → Q (.int m) H'
def sp_allr (K : PySem.W.Frag) (C : Addr) : Sp := fun vs H Q _ => ∃ (S M : Addr) (rs : List Rw), vs = [.ref S, .ref M] ∧ SqL K H S (vS rs) ∧ SqL K H M (vM rs) ∧ (∀ r ∈ rs, One K C H r ∧ Due (prs r.2.2)) ∧ rs.length ≤ 20 ∧ ∀ H', Same H H' → Q (.bl true) H'
def sp_turn (K : PySem.W.Frag) (C : Addr) : Sp := fun vs H Q _ => ∃ (a S M : Addr) (n : Nat) (rs : List Rw) (pool : List Str), vs = [.ref a, .ref S, .ref M] ∧ WellAt H a n ∧ n < 600000 ∧ S ≠ a ∧ M ≠ a ∧ H S = some (.lst (vS rs)) ∧ H M = some (.lst (vM rs)) ∧ rs.length = 4 ∧
  (∀ r ∈ rs, One K C H r ∧ Fit pool r.2.2 ∧ r.2.1 ≠ a) ∧ pool.length ≤ 57 ∧
  ∀ (p x l : Addr) (us : List TP) (new : List Str) H', H' p = some (.lst [.ref x, .ref l]) → Own C H' x (prs us) → Lsp K H' l us → us.length ≤ 120 → (∀ q ∈ prs us, IsNm q.1 ∧ q.1 ∈ pool ++ new) → new.length ≤ 3 → (∀ y, (co (prs us) y).natAbs ≤ lim) →
    Grow a H H' → WellAt H' a (n + 1010) → Q (.ref p) H'
def sp_row : Sp := fun vs H Q _ => ∃ (a : Addr) (n : Nat), vs = [.ref a] ∧ WellAt H a n ∧ n < 1000 ∧ ∀ H', Grow a H H' → Q (.bl true) H'
end RV
/-! a row: a list of sums and a list of their models, both changed in place; older ones -/
namespace RV
open PySem L2 PyProof.Rows TL
structure RowAt (K : PySem.W.Frag) (C : Addr) (H0 H : Hp) (a : Addr) (n : Nat) (S M : Addr) (rs os : List Rw) (pool : List Str) (L : List (Addr × HO)) : Prop where
  hs : Has H0 a n ((S, .lst (vS rs)) :: (M, .lst (vM rs)) :: L) H
  s0 : H0 S = none
  m0 : H0 M = none
  sm : S ≠ M
  off : ∀ p ∈ L, p.1 ≠ S ∧ p.1 ≠ M
  ln : rs.length = 4
  on : ∀ r ∈ rs ++ os, One K C H r ∧ Fit pool r.2.2 ∧ r.2.1 ≠ a ∧ r.2.1 ≠ S ∧ r.2.1 ≠ M
section
variable {K : PySem.W.Frag} {C : Addr} {H0 H H' : Hp} {a S M p : Addr} {n m : Nat} {rs os os' : List Rw} {pool pool' : List Str} {L L' : List (Addr × HO)} {o : HO}
end
end RV
/-! nets: pipes, meters, nets in the heap; promises of their methods -/
namespace RV
open PySem L2 PyProof.Rows TL
def sp_check (K : PySem.W.Frag) : Sp := fun vs H Q _ => ∃ (t : Addr) (xs : List Str), vs = [.ref t] ∧ SqT K H t (xs.map V.str) ∧ (∀ x ∈ xs, IsNm x) ∧ ∀ H', Same H H' → Q .non H'
def pipeF (n s e : Str) : List (Str × V) := putF "_end" (.str e) (putF "_start" (.str s) (putF "_name" (.str n) []))
theorem putF_len (f : Str) (v : V) : ∀ fs : List (Str × V), (putF f v fs).length ≤ fs.length + 1
  | [] => Nat.le_refl _
  | (g, x) :: r => by
    show (if g = f then (g, v) :: r else (g, x) :: putF f v r).length ≤ _
    split
    · simp
    · have := putF_len f v r
      simp only [List.length_cons]
      omega
def metF (n a : Str) (z : Bool) : List (Str × V) := putF "_sealed" (.bl z) (putF "_at" (.str a) (putF "_name" (.str n) []))
def sp_Pipe (C : Addr) : Sp := fun vs H Q _ => ∃ (x dx : Addr) (n s e : Str), vs = [.ref x, .str n, .str s, .str e] ∧ H x = some (.ins C dx []) ∧ IsNm n ∧ IsNm s ∧ IsNm e ∧ e ≠ s ∧
  ∀ H', (∀ b o, b ≠ x → H b = some o → H' b = some o) → (∃ dx, H' x = some (.ins C dx (pipeF n s e))) → Q .non H'
def sp_Meter (C : Addr) : Sp := fun vs H Q _ => ∃ (x dx : Addr) (n a : Str) (z : Bool), vs = [.ref x, .str n, .str a, .bl z] ∧ H x = some (.ins C dx []) ∧ IsNm n ∧ IsNm a ∧
  ∀ H', (∀ b o, b ≠ x → H b = some o → H' b = some o) → (∃ dx, H' x = some (.ins C dx (metF n a z))) → Q .non H'
abbrev P3 := Str × Str × Str
abbrev M3 := Str × Str × Bool
def PipeAt (C : Addr) (H : Hp) (p : Addr) (q : P3) : Prop := ∃ dx, H p = some (.ins C dx (pipeF q.1 q.2.1 q.2.2))
def MetAt (C : Addr) (H : Hp) (p : Addr) (q : M3) : Prop := ∃ dx, H p = some (.ins C dx (metF q.1 q.2.1 q.2.2))
/-- a pipe's, a meter's own properties -/
def sp_pn (C : Addr) : Sp := fun vs H Q _ => ∃ (a : Addr) (q : P3), vs = [.ref a] ∧ PipeAt C H a q ∧ Q (.str q.1) H
def sp_ps (C : Addr) : Sp := fun vs H Q _ => ∃ (a : Addr) (q : P3), vs = [.ref a] ∧ PipeAt C H a q ∧ Q (.str q.2.1) H
def sp_pe (C : Addr) : Sp := fun vs H Q _ => ∃ (a : Addr) (q : P3), vs = [.ref a] ∧ PipeAt C H a q ∧ Q (.str q.2.2) H
def sp_mn (C : Addr) : Sp := fun vs H Q _ => ∃ (a : Addr) (q : M3), vs = [.ref a] ∧ MetAt C H a q ∧ Q (.str q.1) H
def sp_ma (C : Addr) : Sp := fun vs H Q _ => ∃ (a : Addr) (q : M3), vs = [.ref a] ∧ MetAt C H a q ∧ Q (.str q.2.1) H
def sp_mz (C : Addr) : Sp := fun vs H Q _ => ∃ (a : Addr) (q : M3), vs = [.ref a] ∧ MetAt C H a q ∧ Q (.bl q.2.2) H
/-- two of a kind are compared -/
def sp_Peq (C : Addr) : Sp := fun vs H Q _ => ∃ (a b : Addr) (q r : P3), vs = [.ref a, .ref b] ∧ PipeAt C H a q ∧ PipeAt C H b r ∧ Q (.bl (decide (q = r))) H
def sp_Meq (C : Addr) : Sp := fun vs H Q _ => ∃ (a b : Addr) (q r : M3), vs = [.ref a, .ref b] ∧ MetAt C H a q ∧ MetAt C H b r ∧ Q (.bl (decide (q = r))) H
structure PClass (K : PySem.W.Frag) (mg : Str → Option Value) (C : Addr) : Prop where
  x : ClsX K C
  k : mg "Pipe" = some (.ref C)
  n1 : NoAttr K C "_name"
  n2 : NoAttr K C "_start"
  n3 : NoAttr K C "_end"
  me : PySem.W.kitOne K (.ref C) (.ref C) = some true
structure MClass (K : PySem.W.Frag) (mg : Str → Option Value) (C : Addr) : Prop where
  x : ClsX K C
  k : mg "Meter" = some (.ref C)
  n1 : NoAttr K C "_name"
  n2 : NoAttr K C "_at"
  n3 : NoAttr K C "_sealed"
  me : PySem.W.kitOne K (.ref C) (.ref C) = some true
structure NClass (K : PySem.W.Frag) (mg : Str → Option Value) (C : Addr) : Prop where
  x : ClsX K C
  k : mg "Net" = some (.ref C)
  n1 : NoAttr K C "_pipes"
  n2 : NoAttr K C "_meters"
  me : PySem.W.kitOne K (.ref C) (.ref C) = some true
section
variable {H : Hp} {R : Hp → Prop} {E : XK} {C x dx : Addr} {n s e : Str} {z : Bool}
end
theorem strs_flat : ∀ xs : List Str, (xs.map V.str).all flatV = true
  | [] => rfl
  | x :: xs => by simp [flatV, strs_flat xs]
/-! ### nets -/
def netF (tp tm : Addr) : List (Str × V) := putF "_meters" (.ref tm) (putF "_pipes" (.ref tp) [])
abbrev PU := Addr × P3
abbrev MU := Addr × M3
def rf {α : Type} (us : List (Addr × α)) : List V := us.map fun u => .ref u.1
def sn {α : Type} (us : List (Addr × α)) : List α := us.map (·.2)
/-- a tuple of pipes, of meters -/
structure Tps (K : PySem.W.Frag) (C : Addr) (H : Hp) (t : Addr) (us : List PU) : Prop where
  t : SqT K H t (rf us)
  o : ∀ u ∈ us, PipeAt C H u.1 u.2
structure Tms (K : PySem.W.Frag) (C : Addr) (H : Hp) (t : Addr) (us : List MU) : Prop where
  t : SqT K H t (rf us)
  o : ∀ u ∈ us, MetAt C H u.1 u.2
/-- what a net's pipes, a net's meters are -/
structure POk (ps : List P3) : Prop where
  n0 : ps ≠ []
  ln : ps.length ≤ 12
  nm : ∀ p ∈ ps, IsNm p.1 ∧ IsNm p.2.1 ∧ IsNm p.2.2 ∧ p.2.2 ≠ p.2.1
  nd : (ps.map (·.1)).Nodup
structure MOk (ps : List P3) (ms : List M3) : Prop where
  ln : ms.length ≤ 12
  nm : ∀ m ∈ ms, IsNm m.1 ∧ IsNm m.2.1
  nd : (ms.map (·.1)).Nodup
  on : ∀ m ∈ ms, m.2.1 ∈ ps.map (·.1)
/-- a net in the heap -/
structure NetR (K : PySem.W.Frag) (CN CP CM : Addr) (H : Hp) (x : Addr) (ps : List P3) (ms : List M3) : Prop where
  ex : ∃ (dx tp tm : Addr) (pu : List PU) (mu : List MU), H x = some (.ins CN dx (netF tp tm)) ∧ Tps K CP H tp pu ∧ Tms K CM H tm mu ∧ sn pu = ps ∧ sn mu = ms
def sp_index (K : PySem.W.Frag) (CP : Addr) : Sp := fun vs H Q _ => ∃ (t : Addr) (us : List PU) (y : Str), vs = [.ref t, .str y] ∧ Tps K CP H t us ∧ us.length ≤ 12 ∧ y ∈ (sn us).map (·.1) ∧ ∀ (i : Nat) H', ((sn us)[i]?).map (·.1) = some y → Same H H' → Q (.int (i : Nat)) H'
def sp_chkP (K : PySem.W.Frag) (CP : Addr) : Sp := fun vs H Q _ => ∃ (t : Addr) (us : List PU), vs = [.ref t] ∧ Tps K CP H t us ∧ POk (sn us) ∧ ∀ H', Same H H' → Q .non H'
def sp_chkM (K : PySem.W.Frag) (CP CM : Addr) : Sp := fun vs H Q _ => ∃ (t tp : Addr) (us : List MU) (pu : List PU), vs = [.ref t, .ref tp] ∧ Tms K CM H t us ∧ Tps K CP H tp pu ∧ pu.length ≤ 12 ∧ MOk (sn pu) (sn us) ∧ ∀ H', Same H H' → Q .non H'
def sp_Net (K : PySem.W.Frag) (CN CP CM : Addr) : Sp := fun vs H Q _ => ∃ (x dx tp tm : Addr) (pu : List PU) (mu : List MU), vs = [.ref x, .ref tp, .ref tm] ∧ H x = some (.ins CN dx []) ∧ Tps K CP H tp pu ∧ Tms K CM H tm mu ∧ POk (sn pu) ∧ MOk (sn pu) (sn mu) ∧
  ∀ H', (∀ b o, b ≠ x → H b = some o → H' b = some o) → (∃ dx, H' x = some (.ins CN dx (netF tp tm))) → Q .non H'
section
variable {K : PySem.W.Frag} {CN CP CM x dx tp tm : Addr} {H : Hp} {pu : List PU} {mu : List MU} {R : Hp → Prop} {E : XK}
end
end RV
/-! comprehensions: one thing for each item; the items that fit -/
namespace RV
open PySem L2 PyProof.Rows TL
section
variable {α β : Type} {K : PySem.W.Frag} {D : Addr} {xs : List V} {i : Nat} {te : TE} {tt : TT} {vs : List Nat} {σ : L2.St} {H1 : Hp} {Qd : Hp → Prop} {J : It} {GG : Hp → Prop}
/-- [f(x) for x in xs]: each turn gives a value of which something is known -/
theorem lc_new (val : β → V) (Pk : Nat → β → Hp → Prop) (wk : Walk J xs.length GG (YAt xs)) (nD : H1 D = none) (len : xs.length ≤ 1000) (hG : ∀ H', Same H1 H' → GG H') (hw : ∀ x, wipe ((wipe σ vs).set i x) vs = wipe σ vs)
    (ext : ∀ k b H H', Same H H' → Pk k b H → Pk k b H') (put : ∀ k b H acc acc', H D = some (.lst acc) → Pk k b H → Pk k b (upd H D (.lst acc')))
    (h : ∀ k x, xs[k]? = some x → ∀ H2, Same H1 H2 → (∃ acc, H2 D = some (.lst acc)) → ∀ R : VK, (∀ b H3, Same H2 H3 → Pk k b H3 → R (val b) H3) → te ((wipe σ vs).set i (some x)) H2 R)
    (k : ∀ (bs : List β) H', Same H1 H' → bs.length = xs.length → (∀ k b, bs[k]? = some b → Pk k b H') → H' D = some (.lst (bs.map val)) → Qd H') :
    ∃ W : Nat → Nat → Hp → Prop, (∃ m, W 0 m (upd H1 D (.lst []))) ∧ ∀ i' m H, W i' m H →
      (J.stop i' H ∧ Qd H) ∨ (J.go i' H ∧ ∃ Nx : Hp → Prop, (∀ H', Nx H' → ∃ m', m' < m ∧ W (i' + 1) m' H') ∧ ∀ x H', J.yld i' H x H' → gName i x (wipe σ vs) H' fun σ2 H2 => wipe σ2 vs = wipe σ vs ∧ tYes σ2 H2 fun b H3 =>
        if b = true then te σ2 H3 fun y H4 => ∃ acc, H4 D = some (.lst acc) ∧ acc.length < sizeLine ∧ Nx (upd H4 D (.lst (acc ++ [y]))) else Nx H3) := by
  refine L2.lc_it wk (fun i' H' => ∃ bs : List β, bs.length = i' ∧ Same H1 H' ∧ H' D = some (.lst (bs.map val)) ∧ ∀ k b, bs[k]? = some b → Pk k b H')
    ⟨[], rfl, fun b o e => (upd_ne (ne_of_none e nD)).trans e, upd_same, fun k b e => by simp at e⟩ (fun i' H' _ z => ?_) (fun i' x Ha Hb hi hv y => ?_) (fun H' hv => ?_)
  · obtain ⟨_, _, s, _⟩ := z
    exact hG _ s
  · obtain ⟨bs, hb, s, eD, hp⟩ := hv
    obtain ⟨rfl, hx⟩ := y
    have e0 : ∀ (σ : L2.St) (H : Hp) (R : Bool → Hp → Prop), R true H → tYes σ H R := fun _ _ _ r => r
    refine ⟨hw _, e0 _ _ _ ?_⟩
    simp only [↓reduceIte]
    refine h i' x hx Hb s ⟨_, eD⟩ _ fun b H3 s3 pb => ?_
    have eD3 := s3 _ _ eD
    refine ⟨_, eD3, ?_, bs ++ [b], by rw [List.length_append, hb]; rfl, fun c o e => ?_, by rw [upd_same, List.map_append]; rfl, fun k c e => ?_⟩
    · rw [List.length_map, hb]
      exact Nat.lt_of_lt_of_le (show i' < 1001 by omega) (by decide)
    · rw [upd_ne (ne_of_none e nD)]
      exact s3 _ _ (s _ _ e)
    · refine put _ _ _ _ _ eD3 ?_
      rw [List.getElem?_append] at e
      split at e
      · exact ext _ _ _ _ s3 (hp k c e)
      · rename_i hk
        have : k - bs.length = 0 := by
          have := (List.getElem?_eq_some_iff.mp e).1
          simp at this
          omega
        rw [this] at e
        obtain rfl : b = c := Option.some.inj e
        rw [show k = i' by omega]
        exact pb
  · obtain ⟨bs, hb, s, eD, hp⟩ := hv
    exact k bs H' s hb hp eD
/-- [f(x) for x in xs]: plain values -/
theorem lc_to (ys : List V) (hl : ys.length = xs.length) (wk : Walk J xs.length GG (YAt xs)) (nD : H1 D = none) (len : xs.length ≤ 1000) (hG : ∀ H', Same H1 H' → GG H') (hw : ∀ x, wipe ((wipe σ vs).set i x) vs = wipe σ vs)
    (h : ∀ (k : Nat) (x y : V), xs[k]? = some x → ys[k]? = some y → ∀ H2, Same H1 H2 → ∀ R : VK, (∀ H3, Same H2 H3 → R y H3) → te ((wipe σ vs).set i (some x)) H2 R)
    (k : ∀ H', Same H1 H' → H' D = some (.lst ys) → Qd H') :
    ∃ W : Nat → Nat → Hp → Prop, (∃ m, W 0 m (upd H1 D (.lst []))) ∧ ∀ i' m H, W i' m H →
      (J.stop i' H ∧ Qd H) ∨ (J.go i' H ∧ ∃ Nx : Hp → Prop, (∀ H', Nx H' → ∃ m', m' < m ∧ W (i' + 1) m' H') ∧ ∀ x H', J.yld i' H x H' → gName i x (wipe σ vs) H' fun σ2 H2 => wipe σ2 vs = wipe σ vs ∧ tYes σ2 H2 fun b H3 =>
        if b = true then te σ2 H3 fun y H4 => ∃ acc, H4 D = some (.lst acc) ∧ acc.length < sizeLine ∧ Nx (upd H4 D (.lst (acc ++ [y]))) else Nx H3) := by
  refine lc_new (β := V) id (fun (k : Nat) (b : V) (_ : Hp) => (ys[k]? : Option V) = some b) wk nD len hG hw (fun _ _ _ _ _ e => e) (fun _ _ _ _ _ _ e => e) (fun k x hx H2 s2 _ R r => ?_) fun bs H' s' bl bp eD => ?_
  · have hk := (List.getElem?_eq_some_iff.mp hx).1
    have e : ys[k]? = some (ys[k]'(by omega)) := List.getElem?_eq_getElem _
    exact h k x _ hx e H2 s2 R fun H3 s3 => r _ H3 s3 e
  · refine k H' s' ?_
    rw [eD, List.map_id]
    congr 2
    refine List.ext_getElem? fun j => ?_
    cases e : bs[j]? with
    | some b => rw [bp j b e]
    | none => rw [List.getElem?_eq_none_iff] at e; rw [List.getElem?_eq_none (by omega)]
end
/-! ### the lines of a net -/
def pline (q : P3) : Str := Str.empty ++ "pipe " ++ q.1 ++ " " ++ q.2.1 ++ " " ++ q.2.2
def mseal (z : Bool) : Str := if z then " sealed" else ""
def mline (q : M3) : Str := Str.empty ++ "meter " ++ q.1 ++ " " ++ q.2.1 ++ mseal q.2.2
def netL (ps : List P3) (ms : List M3) : List Str := ps.map pline ++ ms.map mline
def netT (ps : List P3) (ms : List M3) : Str := Txt.join "\n" (netL ps ms)
def sp_pline (CP : Addr) : Sp := fun vs H Q _ => ∃ (a : Addr) (q : P3), vs = [.ref a] ∧ PipeAt CP H a q ∧ IsNm q.1 ∧ IsNm q.2.1 ∧ IsNm q.2.2 ∧ Q (.str (pline q)) H
def sp_mline (CM : Addr) : Sp := fun vs H Q _ => ∃ (a : Addr) (q : M3), vs = [.ref a] ∧ MetAt CM H a q ∧ IsNm q.1 ∧ IsNm q.2.1 ∧ Q (.str (mline q)) H
/-- names that a text is made of -/
def PNm (ps : List P3) : Prop := ∀ p ∈ ps, IsNm p.1 ∧ IsNm p.2.1 ∧ IsNm p.2.2
def MNm (ms : List M3) : Prop := ∀ p ∈ ms, IsNm p.1 ∧ IsNm p.2.1
def sp_lines (K : PySem.W.Frag) (CP CM : Addr) : Sp := fun vs H Q _ => ∃ (tp tm : Addr) (pu : List PU) (mu : List MU), vs = [.ref tp, .ref tm] ∧ Tps K CP H tp pu ∧ Tms K CM H tm mu ∧ PNm (sn pu) ∧ MNm (sn mu) ∧ pu.length ≤ 20 ∧ mu.length ≤ 20 ∧
  ∀ l H', Kp H [(l, .lst ((netL (sn pu) (sn mu)).map V.str))] H' → Q (.ref l) H'
def sp_nstr (K : PySem.W.Frag) (CN CP CM : Addr) : Sp := fun vs H Q _ => ∃ (x : Addr) (ps : List P3) (ms : List M3), vs = [.ref x] ∧ NetR K CN CP CM H x ps ms ∧ PNm ps ∧ MNm ms ∧ ps.length ≤ 20 ∧ ms.length ≤ 20 ∧ ∀ H', Same H H' → Q (.str (netT ps ms)) H'
theorem nm8 {x : Str} (h : IsNm x) : 1 ≤ x.length ∧ x.length ≤ 8 := by rw [cd_len]; exact isNm_len h
end RV
set_option linter.all false
/-! == of tuples of own objects: all equal, or one of them empty -/
namespace GQ
open PySem PySem.SeqAt
open AutoSeq1 (wpAny_loadPart')
open MeetsSeq MeetsSeq2 MeetsSeq3 SeqRoads2
section
variable {prog : Program} {w : World} {A : Around} {R : Result → Shared → Prop}
theorem rv_tuple_eq0 (l b : Addr) (items items2 : Array Value) (n n2 : Nat) (dd dd2 : Option Addr) (sl sl2 : Array (Option Value)) (h0 : items.size = 0 ∨ items2.size = 0) (hne : items.size ≠ items2.size)
    {s : Shared} (fin : R (.ok (.ret (.bool false))) s) (hl1 : s.heap.get? l = some { cls := .type "tuple", dict := dd, data := .seq items n, slots := sl }) (hb1 : s.heap.get? b = some { cls := .type "tuple", dict := dd2, data := .seq items2 n2, slots := sl2 }) :
    wpAny (model prog w) A.in1 (Builtin.«tuple.__eq__» ⟨[.ref l, .ref b], []⟩) (FinOf prog w A R) (fun e s' => R (.error e) s') s := by
  have f2 := AutoSeq1.sub_tuple_tuple
  have hZ : items.toList.zip items2.toList = [] := by
    rcases h0 with h | h
    · rw [show items = #[] from Array.eq_empty_of_size_eq_zero h]
      rfl
    · rw [show items2 = #[] from Array.eq_empty_of_size_eq_zero h]
      simp
  have hs : ∃ t, t = s := ⟨s, rfl⟩
  obtain ⟨t, ht⟩ := hs
  obtain ⟨hp, g, d, tk, os⟩ := s
  wp_walk using wpAny_loadPart' hl1, wpAny_loadPart' hb1, wpAny_forIn_list _ (fun rest b s' => b.1 = none ∧ rest = [] ∧ s' = t) _
  case turn =>
    rintro ⟨y, x⟩ rest b s' ⟨_, hz, _⟩
    cases hz
  case fin =>
    rintro ⟨b1, b2⟩ s' ⟨hb', _, hs'⟩
    simp only at hb'
    subst hb'
    subst hs'
    subst ht
    wp_walk
    have e : (items.size == items2.size) = false := by simpa using hne
    simp only [Builtin.Tuple.tupleCompareSizes]
    show R (.ok (.ret (.bool (items.size == items2.size)))) _
    rw [e]
    exact fin
  case h =>
    exact ⟨rfl, hZ, ht.symm⟩
end
section
variable {prog : Program} {w : World} {A : Around} {E : Value → Shared → Prop} {s : Shared}
theorem rv_rc_tup0 {l b : Addr} {items items2 : Array Value} {Q : Value → Shared → Prop} (h0 : items.size = 0 ∨ items2.size = 0) (hne : items.size ≠ items2.size) (hu : A.units < cLine)
    (hl : s.heap.IsTuple l items) (hb : s.heap.IsTuple b items2) (fin : Q (.bool false) s) : wpAny (model prog w) A (richCompare .Eq (.ref l) (.ref b)) Q E s := by
  obtain ⟨⟨cls, dd, data, sl⟩, ho, hc, n, hd⟩ := id hl
  obtain ⟨⟨cls2, dd2, data2, sl2⟩, ho2, hc2, n2, hd2⟩ := id hb
  simp only at hc hd hc2 hd2
  subst hc hd hc2 hd2
  refine wpAny_richCompare_same_room (op := .Eq) ⟨_, ho, rfl⟩ ⟨_, ho2, rfl⟩ F.slot_tuple_eq (call_here F.slot_tuple_eq ⟨_, ho, rfl⟩ F.entry_tuple_eq (F.args_tuple_eq_2 _ _) ?_) hu
  exact rv_tuple_eq0 (R := wants (fun v s' => v ≠ .notImplemented ∧ Q v s') E) l b items items2 n n2 dd dd2 sl sl2 h0 hne ⟨(fun x => nomatch x), fin⟩ ho ho2
end
end GQ
namespace RV
open PySem L2 PyProof.Rows
def rEqTup (K : PySem.W.Frag) (D : Eqv) : R2 := fun x y H Q => (DTup K D x y H ∧ ∀ H', Ext H H' → Q (.bl true) H') ∨
  (∃ a b xs ys, x = .ref a ∧ y = .ref b ∧ SqT K H a xs ∧ SqT K H b ys ∧ (xs.length = 0 ∨ ys.length = 0) ∧ xs.length ≠ ys.length ∧ Q (.bl false) H)
/-- two of a kind that are equal -/
def SmP (C : Addr) : Addr → Addr → Hp → Prop := fun a b H => ∃ q, PipeAt C H a q ∧ PipeAt C H b q
def SmM (C : Addr) : Addr → Addr → Hp → Prop := fun a b H => ∃ q, MetAt C H a q ∧ MetAt C H b q
/-- two nets with the same pipes: their meters the same, or one of them has none -/
def sp_Neq (K : PySem.W.Frag) (CN CP CM : Addr) : Sp := fun vs H Q _ => ∃ (a b : Addr) (ps : List P3) (ms ms' : List M3), vs = [.ref a, .ref b] ∧ NetR K CN CP CM H a ps ms ∧ NetR K CN CP CM H b ps ms' ∧ (ms = ms' ∨ ms = [] ∨ ms' = []) ∧ ∀ H', Same H H' → Q (.bl (decide (ms = ms'))) H'
end RV
/-! a net's text, cut into rows -/
namespace RV
open PySem L2 PyProof.Rows TL
def prow (q : P3) : List Str := ["pipe", q.1, q.2.1, q.2.2]
def mrow (q : M3) : List Str := if q.2.2 then ["meter", q.1, q.2.1, "sealed"] else ["meter", q.1, q.2.1]
def rowsL (ps : List P3) (ms : List M3) : List (List Str) := ps.map prow ++ ms.map mrow
theorem cd_nl : cd "\n" = [10] := by decide +kernel
/-- lists of words, each at its address -/
abbrev RU := Addr × List Str
structure Rws (H : Hp) (l : Addr) (us : List RU) : Prop where
  l : H l = some (.lst (rf us))
  o : ∀ u ∈ us, H u.1 = some (.lst (u.2.map V.str))
structure TOk (ps : List P3) (ms : List M3) : Prop where
  n0 : ps ≠ []
  pn : PNm ps
  mn : MNm ms
  pl : ps.length ≤ 20
  ml : ms.length ≤ 20
def sp_rows : Sp := fun vs H Q _ => ∃ (ps : List P3) (ms : List M3), vs = [.str (netT ps ms)] ∧ TOk ps ms ∧ ∀ (l : Addr) (us : List RU) H', Same H H' → Rws H' l us → sn us = rowsL ps ms → Q (.ref l) H'
def sp_pin (K : PySem.W.Frag) (CP : Addr) : Sp := fun vs H Q _ => ∃ (ps : List P3) (ms : List M3), vs = [.str (netT ps ms)] ∧ TOk ps ms ∧ POk ps ∧ ∀ (t : Addr) (us : List PU) H', Same H H' → Tps K CP H' t us → sn us = ps → Q (.ref t) H'
def sp_min (K : PySem.W.Frag) (CM : Addr) : Sp := fun vs H Q _ => ∃ (ps : List P3) (ms : List M3), vs = [.str (netT ps ms)] ∧ TOk ps ms ∧ ∀ (t : Addr) (us : List MU) H', Same H H' → Tms K CM H' t us → sn us = ms → Q (.ref t) H'
def sp_nread (K : PySem.W.Frag) (CN CP CM : Addr) : Sp := fun vs H Q _ => ∃ (ps : List P3) (ms : List M3), vs = [.ref CN, .str (netT ps ms)] ∧ POk ps ∧ MOk ps ms ∧ ∀ (x : Addr) H', Same H H' → NetR K CN CP CM H' x ps ms → Q (.ref x) H'
/-- the rows of the pipes, of the meters -/
def isP (r : List Str) : Bool := decide (r[0]? = some ("pipe" : Str))
def isM (r : List Str) : Bool := decide (r[0]? = some ("meter" : Str))
def gM2 (vs zs : List V) : List V := match vs, zs with
  | [x, n, a], [z] => [x, n, a, z]
  | _, _ => []
end RV
/-! nets as a law lays them: rows of pipes, rows of meters -/
namespace RV
open PySem L2 PyProof.Rows TL
section
variable {X : Cx} {K : PySem.W.Frag} {o e : Expr} {to te : TE}
end
def oY (q : P3) : HO := .tup [.str q.1, .str q.2.1, .str q.2.2]
def oZ (q : M3) : HO := .tup [.str q.1, .str q.2.1, .bl q.2.2]
structure Lay (H : Hp) (l : Addr) (us : List PU) : Prop where
  l : H l = some (.lst (rf us))
  o : ∀ u ∈ us, H u.1 = some (oY u.2)
structure Fts (H : Hp) (l : Addr) (us : List MU) : Prop where
  l : H l = some (.lst (rf us))
  o : ∀ u ∈ us, H u.1 = some (oZ u.2)
def lY (us : List PU) : List (Addr × HO) := us.map fun u => (u.1, oY u.2)
def lZ (us : List MU) : List (Addr × HO) := us.map fun u => (u.1, oZ u.2)
/-- rows of pipes -/
structure LOk (ps : List P3) : Prop where
  nm : ∀ p ∈ ps, IsNm p.1 ∧ IsNm p.2.1 ∧ IsNm p.2.2 ∧ p.2.2 ≠ p.2.1
  nd : (ps.map (·.1)).Nodup
/-- laid(well, lo, hi) -/
def sp_laid : Sp := fun vs H Q _ => ∃ (a : Addr) (n lo hi : Nat), vs = [.ref a, .int lo, .int hi] ∧ WellAt H a n ∧ n < 600000 ∧ lo ≤ hi ∧ hi ≤ 12 ∧
  ∀ (l : Addr) (us : List PU) H', H l = none → l ≠ a → Grow a H H' → WellAt H' a (n + 1000) → Lay H' l us → LOk (sn us) → lo ≤ us.length → us.length ≤ hi → Q (.ref l) H'
/-- fits(well, laid, most) -/
def sp_fits : Sp := fun vs H Q _ => ∃ (a t : Addr) (n hi : Nat) (us : List PU), vs = [.ref a, .ref t, .int hi] ∧ WellAt H a n ∧ n < 600000 ∧ t ≠ a ∧ Lay H t us ∧ LOk (sn us) ∧ 1 ≤ us.length ∧ us.length ≤ 12 ∧ hi ≤ 12 ∧
  ∀ (l : Addr) (ms : List MU) H', H l = none → l ≠ a → Grow a H H' → WellAt H' a (n + 1000) → Fts H' l ms → MOk (sn us) (sn ms) → ms.length ≤ hi → Q (.ref l) H'
/-- net(laid, fits) -/
def sp_lnet (K : PySem.W.Frag) (CN CP CM : Addr) : Sp := fun vs H Q _ => ∃ (l m : Addr) (us : List PU) (ms : List MU), vs = [.ref l, .ref m] ∧ Lay H l us ∧ Fts H m ms ∧ POk (sn us) ∧ MOk (sn us) (sn ms) ∧
  ∀ (x : Addr) H', Same H H' → NetR K CN CP CM H' x (sn us) (sn ms) → Q (.ref x) H'
/-- net_text(laid, fits) -/
def sp_ltext : Sp := fun vs H Q _ => ∃ (l m : Addr) (us : List PU) (ms : List MU), vs = [.ref l, .ref m] ∧ Lay H l us ∧ Fts H m ms ∧ TOk (sn us) (sn ms) ∧ ∀ H', Same H H' → Q (.str (netT (sn us) (sn ms))) H'
/-- is(net, laid, fits): it is the one -/
def sp_isN (K : PySem.W.Frag) (CN CP CM : Addr) : Sp := fun vs H Q _ => ∃ (x l m : Addr) (us : List PU) (ms : List MU), vs = [.ref x, .ref l, .ref m] ∧ NetR K CN CP CM H x (sn us) (sn ms) ∧ Lay H l us ∧ Fts H m ms ∧ POk (sn us) ∧ MOk (sn us) (sn ms) ∧
  ∀ H', Same H H' → Q (.bl true) H'
theorem nodup_snoc {α : Type} {xs : List α} {x : α} (h : xs.Nodup) (hx : x ∉ xs) : (xs ++ [x]).Nodup := by
  rw [List.nodup_append]
  exact ⟨h, by simp, fun a ha b hb e => hx (by rw [List.mem_singleton.mp hb] at e; rw [← e]; exact ha)⟩
end RV
/-! nested data that can be shown -/
namespace RV
open PySem L2 PyProof.Rows TL
structure Shw (d : PyData) (n k : Nat) : Prop where
  ok : d.showable = true
  dp : d.depth ≤ n
  ln : d.shown.length ≤ k
theorem Short.shw {d : PyData} (h : Short d) : Shw d 0 100 := ⟨h.sh, Nat.le_of_eq h.dp, h.ln⟩
theorem shw_all {n k : Nat} : ∀ {ds : List PyData}, (∀ d ∈ ds, Shw d n k) → PyData.showableAll ds = true ∧ PyData.depthAll ds ≤ n ∧ ((PyData.shownAll ds).map (·.length)).sum ≤ k * ds.length ∧ (PyData.shownAll ds).length = ds.length
  | [], _ => by simp [PyData.showableAll, PyData.depthAll, PyData.shownAll]
  | d :: ds, h => by
    obtain ⟨a1, a2, a3⟩ := h d List.mem_cons_self
    obtain ⟨b1, b2, b3, b4⟩ := shw_all fun e he => h e (List.mem_cons_of_mem _ he)
    refine ⟨by simp [PyData.showableAll, a1, b1], ?_, ?_, by simp [PyData.shownAll, b4]⟩
    · simp only [PyData.depthAll]
      omega
    · simp only [PyData.shownAll, List.map_cons, List.sum_cons, List.length_cons]
      rw [Nat.mul_succ]
      omega
theorem shw_tuple {n k : Nat} {ds : List PyData} (h : ∀ d ∈ ds, Shw d n k) : Shw (.tuple ds) (n + 1) ((k + 2) * ds.length + 3) := by
  obtain ⟨a1, a2, a3, a4⟩ := shw_all h
  refine ⟨by simp only [PyData.showable, a1], by simp only [PyData.depth]; omega, ?_⟩
  have e : (PyData.tuple ds).shown = tupleText (PyData.shownAll ds) := by simp only [PyData.shown]
  rw [e]
  have := tupleText_len_le (PyData.shownAll ds)
  rw [Nat.add_mul]
  omega
theorem shw_list {n k : Nat} {ds : List PyData} (h : ∀ d ∈ ds, Shw d n k) : Shw (.list ds) (n + 1) ((k + 2) * ds.length + 3) := by
  obtain ⟨a1, a2, a3, a4⟩ := shw_all h
  refine ⟨by simp only [PyData.showable, a1], by simp only [PyData.depth]; omega, ?_⟩
  have e : (PyData.list ds).shown = listText (PyData.shownAll ds) := by simp only [PyData.shown]
  rw [e]
  have := listText_len_le (PyData.shownAll ds)
  rw [Nat.add_mul]
  omega
theorem Shw.mono {d : PyData} {n k m j : Nat} (h : Shw d n k) (a : n ≤ m) (b : k ≤ j) : Shw d m j := ⟨h.ok, Nat.le_trans h.dp a, Nat.le_trans h.ln b⟩
/-! ### rows of pipes and meters as data -/
def dY (q : P3) : PyData := .tuple [.str q.1, .str q.2.1, .str q.2.2]
def dZ (q : M3) : PyData := .tuple [.str q.1, .str q.2.1, .bool q.2.2]
def dN (ps : List P3) (ms : List M3) : PyData := .list [.list (ps.map dY), .list (ms.map dZ)]
end RV
/-! a net's text is plain; nets compared -/
namespace RV
open PySem L2 PyProof.Rows TL
/-- the law's row -/
def sp_rightN : Sp := fun vs H Q _ => ∃ (a : Addr) (n : Nat), vs = [.ref a] ∧ WellAt H a n ∧ n < 500000 ∧ ∀ H', Grow a H H' → WellAt H' a (n + 3000) → Q (.bl true) H'
end RV
/-! names of the laws over scripts -/
namespace RV
open PySem L2 PyProof.Rows TL
section
variable {D : Addr} {xs : List V} {i : Nat} {te : TE} {tt : TT} {vs : List Nat} {σ : L2.St} {H1 : Hp} {Qd : Hp → Prop} {J : It} {GG : Hp → Prop}
/-- [x for x in xs if p(x)]: the test makes no thing -/
theorem lc_keepV (p : V → Bool) (wk : Walk J xs.length GG (YAt xs)) (nD : H1 D = none) (len : xs.length ≤ 1000) (hG : ∀ H', Same H1 H' → GG H') (hw : ∀ x, wipe ((wipe σ vs).set i x) vs = wipe σ vs)
    (ht : ∀ x ∈ xs, ∀ H2, Same H1 H2 → ∀ R : Bool → Hp → Prop, R (p x) H2 → tt ((wipe σ vs).set i (some x)) H2 R)
    (he : ∀ x ∈ xs, ∀ H2, ∀ R : VK, R x H2 → te ((wipe σ vs).set i (some x)) H2 R)
    (k : ∀ H', Same H1 H' → H' D = some (.lst (xs.filter p)) → Qd H') :
    ∃ W : Nat → Nat → Hp → Prop, (∃ m, W 0 m (upd H1 D (.lst []))) ∧ ∀ i' m H, W i' m H →
      (J.stop i' H ∧ Qd H) ∨ (J.go i' H ∧ ∃ Nx : Hp → Prop, (∀ H', Nx H' → ∃ m', m' < m ∧ W (i' + 1) m' H') ∧ ∀ x H', J.yld i' H x H' → gName i x (wipe σ vs) H' fun σ2 H2 => wipe σ2 vs = wipe σ vs ∧ tt σ2 H2 fun b H3 =>
        if b = true then te σ2 H3 fun y H4 => ∃ acc, H4 D = some (.lst acc) ∧ acc.length < sizeLine ∧ Nx (upd H4 D (.lst (acc ++ [y]))) else Nx H3) := by
  refine L2.lc_it wk (fun i' H' => Same H1 H' ∧ H' D = some (.lst ((xs.take i').filter p)))
    ⟨fun b o e => (upd_ne (ne_of_none e nD)).trans e, upd_same⟩ (fun i' H' _ z => hG _ z.1) (fun i' x Ha Hb hi hv y => ?_) (fun H' hv => ?_)
  · obtain ⟨s, eD⟩ := hv
    obtain ⟨rfl, hx⟩ := y
    have hm := List.mem_of_getElem? hx
    have et : xs.take (i' + 1) = xs.take i' ++ [x] := by rw [List.take_add_one, hx]; rfl
    refine ⟨hw _, ht x hm Hb s _ ?_⟩
    cases hp : p x with
    | false =>
      refine iteF ⟨s, ?_⟩
      rw [eD, et, List.filter_append, List.filter_cons_of_neg (by rw [hp]; decide), List.filter_nil, List.append_nil]
    | true =>
      refine iteT (he x hm Hb _ ⟨_, eD, ?_, fun b o e => ?_, ?_⟩)
      · have l1 := List.length_filter_le p (xs.take i')
        have l3 := List.length_take_le' i' xs
        exact Nat.lt_of_le_of_lt (Nat.le_trans l1 (Nat.le_trans l3 len)) (by decide)
      · rw [upd_ne (ne_of_none e nD)]
        exact s _ _ e
      · rw [upd_same, et, List.filter_append, List.filter_cons_of_pos hp, List.filter_nil]
  · obtain ⟨s, eD⟩ := hv
    rw [List.take_length] at eD
    exact k H' s eD
end
/-- the spare names -/
def zn (j : Nat) : Str := ("z" : Str) ++ num (j : Int)
def words2 : List Str := ["pipe", "meter", "sealed", "go", "if", "vote", "tell", "doubt", "a", "b"]
/-- names(well, m) -/
def sp_names : Sp := fun vs H Q _ => ∃ (a : Addr) (n m : Nat), vs = [.ref a, .int m] ∧ WellAt H a n ∧ n < 600000 ∧ m ≤ 12 ∧
  ∀ (l : Addr) (xs : List Str) H', H l = none → l ≠ a → Grow a H H' → WellAt H' a (n + 200) → H' l = some (.lst (xs.map V.str)) → xs.length = m → xs.Nodup → (∀ x ∈ xs, IsNm x) → Q (.ref l) H'
end RV
/-! models of nets, as the laws over scripts draw them -/
namespace RV
open PySem L2 PyProof.Rows TL
abbrev Q3 := Str × Nat × Nat
abbrev G3 := Str × Nat × Bool
def oQ (q : Q3) : HO := .tup [.str q.1, .int (q.2.1 : Int), .int (q.2.2 : Int)]
def oG (q : G3) : HO := .tup [.str q.1, .int (q.2.1 : Int), .bl q.2.2]
/-- places, pipes between them by index, gauges at pipes by index -/
structure Mod where
  pl : List Str
  qs : List Q3
  gs : List G3
structure MdOk (M : Mod) (most more : Nat) : Prop where
  p2 : 2 ≤ M.pl.length
  p4 : M.pl.length ≤ 4
  pn : ∀ x ∈ M.pl, IsNm x
  pd : M.pl.Nodup
  q2 : 2 ≤ M.qs.length
  qm : M.qs.length ≤ most
  qn : ∀ q ∈ M.qs, IsNm q.1 ∧ q.2.1 < M.pl.length ∧ q.2.2 < M.pl.length ∧ q.2.1 ≠ q.2.2
  qd : (M.qs.map (·.1)).Nodup
  gm : M.gs.length ≤ more
  gn : ∀ g ∈ M.gs, IsNm g.1 ∧ g.2.1 < M.qs.length
  gd : (M.gs.map (·.1)).Nodup
abbrev QU := Addr × Q3
abbrev GU := Addr × G3
/-- what a model is in the heap -/
def lM (l lp lq lg : Addr) (pl : List Str) (pu : List QU) (gu : List GU) : List (Addr × HO) :=
  (l, .lst [.ref lp, .ref lq, .ref lg]) :: (lp, .lst (pl.map V.str)) :: (lq, .lst (rf pu)) :: (lg, .lst (rf gu)) :: (pu.map (fun u => (u.1, oQ u.2)) ++ gu.map fun u => (u.1, oG u.2))
def sp_model : Sp := fun vs H Q _ => ∃ (a : Addr) (n most more : Nat), vs = [.ref a, .int most, .int more] ∧ WellAt H a n ∧ n < 500000 ∧ 2 ≤ most ∧ most ≤ 12 ∧ more ≤ 12 ∧
  ∀ (l lp lq lg : Addr) (pl : List Str) (pu : List QU) (gu : List GU) H', Has H a (n + 2000) (lM l lp lq lg pl pu gu) H' → MdOk ⟨pl, sn pu, sn gu⟩ most more → Q (.ref l) H'
/-- the model at l -/
structure MdAt (H : Hp) (l : Addr) (M : Mod) : Prop where
  ex : ∃ (lp lq lg : Addr) (pu : List QU) (gu : List GU), sn pu = M.qs ∧ sn gu = M.gs ∧ ∀ p ∈ lM l lp lq lg M.pl pu gu, H p.1 = some p.2
def Mod.ps (M : Mod) : List P3 := M.qs.map fun q => (q.1, M.pl.getD q.2.1 "", M.pl.getD q.2.2 "")
def Mod.ms (M : Mod) : List M3 := M.gs.map fun g => (g.1, (M.qs.getD g.2.1 ("", 0, 0)).1, g.2.2)
section
variable {M : Mod} {most more : Nat}
end
def sp_mtext : Sp := fun vs H Q _ => ∃ (l : Addr) (M : Mod) (most more : Nat), vs = [.ref l] ∧ MdAt H l M ∧ MdOk M most more ∧ most ≤ 12 ∧ more ≤ 12 ∧ ∀ H', Same H H' → Q (.str (netT M.ps M.ms)) H'
end RV
/-! ways through a net: walks, flows of -1, 0 and 1, and the least count of meters on a ring -/
namespace RV
/-! ### sums over the first n indexes -/
def sm : Nat → (Nat → Int) → Int
  | 0, _ => 0
  | n + 1, g => sm n g + g n
def dl {α : Type} [DecidableEq α] (u x : α) : Int := if u = x then 1 else 0
section
set_option linter.unusedSectionVars false
variable {α : Type} [DecidableEq α]
variable (n : Nat) (st en : Nat → α) (w : Nat → Nat) (ok : Nat → Prop)
/-- what stays at a place -/
def dv (f : Nat → Int) (x : α) : Int := sm n fun k => f k * (dl (en k) x - dl (st k) x)
/-- a walk from u, its last step first -/
inductive Wk (u : α) : α → List (Nat × Bool) → Prop
  | nil : Wk u u []
  | fwd {i l} : Wk u (st i) l → ok i → Wk u (en i) ((i, true) :: l)
  | bwd {i l} : Wk u (en i) l → ok i → Wk u (st i) ((i, false) :: l)
inductive Sw (u : α) : α → List (Nat × Bool) → List α → Prop
  | nil : Sw u u [] [u]
  | fwd {i l vs} : Sw u (st i) l vs → ok i → en i ∉ vs → Sw u (en i) ((i, true) :: l) (en i :: vs)
  | bwd {i l vs} : Sw u (en i) l vs → ok i → st i ∉ vs → Sw u (st i) ((i, false) :: l) (st i :: vs)
def wl (l : List (Nat × Bool)) : Nat := (l.map fun q => w q.1).sum
def sg (b : Bool) : Int := if b then 1 else -1
def fl (l : List (Nat × Bool)) (k : Nat) : Int := (l.map fun q => if q.1 = k then sg q.2 else 0).sum
variable {n st en w ok} {u v : α} {l : List (Nat × Bool)} {vs : List α}
/-- a ring: flows of -1, 0 and 1 that are 1 at the pipe -/
structure Ring (n : Nat) (st en : Nat → α) (shut : Nat → Prop) (p : Nat) (f : Nat → Int) : Prop where
  r : ∀ k, k < n → f k = 0 ∨ f k = 1 ∨ f k = -1
  kept : ∀ x, RV.dv n st en f x = 0
  one : f p = 1
  sl : ∀ k, k < n → shut k → f k = 0
def cnt (n : Nat) (w : Nat → Nat) (f : Nat → Int) : Int := sm n fun k => if f k ≠ 0 then (w k : Int) else 0
abbrev okp (n : Nat) (shut : Nat → Prop) (p k : Nat) : Prop := k < n ∧ k ≠ p ∧ ¬ shut k
variable {shut : Nat → Prop} {p : Nat}
/-! ### the places that pipes of a ring reach -/
/-! ### the shortest ways, round by round -/
abbrev Dist (α : Type) := α → Option Nat
/-- on by a link: from, to, meters -/
def ld (g : Dist α) (e : α × α × Nat) : Dist α := match g e.1 with
  | none => g
  | some d => match g e.2.1 with
    | none => fun x => if x = e.2.1 then some (d + e.2.2) else g x
    | some d' => if d + e.2.2 < d' then fun x => if x = e.2.1 then some (d + e.2.2) else g x else g
def Le (g g' : Dist α) : Prop := ∀ x d, g x = some d → ∃ d', g' x = some d' ∧ d' ≤ d
def turn (L : List (α × α × Nat)) (g : Dist α) : Dist α := L.foldl ld g
def turns (L : List (α × α × Nat)) : Nat → Dist α → Dist α
  | 0, g => g
  | k + 1, g => turn L (turns L k g)
def g0 (u : α) : Dist α := fun x => if x = u then some 0 else none
/-- the links of a net's pipes -/
structure Links (L : List (α × α × Nat)) (st en : Nat → α) (w : Nat → Nat) (ok : Nat → Prop) : Prop where
  of : ∀ e ∈ L, ∃ i, ok i ∧ e.2.2 = w i ∧ (e.1 = st i ∧ e.2.1 = en i ∨ e.1 = en i ∧ e.2.1 = st i)
  f : ∀ i, ok i → (st i, en i, w i) ∈ L
  b : ∀ i, ok i → (en i, st i, w i) ∈ L
variable {L : List (α × α × Nat)}
end
end RV
/-! own methods; promises of ways and strengths -/
namespace RV
open PySem L2 PyProof.Rows TL
def Mtd (P : Program) (w : World) (K : PySem.W.Frag) (mg : Str → Option Value) (base : Heap) (C : Addr) (m : Str) (k : Nat) (ps : List Str) (sp : Sp) : Prop :=
  Cls K C ∧ ∃ f fd, Meth K C m f ∧ Binds K fd ps [] ∧ FnOk P w K mg base CX0 k f fd ps sp
section
variable {X : Cx} {C : Addr} {m : Str} {k : Nat} {ps : List Str} {sp : Sp} {o e : Expr} {es : List Expr} {t : TA} {ta : TE} {pos apos : Pos} {pl : Sem Bool}
end
section
variable {α : Type} {K : PySem.W.Frag} {D : Addr} {i : Nat} {te : TE} {tt : TT} {vs : List Nat} {σ : L2.St} {H1 : Hp} {Qd : Hp → Prop} {J : It} {GG : Hp → Prop}
end
def rgL (n : Nat) : List V := (List.range n).map fun i => V.int (i : Nat)
/-! ### the meters of a pipe -/
def onP (ms : List M3) (y : Str) : List M3 := ms.filter fun m => decide (m.2.1 = y)
def wtP (ms : List M3) (y : Str) : Nat := (onP ms y).length
def seP (ms : List M3) (y : Str) : List M3 := (onP ms y).filter fun m => m.2.2
/-- amount at this index, 0 elsewhere -/
def un (n : Nat) (o : Option Nat) (c : Int) : List Int := (List.range n).map fun j => if o = some j then c else 0
def vN : Option Nat → V
  | none => .non
  | some k => .int (k : Nat)
/-- a link: from, to, meters, flow -/
abbrev L4 := Str × Str × Nat × List Int
def lks (n : Nat) (ms : List M3) (y : Str) (i : Nat) (p : P3) : List L4 :=
  if p.1 ≠ y ∧ seP ms p.1 = [] then [(p.2.1, p.2.2, wtP ms p.1, un n (some i) 1), (p.2.2, p.2.1, wtP ms p.1, un n (some i) (-1))] else []
def lkF (n : Nat) (ms : List M3) (y : Str) : Nat → List P3 → List L4
  | _, [] => []
  | i, p :: ps => lks n ms y i p ++ lkF n ms y (i + 1) ps
def lkA (ps : List P3) (ms : List M3) (y : Str) : List L4 := lkF ps.length ms y 0 ps
def lk3 (l : L4) : Str × Str × Nat := (l.1, l.2.1, l.2.2.1)
def LkAt (H : Hp) (a : Addr) (l : L4) : Prop := ∃ t, H a = some (.tup [.str l.1, .str l.2.1, .int (l.2.2.1 : Nat), .ref t]) ∧ H t = some (.tup (l.2.2.2.map V.int))
/-- a dict of ways -/
structure DW (n : Nat) (Z : Str → Nat → List Int → Prop) (H : Hp) (kvs : List (Key × V)) (g : Dist Str) : Prop where
  z : ∀ x, g x = none → valV kvs (.inr x) = none
  s : ∀ x d, g x = some d → ∃ (e t : Addr) (fs : List Int), valV kvs (.inr x) = some (.ref e) ∧ H e = some (.tup [.int (d : Nat), .ref t]) ∧ H t = some (.tup (fs.map V.int)) ∧ fs.length = n ∧ Z x d fs
/-- what holds of every way that is found -/
structure ZOk (ps : List P3) (ms : List M3) (y : Str) (Z : Dist Str → Str → Nat → List Int → Prop) : Prop where
  st : ∀ (i : Nat) (q : P3), ps[i]? = some q → q.1 = y → Z (g0 q.2.2) q.2.2 0 (un ps.length none 0)
  ke : ∀ l ∈ lkA ps ms y, ∀ g x d fs, Z g x d fs → Z (ld g (lk3 l)) x d fs
  ne : ∀ l ∈ lkA ps ms y, ∀ g d fs, fs.length = ps.length → g l.1 = some d → Z g l.1 d fs → (g l.2.1 = none ∨ ∃ d', g l.2.1 = some d' ∧ d + l.2.2.1 < d') → Z (ld g (lk3 l)) l.2.1 (d + l.2.2.1) (List.zipWith (· + ·) fs l.2.2.2)
def strP (ps : List P3) (ms : List M3) (y : Str) : Option Nat :=
  match ps.find? fun p => decide (p.1 = y) with
  | none => none
  | some q => if seP ms y = [] then (turns ((lkA ps ms y).map lk3) ps.length (g0 q.2.2) q.2.1).map (· + wtP ms y) else none
section
variable (K : PySem.W.Frag) (CN CP CM : Addr)
def sp_gpipe : Sp := fun vs H Q _ => ∃ (x : Addr) (ps : List P3) (ms : List M3) (y : Str), vs = [.ref x, .str y] ∧ NetR K CN CP CM H x ps ms ∧ ps.length ≤ 12 ∧ y ∈ ps.map (·.1) ∧
  ∀ (a : Addr) (i : Nat) (q : P3) H', ps[i]? = some q → q.1 = y → Same H H' → PipeAt CP H' a q → Q (.ref a) H'
def sp_chkn : Sp := fun vs H Q _ => ∃ (x : Addr) (ps : List P3) (ms : List M3), vs = [.ref x] ∧ NetR K CN CP CM H x ps ms ∧ Q .non H
def sp_chkp : Sp := fun vs H Q _ => ∃ (x : Addr) (ps : List P3) (ms : List M3) (y : Str), vs = [.ref x, .str y] ∧ NetR K CN CP CM H x ps ms ∧ ps.length ≤ 12 ∧ y ∈ ps.map (·.1) ∧ ∀ H', Same H H' → Q .non H'
def sp_mat : Sp := fun vs H Q _ => ∃ (x : Addr) (ps : List P3) (ms : List M3) (y : Str), vs = [.ref x, .str y] ∧ NetR K CN CP CM H x ps ms ∧ ms.length ≤ 12 ∧
  ∀ (l : Addr) (us : List MU) H', Same H H' → H' l = some (.lst (rf us)) → (∀ u ∈ us, MetAt CM H' u.1 u.2) → sn us = onP ms y → Q (.ref l) H'
def sp_sat : Sp := fun vs H Q _ => ∃ (x : Addr) (ps : List P3) (ms : List M3) (y : Str), vs = [.ref x, .str y] ∧ NetR K CN CP CM H x ps ms ∧ ms.length ≤ 12 ∧
  ∀ (l : Addr) (xs : List V) H', Same H H' → H' l = some (.lst xs) → (xs = [] ↔ seP ms y = []) → Q (.ref l) H'
def sp_amt : Sp := fun vs H Q _ => ∃ (x : Addr) (ps : List P3) (ms : List M3) (o : Option Nat) (c : Int), vs = [.ref x, vN o, .int c] ∧ NetR K CN CP CM H x ps ms ∧ ps.length ≤ 12 ∧
  ∀ (t : Addr) H', Same H H' → H' t = some (.tup ((un ps.length o c).map V.int)) → Q (.ref t) H'
def sp_lnks : Sp := fun vs H Q _ => ∃ (x : Addr) (ps : List P3) (ms : List M3) (y : Str), vs = [.ref x, .str y] ∧ NetR K CN CP CM H x ps ms ∧ ps.length ≤ 12 ∧ ms.length ≤ 12 ∧
  ∀ (l : Addr) (us : List (Addr × L4)) H', Same H H' → H' l = some (.lst (rf us)) → (∀ u ∈ us, LkAt H' u.1 u.2) → sn us = lkA ps ms y → Q (.ref l) H'
def sp_lead : Sp := fun vs H Q _ => ∃ (d t : Addr) (a b : Str) (m n : Nat) (fs : List Int) (kvs : List (Key × V)) (g : Dist Str) (Z Z' : Str → Nat → List Int → Prop), vs = [.ref d, .str a, .str b, .int (m : Nat), .ref t] ∧ H d = some (.dK kvs) ∧ H t = some (.tup (fs.map V.int)) ∧ fs.length = n ∧ n ≤ 12 ∧ kvs.length ≤ 1000 ∧ DW n Z H kvs g ∧ (∀ x d f, Z x d f → Z' x d f) ∧ (∀ d f, f.length = n → g a = some d → Z a d f → (g b = none ∨ ∃ d', g b = some d' ∧ d + m < d') → Z' b (d + m) (List.zipWith (· + ·) f fs)) ∧
  ∀ kvs' H', (∀ b o, b ≠ d → H b = some o → H' b = some o) → H' d = some (.dK kvs') → kvs'.length ≤ kvs.length + 1 → DW n Z' H' kvs' (ld g (a, b, m)) → Q .non H'
def sp_ways : Sp := fun vs H Q _ => ∃ (x : Addr) (ps : List P3) (ms : List M3) (y : Str) (Z : Dist Str → Str → Nat → List Int → Prop), vs = [.ref x, .str y] ∧ NetR K CN CP CM H x ps ms ∧ ps.length ≤ 12 ∧ ms.length ≤ 12 ∧ y ∈ ps.map (·.1) ∧ ZOk ps ms y Z ∧
  ∀ (i : Nat) (q : P3) (d : Addr) (kvs : List (Key × V)) H', ps[i]? = some q → q.1 = y → Same H H' → H' d = some (.dK kvs) → DW ps.length (Z (turns ((lkA ps ms y).map lk3) ps.length (g0 q.2.2))) H' kvs (turns ((lkA ps ms y).map lk3) ps.length (g0 q.2.2)) → Q (.ref d) H'
def WayV (n : Nat) (Z : Nat → List Int → Prop) (H : Hp) (v : V) : Option Nat → Prop
  | none => v = .non
  | some d => ∃ (e t : Addr) (fs : List Int), v = .ref e ∧ H e = some (.tup [.int (d : Nat), .ref t]) ∧ H t = some (.tup (fs.map V.int)) ∧ fs.length = n ∧ Z d fs
def sp_back : Sp := fun vs H Q _ => ∃ (x : Addr) (ps : List P3) (ms : List M3) (y : Str) (Z : Dist Str → Str → Nat → List Int → Prop), vs = [.ref x, .str y] ∧ NetR K CN CP CM H x ps ms ∧ ps.length ≤ 12 ∧ ms.length ≤ 12 ∧ y ∈ ps.map (·.1) ∧ ZOk ps ms y Z ∧
  ∀ (i j : Nat) (q r : P3) (v : V) H', ps[i]? = some q → q.1 = y → ps[j]? = some r → r.1 = y → Same H H' → WayV ps.length (Z (turns ((lkA ps ms y).map lk3) ps.length (g0 q.2.2)) r.2.1) H' v (if seP ms y = [] then turns ((lkA ps ms y).map lk3) ps.length (g0 q.2.2) r.2.1 else none) → Q v H'
def sp_stren : Sp := fun vs H Q _ => ∃ (x : Addr) (ps : List P3) (ms : List M3) (y : Str), vs = [.ref x, .str y] ∧ NetR K CN CP CM H x ps ms ∧ POk ps ∧ ms.length ≤ 12 ∧ y ∈ ps.map (·.1) ∧ ∀ H', Same H H' → Q (vN (strP ps ms y)) H'
end
end RV
/-! ways in a dict -/
namespace RV
open PySem L2 PyProof.Rows TL
end RV
/-! flows of -1, 0 and 1, as the laws over scripts count them -/
namespace RV
open PySem L2 PyProof.Rows TL
def qst (M : Mod) (k : Nat) : Nat := (M.qs.getD k ("", 0, 0)).2.1
def qen (M : Mod) (k : Nat) : Nat := (M.qs.getD k ("", 0, 0)).2.2
def rwf (r : List Int) (k : Nat) : Int := r.getD k 0
/-- what stays at a place after j pipes -/
def stay (M : Mod) (r : List Int) (j x : Nat) : Int := dv j (qst M) (qen M) (rwf r) x
def keptB (M : Mod) (r : List Int) : Bool := (List.range M.pl.length).all fun x => decide (stay M r M.qs.length x = 0)
def stayL (M : Mod) (r : List Int) (j : Nat) : List V := (List.range M.pl.length).map fun x => .int (stay M r j x)
def sp_kept : Sp := fun vs H Q _ => ∃ (l a : Addr) (M : Mod) (most more : Nat) (r : List Int), vs = [.ref l, .ref a] ∧ MdAt H l M ∧ MdOk M most more ∧ most ≤ 12 ∧ H a = some (.lst (r.map V.int)) ∧ r.length = M.qs.length ∧ ∀ H', Same H H' → Q (.bl (keptB M r)) H'
def trit (c : Int) : Prop := c = 0 ∨ c = 1 ∨ c = -1
def sp_flows : Sp := fun vs H Q _ => ∃ (l : Addr) (M : Mod) (more : Nat), vs = [.ref l] ∧ MdAt H l M ∧ MdOk M 5 more ∧
  ∀ (a : Addr) (us : List (Addr × List Int)) H', Same H H' → H' a = some (.lst (rf us)) → (∀ u ∈ us, H' u.1 = some (.lst (u.2.map V.int))) → us.length ≤ 243 → H a = none → (∀ u ∈ us, H u.1 = none) → (∀ r, r ∈ sn us ↔ r.length = M.qs.length ∧ (∀ c ∈ r, trit c) ∧ keptB M r = true) → Q (.ref a) H'
abbrev FU := Addr × List Int
def FAt (H : Hp) (us : List FU) : Prop := ∀ u ∈ us, H u.1 = some (.lst (u.2.map V.int))
section
variable {K : PySem.W.Frag} {D : Addr} {i : Nat} {te : TE} {vs : List Nat} {σ : L2.St} {H1 : Hp} {Qd : Hp → Prop} {J : It} {GG : Hp → Prop}
end
end RV
/-! least counts over flows; lists of integers and None as data -/
namespace RV
open PySem L2 PyProof.Rows TL
def cntG (M : Mod) (r : List Int) : Nat := (M.gs.filter fun g => decide (rwf r g.2.1 ≠ 0)).length
def shutG (M : Mod) (r : List Int) : Bool := M.gs.any fun g => g.2.2 && decide (rwf r g.2.1 ≠ 0)
def condG (M : Mod) (p : Nat) (r : List Int) : Bool := decide (rwf r p = 1) && !shutG M r
def IsMin (L : List Nat) : Option Nat → Prop
  | none => L = []
  | some m => m ∈ L ∧ ∀ y ∈ L, m ≤ y
def dO : Option Nat → PyData
  | none => .none
  | some k => .int (k : Nat)
def sp_lstr : Sp := fun vs H Q _ => ∃ (l a : Addr) (M : Mod) (more p : Nat) (us : List FU), vs = [.ref l, .ref a, .int (p : Nat)] ∧ MdAt H l M ∧ MdOk M 5 more ∧ more ≤ 12 ∧ H a = some (.lst (rf us)) ∧ FAt H us ∧ us.length ≤ 243 ∧ p < M.qs.length ∧ (∀ r ∈ sn us, r.length = M.qs.length) ∧
  ∀ (o : Option Nat) H', Same H H' → IsMin (((sn us).filter (condG M p)).map (cntG M)) o → Q (vN o) H'
end RV
/-! the strength by shortest ways is the least count over flows -/
namespace RV
open PySem L2 PyProof.Rows TL
def pN (ps : List P3) (k : Nat) : Str := (ps.getD k ("", "", "")).1
def pS (ps : List P3) (k : Nat) : Str := (ps.getD k ("", "", "")).2.1
def pE (ps : List P3) (k : Nat) : Str := (ps.getD k ("", "", "")).2.2
def shutP (ps : List P3) (ms : List M3) (k : Nat) : Prop := seP ms (pN ps k) ≠ []
/-! ### models -/
section
variable {M : Mod} {most more : Nat}
abbrev RingM (M : Mod) (p : Nat) (f : Nat → Int) : Prop := Ring M.qs.length (pS M.ps) (pE M.ps) (shutP M.ps M.ms) p f
end
end RV
/-! a def called by keywords alone; lists of counts that are shown -/
namespace RV
open PySem L2 PyProof.Rows TL
def FnKd (P : Program) (w : World) (K : PySem.W.Frag) (mg : Str → Option Value) (base : Heap) (x : Str) (k : Nat) (ks : List Str) (sp : Sp) (gV : List V → List V → List V) : Prop :=
  ∃ f fd ps g, mg x = some (.ref f) ∧ PySem.W.keepIn K (.ref f) = true ∧ KBn K fd ps 0 ks g gV ∧ FnOk P w K mg base CX0 k f fd ps sp
def tCallK0 (n : Nat) (sp : Sp) (gV : List V → List V → List V) (tk : TA) : TE := fun σ H Q => tk σ H fun zs H2 => zs.length = n ∧ sp (gV [] zs) H2 Q E0
section
variable {X : Cx} {k : Nat} {x : Str} {ks : List Str} {sp : Sp} {gV : List V → List V → List V} {kws : List Keyword} {tk : TA} {p pos : Pos}
end
/-- f(pipe=y, net=x) -/
def gPN (vs zs : List V) : List V := match vs, zs with
  | [], [y, x] => [x, y]
  | _, _ => []
theorem short_int {k : Nat} (h : k ≤ 50) : Short (.int (k : Nat)) := by
  refine ⟨by simp [PyData.showable]; exact Nat.lt_of_le_of_lt (Nat.log2_le_self k) (by omega), by simp [PyData.depth], ?_⟩
  have : ∀ k, k < 51 → (PyData.int ((k : Nat) : Int)).shown.length ≤ 100 := by decide +kernel
  exact this k (by omega)
def sp_right23 : Sp := fun vs H Q _ => ∃ (a : Addr) (n : Nat), vs = [.ref a] ∧ WellAt H a n ∧ n < 500000 ∧ ∀ H', Grow a H H' → Q (.bl true) H'
/-- what is due for each pipe -/
def dueL (M : Mod) : List (Option Nat) := (List.range M.qs.length).map fun k => strP M.ps M.ms (pN M.ps k)
end RV
/-! the law's own call, whatever its parameter is called -/
namespace RV
open PySem L2 PyProof.Rows
theorem walkGx (x : Str) (k : Nat) {l : PySem.W.OpenLaw} {q : Program} {loose : List Str} {XP : (Str → Option Value) → Heap → Prop} {YP : World → Heap → Prop} {d : DefRec} {K : Params → PySem.W.Frag} (hr : Room k callerA) (hn : l.most = some 63) (hdf : d.params.defaults = [])
    (hY : ∀ (w : World) (h : Heap), YP w h → (K w.params).In h)
    (F : ∀ (w : World) (mg : Str → Option Value) (fa : Addr) (h : Heap), (K w.params).In h → h.Ns mainGlobals mg → mg d.name = some (.ref fa) →
      ∃ fd : FuncData, (∀ (s : Shared) (u : Value), BindsTo s fd ⟨[u], []⟩ [(x, u)]) ∧ ∀ base : Heap, (K w.params).In base → base.Ns mainGlobals mg → FnG l.prog w (K w.params) mg base k fa fd [x] (spLaw (K w.params))) :
    PySem.W.WalkO q loose XP YP l.row.toRowW d [] (fun f vs => PySem.call f vs) := by
  refine Att.attach_call hn hdf fun w s₀ s₁ mg mb fa o pm cd doc a vs ns G Y ho hd hcd hmg hobj hints hlen hg => ?_
  obtain ⟨fd, hb, hF⟩ := F w mg fa _ (hY w _ Y) G.T.g hmg
  exact callG (hY w _ Y) G.T.g G.T.b G.T.builtins G.T.nolimit hg hobj hints (Nat.le_trans hlen (by decide)) hr hF hb fun H hS => ⟨a, ns, rfl, hS, hlen, fun _ => rfl⟩
end RV
/-! sum of a tuple, repr of a truth value; faults, can_tell -/
namespace RV
open PySem L2 PyProof.Rows TL
section
variable {X : Cx}
def rSumT (K : PySem.W.Frag) : List V → Hp → VK → Prop := fun vs H Q => ∃ (a : Addr) (ns : List Int), vs = [V.ref a] ∧ SqT K H a (ns.map V.int) ∧ Q (.int ns.sum) H
def rReprB : List V → Hp → VK → Prop := fun xs H Q => ∃ b, xs = [.bl b] ∧ Q (.str (if b then "True" else "False")) H
end
/-- faults -/
structure Flt (a b c : Int) : Prop where
  h0 : 0 ≤ a
  h1 : a ≤ b
  h2 : b ≤ 3
  h3 : 0 ≤ c
  h4 : c ≤ 3
def sp_isb : Sp := fun vs H Q _ => ∃ c : Int, vs = [.int c] ∧ 0 ≤ c ∧ c ≤ 3 ∧ Q (.bl true) H
def sp_arf (K : PySem.W.Frag) : Sp := fun vs H Q _ => ∃ (t : Addr) (a b c : Int), vs = [.ref t] ∧ SqT K H t [.int a, .int b, .int c] ∧ Flt a b c ∧ ∀ H', Same H H' → Q (.bl true) H'
def sp_chf (K : PySem.W.Frag) : Sp := fun vs H Q _ => ∃ (t : Addr) (a b c : Int), vs = [.ref t] ∧ SqT K H t [.int a, .int b, .int c] ∧ Flt a b c ∧ ∀ H', Same H H' → Q .non H'
def tellB : Option Nat → Int → Bool
  | none, _ => true
  | some m, s => decide (s < (m : Int))
def sp_tell (K : PySem.W.Frag) (CN CP CM : Addr) : Sp := fun vs H Q _ => ∃ (x t : Addr) (ps : List P3) (ms : List M3) (y : Str) (a b c : Int), vs = [.ref x, .str y, .ref t] ∧ NetR K CN CP CM H x ps ms ∧ POk ps ∧ ms.length ≤ 12 ∧ y ∈ ps.map (·.1) ∧ SqT K H t [.int a, .int b, .int c] ∧ Flt a b c ∧
  ∀ H', Same H H' → Q (.bl (tellB (strP ps ms y) (a + b + c))) H'
/-- drawn faults -/
def sp_faults : Sp := fun vs H Q _ => ∃ (w : Addr) (n : Nat), vs = [.ref w, .int 3] ∧ WellAt H w n ∧ n < 900000 ∧
  ∀ (t : Addr) (a b c : Int) H', Grow w H H' → WellAt H' w (n + 5) → H' t = some (.tup [.int a, .int b, .int c]) → t ≠ w → Flt a b c → Q (.ref t) H'
end RV
/-! the flow of a shortest way is one of -1, 0 and 1: a way that is no shorter is not taken, so no way comes to a place twice -/
namespace RV
section
set_option linter.unusedSectionVars false
variable {α : Type} [DecidableEq α] {n : Nat} {st en : Nat → α} {w : Nat → Nat} {ok : Nat → Prop} {u x : α} {g g' : Dist α} {d : Nat} {f : Nat → Int}
/-- a way without loops of this length and flow; each place on it is known by a way that is no longer -/
def GW (st en : Nat → α) (w : Nat → Nat) (ok : Nat → Prop) (u : α) (g : Dist α) (x : α) (d : Nat) (f : Nat → Int) : Prop :=
  ∃ l vs, Sw st en ok u x l vs ∧ wl w l = d ∧ (∀ k, f k = fl l k) ∧ ∀ y ∈ vs, ∃ d', g y = some d' ∧ d' ≤ d
end
end RV
set_option linter.all false
/-! sets of texts written as comprehensions, with any number of clauses: {x for a in .. for b in ..} -/
namespace RV
open PySem L2 PySem.Spec PyProof.Rows
/-- what is run in a turn behind a clause's tests: the next clause, or the member's being put -/
abbrev TB := L2.St → Hp → (Hp → Prop) → Prop
def HasB (X : Cx) (vs : List Nat) (m : Sem PySem.Fin → Sem PySem.Fin) (tb : TB) : Prop := ∀ (pins : List (Addr × Obj)) (s : Shared) (σ : L2.St) (H : Hp) (Q : Hp → Prop) (z : Sem PySem.Fin) (R : PySem.Fin → Shared → Prop), Inv X pins σ H s → tb σ H Q →
  (∀ σ' H' s', Inv X pins σ' H' s' → wipe σ' vs = wipe σ vs → Q H' → wpAny (model X.prog X.w) X.A z R (fun _ _ => False) s') → wpAny (model X.prog X.w) X.A (m z) R (fun _ _ => False) s
/-- how a clause's turn reads -/
def TurnIs (e tg : Expr) (k : Nat) (at0 : Pos) (ifs : List Expr) (acc : Value) (env : Env) (body : Sem PySem.Fin → Sem PySem.Fin) : Prop := ∀ it, compTurn e k it acc env = (do
  standAt at0
  match ← pyNext it with
  | none => pure (.done .next)
  | some v => do
    letOwnedTupleGo tg it v
    assign tg env v
    let ok ← forIn ifs true fun c ok => if ok = true then do let ok ← isTrue c env (eval c env); pure (ForInStep.yield ok) else pure (ForInStep.yield ok)
    if ok = true then body (again (.compLoop e k it acc env)) else again (.compLoop e k it acc env))
/-- all turns of a clause whose iterator J has come -/
def tCl (J : It) (g : TG) (tt : TT) (tb : TB) (vs : List Nat) : TB := fun σ H Q => ∃ W : Nat → Nat → Hp → Prop, (∃ m, W 0 m H) ∧ ∀ i m H, W i m H →
  (J.stop i H ∧ Q H) ∨ (J.go i H ∧ ∃ Nx : Hp → Prop, (∀ H', Nx H' → ∃ m', m' < m ∧ W (i + 1) m' H') ∧ ∀ x H', J.yld i H x H' → g x (wipe σ vs) H' fun σ2 H2 => wipe σ2 vs = wipe σ vs ∧ tt σ2 H2 fun b H3 => if b = true then tb σ2 H3 Nx else Nx H3)
theorem wipe_in {σ : L2.St} {i : Nat} : ∀ {vs : List Nat}, i ∈ vs → i < σ.length → (wipe σ vs)[i]? = some none
  | v :: vs, h, hl => by
    unfold wipe
    by_cases e : v = i
    · subst e
      rw [List.getElem?_set_self (by rw [wipe_length]; exact hl)]
    · rw [List.getElem?_set_ne e]
      exact wipe_in ((List.mem_cons.mp h).resolve_left fun z => e z.symm) hl
theorem wipe_wipe {σ : L2.St} {vs ws : List Nat} (h : ∀ i ∈ ws, i ∈ vs) : wipe (wipe σ ws) vs = wipe σ vs := by
  refine List.ext_getElem? fun i => ?_
  by_cases hl : i < σ.length
  · by_cases hi : i ∈ vs
    · rw [wipe_in hi hl, wipe_in hi (by rw [wipe_length]; exact hl)]
    · rw [wipe_out hi, wipe_out hi, wipe_out fun z => hi (h i z)]
  · rw [List.getElem?_eq_none (by rw [wipe_length, wipe_length]; omega), List.getElem?_eq_none (by rw [wipe_length]; omega)]
section
variable {X : Cx}
/-- a clause's loop in its block -/
theorem cl_loop {e tg : Expr} {k : Nat} {acc : Value} {ifs : List Expr} {body : Sem PySem.Fin → Sem PySem.Fin} {at0 : Pos} {J : It} {g : TG} {tt : TT} {tb : TB} {vs : List Nat} (hc : X.calm = true) (hx : X.xe = fun _ _ => False)
    (hq : ∀ it, (Code.compLoop e k it acc X.env).quiet = true) (hden : ∀ it, (model X.prog X.w).den (.compLoop e k it acc X.env) = (compTurn e k it acc X.env).onRaise (fun x => do noteFrame x X.env; theTreesLotGoes x)) (hun : ∀ it, X.A.under (.compLoop e k it acc X.env) = X.A)
    (hT : TurnIs e tg k at0 ifs acc X.env body)
    (pg : PG X tg g) (pt : PTs X ifs tt) (pb : HasB X vs body tb)
    {pins : List (Addr × Obj)} {s : Shared} {σ : L2.St} {H : Hp} {it : Addr} {fp : List Addr} {tn : Nat → Heap → Prop} {Q : Hp → Prop} (I : Inv X pins σ H s) (T : Turn X.prog X.w X.K tg J fp it tn) (st : tn 0 s.heap) (hf : ∀ b ∈ fp, FpOk X pins H b) (h : tCl J g tt tb vs σ H Q) :
    codeAny (model X.prog X.w) X.A (.compLoop e k (.ref it) acc X.env) (fun r s' => match r with
      | .ok _ => ∃ H', Inv X pins (wipe σ vs) H' s' ∧ Q H'
      | .error _ => False) s := by
  obtain ⟨W, ⟨m0, w0⟩, go⟩ := h
  have fok : ∀ {H' : Hp}, (∀ b ∈ fp, H' b = none) → ∀ b ∈ fp, FpOk X pins H' b := fun hn b hb => ⟨hn b hb, (hf b hb).2⟩
  have weak0 : ∀ {σ1 : L2.St} {p : List (Addr × Obj)} {H' : Hp} {s' : Shared}, wipe σ1 vs = wipe σ vs → Inv X p σ1 H' s' → Inv X p (wipe σ vs) H' s' := fun z I1 => I1.weak (by rw [← z, wipe_length]) fun j v q => by rw [← z] at q; exact (wipe_some q).1
  refine codeAny_loop (hq _) (fun m s1 => ∃ i H1, Inv X pins (wipe σ vs) H1 s1 ∧ tn i s1.heap ∧ (∀ b ∈ fp, H1 b = none) ∧ W i m H1) (fun m s1 hI => ?_) m0 ⟨0, H, weak0 rfl I, st, fun b hb => (hf b hb).1, w0⟩
  obtain ⟨i, H1, I1, st1, n1, w1⟩ := hI
  rw [hun, hden]
  refine wpAny_noted ?_
  rw [hT]
  refine wpAny_bind (wpAny_standAt (wpAny_bind ?_))
  rcases go i m H1 w1 with ⟨stop, q⟩ | ⟨gg, Nx, hNx, step⟩
  · refine thnF (T.done X rfl rfl rfl hc i pins s1 _ H1 (fun _ _ => False) I1 (fok n1) st1 stop) fun r s2 ⟨hr, I2⟩ => ?_
    subst hr
    exact wpAny_pure ⟨H1, I2, q⟩
  · refine thnF (T.item X rfl rfl rfl hc i pins s1 _ H1 (fun _ _ => False) I1 (fok n1) st1 gg) fun r s2 ⟨u, hr, h2⟩ => ?_
    subst hr
    refine wpAny_bind (thnF h2 fun _ s3 ⟨x, H3, I3, r3, y3, st3, n3⟩ => ?_)
    have I3p := I3.pinned (fok n3) (T.obj _ _ st3)
    have z4 := pg.run _ s3 _ H3 x u _ I3p r3 (step x H3 y3)
    rw [hx] at z4
    refine wpAny_bind (thnF z4 fun _ s4 ⟨σ4, H4, I4, e4, q4⟩ => ?_)
    have z5 := pt.run _ s4 σ4 H4 _ I4 q4
    rw [hx] at z5
    refine wpAny_bind (thnF z5 fun b s5 ⟨H5, I5, q5⟩ => ?_)
    have fin : ∀ {σ6 : L2.St} {s6 : Shared} {H6 : Hp}, Inv X (pins ++ pinsAt fp s3.heap) σ6 H6 s6 → wipe σ6 vs = wipe σ vs → Nx H6 → ∃ m', m' < m ∧ ∃ i H', Inv X pins (wipe σ vs) H' s6 ∧ tn i s6.heap ∧ (∀ b ∈ fp, H' b = none) ∧ W i m' H' := fun {σ6 s6 H6} I6 e6 nx => by
      obtain ⟨m', hm, w'⟩ := hNx H6 nx
      have pin : ∀ b ∈ fp, ∀ o, s3.heap.get? b = some o → s6.heap.get? b = some o ∧ H6 b = none := fun b hb o z =>
        let p := I6.pin (b, o) (List.mem_append_right _ (List.mem_append_right _ (mem_pinsAt hb z)))
        ⟨p.1, p.2.1⟩
      refine ⟨m', hm, i + 1, H6, weak0 e6 I6.unpinned, T.keep _ _ _ st3 fun b hb o z => (pin b hb o z).1, fun b hb => ?_, w'⟩
      obtain ⟨o, z, _⟩ := T.obj _ _ st3 b hb
      exact (pin b hb o z).2
    cases b with
    | false =>
      simp only [Bool.false_eq_true, if_false] at q5 ⊢
      exact wpAny_pure ⟨rfl, fin I5 e4 q5⟩
    | true =>
      simp only [if_true] at q5 ⊢
      exact thnF (pb _ s5 σ4 H5 _ _ _ I5 q5 fun σ6 H6 s6 I6 e6 q6 => wpAny_pure ⟨rfl, fin I6 (e6.trans e4) q6⟩) fun _ _ z => z
/-- the next clause -/
def tNx (wi : TI) (g : TG) (tt : TT) (tb : TB) (ws : List Nat) : TB := fun σ H Q => wi σ H fun J H1 => tCl J g tt tb ws σ H1 Q
/-- a member is put -/
def tPutS (P : Program) (w : World) (D : Addr) (te : TE) : TB := fun σ H Q => te σ H fun y H1 => ∃ (z : Str) (S : Str → Bool) (n : Nat), y = .str z ∧ H1 D = some (SetT P w D S n) ∧ n + 1 < 4000 ∧ ∀ n', n' ≤ n + 1 → Q (upd H1 D (SetT P w D (fun j => S j || decide (j = z)) n'))
theorem setT_add {pins : List (Addr × Obj)} {σ : L2.St} {H : Hp} {s : Shared} {E : Value → Shared → Prop} {D : Addr} {S : Str → Bool} {n : Nat} {y : Str} {v : Value} {Q : Value → Shared → Prop} (I : Inv X pins σ H s) (hD : H D = some (SetT X.prog X.w D S n)) (room : n + 1 < 4000) (rv : RelV (.str y) v)
    (h : ∀ n' s', n' ≤ n + 1 → Inv X pins σ (upd H D (SetT X.prog X.w D (fun j => S j || decide (j = y)) n')) s' → Q .none s') : wpAny (model X.prog X.w) X.A (call (.builtin "set.add") [.ref D, v]) Q E s := by
  have R : SetS X.prog X.w s.heap D S n := (I.hok D _ hD).1
  obtain ⟨t, rfl⟩ : ∃ t, v = .str y t := rv
  obtain ⟨o, es, ep, tb, ⟨ho, hex, hd⟩, hr⟩ := id R
  have hT : s.TypeIs (.ref D) "set" := ⟨o, ho, hex.1⟩
  refine wpAny_call_entry F.slot_set_add hT F.entry_set_add ?_ (F.args_set_add_2 _ _)
  unfold Builtin.«set.add» Builtin.Frozenset.oneOther
  simp only [List.isEmpty_nil, bind_assoc]
  unfold Builtin.Frozenset.addrOf setAdd
  refine wpAny_bind (wpAny_pure (wpAny_bind (wpAny_pure (wpAny_bind (wpAny_holding (wpAny_bind ((PySem.strKind X.prog X.w).pyHash (k := y) (strKind_is _ _ _ _) ?_)))))))
  refine setX_add (knd := PySem.strKind X.prog X.w) (s := { s with toks := s.toks + 1 }) (strKind_is _ _ _ _) rfl R (by unfold scanBound; omega) fun h' sb new => ?_
  show wpAny _ _ (ret Value.none) _ _ _
  refine wpAny_pure ⟨_, rfl, h _ _ (by split <;> omega) (I.write (e := D) (t' := s.toks + 1) (by rw [hD]; trivial) (.inl rfl) (fun b u hb hu => (sb.2 b hb).trans hu) ?_ (setT_new new))⟩
  obtain ⟨o', _, _, _, ⟨ho', _⟩, _⟩ := id new
  exact ⟨o', ho'⟩
theorem hb_put {elt : Expr} {te : TE} {D : Addr} {vs : List Nat} (hx : X.xe = fun _ _ => False) (he : PE X elt te) : HasB X vs (fun z => do
    (do let v ← eval elt X.env; standAt elt.pos; let _ ← call (.builtin "set.add") [.ref D, v])
    z) (tPutS X.prog X.w D te) := by
  intro pins s σ H Q z R I h kz
  have z1 := he.run pins s σ H _ I h
  rw [hx] at z1
  refine wpAny_bind (wpAny_bind (thnF z1 fun v s1 ⟨y, H1, I1, r1, z, S, n, ey, hD, room, q⟩ => ?_))
  subst ey
  exact wpAny_bind (wpAny_standAt (wpAny_bind (setT_add I1 hD room r1 fun n' s' hn I' => wpAny_pure (kz _ _ _ I' rfl (q n' hn)))))
theorem setStart {prog : Program} {w : World} {A : Around} {R : Result → Shared → Prop} {s : Shared} {env : Env} {elt : Expr} {gens : List Comprehension} {g : Comprehension} {k : Nat} {scope : Scope} {pos : Pos} {it acc : Value} (hg : gens[k]? = some g) (ha : g.is_async = 0)
    (h0 : codeAny (model prog w) A (.compLoop (.SetComp elt gens scope pos) k it acc env) R s)
    (h : wpAny (model prog w) A (pyIter it) (fun it' s' => codeAny (model prog w) A (.compLoop (.SetComp elt gens scope pos) k it' acc env) R s') (notedBy (model prog w) A env fun x s' => R (.error x) s') s) :
    codeAny (model prog w) A (.compStart (.SetComp elt gens scope pos) k it acc env) R s := by
  refine codeAny_of_tree ?_
  show wpAny _ _ ((compStart (.SetComp elt gens scope pos) k it acc env).onRaise (fun x => do noteFrame x env; standAt theWindowsPlace)) _ _ s
  refine wpAny_notedAt ?_
  unfold compStart
  have e1 : (clausesOf (.SetComp elt gens scope pos))[k]? = some g := hg
  rw [e1]
  simp only [Option.elim, ha, bne_self_eq_false, Bool.false_eq_true, if_false]
  show wpAny _ _ (ask >>= _) _ _ s
  refine wpAny_bind (wpAny_askSetting (wpAny_ite ?_))
  split
  · first
      | exact wpAny_bind (wpAny_pure (wpAny_pure (And.intro rfl h0)))
      | exact wpAny_pure (And.intro rfl h0)
  · refine wpAny_bind (wpAny_rule ?_)
    first
      | exact wpAny_bind (wpAny_standAt (wpAny_bind (wpAny_mono h (fun it' s' h' => wpAny_pure (And.intro rfl h')) fun _ _ x => x)))
      | (refine wpAny_bind ?_; exact wpAny_standAt (wpAny_bind (wpAny_mono h (fun it' s' h' => wpAny_pure (And.intro rfl h')) fun _ _ x => x)))
theorem hb_next {elt tg i1 : Expr} {gens : List Comprehension} {ifs : List Expr} {k : Nat} {scope : Scope} {pos : Pos} {acc : Value} {body : Sem PySem.Fin → Sem PySem.Fin} {wi : TI} {g : TG} {tt : TT} {tb : TB} {vs ws : List Nat} (hc : X.calm = true) (hx : X.xe = fun _ _ => False) (hv : ∀ i ∈ ws, i ∈ vs) (hg : gens[k]? = some ⟨tg, i1, ifs, 0⟩)
    (hT : TurnIs (.SetComp elt gens scope pos) tg k i1.pos ifs acc X.env body)
    (hi : PI X tg i1 wi) (pg : PG X tg g) (pt : PTs X ifs tt) (pb : HasB X ws body tb) (hs : ∀ x, foldedSetIterable i1 X.env x = pure x) :
    HasB X vs (fun z => do
      let x ← eval i1 X.env
      standAt i1.pos
      let x ← foldedSetIterable i1 X.env x
      let _ ← runOwn (.compStart (.SetComp elt gens scope pos) k (← holding [x] (pyIter x)) acc X.env) X.env
      z) (tNx wi g tt tb ws) := by
  intro pins s σ H Q z R I h kz
  have z1 := hi.run pins s σ H _ I h
  rw [hx] at z1
  refine wpAny_bind (thnF z1 fun x s1 h1 => ?_)
  refine wpAny_bind (wpAny_standAt (wpAny_bind (wpAny_of_eq (hs x) (wpAny_bind (wpAny_holding (thnF h1 fun itv s2 h2 => ?_))))))
  obtain ⟨it, fp, tn, J, H2, e, I2, T, st, f2, q⟩ := h2
  subst e
  refine wpAny_bind (wpAny_runOwn ?_)
  rw [Around.mark_none]
  have L := cl_loop (e := .SetComp elt gens scope pos) (k := k) (acc := acc) hc hx (fun _ => rfl) (fun _ => rfl) (fun _ => rfl) hT pg pt pb I2 T st f2 q
  have L2 := codeAny_mono (R' := fun r s' => match r with
      | .ok f => wpAny (model X.prog X.w) X.A z R (fun _ _ => False) s'
      | .error e => cameBackBy (model X.prog X.w) X.A X.env (fun _ _ => False) e s') L fun r s' hr => by
    cases r with
    | ok f =>
      obtain ⟨H', I', q'⟩ := hr
      exact kz _ H' s' I' (wipe_wipe hv) q'
    | error e => exact hr.elim
  exact setStart hg rfl L2 (T.self X.A 0 _ _ _ st L2)
end
end RV
set_option linter.all false
/-! {x for a in .. if .. for b in .. ..}: the whole comprehension -/
namespace RV
open PySem L2 PySem.Spec PyProof.Rows
def BlkOf (X X' : Cx) (scope : Scope) : Prop := ∃ (s : Shared) (H : Hp) (C : Addr) (cl : List (Str × Addr)) (fp : List Addr), X' = X.blk s H scope (compEnvC scope cl C X.env) fp
section
variable {X : Cx}
def tSet (P : Program) (w : World) (wi : TI) (g : TG) (tt : TT) (tb : Addr → TB) (vs : List Nat) : TE := fun σ H Q => wi σ H fun J H1 => ∀ D, H1 D = none → tCl J g tt (tb D) vs σ (upd H1 D (SetT P w D (fun _ => false) 0)) fun H' => Q (.ref D) H'
theorem pe_set {elt tg iter : Expr} {ifs : List Expr} {rest : List Comprehension} {scope : Scope} {own : List (Str × Nat)} {pos : Pos} {wi : TI} {g : TG} {tt : TT} {tb : Addr → TB} (hc : X.calm = true) (hN : X.N.Nodup) (hi : PI X tg iter wi) (ok : BlkOk X.N X.env.scope scope own)
    (hg : ∀ X', BlkOf X X' scope → PG X' tg g) (ht : ∀ X', BlkOf X X' scope → PTs X' ifs tt)
    (hb : ∀ X', BlkOf X X' scope → ∀ D, ∃ body, HasB X' (own.map (·.2)) body (tb D) ∧ TurnIs (.SetComp elt (⟨tg, iter, ifs, 0⟩ :: rest) scope pos) tg 0 iter.pos ifs (.ref D) X'.env body)
    (hs : ∀ x, foldedSetIterable iter X.env x = pure x := by intro _; rfl) :
    PE X (.SetComp elt (⟨tg, iter, ifs, 0⟩ :: rest) scope pos) (tSet X.prog X.w wi g tt tb (own.map (·.2))) := by
  refine ⟨fun pins s σ H Q I h => ?_⟩
  rw [PpSet.eval_SetComp]
  have free : ∀ y ∈ scope.names, y.2 = .free → ∃ c, X.env.cells.lookup y.1 = some c := fun y hy z => (ok.free y hy z).elim (fun k => I.ok.has _ (.inl k)) fun k => I.ok.has _ (.inr k)
  refine wpAny_comprehension_free (use := none) rfl hs (closure_ok free) ok.kind (fun y hy z => by rw [ok.uniq y hy, z]) (thn (hi.run pins s σ H _ I h) fun xv s1 hx => thn hx fun itv s2 h2 => ?_)
  obtain ⟨it, fp, tn, J, H2, e, I2, T, st2, f2, q⟩ := h2
  subst e
  refine PpSet.newSet_ok (newEnv_comp ?_)
  have hn2 : H2 s2.heap.objs.size = none := I2.hok.fresh (Nat.le_refl _)
  have q0 := q _ hn2
  -- the new set
  have I3 := I2.laid (t' := s2.toks) (h' := s2.heap.push (emptySet X.w)) (fun b o z => Heap.get?_push_of_some _ z) (Nat.le_refl _) (setT_new (P := X.prog) (w := X.w) (H := upd H2 s2.heap.objs.size (SetT X.prog X.w s2.heap.objs.size (fun _ => false) 0)) (SetX.fresh (knd := PySem.strKind X.prog X.w) (Heap.get?_push_size _ rfl)))
  generalize hD : s2.heap.objs.size = D at hn2 q0 I3 ⊢
  have lt2 : ∀ b ∈ fp, b < D := fun b hb => by
    obtain ⟨o, z, _⟩ := T.obj _ _ st2 b hb
    rw [← hD]
    exact Heap.lt_size z
  have push : ∀ {b o}, s2.heap.get? b = some o → (s2.heap.push (emptySet X.w)).get? b = some o := fun z => Heap.get?_push_of_some _ z
  have psz : (s2.heap.push (emptySet X.w)).objs.size = D + 1 := by rw [Heap.size_push, hD]
  generalize hs3 : ({ s2 with heap := s2.heap.push (emptySet X.w) } : Shared) = s3
  have e3 : s3.heap = s2.heap.push (emptySet X.w) := by rw [← hs3]
  have I3 : Inv X pins σ (upd H2 D (SetT X.prog X.w D (fun _ => false) 0)) s3 := by rw [← hs3]; exact I3
  have f3 : ∀ b ∈ fp, FpOk X pins (upd H2 D (SetT X.prog X.w D (fun _ => false) 0)) b ∧ b < s3.heap.objs.size := fun b hb => by
    have l := lt2 b hb
    refine ⟨⟨?_, (f2 b hb).2⟩, by rw [e3, psz]; exact Nat.lt_succ_of_lt l⟩
    rw [upd_ne (Nat.ne_of_lt l)]
    exact (f2 b hb).1
  have st3 : tn 0 s3.heap := T.keep _ _ _ st2 fun b _ o z => by rw [e3]; exact push z
  have I4 := block_start I3 ok hN f3
  show codeAny _ _ (.compStart (.SetComp elt (⟨tg, iter, ifs, 0⟩ :: rest) scope pos) 0 (.ref it) (.ref D) (compEnvC scope (cellsFrom (s3.heap.objs.size + 1) scope.names (cloFrom X.env.cells scope.names [])) s3.heap.objs.size X.env)) (compPost (model X.prog X.w) X.A X.xe none _ (.ref D) s3.heap.objs.size) { s3 with heap := pushCells (s3.heap.push { cls := .type "dict", data := .dict #[] }) scope.names }
  have bo : BlkOf X (X.blk s3 (upd H2 D (SetT X.prog X.w D (fun _ => false) 0)) scope (compEnvC scope (cellsFrom (s3.heap.objs.size + 1) scope.names (cloFrom X.env.cells scope.names [])) s3.heap.objs.size X.env) fp) scope := ⟨_, _, _, _, _, rfl⟩
  have hg1 := hg _ bo
  have ht1 := ht _ bo
  obtain ⟨body, hb1, hT⟩ := hb _ bo D
  clear hg ht hb bo
  generalize hce : compEnvC scope (cellsFrom (s3.heap.objs.size + 1) scope.names (cloFrom X.env.cells scope.names [])) s3.heap.objs.size X.env = ce at I4 hg1 ht1 hb1 hT ⊢
  have cL : ce.locals = s3.heap.objs.size := by subst hce; rfl
  generalize hH3 : upd H2 D (SetT X.prog X.w D (fun _ => false) 0) = H3 at I3 I4 f3 q0 hg1 ht1 hb1 hT
  generalize hs4 : ({ s3 with heap := pushCells (s3.heap.push { cls := .type "dict", data := .dict #[] }) scope.names } : Shared) = s4 at I4 ⊢
  have st4 : tn 0 s4.heap := T.keep _ _ _ st3 fun b _ o z => by rw [← hs4]; exact pushCells_keeps _ _ _ _ (Heap.get?_push_of_some _ z)
  have f4 : ∀ b ∈ fp, FpOk (X.blk s3 H3 scope ce fp) [] H3 b := fun b hb => ⟨(f3 b hb).1.1, (I4.ok.exf b hb).1, I4.ok.exfs b hb, .inl hb, fun x c z => (I4.ok.exf b hb).2 x c z, fun p hp => absurd (show p ∈ ([] : List (Addr × Obj)) ++ [] from hp) (by simp)⟩
  have q4 : tCl J g tt (tb D) (own.map (·.2)) (wipe σ (own.map (·.2))) H3 fun H' => Q (.ref D) H' := by
    obtain ⟨W, w0, go⟩ := q0
    refine ⟨W, w0, fun i m H' w' => (go i m H' w').imp id fun ⟨g1, Nx, hn, step⟩ => ⟨g1, Nx, hn, fun x H'' y => ?_⟩⟩
    rw [wipe_wipe fun _ z => z]
    exact step x H'' y
  have L := cl_loop (X := X.blk s3 H3 scope ce fp) (e := .SetComp elt (⟨tg, iter, ifs, 0⟩ :: rest) scope pos) (k := 0) (acc := .ref D) hc rfl (fun _ => rfl) (fun _ => rfl) (fun _ => rfl) hT hg1 ht1 hb1 I4 T st4 f4 q4
  have L2 := codeAny_mono (R' := compPost (model X.prog X.w) X.A X.xe none (EP X pins σ Q) (.ref D) s3.heap.objs.size) L fun r s6 hr => by
    cases r with
    | error e => exact hr.elim
    | ok f =>
      obtain ⟨H6, I6, q6⟩ := hr
      have I7 : Inv X pins σ H6 s6 := I3.call' (ch := fp) I6.os I6.base I6.hok I6.bare fun b hb => ⟨(f3 b hb).1.2.2.2.1, (f3 b hb).1.2.1, (f3 b hb).1.2.2.2.2.1, (f3 b hb).1.2.2.2.2.2⟩
      have nC : H6 s3.heap.objs.size = none := by
        have z : H6 ce.locals = none := I6.free
        rw [cL] at z
        exact z
      obtain ⟨m, hm, _⟩ := I6.loc
      have hm : s6.heap.Ns ce.locals m := hm
      rw [cL] at hm
      refine ⟨m, hm, fun h'' sb => ?_⟩
      obtain ⟨g0, g1, g2, g3, g4, g5⟩ := I3.fpOk (Nat.le_refl _) nC
      exact ⟨.ref D, H6, I7.turned (t' := s6.toks) (fun b o hb z => (sb.2 b hb).trans z) g0 g1 g3 g4 g5, rfl, q6⟩
  exact setStart rfl rfl L2 (T.self X.A 0 _ _ _ st4 L2)
end
/-- a clause's turns over a walk -/
theorem cl_walk {J : It} {n : Nat} {GG : Hp → Prop} {Y : Nat → Hp → V → Hp → Prop} (wk : Walk J n GG Y) {g : TG} {tt : TT} {tb : TB} {vs : List Nat} {σ : L2.St} {H : Hp} {Q : Hp → Prop} (Pv : Nat → Hp → Prop) (h0 : Pv 0 H) (hG : ∀ i H', i ≤ n → Pv i H' → GG H')
    (hs : ∀ i x Ha Hb, i < n → Pv i Ha → Y i Ha x Hb → g x (wipe σ vs) Hb fun σ2 H2 => wipe σ2 vs = wipe σ vs ∧ tt σ2 H2 fun b H3 => if b = true then tb σ2 H3 (Pv (i + 1)) else Pv (i + 1) H3) (hd : ∀ H', Pv n H' → Q H') : tCl J g tt tb vs σ H Q := by
  refine ⟨fun i m H' => m = n - i ∧ i ≤ n ∧ Pv i H', ⟨n, by simp, Nat.zero_le _, h0⟩, fun i m H' z => ?_⟩
  obtain ⟨rfl, hi, p⟩ := z
  by_cases hlt : i < n
  · exact .inr ⟨wk.1 i H' hlt (hG i H' hi p), Pv (i + 1), fun H'' p' => ⟨n - (i + 1), by omega, rfl, hlt, p'⟩, fun x H'' y => hs i x H' H'' hlt p (wk.3 i H' x H'' hlt (hG i H' hi p) y)⟩
  · obtain rfl : i = n := by omega
    exact .inl ⟨wk.2 H' (hG i H' hi p), hd H' p⟩
end RV
set_option linter.all false
/-! {x for a in .. for b in ..} with two clauses and with three, the members texts -/
namespace RV
open PySem L2 PySem.Spec PyProof.Rows
section
variable {X : Cx}
theorem pe_set3 {elt tg iter tg1 iter1 tg2 iter2 : Expr} {ifs ifs1 ifs2 : List Expr} {scope : Scope} {own : List (Str × Nat)} {ws us : List Nat} {pos : Pos} {wi wi1 wi2 : TI} {g g1 g2 : TG} {tt tt1 tt2 : TT} {te : TE} (hc : X.calm = true) (hN : X.N.Nodup) (hi : PI X tg iter wi) (ok : BlkOk X.N X.env.scope scope own) (hv : ∀ i ∈ ws, i ∈ own.map (·.2)) (hw : ∀ i ∈ us, i ∈ ws)
    (hg : ∀ (s : Shared) (H : Hp) (C : Addr) (cl : List (Str × Addr)) (fp : List Addr), PG (X.blk s H scope (compEnvC scope cl C X.env) fp) tg g) (ht : ∀ (s : Shared) (H : Hp) (C : Addr) (cl : List (Str × Addr)) (fp : List Addr), PTs (X.blk s H scope (compEnvC scope cl C X.env) fp) ifs tt) (hi1 : ∀ (s : Shared) (H : Hp) (C : Addr) (cl : List (Str × Addr)) (fp : List Addr), PI (X.blk s H scope (compEnvC scope cl C X.env) fp) tg1 iter1 wi1) (hg1 : ∀ (s : Shared) (H : Hp) (C : Addr) (cl : List (Str × Addr)) (fp : List Addr), PG (X.blk s H scope (compEnvC scope cl C X.env) fp) tg1 g1) (ht1 : ∀ (s : Shared) (H : Hp) (C : Addr) (cl : List (Str × Addr)) (fp : List Addr), PTs (X.blk s H scope (compEnvC scope cl C X.env) fp) ifs1 tt1)
    (hi2 : ∀ (s : Shared) (H : Hp) (C : Addr) (cl : List (Str × Addr)) (fp : List Addr), PI (X.blk s H scope (compEnvC scope cl C X.env) fp) tg2 iter2 wi2) (hg2 : ∀ (s : Shared) (H : Hp) (C : Addr) (cl : List (Str × Addr)) (fp : List Addr), PG (X.blk s H scope (compEnvC scope cl C X.env) fp) tg2 g2) (ht2 : ∀ (s : Shared) (H : Hp) (C : Addr) (cl : List (Str × Addr)) (fp : List Addr), PTs (X.blk s H scope (compEnvC scope cl C X.env) fp) ifs2 tt2) (he : ∀ (s : Shared) (H : Hp) (C : Addr) (cl : List (Str × Addr)) (fp : List Addr), PE (X.blk s H scope (compEnvC scope cl C X.env) fp) elt te)
    (hs : ∀ x, foldedSetIterable iter X.env x = pure x := by intro _; rfl) (hs1 : ∀ env x, foldedSetIterable iter1 env x = pure x := by intro _ _; rfl) (hs2 : ∀ env x, foldedSetIterable iter2 env x = pure x := by intro _ _; rfl) :
    PE X (.SetComp elt [⟨tg, iter, ifs, 0⟩, ⟨tg1, iter1, ifs1, 0⟩, ⟨tg2, iter2, ifs2, 0⟩] scope pos) (tSet X.prog X.w wi g tt (fun D => tNx wi1 g1 tt1 (tNx wi2 g2 tt2 (tPutS X.prog X.w D te) us) ws) (own.map (·.2))) := by
  refine pe_set hc hN hi ok (fun X' hX => ?_) (fun X' hX => ?_) (fun X' hX D => ?_) hs
  · obtain ⟨s, H, C, cl, fp, rfl⟩ := hX
    exact hg s H C cl fp
  · obtain ⟨s, H, C, cl, fp, rfl⟩ := hX
    exact ht s H C cl fp
  · obtain ⟨s, H, C, cl, fp, rfl⟩ := hX
    exact ⟨_, hb_next (elt := elt) (gens := [⟨tg, iter, ifs, 0⟩, ⟨tg1, iter1, ifs1, 0⟩, ⟨tg2, iter2, ifs2, 0⟩]) (k := 1) (scope := scope) (pos := pos) (acc := .ref D) hc rfl hv rfl (fun _ => rfl) (hi1 s H C cl fp) (hg1 s H C cl fp) (ht1 s H C cl fp) (hb_next (elt := elt) (gens := [⟨tg, iter, ifs, 0⟩, ⟨tg1, iter1, ifs1, 0⟩, ⟨tg2, iter2, ifs2, 0⟩]) (k := 2) (scope := scope) (pos := pos) (acc := .ref D) hc rfl hw rfl (fun _ => rfl) (hi2 s H C cl fp) (hg2 s H C cl fp) (ht2 s H C cl fp) (hb_put rfl (he s H C cl fp)) (hs2 _)) (hs1 _), fun _ => rfl⟩
end
section
variable {X : Cx} {K : PySem.W.Frag}
theorem pi_tupK {tg l : Expr} {tl : TE} (hl : PE X l tl) (h : X.K = K := by rfl) : PI X tg l (iTup K tl) := h ▸ pi_tup hl
end
/-- everything but the object at d stays -/
def Sb (d : Addr) (H H' : Hp) : Prop := ∀ b o, b ≠ d → H b = some o → H' b = some o
theorem Sb.refl {d : Addr} (H : Hp) : Sb d H H := fun _ _ _ e => e
theorem Sb.trans {d : Addr} {A B C : Hp} (h : Sb d A B) (h' : Sb d B C) : Sb d A C := fun b o n e => h' b o n (h b o n e)
theorem Sb.same {d : Addr} {A B C : Hp} (s : Same A B) (n : A d = none) (h : Sb d B C) : Same A C := fun b o e => h b o (ne_of_none e n) (s b o e)
/-- places -/
def pls (ps : List P3) : List Str := ps.flatMap fun p => [p.2.1, p.2.2]
def SortP (xs : List Str) (zs : List Str) : Prop := sortedS zs = true ∧ zs.Nodup ∧ ∀ z, z ∈ zs ↔ z ∈ xs
def sp_plc (K : PySem.W.Frag) (CN CP CM : Addr) : Sp := fun vs H Q _ => ∃ (x : Addr) (ps : List P3) (ms : List M3), vs = [.ref x] ∧ NetR K CN CP CM H x ps ms ∧ ps.length ≤ 12 ∧
  ∀ (t : Addr) (zs : List Str) H', Same H H' → H' t = some (.tup (zs.map V.str)) → SortP (pls ps) zs → zs.length ≤ 24 → Q (.ref t) H'
end RV
set_option linter.all false
/-! comprehensions over pairs of two tuples; flows at places -/
namespace RV
open PySem L2 PySem.Spec PyProof.Rows TL
section
variable {K : PySem.W.Frag} {a b : Addr} {xs ys : List V} {D : Addr} {te : TE} {tt : TT} {vs : List Nat} {σ : L2.St} {H1 : Hp} {Qd : Hp → Prop} {i j : Nat}
end
/-- what comes in less what goes out -/
def dvP (ps : List P3) (fs : List Int) (z : Str) : Int := dv ps.length (pS ps) (pE ps) (rwf fs) z
def sumAt (g : Nat → Str) (n : Nat) (fs : List Int) (z : Str) : List Int := ((List.range n).filter fun k => decide (g k = z)).map (rwf fs)
def flwB (ps : List P3) (fs : List Int) : Bool := decide (fs.length = ps.length) && (pls ps).all fun z => decide (dvP ps fs z = 0)
section
variable (K : PySem.W.Frag) (CN CP CM : Addr)
def sp_kat : Sp := fun vs H Q _ => ∃ (x t : Addr) (ps : List P3) (ms : List M3) (fs : List Int) (z : Str), vs = [.ref x, .ref t, .str z] ∧ NetR K CN CP CM H x ps ms ∧ ps.length ≤ 12 ∧ SqT K H t (fs.map V.int) ∧ fs.length = ps.length ∧ ∀ H', Same H H' → Q (.int (dvP ps fs z)) H'
def sp_isf : Sp := fun vs H Q _ => ∃ (x t : Addr) (ps : List P3) (ms : List M3) (fs : List Int), vs = [.ref x, .ref t] ∧ NetR K CN CP CM H x ps ms ∧ ps.length ≤ 12 ∧ SqT K H t (fs.map V.int) ∧ fs.length ≤ 1000 ∧ ∀ H', Same H H' → Q (.bl (flwB ps fs)) H'
/-- a ring through a pipe with so many meters -/
structure RingF (ps : List P3) (ms : List M3) (y : Str) (c : Nat) (fs : List Int) : Prop where
  len : fs.length = ps.length
  ring : ∃ p, p < ps.length ∧ pN ps p = y ∧ Ring ps.length (pS ps) (pE ps) (shutP ps ms) p (rwf fs) ∧ cnt ps.length (fun k => wtP ms (pN ps k)) (rwf fs) = c
def sp_ring : Sp := fun vs H Q _ => ∃ (x : Addr) (ps : List P3) (ms : List M3) (y : Str), vs = [.ref x, .str y] ∧ NetR K CN CP CM H x ps ms ∧ POk ps ∧ ms.length ≤ 12 ∧ y ∈ ps.map (·.1) ∧
  (strP ps ms y = none → ∀ H', Same H H' → Q .non H') ∧ ∀ c (t : Addr) fs H', strP ps ms y = some c → Same H H' → SqT K H' t (fs.map V.int) → RingF ps ms y c fs → Q (.ref t) H'
end
end RV
set_option linter.all false
/-! what the found ways are: rings without loops -/
namespace RV
open PySem L2 PyProof.Rows TL
def ZG (ps : List P3) (ms : List M3) (p : Nat) : Dist Str → Str → Nat → List Int → Prop := fun g x d fs => GW (pS ps) (pE ps) (fun k => wtP ms (pN ps k)) (okp ps.length (shutP ps ms) p) (pE ps p) g x d (rwf fs)
/-- the flow with 1 at a pipe -/
def ringL (ps : List P3) (y : Str) (fs : List Int) : List Int := (List.range ps.length).map fun k => if pN ps k = y then 1 else rwf fs k
end RV
set_option linter.all false
/-! rings of models -/
namespace RV
open PySem L2 PyProof.Rows TL
def sp_rr (K : PySem.W.Frag) (CN CP CM : Addr) : Sp := fun vs H Q _ => ∃ (l x : Addr) (M : Mod) (most more p : Nat), vs = [.ref l, .ref x, .int (p : Nat)] ∧ MdAt H l M ∧ MdOk M most more ∧ most ≤ 12 ∧ more ≤ 12 ∧ NetR K CN CP CM H x M.ps M.ms ∧ p < M.qs.length ∧ ∀ H', Same H H' → Q (.bl true) H'
end RV
set_option linter.all false
/-! for x, y, z in zip(a, b, c): three tuples -/
namespace RV
open PySem L2 PySem.Spec PyProof.Rows TL
/-- the tuples at a, b, c as they stand; the items in new tuples -/
def Itz3 (K : PySem.W.Frag) (a b c : Addr) : It :=
  ⟨fun i H => ∃ (xs ys zs : List V) (x y z : V), SqT K H a xs ∧ SqT K H b ys ∧ SqT K H c zs ∧ xs[i]? = some x ∧ ys[i]? = some y ∧ zs[i]? = some z,
    fun i H v H' => ∃ T x y z, v = .ref T ∧ H T = none ∧ H' = upd H T (.tup [x, y, z]) ∧ (∀ xs, SqT K H a xs → xs[i]? = some x) ∧ (∀ ys, SqT K H b ys → ys[i]? = some y) ∧ ∀ zs, SqT K H c zs → zs[i]? = some z,
    fun i H => ∃ xs ys zs : List V, SqT K H a xs ∧ SqT K H b ys ∧ SqT K H c zs ∧ xs.length = i ∧ ys.length = i ∧ zs.length = i⟩
def iZip3 (K : PySem.W.Frag) (ta : TA) : TI := fun σ H R => ta σ H fun vs H1 => ∃ a b c xs ys zs, vs = [.ref a, .ref b, .ref c] ∧ SqT K H1 a xs ∧ SqT K H1 b ys ∧ SqT K H1 c zs ∧ R (Itz3 K a b c) H1
def YTri (xs ys zs : Nat → Option V) : Nat → Hp → V → Hp → Prop := fun i H v H' => ∃ T x y z, v = .ref T ∧ H T = none ∧ H' = upd H T (.tup [x, y, z]) ∧ xs i = some x ∧ ys i = some y ∧ zs i = some z
end RV
set_option linter.all false
/-! worlds: readings, wrong and silent meters -/
namespace RV
open PySem L2 PySem.Spec PyProof.Rows TL
section
variable {J : It} {n : Nat} {GG : Hp → Prop} {Y : Nat → Hp → V → Hp → Prop} {g : TG} {tt : TT} {tk tv : TE} {vs : List Nat} {σ : L2.St} {H1 : Hp} {D : Addr} {Qd : Hp → Prop}
end
abbrev gTri (K : PySem.W.Frag) (i j l : Nat) : TG := gTup K 3 (gCons (gName i) (gCons (gName j) (gCons (gName l) gNil)))
section
variable {K : PySem.W.Frag} {a b c : Addr} {xs ys zs : List V} {D : Addr} {te : TE} {tt : TT} {vs : List Nat} {σ : L2.St} {H1 : Hp} {Qd : Hp → Prop} {i j l : Nat}
abbrev s3 (σ : L2.St) (i j l : Nat) (x y z : V) : L2.St := ((σ.set i (some x)).set j (some y)).set l (some z)
end
/-! ### readings -/
def vO : Option Int → V
  | none => .non
  | some c => .int c
def vR (rs : List (Option Int)) : List V := rs.map vO
def mN (ms : List M3) (k : Nat) : Str := (ms.getD k ("", "", false)).1
def mA (ms : List M3) (k : Nat) : Str := (ms.getD k ("", "", false)).2.1
def mZ (ms : List M3) (k : Nat) : Bool := (ms.getD k ("", "", false)).2.2
def rO (rs : List (Option Int)) (k : Nat) : Option Int := rs.getD k none
/-- the flow of the pipe of this name -/
def amt (ps : List P3) (fs : List Int) (y : Str) : Int := match ps.findIdx? fun p => decide (p.1 = y) with
  | some k => rwf fs k
  | none => 0
def rdF (ps : List P3) (ms : List M3) (fs : List Int) : List Int := ms.map fun m => amt ps fs m.2.1
structure RdOk (ms : List M3) (rs : List (Option Int)) : Prop where
  len : rs.length = ms.length
  sea : ∀ k, k < ms.length → mZ ms k = true → rO rs k ≠ none
structure WdOk (ps : List P3) (ms : List M3) (fs : List Int) (rs : List (Option Int)) : Prop where
  fl : fs.length = ps.length
  fw : flwB ps fs = true
  rd : RdOk ms rs
  sea : ∀ k, k < ms.length → mZ ms k = true → rO rs k = some (amt ps fs (mA ms k))
def wrB (ps : List P3) (ms : List M3) (fs : List Int) (rs : List (Option Int)) (k : Nat) : Bool := match rO rs k with
  | some v => decide (v ≠ amt ps fs (mA ms k))
  | none => false
def wrN (ps : List P3) (ms : List M3) (fs : List Int) (rs : List (Option Int)) : List Str := ((List.range ms.length).filter (wrB ps ms fs rs)).map (mN ms)
def slN (ms : List M3) (rs : List (Option Int)) : List Str := ((List.range ms.length).filter fun k => (rO rs k).isNone).map (mN ms)
def Asc (xs zs : List Str) : Prop := PyProof.Rows.sortedS zs = true ∧ zs.Perm xs
section
variable (K : PySem.W.Frag) (CN CP CM : Addr)
/-- a pair of a flow and readings -/
def WAt (H : Hp) (a : Addr) (fs : List Int) (rs : List (Option Int)) : Prop := ∃ tf tr, SqT K H a [.ref tf, .ref tr] ∧ SqT K H tf (fs.map V.int) ∧ SqT K H tr (vR rs)
def sp_rof : Sp := fun vs H Q _ => ∃ (x t : Addr) (ps : List P3) (ms : List M3) (fs : List Int), vs = [.ref x, .ref t] ∧ NetR K CN CP CM H x ps ms ∧ POk ps ∧ MOk ps ms ∧ SqT K H t (fs.map V.int) ∧ fs.length = ps.length ∧ flwB ps fs = true ∧
  ∀ (r : Addr) H', Same H H' → H' r = some (.tup ((rdF ps ms fs).map V.int)) → Q (.ref r) H'
def sp_isr : Sp := fun vs H Q _ => ∃ (a : Addr) (m : M3) (o : Option Int), vs = [.ref a, vO o] ∧ MetAt CM H a m ∧ Q (.bl (o.isSome || !m.2.2)) H
def sp_chr : Sp := fun vs H Q _ => ∃ (x t : Addr) (ps : List P3) (ms : List M3) (rs : List (Option Int)), vs = [.ref x, .ref t] ∧ NetR K CN CP CM H x ps ms ∧ ms.length ≤ 12 ∧ SqT K H t (vR rs) ∧ RdOk ms rs ∧ ∀ H', Same H H' → Q .non H'
def sp_are : Sp := fun vs H Q _ => ∃ (x t : Addr) (ps : List P3) (ms : List M3) (rs : List (Option Int)), vs = [.ref x, .ref t] ∧ NetR K CN CP CM H x ps ms ∧ ms.length ≤ 12 ∧ SqT K H t (vR rs) ∧ RdOk ms rs ∧ ∀ H', Same H H' → Q (.bl true) H'
def sp_seal : Sp := fun vs H Q _ => ∃ (x t r : Addr) (ps : List P3) (ms : List M3) (fs : List Int) (rs : List (Option Int)), vs = [.ref x, .ref t, .ref r] ∧ NetR K CN CP CM H x ps ms ∧ POk ps ∧ MOk ps ms ∧ SqT K H t (fs.map V.int) ∧ SqT K H r (vR rs) ∧ WdOk ps ms fs rs ∧ ∀ H', Same H H' → Q (.bl true) H'
def sp_isw : Sp := fun vs H Q _ => ∃ (x a : Addr) (ps : List P3) (ms : List M3) (fs : List Int) (rs : List (Option Int)), vs = [.ref x, .ref a] ∧ NetR K CN CP CM H x ps ms ∧ POk ps ∧ MOk ps ms ∧ WAt K H a fs rs ∧ WdOk ps ms fs rs ∧ ∀ H', Same H H' → Q (.bl true) H'
def sp_chw : Sp := fun vs H Q _ => ∃ (x a : Addr) (ps : List P3) (ms : List M3) (fs : List Int) (rs : List (Option Int)), vs = [.ref x, .ref a] ∧ NetR K CN CP CM H x ps ms ∧ POk ps ∧ MOk ps ms ∧ WAt K H a fs rs ∧ WdOk ps ms fs rs ∧ ∀ H', Same H H' → Q .non H'
def sp_sln : Sp := fun vs H Q _ => ∃ (x t : Addr) (ps : List P3) (ms : List M3) (rs : List (Option Int)), vs = [.ref x, .ref t] ∧ NetR K CN CP CM H x ps ms ∧ ms.length ≤ 12 ∧ SqT K H t (vR rs) ∧ rs.length = ms.length ∧
  ∀ (l : Addr) H', Same H H' → H l = none → H' l = some (.lst ((slN ms rs).map V.str)) → Q (.ref l) H'
def sp_wrm : Sp := fun vs H Q _ => ∃ (x a : Addr) (ps : List P3) (ms : List M3) (fs : List Int) (rs : List (Option Int)), vs = [.ref x, .ref a] ∧ NetR K CN CP CM H x ps ms ∧ POk ps ∧ MOk ps ms ∧ WAt K H a fs rs ∧ WdOk ps ms fs rs ∧
  ∀ (t : Addr) (zs : List Str) H', Same H H' → SqT K H' t (zs.map V.str) → Asc (wrN ps ms fs rs) zs → Q (.ref t) H'
def sp_slm : Sp := fun vs H Q _ => ∃ (x a : Addr) (ps : List P3) (ms : List M3) (fs : List Int) (rs : List (Option Int)), vs = [.ref x, .ref a] ∧ NetR K CN CP CM H x ps ms ∧ POk ps ∧ MOk ps ms ∧ WAt K H a fs rs ∧ WdOk ps ms fs rs ∧
  ∀ (t : Addr) (zs : List Str) H', Same H H' → SqT K H' t (zs.map V.str) → Asc (slN ms rs) zs → Q (.ref t) H'
end
end RV
set_option linter.all false
/-! two worlds with the same readings -/
namespace RV
open PySem L2 PySem.Spec PyProof.Rows TL
/-- what is seen in the world without flow and in the one with a ring -/
def seen (a c : Int) : Int → List Int → List (Option Int)
  | _, [] => []
  | met, v :: vs => if v = 0 then some 0 :: seen a c met vs else (if met < a then some v else if met < a + c then none else some 0) :: seen a c (met + 1) vs
def met (m : Int) : List Int → Int
  | [] => m
  | v :: vs => if v = 0 then met m vs else met (m + 1) vs
def isW1 (o : Option Int) : Bool := match o with
  | some r => decide (r ≠ 0)
  | none => false
def isW2 (q : Int × Option Int) : Bool := match q.2 with
  | some r => decide (r ≠ q.1)
  | none => false
def nz (vs : List Int) : Nat := (vs.filter fun v => decide (v ≠ 0)).length
section
variable (K : PySem.W.Frag) (CN CP CM : Addr)
def sp_seen : Sp := fun vs H Q _ => ∃ (x t f : Addr) (ps : List P3) (ms : List M3) (fs : List Int) (a b c : Int), vs = [.ref x, .ref t, .ref f] ∧ NetR K CN CP CM H x ps ms ∧ POk ps ∧ MOk ps ms ∧ SqT K H t (fs.map V.int) ∧ fs.length = ps.length ∧ flwB ps fs = true ∧ SqT K H f [.int a, .int b, .int c] ∧
  ∀ (r : Addr) H', Same H H' → SqT K H' r (vR (seen a c 0 (rdF ps ms fs))) → Q (.ref r) H'
/-- two worlds with the same readings -/
def MisAt (H : Hp) (t : Addr) (n : Nat) (fs : List Int) (rs : List (Option Int)) : Prop := ∃ u v tf tg tr, SqT K H t [.ref u, .ref v] ∧ SqT K H u [.ref tf, .ref tr] ∧ SqT K H v [.ref tg, .ref tr] ∧ SqT K H tf ((List.replicate n (0 : Int)).map V.int) ∧ SqT K H tg (fs.map V.int) ∧ SqT K H tr (vR rs)
def sp_misl : Sp := fun vs H Q _ => ∃ (x t : Addr) (ps : List P3) (ms : List M3) (y : Str) (a b c : Int), vs = [.ref x, .str y, .ref t] ∧ NetR K CN CP CM H x ps ms ∧ POk ps ∧ MOk ps ms ∧ y ∈ ps.map (·.1) ∧ SqT K H t [.int a, .int b, .int c] ∧ Flt a b c ∧
  (tellB (strP ps ms y) (a + b + c) = true → ∀ H', Same H H' → Q .non H') ∧
  ∀ (n : Nat) (r : Addr) fs H', strP ps ms y = some n → (n : Int) ≤ a + b + c → RingF ps ms y n fs → Same H H' → MisAt K H' r ps.length fs (seen a c 0 (rdF ps ms fs)) → Q (.ref r) H'
end
end RV
set_option linter.all false
/-! lists of indexes; worlds of models -/
namespace RV
open PySem L2 PySem.Spec PyProof.Rows TL
def vI (k : Nat) : V := .int (k : Int)
section
variable {K : PySem.W.Frag} {D : Addr} {te : TE} {tt : TT} {vs : List Nat} {σ : L2.St} {H1 : Hp} {Qd : Hp → Prop} {i : Nat} {J : It} {GG : Hp → Prop}
theorem lc_idx (L : List Nat) (p : Nat → Bool) (val : Nat → V) (wk : Walk J (L.map vI).length GG (YAt (L.map vI))) (nD : H1 D = none) (len : L.length ≤ 1000) (hG : ∀ H', Same H1 H' → GG H') (hw : ∀ x, wipe ((wipe σ vs).set i x) vs = wipe σ vs)
    (ht : ∀ k ∈ L, ∀ H2, Same H1 H2 → ∀ R : Bool → Hp → Prop, (∀ H3, Same H2 H3 → R (p k) H3) → tt ((wipe σ vs).set i (some (vI k))) H2 R)
    (he : ∀ k ∈ L, p k = true → ∀ H2, Same H1 H2 → ∀ R : VK, (∀ H3, Same H2 H3 → R (val k) H3) → te ((wipe σ vs).set i (some (vI k))) H2 R)
    (k : ∀ H', Same H1 H' → H' D = some (.lst ((L.filter p).map val)) → Qd H') :
    ∃ W : Nat → Nat → Hp → Prop, (∃ m, W 0 m (upd H1 D (.lst []))) ∧ ∀ i' m H, W i' m H →
      (J.stop i' H ∧ Qd H) ∨ (J.go i' H ∧ ∃ Nx : Hp → Prop, (∀ H', Nx H' → ∃ m', m' < m ∧ W (i' + 1) m' H') ∧ ∀ x H', J.yld i' H x H' → gName i x (wipe σ vs) H' fun σ2 H2 => wipe σ2 vs = wipe σ vs ∧ tt σ2 H2 fun b H3 =>
        if b = true then te σ2 H3 fun y H4 => ∃ acc, H4 D = some (.lst acc) ∧ acc.length < sizeLine ∧ Nx (upd H4 D (.lst (acc ++ [y]))) else Nx H3) := by
  refine L2.lc_it wk (fun m H' => Same H1 H' ∧ H' D = some (.lst (((L.take m).filter p).map val))) ⟨fun b o e => (upd_ne (ne_of_none e nD)).trans e, upd_same⟩ (fun m H' _ z => hG _ z.1) (fun m x Ha Hb hm hv y => ?_) (fun H' hv => ?_)
  · obtain ⟨s, eD⟩ := hv
    obtain ⟨rfl, hx⟩ := y
    rw [List.getElem?_map] at hx
    cases hu : L[m]? with
    | none => rw [hu] at hx; cases hx
    | some u =>
      rw [hu] at hx
      obtain rfl : vI u = x := Option.some.inj hx
      have hmem := List.mem_of_getElem? hu
      have et : L.take (m + 1) = L.take m ++ [u] := by rw [List.take_add_one, hu]; rfl
      refine ⟨hw _, ht u hmem Hb s _ fun H3 s3 => ?_⟩
      have eD3 := s3 _ _ eD
      have sH : Same H1 H3 := s.trans s3
      cases hp : p u with
      | false =>
        refine iteF ⟨sH, ?_⟩
        rw [eD3, et, List.filter_append, List.filter_cons_of_neg (by rw [hp]; decide), List.filter_nil, List.append_nil]
      | true =>
        refine iteT (he u hmem hp H3 sH _ fun H4 s4 => ⟨_, s4 _ _ eD3, ?_, fun b o e => ?_, ?_⟩)
        · rw [List.length_map]
          have l1 := List.length_filter_le p (L.take m)
          have l2 := List.length_take_le' m L
          exact Nat.lt_of_le_of_lt (Nat.le_trans l1 (Nat.le_trans l2 len)) (by decide)
        · rw [upd_ne (ne_of_none e nD)]
          exact s4 _ _ (sH _ _ e)
        · rw [upd_same, et, List.filter_append, List.filter_cons_of_pos hp, List.filter_nil, List.map_append]
          rfl
  · obtain ⟨s, eD⟩ := hv
    rw [List.length_map, List.take_length] at eD
    exact k H' s eD
end
def sp_lw (K : PySem.W.Frag) : Sp := fun vs H Q _ => ∃ (l a : Addr) (M : Mod) (most more : Nat) (fs : List Int) (rs : List (Option Int)), vs = [.ref l, .ref a] ∧ MdAt H l M ∧ MdOk M most more ∧ most ≤ 12 ∧ more ≤ 12 ∧ WAt K H a fs rs ∧ WdOk M.ps M.ms fs rs ∧ (∀ c ∈ rs, True) ∧
  ∀ (r lw lm : Addr) H', Same H H' → H' r = some (.lst [.ref lw, .ref lm]) → H' lw = some (.lst (((List.range M.ms.length).filter (wrB M.ps M.ms fs rs)).map vI)) → H' lm = some (.lst (((List.range M.ms.length).filter fun k => (rO rs k).isNone).map vI)) → Q (.ref r) H'
end RV
set_option linter.all false
/-! misleading pairs of models -/
namespace RV
open PySem L2 PySem.Spec PyProof.Rows TL
def dI (k : Nat) : PyData := .int (k : Int)
def dR (o : Option Int) : PyData := match o with
  | none => .none
  | some c => .int c
section
variable {K : PySem.W.Frag} {H : Hp}
end
def sp_flt : Sp := fun vs H Q _ => ∃ (w : Addr) (n : Nat) (m : Int), vs = [.ref w, .int m] ∧ WellAt H w n ∧ n < 900000 ∧ 0 ≤ m ∧ m ≤ 3 ∧
  ∀ (t : Addr) (a b c : Int) H', Grow w H H' → WellAt H' w (n + 5) → H t = none → H' t = some (.tup [.int a, .int b, .int c]) → t ≠ w → Flt a b c → Q (.ref t) H'
def sp_pr (K : PySem.W.Frag) (CN CP CM : Addr) : Sp := fun vs H Q _ => ∃ (l x t : Addr) (M : Mod) (most more p : Nat) (a b c : Int), vs = [.ref l, .ref x, .int (p : Nat), .ref t] ∧ MdAt H l M ∧ MdOk M most more ∧ most ≤ 12 ∧ more ≤ 12 ∧ NetR K CN CP CM H x M.ps M.ms ∧ p < M.qs.length ∧ SqT K H t [.int a, .int b, .int c] ∧ Flt a b c ∧ ∀ H', Same H H' → Q (.bl true) H'
/-! ### the two worlds -/
section
variable {M : Mod} {most more p n : Nat} {fs : List Int} {a b c : Int}
end
end RV
/-! Ways side by side from one place to another: the strength of each pipe. -/
namespace RV
section
variable {α : Type} [DecidableEq α]
/-- how far a road's first t pipes lead -/
def upto (w : Nat → Nat) (kk : Nat → Nat → Nat) (j t : Nat) : Nat := ((List.range t).map fun s => w (kk j s)).sum
/-- R roads from x to y: road j's pipe number t is kk j t and joins the places nd j t and nd j (t + 1) -/
structure Roads (n : Nat) (st en : Nat → α) (R : Nat) (len : Nat → Nat) (kk : Nat → Nat → Nat) (nd : Nat → Nat → α) (x y : α) : Prop where
  pos : ∀ j, j < R → 0 < len j
  fst : ∀ j, j < R → nd j 0 = x
  lst : ∀ j, j < R → nd j (len j) = y
  lt : ∀ j t, j < R → t < len j → kk j t < n
  ends : ∀ j t, j < R → t < len j → (st (kk j t) = nd j t ∧ en (kk j t) = nd j (t + 1)) ∨ (st (kk j t) = nd j (t + 1) ∧ en (kk j t) = nd j t)
  all : ∀ k, k < n → ∃ j t, j < R ∧ t < len j ∧ kk j t = k
  inj : ∀ j t j' t', j < R → t < len j → j' < R → t' < len j' → kk j t = kk j' t' → j = j' ∧ t = t'
  ne : x ≠ y
  dc : ∃ dc : α → Nat × Nat, ∀ j t, j < R → 0 < t → t < len j → dc (nd j t) = (j, t) ∧ nd j t ≠ x ∧ nd j t ≠ y
variable {n : Nat} {st en : Nat → α} {R : Nat} {len : Nat → Nat} {kk : Nat → Nat → Nat} {nd : Nat → Nat → α} {x y u v : α} {ok : Nat → Prop} {w : Nat → Nat} {l : List (Nat × Bool)}
end
end RV
/-! The strength of a pipe in a net of ways side by side. -/
namespace RV
open PySem
section
variable {α : Type} {st en : Nat → α} {ok : Nat → Prop} {u v : α} {l : List (Nat × Bool)}
end
open Classical in
/-- sealed pipes weigh B -/
noncomputable def shW (shut : Nat → Prop) (w : Nat → Nat) (B : Nat) (k : Nat) : Nat := if shut k then B else w k
section
variable {ps : List P3} {ms : List M3} {R : Nat} {len : Nat → Nat} {kk : Nat → Nat → Nat} {nd : Nat → Nat → Str} {x y : Str}
/-- the meters of a road -/
def metR (ps : List P3) (ms : List M3) (kk : Nat → Nat → Nat) (j t : Nat) : Nat := upto (fun k => wtP ms (pN ps k)) kk j t
def OpenR (ps : List P3) (ms : List M3) (len : Nat → Nat) (kk : Nat → Nat → Nat) (j : Nat) : Prop := ∀ t, t < len j → ¬ shutP ps ms (kk j t)
end
end RV
/-! Ways side by side, from pipes in any order. -/
namespace RV
open PySem
/-- where the pipe of this name stands -/
def kkN (ps : List P3) (nm : Nat → Nat → Str) (j t : Nat) : Nat := (ps.map (·.1)).findIdx (fun z => decide (z = nm j t))
/-- the pipes of R roads: road j's pipe t is called nm j t and joins nd j t and nd j (t + 1) -/
structure RoadP (ps : List P3) (R : Nat) (len : Nat → Nat) (nm nd : Nat → Nat → Str) (x y : Str) : Prop where
  pos : ∀ j, j < R → 0 < len j
  fst : ∀ j, j < R → nd j 0 = x
  lst : ∀ j, j < R → nd j (len j) = y
  has : ∀ j t, j < R → t < len j → ∃ p ∈ ps, p.1 = nm j t ∧ ((p.2.1 = nd j t ∧ p.2.2 = nd j (t + 1)) ∨ (p.2.1 = nd j (t + 1) ∧ p.2.2 = nd j t))
  all : ∀ p ∈ ps, ∃ j t, j < R ∧ t < len j ∧ p.1 = nm j t
  un : (ps.map (·.1)).Nodup
  inj : ∀ j t j' t', j < R → t < len j → j' < R → t' < len j' → nm j t = nm j' t' → j = j' ∧ t = t'
  ne : x ≠ y
  dc : ∃ dc : Str → Nat × Nat, ∀ j t, j < R → 0 < t → t < len j → dc (nd j t) = (j, t) ∧ nd j t ≠ x ∧ nd j t ≠ y
section
variable {ps : List P3} {R : Nat} {len : Nat → Nat} {nm nd : Nat → Nat → Str} {x y : Str}
/-- the meters on road j, in all -/
def onR (ms : List M3) (nm : Nat → Nat → Str) (j t : Nat) : Nat := ((List.range t).map fun s => wtP ms (nm j s)).sum
def ShutR (ms : List M3) (len : Nat → Nat) (nm : Nat → Nat → Str) (j : Nat) : Prop := ∃ t, t < len j ∧ seP ms (nm j t) ≠ []
end
end RV
/-! The places of ways side by side: x, y, and s with two figures between them. -/
namespace RV
open PySem
def nS (i : Nat) : Str := (toString (i : Int) : String)
def stopN (j k : Nat) : Str := ("s" : Str) ++ nS j ++ nS k
def nodeN (len : Nat → Nat) (j t : Nat) : Str := if t = 0 then "x" else if t = len j then "y" else stopN j (t - 1)
/-- which place it is -/
def stopD (s : Str) : Nat × Nat := (([(0, 1), (0, 2), (1, 1), (1, 2), (2, 1), (2, 2), (3, 1), (3, 2)] : List (Nat × Nat)).find? fun p => decide (s = stopN p.1 (p.2 - 1))).getD (0, 0)
section
variable {len : Nat → Nat} {R : Nat}
end
end RV
/-! Pipes laid one after another, each put in anywhere. -/
namespace RV
open PySem
/-- the pipes of these places of roads, in any order -/
structure LaidP (ps : List P3) (done : Nat → Nat → Prop) (nm nd : Nat → Nat → Str) : Prop where
  has : ∀ j t, done j t → ∃ p ∈ ps, p.1 = nm j t ∧ ((p.2.1 = nd j t ∧ p.2.2 = nd j (t + 1)) ∨ (p.2.1 = nd j (t + 1) ∧ p.2.2 = nd j t))
  all : ∀ p ∈ ps, ∃ j t, done j t ∧ p.1 = nm j t ∧ ((p.2.1 = nd j t ∧ p.2.2 = nd j (t + 1)) ∨ (p.2.1 = nd j (t + 1) ∧ p.2.2 = nd j t))
  un : (ps.map (·.1)).Nodup
section
variable {ps : List P3} {done : Nat → Nat → Prop} {nm nd : Nat → Nat → Str}
end
end RV
/-! One more meter. -/
namespace RV
open PySem
section
variable {ms : List M3} {nm : Nat → Nat → Str} {R : Nat} {len : Nat → Nat} {J U : Nat} {g : Str} {b : Bool}
end
end RV
/-! The pipes' names by road: so many of a row of names for each road. -/
namespace RV
open PySem
/-- how many pipes the roads before road j have -/
def off (len : Nat → Nat) (j : Nat) : Nat := ((List.range j).map len).sum
/-- the name of road j's pipe t -/
def nmT (ts : List Str) (len : Nat → Nat) (j t : Nat) : Str := ts.getD (off len j + t) ""
section
variable {ts : List Str} {len : Nat → Nat} {R : Nat}
end
end RV
/-! What is due of a pipe's strength. -/
namespace RV
open PySem
/-- the counts of the other roads without a seal -/
def othR (R : Nat) (ct : Nat → Nat) (sh : Nat → Bool) (i : Nat) : List Nat := ((List.range R).filter fun k => decide (k ≠ i) && !sh k).map ct
/-- the strength that is due, the least of the others being o -/
def dueR (ct : Nat → Nat) (sh : Nat → Bool) (i : Nat) (o : Option Nat) : Option Nat := if sh i then none else o.map fun m => ct i + m
end RV
/-! Pipes and meters of roads, laid so far; things that change and things that stand. -/
namespace RV
open PySem L2
/-- the names of which roads are laid -/
structure RoOk (R : Nat) (len : Nat → Nat) (ts gs : List Str) (l0 : Nat) : Prop where
  r0 : 0 < R
  r4 : R ≤ 4
  h0 : ∀ j, j < R → 0 < len j
  h3 : ∀ j, j < R → len j ≤ 3
  tl : ts.length = off len R
  tn : ts.Nodup
  tm : ∀ x ∈ ts, IsNm x
  gl : gs.length = 12
  gd : gs.Nodup
  gm : ∀ x ∈ gs, IsNm x
  l0 : l0 ≤ 12
/-- the pipes of these places, the meters at them, how many meters and whether a seal each road has -/
structure Laid (R : Nat) (len : Nat → Nat) (ts gs : List Str) (l0 : Nat) (done : Nat → Nat → Prop) (ps : List P3) (ms : List M3) (ct : Nat → Nat) (sh : Nat → Bool) : Prop where
  lp : LaidP ps done (nmT ts len) (nodeN len)
  dn : ∀ j t, done j t → j < R ∧ t < len j
  gn : ms.map (·.1) = (List.range ms.length).map fun i => gs.getD (l0 - 1 - i) ""
  ml : ms.length ≤ l0
  mo : ∀ m ∈ ms, ∃ j t, done j t ∧ m.2.1 = nmT ts len j t
  ct : ∀ j, j < R → ct j = onR ms (nmT ts len) j (len j)
  sh : ∀ j, j < R → (sh j = true ↔ ShutR ms len (nmT ts len) j)
section
variable {R : Nat} {len : Nat → Nat} {ts gs : List Str} {l0 : Nat} {done : Nat → Nat → Prop} {ps : List P3} {ms : List M3} {ct : Nat → Nat} {sh : Nat → Bool}
end
/-! ### the heap -/
/-- the things of M change, those of F stand; both are new, or not in M's places -/
structure Bag (H0 : Hp) (a : Addr) (n : Nat) (M F : List (Addr × HO)) (H : Hp) : Prop where
  gr : Grow a H0 H
  well : WellAt H a n
  m : ∀ p ∈ M, H0 p.1 = none ∧ p.1 ≠ a ∧ H p.1 = some p.2
  md : (M.map (·.1)).Nodup
  f : ∀ q ∈ F, q.1 ≠ a ∧ H q.1 = some q.2 ∧ ∀ p ∈ M, q.1 ≠ p.1
section
variable {H0 H H' : Hp} {a p : Addr} {n m : Nat} {M F F' : List (Addr × HO)} {o o' : HO} {Q : VK} {E : XK}
theorem Bag.grow (h : Bag H0 a n M F H) (g : Grow a H H') (w : WellAt H' a m) : Bag H0 a m M F H' :=
  ⟨h.gr.trans g, w, fun p hp => ⟨(h.m p hp).1, (h.m p hp).2.1, g _ _ (h.m p hp).2.1 (h.m p hp).2.2⟩, h.md, fun q hq => ⟨(h.f q hq).1, g _ _ (h.f q hq).1 (h.f q hq).2.1, (h.f q hq).2.2⟩⟩
theorem Bag.same (h : Bag H0 a n M F H) (g : Same H H') : Bag H0 a n M F H' := by
  obtain ⟨x, y, z, e, r⟩ := h.well
  exact h.grow (fun b o _ eb => g b o eb) ⟨x, y, z, g _ _ e, r⟩
theorem Bag.wm (h : Bag H0 a n M F H) (e : n ≤ m) : Bag H0 a m M F H := ⟨h.gr, h.well.mono e, h.m, h.md, h.f⟩
theorem Bag.dip {q : Int} (h : Bag H0 a n M F H) (hn : n < 1000000) (h0 : 0 < q) (h1 : q ≤ 10 ^ 60) (k : ∀ (r : Int) H', 0 ≤ r → r < q → Bag H0 a (n + 1) M F H' → Q (.int r) H') : Irr sp_dip [.ref a, .int q] H Q E :=
  irr ⟨a, q, n, rfl, h.well, hn, h0, h1, fun r H' r0 r1 g w => k r H' r0 r1 (h.grow g w)⟩
theorem Bag.new (h : Bag H0 a n M F H) (np : H p = none) : Bag H0 a n M ((p, o) :: F) (upd H p o) := by
  have h1 := h.grow (m := n) (Grow.new (o := o) np) (h.well.new np)
  refine ⟨h1.gr, h1.well, h1.m, h1.md, fun q hq => ?_⟩
  rcases List.mem_cons.mp hq with rfl | hq
  · exact ⟨(h.well.ne np).symm, upd_same, fun r hr => (ne_of_none (h.m r hr).2.2 np).symm⟩
  · exact h1.f q hq
theorem Bag.sub (h : Bag H0 a n M F H) (s : ∀ p ∈ F', p ∈ F) : Bag H0 a n M F' H := ⟨h.gr, h.well, h.m, h.md, fun q hq => h.f q (s q hq)⟩
theorem Bag.at (h : Bag H0 a n M F H) (hp : (p, o) ∈ F) : H p = some o := (h.f _ hp).2.1
theorem Bag.am (h : Bag H0 a n M F H) (hp : (p, o) ∈ M) : H p = some o := (h.m _ hp).2.2
theorem Bag.put (h : Bag H0 a n M F H) {i : Nat} (hi : M[i]? = some (p, o)) : Bag H0 a n (M.set i (p, o')) F (upd H p o') := by
  have hm := List.mem_of_getElem? hi
  obtain ⟨h0, pa, e⟩ := h.m _ hm
  have efst : (M.set i (p, o')).map (·.1) = M.map (·.1) := by
    rw [List.map_set]
    refine List.ext_getElem? fun k => ?_
    rw [List.getElem?_set]
    split
    · next e =>
      subst e
      rw [List.getElem?_map, hi]
      simp [(List.getElem?_eq_some_iff.mp hi).1]
    · rfl
  refine ⟨fun b u hb eb => ?_, ?_, fun q hq => ?_, by rw [efst]; exact h.md, fun q hq => ?_⟩
  · rw [upd_ne (ne_of_none eb h0)]
    exact h.gr b u hb eb
  · obtain ⟨x, y, z, ew, r⟩ := h.well
    exact ⟨x, y, z, by rw [upd_ne pa.symm]; exact ew, r⟩
  · obtain ⟨k, hk⟩ := List.getElem?_of_mem hq
    rw [List.getElem?_set] at hk
    split at hk
    · split at hk
      · obtain rfl := Option.some.inj hk
        exact ⟨h0, pa, upd_same⟩
      · cases hk
    · next ne =>
      have hq' := List.mem_of_getElem? hk
      obtain ⟨a1, a2, a3⟩ := h.m q hq'
      refine ⟨a1, a2, ?_⟩
      rw [upd_ne]
      · exact a3
      · intro z
        refine ne ((List.getElem?_inj (l := M.map (·.1)) ?_ h.md).mp ?_)
        · rw [List.length_map]
          exact (List.getElem?_eq_some_iff.mp hi).1
        · rw [List.getElem?_map, List.getElem?_map, hi, hk]
          show some p = some q.1
          rw [z]
  · obtain ⟨a1, a2, a3⟩ := h.f q hq
    refine ⟨a1, ?_, fun r hr => ?_⟩
    · rw [upd_ne (a3 _ hm)]
      exact a2
    · have : r.1 ∈ M.map (·.1) := by
        rw [← efst]
        exact List.mem_map.mpr ⟨r, hr, rfl⟩
      obtain ⟨r', hr', e'⟩ := List.mem_map.mp this
      rw [← e']
      exact a3 r' hr'
end
end RV
/-! What is told of roads; lists of ints; places along a road. -/
namespace RV
open PySem L2 TL
abbrev TU := Addr × Addr × List Str × Nat × Bool
def oT (u : TU) : HO := .lst [.ref u.2.1, .int (u.2.2.2.1 : Nat), .bl u.2.2.2.2]
def tolF (us : List TU) : List (Addr × HO) := us.map (fun u => (u.1, oT u)) ++ us.map fun u => (u.2.1, HO.lst (u.2.2.1.map V.str))
/-- what is told of the first k roads -/
def tellL (nm : Nat → Nat → Str) (len : Nat → Nat) (ct : Nat → Nat) (sh : Nat → Bool) (k : Nat) : List (List Str × Nat × Bool) := (List.range k).map fun j => ((List.range (len j)).map (nm j), ct j, sh j)
/-- so many of a row of numbers -/
def lenL (ls : List Nat) (j : Nat) : Nat := ls.getD j 0
section
variable {H0 H H' : Hp} {a p : Addr} {n m : Nat} {M F F' : List (Addr × HO)} {o o' : HO}
theorem Bag.start (w : WellAt H a n) : Bag H a n [] [] H := ⟨Grow.refl a H, w, (fun _ h => nomatch h), .nil, fun _ h => nomatch h⟩
theorem Bag.none0 (h : Bag H0 a n M F H) (np : H p = none) : H0 p = none := by
  cases e : H0 p with
  | none => rfl
  | some o =>
    rw [h.gr p o (h.well.ne np).symm e] at np
    cases np
/-- a new thing that will change -/
theorem Bag.newM (h : Bag H0 a n M F H) (np : H p = none) : Bag H0 a n ((p, o) :: M) F (upd H p o) := by
  have h1 := h.grow (m := n) (Grow.new (o := o) np) (h.well.new np)
  refine ⟨h1.gr, h1.well, fun q hq => ?_, ?_, fun q hq => ?_⟩
  · rcases List.mem_cons.mp hq with rfl | hq
    · exact ⟨h.none0 np, (h.well.ne np).symm, upd_same⟩
    · exact h1.m q hq
  · rw [List.map_cons, List.nodup_cons]
    refine ⟨fun hm => ?_, h.md⟩
    obtain ⟨q, hq, e⟩ := List.mem_map.mp hm
    have := (h.m q hq).2.2
    rw [e, np] at this
    cases this
  · obtain ⟨a1, a2, a3⟩ := h1.f q hq
    refine ⟨a1, a2, fun r hr => ?_⟩
    rcases List.mem_cons.mp hr with rfl | hr
    · exact ne_of_none (h.f q hq).2.1 np
    · exact a3 r hr
/-- it stays as it is from here on -/
theorem Bag.frz (h : Bag H0 a n ((p, o) :: M) F H) : Bag H0 a n M ((p, o) :: F) H := by
  obtain ⟨a1, a2⟩ := List.nodup_cons.mp (by have := h.md; rwa [List.map_cons] at this)
  refine ⟨h.gr, h.well, fun q hq => h.m q (List.mem_cons_of_mem _ hq), a2, fun q hq => ?_⟩
  rcases List.mem_cons.mp hq with rfl | hq
  · obtain ⟨b1, b2, b3⟩ := h.m _ List.mem_cons_self
    exact ⟨b2, b3, fun r hr e => a1 (List.mem_map.mpr ⟨r, hr, e.symm⟩)⟩
  · obtain ⟨b1, b2, b3⟩ := h.f q hq
    exact ⟨b1, b2, fun r hr => b3 r (List.mem_cons_of_mem _ hr)⟩
theorem Bag.put0 (h : Bag H0 a n ((p, o) :: M) F H) : Bag H0 a n ((p, o') :: M) F (upd H p o') := h.put (i := 0) rfl
end
/-- a law's roads: told, and the text of the net -/
def sp_paths : Sp := fun vs H Q _ => ∃ (a : Addr) (n R : Nat), vs = [.ref a, .int (R : Int)] ∧ WellAt H a n ∧ n < 500 ∧ 2 ≤ R ∧ R ≤ 4 ∧
  ∀ (l lO : Addr) (us : List TU) (len : Nat → Nat) (ts gs : List Str) (l0 : Nat) (ps : List P3) (ms : List M3) (ct : Nat → Nat) (sh : Nat → Bool) H', RoOk R len ts gs l0 → Laid R len ts gs l0 (fun j t => j < R ∧ t < len j) ps ms ct sh → us.map (·.2.2) = tellL (nmT ts len) len ct sh R →
    Bag H a (n + 2000) [] ((l, .lst [.ref lO, .str (netT ps ms)]) :: (lO, .lst (rf us)) :: tolF us) H' → Q (.ref l) H'
end RV
namespace RV
open PySem L2
theorem cutV_int (ns : List Int) (a b : Option Int) : ∃ ms : List Int, cutV (ns.map V.int) a b = ms.map V.int ∧ ms.length ≤ ns.length := by
  unfold cutV
  rw [List.length_map, ← List.map_drop, ← List.map_take]
  refine ⟨_, rfl, ?_⟩
  rw [List.length_take, List.length_drop]
  omega
def sp_spring (K : PySem.W.Frag) : Sp := fun vs H Q _ => ∃ (c : Addr) (ns : List Int) (k : Nat), vs = [.ref c, .int k] ∧ SqL K H c (ns.map V.int) ∧ ns.length ≤ 63 ∧ k ≤ 100 ∧
  ∀ a H', H a = none → Same H H' → WellAt H' a k → Q (.ref a) H'
end RV
/-! names, sizes of the later laws -/
namespace RV
open PySem L2
def words3 : List Str := ["if", "go", "vote", "tell", "doubt", "pipe", "meter", "sealed"]
theorem words3_nm : ∀ x ∈ words3, IsNm x := by
  have : ∀ x ∈ words3, isNm (cd x) = true := by decide +kernel
  exact this
theorem word3_at {r : Int} (h0 : 0 ≤ r) (h : r < 8) : ∃ y, atI (words3.map V.str) r = some (V.str y) ∧ IsNm y := by
  obtain ⟨n, rfl⟩ := Int.eq_ofNat_of_zero_le h0
  have hn : n < words3.length := by show n < 8; omega
  exact ⟨words3[n], atI_nat (by rw [List.getElem?_map, List.getElem?_eq_getElem hn]; rfl), words3_nm _ (List.getElem_mem hn)⟩
theorem sizes_at {r : Int} (h0 : 0 ≤ r) (h : r < 6) : ∃ sz : Nat, sz ≤ 7 ∧ atI [V.int 0, .int 0, .int 1, .int 1, .int 3, .int 7] r = some (.int (sz : Int)) := by
  obtain ⟨n, rfl⟩ := Int.eq_ofNat_of_zero_le h0
  have : n = 0 ∨ n = 1 ∨ n = 2 ∨ n = 3 ∨ n = 4 ∨ n = 5 := by omega
  rcases this with rfl | rfl | rfl | rfl | rfl | rfl
  · exact ⟨0, by decide, atI_nat rfl⟩
  · exact ⟨0, by decide, atI_nat rfl⟩
  · exact ⟨1, by decide, atI_nat rfl⟩
  · exact ⟨1, by decide, atI_nat rfl⟩
  · exact ⟨3, by decide, atI_nat rfl⟩
  · exact ⟨7, by decide, atI_nat rfl⟩
end RV
/-! drawn nets of the later laws -/
namespace RV
open PySem L2 TL
structure PlOk (M : Mod) (most more : Nat) : Prop where
  p2 : 2 ≤ M.pl.length
  p5 : M.pl.length ≤ 5
  pn : ∀ x ∈ M.pl, IsNm x
  pd : M.pl.Nodup
  q1 : 1 ≤ M.qs.length
  qm : M.qs.length ≤ most
  qn : ∀ q ∈ M.qs, IsNm q.1 ∧ q.2.1 < M.pl.length ∧ q.2.2 < M.pl.length ∧ q.2.1 ≠ q.2.2
  qd : (M.qs.map (·.1)).Nodup
  gm : M.gs.length ≤ more
  gn : ∀ g ∈ M.gs, IsNm g.1 ∧ g.2.1 < M.qs.length
  gd : (M.gs.map (·.1)).Nodup
section
variable {M : Mod} {most more : Nat}
end
def sp_plan : Sp := fun vs H Q _ => ∃ (a : Addr) (n most more : Nat), vs = [.ref a, .int most, .int more] ∧ WellAt H a n ∧ n < 500000 ∧ 1 ≤ most ∧ most ≤ 12 ∧ more ≤ 12 ∧
  ∀ (l lp lq lg : Addr) (pl : List Str) (pu : List QU) (gu : List GU) H', Bag H a (n + 2000) [] (lM l lp lq lg pl pu gu) H' → PlOk ⟨pl, sn pu, sn gu⟩ most more → Q (.ref l) H'
/-- the text of a drawn net -/
def sp_grid : Sp := fun vs H Q _ => ∃ (l : Addr) (M : Mod) (most more : Nat), vs = [.ref l] ∧ MdAt H l M ∧ PlOk M most more ∧ most ≤ 12 ∧ more ≤ 12 ∧ ∀ H', Same H H' → Q (.str (netT M.ps M.ms)) H'
end RV
/-! Forests of pipes. -/
namespace RV
section
variable {α : Type} {st en : Nat → α}
/-- pipes of S lead from u to v -/
inductive Cn (st en : Nat → α) (S : Nat → Prop) : α → α → Prop
  | nil {u} : Cn st en S u u
  | fwd {u k} : Cn st en S u (st k) → S k → Cn st en S u (en k)
  | bwd {u k} : Cn st en S u (en k) → S k → Cn st en S u (st k)
variable {S T : Nat → Prop} {u v w : α} {k : Nat}
/-- S without k -/
def dropS (S : Nat → Prop) (k : Nat) : Nat → Prop := fun j => S j ∧ j ≠ k
def addS (S : Nat → Prop) (k : Nat) : Nat → Prop := fun j => S j ∨ j = k
/-- no ring -/
def Fo (st en : Nat → α) (S : Nat → Prop) : Prop := ∀ k, S k → ¬ Cn st en (dropS S k) (st k) (en k)
end
/-! ### weights -/
/-- what the indexes below n with p weigh -/
def wS (fee : Nat → Int) (p : Nat → Bool) : Nat → Int
  | 0 => 0
  | n + 1 => wS fee p n + if p n then fee n else 0
def cS (p : Nat → Bool) : Nat → Nat
  | 0 => 0
  | n + 1 => cS p n + if p n then 1 else 0
section
variable {fee : Nat → Int} {p q : Nat → Bool}
/-- one index changes -/
def setB (p : Nat → Bool) (f : Nat) (b : Bool) : Nat → Bool := fun k => if k = f then b else p k
end
end RV
/-! What pipes reach, round by round; sets of indexes. -/
namespace RV
section
variable {st en : Nat → Nat} {kept keys : List Nat} {k : Nat}
/-- the places reached, one more pipe looked at -/
def stepK (st en : Nat → Nat) (keys : List Nat) (k : Nat) : List Nat :=
  if st k ∈ keys ∧ en k ∉ keys then keys ++ [en k] else if en k ∈ keys ∧ st k ∉ keys then keys ++ [st k] else keys
def roundsK (st en : Nat → Nat) (kept : List Nat) (first : Nat) : Nat → List Nat
  | 0 => [first]
  | r + 1 => kept.foldl (stepK st en) (roundsK st en kept first r)
def closK (st en : Nat → Nat) (kept keys : List Nat) : Prop := ∀ k ∈ kept, (st k ∈ keys ↔ en k ∈ keys)
def inK (st en : Nat → Nat) (kept keys : List Nat) : Nat := (kept.filter fun k => decide (st k ∈ keys) && decide (en k ∈ keys)).length
end
/-! ### sets of so many -/
def setsF (items : List Nat) (size : Nat) : List (List Nat) := items.foldl (fun acc it => acc ++ (acc.filter fun o => decide (o.length < size)).map (· ++ [it])) [[]]
/-- how long they are -/
def lensF : Nat → Nat → List Nat
  | 0, _ => [0]
  | m + 1, size => lensF m size ++ ((lensF m size).filter fun o => decide (o < size)).map (· + 1)
end RV
/-! Things that change and things that stand, without a well; ways in a dict. -/
namespace RV
open PySem L2 TL
structure Cel (H0 : Hp) (M F : List (Addr × HO)) (H : Hp) : Prop where
  sm : Same H0 H
  m : ∀ p ∈ M, H0 p.1 = none ∧ H p.1 = some p.2
  md : (M.map (·.1)).Nodup
  f : ∀ q ∈ F, H q.1 = some q.2 ∧ ∀ p ∈ M, q.1 ≠ p.1
section
variable {H0 H H' : Hp} {p : Addr} {M F F' : List (Addr × HO)} {o o' : HO}
theorem Cel.start (H : Hp) : Cel H [] [] H := ⟨Same.refl H, (fun _ h => nomatch h), .nil, fun _ h => nomatch h⟩
theorem Cel.same (h : Cel H0 M F H) (g : Same H H') : Cel H0 M F H' := ⟨h.sm.trans g, fun p hp => ⟨(h.m p hp).1, g _ _ (h.m p hp).2⟩, h.md, fun q hq => ⟨g _ _ (h.f q hq).1, (h.f q hq).2⟩⟩
theorem Cel.new (h : Cel H0 M F H) (np : H p = none) : Cel H0 M ((p, o) :: F) (upd H p o) := by
  have h1 := h.same (H' := upd H p o) fun b u e => (upd_ne (ne_of_none e np)).trans e
  refine ⟨h1.sm, h1.m, h1.md, fun q hq => ?_⟩
  rcases List.mem_cons.mp hq with rfl | hq
  · exact ⟨upd_same, fun r hr => (ne_of_none (h.m r hr).2 np).symm⟩
  · exact h1.f q hq
theorem Cel.at (h : Cel H0 M F H) (hp : (p, o) ∈ F) : H p = some o := (h.f _ hp).1
end
/-! ### pipes by index -/
def stQ (qs : List Q3) (k : Nat) : Nat := (qs.getD k ("", 0, 0)).2.1
def enQ (qs : List Q3) (k : Nat) : Nat := (qs.getD k ("", 0, 0)).2.2
/-! ### ways in a dict -/
abbrev SU := Addr × Nat × Int
abbrev WU := Nat × Addr × List SU
def kvW (rs : List WU) : List (Key × V) := rs.map fun r => (.inl (r.1 : Int), .ref r.2.1)
def oS (s : SU) : HO := .tup [.int (s.2.1 : Int), .int s.2.2]
def ledW (rs : List WU) : List (Addr × HO) := rs.flatMap fun r => (r.2.1, HO.lst (rf r.2.2)) :: r.2.2.map fun s => (s.1, oS s)
/-- the ways found so far: their steps are pipes below n, at most t of them -/
structure WaysOk (n t : Nat) (rs : List WU) : Prop where
  st : ∀ r ∈ rs, ∀ s ∈ r.2.2, s.2.1 < n
  ln : ∀ r ∈ rs, r.2.2.length ≤ t
  all : rs.length ≤ t + 1
def sp_path (K : PySem.W.Frag) : Sp := fun vs H Q _ => ∃ (lt lk : Addr) (pu : List QU) (kept : List Nat) (first last : Nat), vs = [.ref lt, .ref lk, .int (first : Int), .int (last : Int)] ∧ SqL K H lt (rf pu) ∧ (∀ u ∈ pu, H u.1 = some (oQ u.2)) ∧ SqL K H lk (kept.map vI) ∧ kept.length ≤ 12 ∧ pu.length ≤ 12 ∧ (∀ k ∈ kept, k < pu.length) ∧
  ∀ H', Same H H' → (¬ Cn (stQ (sn pu)) (enQ (sn pu)) (· ∈ kept) first last → Q .non H') ∧ ∀ (w : Addr) (ss : List SU), Cn (stQ (sn pu)) (enQ (sn pu)) (· ∈ kept) first last → H' w = some (.lst (rf ss)) → (∀ s ∈ ss, H' s.1 = some (oS s) ∧ s.2.1 < pu.length) → ss.length ≤ 200 → Q (.ref w) H'
/-- rings of pipes: none exactly if there are none -/
def sp_rings (K : PySem.W.Frag) : Sp := fun vs H Q _ => ∃ (lt : Addr) (pu : List QU), vs = [.ref lt] ∧ SqL K H lt (rf pu) ∧ (∀ u ∈ pu, H u.1 = some (oQ u.2)) ∧ pu.length ≤ 12 ∧
  ∀ (l : Addr) (xs : List V) H', Same H H' → H l = none → H' l = some (.lst xs) → (xs = [] ↔ Fo (stQ (sn pu)) (enQ (sn pu)) (· < pu.length)) → Q (.ref l) H'
end RV
/-! sorted of a list of at most one thing. -/
namespace RV
open PySem L2 PySem.Spec PyProof.Rows TL
section
variable {q : Program} {w : World} {B : Around} {F : Value → Shared → Prop} {z : Shared}
end
def rSortF (K : PySem.W.Frag) : List V → Hp → VK → Prop := fun vs H Q => ∃ (a : Addr) (xs : List V), vs = [V.ref a] ∧ SqL K H a xs ∧ xs.length ≤ 1 ∧ ∀ p, H p = none → Q (.ref p) (upd H p (.lst xs))
end RV
/-! sets of so many of some indexes -/
namespace RV
open PySem L2 TL
abbrev LU := Addr × List Nat
/-- the rows, as tuples -/
def sp_sets (K : PySem.W.Frag) : Sp := fun vs H Q _ => ∃ (li : Addr) (items : List Nat) (size : Nat), vs = [.ref li, .int (size : Int)] ∧ SqL K H li (items.map vI) ∧ items.Pairwise (· < ·) ∧ items.length ≤ 7 ∧ size ≤ 7 ∧ (∀ k ∈ items, k < 12) ∧
  ∀ (l : Addr) (os : List LU) H', Same H H' → H' l = some (.lst (rf os)) → (∀ u ∈ os, H' u.1 = some (.tup (u.2.map vI))) → (∀ o, o ∈ sn os ↔ o ∈ setsF items size ∧ o.length = size) → Q (.ref l) H'
/-- what is made and stands -/
def ledL (os : List LU) : List (Addr × HO) := os.map fun u => (u.1, HO.lst (u.2.map vI))
end RV
/-! Whether rings without meters are left; the least price. -/
namespace RV
open PySem L2 PyProof.Rows TL
def rNeE (K : PySem.W.Frag) : R2 := fun x y H Q => ∃ a b xs, x = .ref a ∧ y = .ref b ∧ SqL K H a xs ∧ SqL K H b [] ∧ Q (.bl (!xs.isEmpty)) H
section
variable {X : Cx}
theorem op_neE (hu : X.A.units < cLine) : OpR X (compareOp .NotEq) (rNeE X.K) := by
  intro pins s σ H x y v u Q I rx ry h
  obtain ⟨a, b, xs, rfl, rfl, ha, hb, q⟩ := h
  cases rx
  cases ry
  obtain ⟨its, rv, ⟨⟨cls, dd, data, sl⟩, n, ho, hc, hdn, hd⟩, _⟩ := I.list ha
  obtain ⟨its2, rv2, ⟨⟨cls2, dd2, data2, sl2⟩, n2, ho2, hc2, hdn2, hd2⟩, _⟩ := I.list hb
  simp only at hc hd hc2 hd2
  subst hc hd hc2 hd2
  cases rv2
  have hl1 : s.heap.IsList a its.toArray := ⟨_, ho, rfl, _, rfl⟩
  have hl2 : s.heap.IsList b ([] : List Value).toArray := ⟨_, ho2, rfl, _, rfl⟩
  cases rv with
  | nil => exact SeqAt.RcNeAt.lists (e := fun _ => true) hl1 hl2 rfl hu (fun j h1 => absurd h1 (by simp)) _ _ _ _ ⟨.bl false, H, I, rfl, q⟩
  | cons r t => exact SeqAt.RcNeAt.lists_lengths hl1 hl2 (by simp) hu _ _ _ _ ⟨.bl true, H, I, rfl, q⟩
end
section
variable {st en : Nat → Nat} {f : Nat → Nat} {S : Nat → Prop} {u v : Nat}
end
def metL (M : Mod) : List Nat := M.gs.map (·.2.1)
/-- the pipes without meters that are not chosen -/
def leftS (M : Mod) (ch : List Nat) : Nat → Prop := fun k => k < M.qs.length ∧ k ∉ metL M ∧ k ∉ ch
def FoC (M : Mod) (ch : List Nat) : Prop := Fo (stQ M.qs) (enQ M.qs) (leftS M ch)
def leftL (M : Mod) (ch : List Nat) : List Nat := (List.range M.qs.length).filter fun k => !decide (k ∈ metL M) && !decide (k ∈ ch)
def sp_open (K : PySem.W.Frag) : Sp := fun vs H Q _ => ∃ (l c : Addr) (M : Mod) (most more : Nat) (ch : List Nat), vs = [.ref l, .ref c] ∧ MdAt H l M ∧ PlOk M most more ∧ most ≤ 12 ∧ more ≤ 12 ∧ (SqL K H c (ch.map vI) ∨ SqT K H c (ch.map vI)) ∧
  ∀ (b : Bool) H', Same H H' → (b = true ↔ ¬ FoC M ch) → Q (.bl b) H'
end RV
/-! The least price by all sets. -/
namespace RV
open PySem L2 TL
def bareL (M : Mod) : List Nat := (List.range M.qs.length).filter fun k => !decide (k ∈ metL M)
def priceF (fees : List Int) (o : List Nat) : Int := (o.map fun k => fees.getD k 0).sum
/-- sets that were tried: of fewer than z -/
def triedF (M : Mod) (z : Nat) (o : List Nat) : Prop := ∃ s, s < z ∧ o ∈ setsF (bareL M) s ∧ o.length = s
/-- what was found among the tried ones -/
def LeastF (M : Mod) (fees : List Int) (D : List Nat → Prop) (fl : List Int) : Prop :=
  (fl = [] ∧ ∀ o, D o → ¬ FoC M o) ∨ ∃ v, fl = [v] ∧ (∃ o, D o ∧ FoC M o ∧ v = priceF fees o) ∧ ∀ o, D o → FoC M o → v ≤ priceF fees o
section
variable {M : Mod} {fees fl : List Int} {D D' : List Nat → Prop}
end
def sp_least (K : PySem.W.Frag) : Sp := fun vs H Q _ => ∃ (l lf : Addr) (M : Mod) (most more : Nat) (fees : List Int), vs = [.ref l, .ref lf] ∧ MdAt H l M ∧ PlOk M most more ∧ most ≤ 7 ∧ more ≤ 12 ∧ SqL K H lf (fees.map V.int) ∧ fees.length = M.qs.length ∧
  ∀ (v : Int) H', Same H H' → (∃ o, triedF M ((bareL M).length + 1) o ∧ FoC M o ∧ v = priceF fees o) → (∀ o, triedF M ((bareL M).length + 1) o → FoC M o → v ≤ priceF fees o) → Q (.int v) H'
end RV
/-! Pipes parted: those that join, those that close rings. -/
namespace RV
open PySem
section
variable {α β : Type} {st en : Nat → α} {g : α → β} {V : α → Prop} {S : Nat → Prop} {u v : α}
end
/-- marks when one more pipe joins its places -/
def mrg (mk : Str → Str) (a b : Str) : Str → Str := fun z => if mk z = mk a then mk b else mk z
abbrev SpS := (Str → Str) × List Nat × List Nat
def stpI (ps : List P3) (s : SpS) (i : Nat) : SpS :=
  if s.1 (pS ps i) = s.1 (pE ps i) then (s.1, s.2.1, s.2.2 ++ [i]) else (mrg s.1 (pS ps i) (pE ps i), s.2.1 ++ [i], s.2.2)
def splitI (ps : List P3) (I : List Nat) : SpS := I.foldl (stpI ps) (id, [], [])
/-- what parted pipes are -/
structure Parted (ps : List P3) (R : Nat → Nat → Prop) (I : List Nat) (s : SpS) : Prop where
  mem : ∀ i, i ∈ I ↔ i ∈ s.2.1 ∨ i ∈ s.2.2
  jn : ∀ x y, s.1 x = s.1 y ↔ Cn (pS ps) (pE ps) (· ∈ s.2.1) x y
  fo : Fo (pS ps) (pE ps) (· ∈ s.2.1)
  cl : ∀ c ∈ s.2.2, c ∉ s.2.1 ∧ Cn (pS ps) (pE ps) (fun k => k ∈ s.2.1 ∧ R k c) (pS ps c) (pE ps c)
  nd : s.2.2.Nodup
/-- the order of prices: dear ones first, equal ones by index -/
def OrdF (fees : List Int) (L : List Nat) : Prop := L.Perm (List.range fees.length) ∧ L.Pairwise fun i j => fees.getD j 0 < fees.getD i 0 ∨ (fees.getD i 0 = fees.getD j 0 ∧ i < j)
end RV
/-! Promises about prices and parted pipes. -/
namespace RV
open PySem L2 TL
def sp_chkpr (K : PySem.W.Frag) (CN CP CM : Addr) : Sp := fun vs H Q _ => ∃ (x t : Addr) (ps : List P3) (ms : List M3) (fees : List Int), vs = [.ref x, .ref t] ∧ NetR K CN CP CM H x ps ms ∧ SqT K H t (fees.map V.int) ∧ fees.length = ps.length ∧ (∀ f ∈ fees, 0 ≤ f) ∧ ∀ H', Same H H' → Q .non H'
/-- marks of places, as a dict -/
def mkD (zs : List Str) (mk : Str → Str) : List (Key × V) := zs.map fun z => (.inr z, .str (mk z))
def sp_mrgd (CP : Addr) : Sp := fun vs H Q _ => ∃ (d a : Addr) (zs : List Str) (mk : Str → Str) (q : P3), vs = [.ref d, .ref a] ∧ H d = some (.dK (mkD zs mk)) ∧ zs.Nodup ∧ zs.length ≤ 30 ∧ q.2.1 ∈ zs ∧ q.2.2 ∈ zs ∧ PipeAt CP H a q ∧
  ∀ (d' : Addr) H', Same H H' → H' d' = some (.dK (mkD zs (mrg mk q.2.1 q.2.2))) → Q (.ref d') H'
abbrev puD : PU := (0, ("", "", ""))
/-- parted pipes: lists of those that join, of those that close rings -/
def sp_split (K : PySem.W.Frag) (CN CP CM : Addr) : Sp := fun vs H Q _ => ∃ (x lp : Addr) (pu : List PU) (ms : List M3) (I : List Nat), vs = [.ref x, .ref lp] ∧ NetR K CN CP CM H x (sn pu) ms ∧ pu.length ≤ 12 ∧ (∀ u ∈ pu, PipeAt CP H u.1 u.2) ∧ H lp = some (.lst (I.map fun i => .ref (pu.getD i puD).1)) ∧ I.length ≤ 12 ∧ (∀ i ∈ I, i < pu.length) ∧
  ∀ (t lk lc : Addr) H', Same H H' → H' t = some (.tup [.ref lk, .ref lc]) → H' lc = some (.lst ((splitI (sn pu) I).2.2.map fun i => .ref (pu.getD i puD).1)) → Q (.ref t) H'
end RV
/-! A dict made by a comprehension and given to a local name on one line. -/
namespace RV
open PySem L2 TL
section
variable {X : Cx}
end
end RV
/-! Numbered prices in their order. -/
namespace RV
open PySem L2 TL
/-- a pair's two numbers, where they stand -/
def kH (H : Hp) : V → Int × Int
  | .ref a => match H a with
    | some (.tup [.int x, .int y]) => (x, y)
    | _ => (0, 0)
  | _ => (0, 0)
section
variable {K : PySem.W.Frag} {a : Addr}
/-- the i-th numbered thing -/
def YEn (xs : List V) : Nat → Hp → V → Hp → Prop := fun i H v H' => ∃ (T : Addr) (x : V), v = .ref T ∧ H T = none ∧ H' = upd H T (.tup [.int (i : Nat), x]) ∧ xs[i]? = some x
end
open PySem.Spec PyProof.Rows in
/-- names of the cheapest pipes -/
abbrev ascS (ys : List Str) : Prop := sortedS ys = true
/-- pipes parted by their prices -/
def barP (ps : List P3) (ms : List M3) (i : Nat) : Bool := decide (onP ms (pN ps i) = [])
def sp_byp (K : PySem.W.Frag) (CN CP CM : Addr) : Sp := fun vs H Q _ => ∃ (x t : Addr) (ps : List P3) (ms : List M3) (fees : List Int), vs = [.ref x, .ref t] ∧ NetR K CN CP CM H x ps ms ∧ SqT K H t (fees.map V.int) ∧ fees.length = ps.length ∧ ps.length ≤ 12 ∧ ms.length ≤ 12 ∧
  ∀ (tt lk lc : Addr) (pu : List PU) (L : List Nat) H', Same H H' → OrdF fees L → sn pu = ps → (∀ u ∈ pu, PipeAt CP H' u.1 u.2) → H' tt = some (.tup [.ref lk, .ref lc]) → H' lc = some (.lst ((splitI ps (L.filter (barP ps ms))).2.2.map fun i => .ref (pu.getD i puD).1)) → Q (.ref tt) H'
def sp_cheap (K : PySem.W.Frag) (CN CP CM : Addr) : Sp := fun vs H Q _ => ∃ (x t : Addr) (ps : List P3) (ms : List M3) (fees : List Int), vs = [.ref x, .ref t] ∧ NetR K CN CP CM H x ps ms ∧ SqT K H t (fees.map V.int) ∧ fees.length = ps.length ∧ ps.length ≤ 12 ∧ ms.length ≤ 12 ∧ (∀ f ∈ fees, 0 ≤ f) ∧
  ∀ (d : Addr) (L : List Nat) (ys : List Str) H', Same H H' → OrdF fees L → ys.Perm ((splitI ps (L.filter (barP ps ms))).2.2.map (pN ps)) → ascS ys → H' d = some (.tup (ys.map V.str)) → Q (.ref d) H'
end RV
/-! The cheapest pipes: what is left has no ring, each is wanted, none are cheaper. -/
namespace RV
open PySem L2
section
variable {fees : List Int}
end
section
variable {M : Mod} {most more : Nat} {fees : List Int} {L : List Nat}
/-- what the pipes that close rings are -/
structure ToldC (M : Mod) (fees : List Int) (C : List Nat) : Prop where
  lt : ∀ c ∈ C, c < M.qs.length ∧ c ∉ metL M
  nd : C.Nodup
  fo : FoC M C
  ne : ∀ c ∈ C, ∀ D : List Nat, (∀ k, k ∈ D ↔ k ∈ C ∧ k ≠ c) → ¬ FoC M D
  le : ∀ o, triedF M ((bareL M).length + 1) o → FoC M o → priceF fees C ≤ priceF fees o
  ex : ∃ o, triedF M ((bareL M).length + 1) o ∧ FoC M o ∧ priceF fees o = priceF fees C
end
end RV
set_option linter.all false
/-! set(tuple of texts). -/
namespace RV
open PySem L2 PySem.Spec PyProof.Rows
section
variable {P : Program} {w : World} {A : Around} {E : Value → Shared → Prop} {s : Shared}
set_option maxHeartbeats 8000000 in
end
section
variable {X : Cx}
def rSetST (K : PySem.W.Frag) (P : Program) (w : World) : List V → Hp → VK → Prop := fun vs H Q => ∃ (l : Addr) (xs : List Str), vs = [V.ref l] ∧ SqT K H l (xs.map V.str) ∧ xs.length < 4000 ∧
  ∀ a n, H a = none → n ≤ xs.length → Q (.ref a) (upd H a (SetT P w a (fun x => decide (x ∈ xs)) n))
end
end RV
/-! What _law_right looks at. -/
namespace RV
open PySem L2
/-- one told row: names of pipes in order, of the pipes C -/
def ToldR (M : Mod) (fees : List Int) (ys : List Str) : Prop := ∃ C, ToldC M fees C ∧ ys.Perm (C.map (pN M.ps)) ∧ ascS ys
theorem perm_back {α β : Type} [DecidableEq α] {f : α → β} : ∀ {ys : List β} {C : List α}, ys.Perm (C.map f) → ∃ S : List α, S.Perm C ∧ ys = S.map f
  | [], C, h => by
    have := h.symm.eq_nil
    rw [List.map_eq_nil_iff] at this
    exact ⟨[], by rw [this], rfl⟩
  | y :: ys, C, h => by
    obtain ⟨c, hc, rfl⟩ := List.mem_map.mp (h.mem_iff.mp List.mem_cons_self)
    have p := List.perm_cons_erase hc
    have h2 : (f c :: ys).Perm (f c :: (C.erase c).map f) := h.trans (p.map f)
    obtain ⟨S, hS, rfl⟩ := perm_back h2.cons_inv
    exact ⟨c :: S, (hS.cons c).trans p.symm, rfl⟩
section
variable {M : Mod} {most more : Nat} {fees : List Int} {ys : List Str}
end
end RV
/-! The law's own nets. -/
namespace RV
open PySem L2
def psA : List P3 := [("src", "o", "a"), ("left", "a", "b"), ("right", "a", "c"), ("lout", "b", "o"), ("rout", "c", "o")]
def msB : List M3 := [("m", "src", true)]
def psC : List P3 := [("p", "a", "b")]
def psD : List P3 := [("p", "a", "b"), ("q", "b", "a")]
def msE : List M3 := [("m", "q", false)]
abbrev txA : Str := "pipe src o a\npipe left a b\npipe right a c\npipe lout b o\npipe rout c o"
abbrev txm : Str := "\nmeter m src sealed"
abbrev txC : Str := "pipe p a b"
abbrev txD : Str := "pipe p a b\npipe q b a"
abbrev txE : Str := "pipe p a b\npipe q b a\nmeter m q"
section
variable {L : List Nat} {ys : List Str}
end
/-! ### told rows as data -/
def dT (xs : List Str) : PyData := .tuple (xs.map PyData.str)
def tl5 : PyData := .list [dT [("lout" : Str), ("right" : Str)], dT [("left" : Str)], dT [], dT [("p" : Str)], dT []]
end RV
/-! sorted of pairs of a text and an integer. -/
namespace RV
open PySem L2 PySem.Spec PyProof.Rows TL
/-- the first column holds texts, the others integers -/
def shTI : Nat → Bool := fun i => decide (i = 0)
/-- a pair of a text and an integer, where it stands -/
structure PairAt (h : Heap) (v : Value) (q : Str × Int) : Prop where
  ex : ∃ (a : Addr) (o : Obj) (t1 t2 : Tok) (n : Nat), v = .ref a ∧ h.get? a = some o ∧ o.cls = .type "tuple" ∧ o.data = .seq #[.str q.1 t1, .int q.2 t2] n
theorem PairAt.key {h : Heap} {v : Value} {q : Str × Int} (p : PairAt h v q) : G.tupKeyC h shTI v = some [Sum.inr q.1.cps.toList, Sum.inl q.2] := by
  obtain ⟨a, o, t1, t2, n, rfl, ho, hc, hd⟩ := p.ex
  have e : G.isTupObj h (.ref a) = true := by
    rw [G.isTupObj, ho]
    dsimp only
    rw [hc]
    rfl
  rw [G.tupKeyC, if_pos e, tupKey, ho]
  dsimp only
  rw [hd]
  rfl
theorem PairAt.tup {h : Heap} {v : Value} {q : Str × Int} (p : PairAt h v q) : ∃ f, TupOf h shTI v f := by
  obtain ⟨a, o, t1, t2, n, rfl, ho, hc, hd⟩ := p.ex
  exact ⟨.str q.1 t1, a, o, _, n, rfl, ho, hc, hd, rfl, (fun z => by cases z), (fun _ => ⟨_, _, rfl⟩)⟩
theorem pairs_tups {h : Heap} : ∀ {vs : List Value}, (∀ v ∈ vs, ∃ q, PairAt h v q) → ∃ fs, TupsOf h shTI vs fs
  | [], _ => ⟨[], .nil⟩
  | v :: vs, k => by
    obtain ⟨q, p⟩ := k v List.mem_cons_self
    obtain ⟨f, t⟩ := p.tup
    obtain ⟨fs, r⟩ := pairs_tups fun u hu => k u (List.mem_cons_of_mem _ hu)
    exact ⟨f :: fs, .cons t r⟩
def rSortTI (K : PySem.W.Frag) : List V → Hp → VK → Prop := fun vs H Q => ∃ (a : Addr) (xs : List V) (k : V → Str × Int), vs = [V.ref a] ∧ SqL K H a xs ∧ (∀ x ∈ xs, ∃ t, x = V.ref t ∧ H t = some (.tup [.str (k x).1, .int (k x).2])) ∧
  ∀ ys p, ys.Perm xs → ys.Pairwise (fun x y => ¬ Lt (k y).1 (k x).1) → H p = none → Q (.ref p) (upd H p (.lst ys))
theorem cr_sortTI {X : Cx} : CallR X (.builtin "sorted") (rSortTI X.K) := by
  intro pins s σ H vs us Q I rel h
  obtain ⟨a, xs, k, rfl, hs, hx, q⟩ := h
  obtain ⟨its, rv, hl, sz⟩ := I.list hs
  rw [Vals.ref1 rel]
  obtain ⟨e1, e2⟩ := refs_back rv fun x m => by
    obtain ⟨t, e, _⟩ := hx x m
    exact ⟨t, e⟩
  have pr : ∀ v ∈ its, PairAt s.heap v (k (backV v)) := fun v hv => by
    obtain ⟨t, rfl⟩ := e2 v hv
    have hm : V.ref t ∈ xs := by
      rw [e1]
      exact List.mem_map.mpr ⟨_, hv, rfl⟩
    obtain ⟨t', e, ht⟩ := hx _ hm
    cases e
    obtain ⟨_, its2, r2, o, ho, hc, n, hd⟩ := I.hok _ _ ht
    obtain ⟨u1, u2, rfl, ri, rj⟩ := vals2 r2
    obtain ⟨t1, rfl⟩ := ri
    obtain ⟨t2, rfl⟩ := rj
    exact ⟨t, o, t1, t2, n, rfl, ho, hc, hd⟩
  obtain ⟨fs, ht⟩ := pairs_tups fun v hv => ⟨_, pr v hv⟩
  refine G.sorted_tups hl.isList ht (fun v hv => ⟨_, (pr v hv).key⟩) (by rw [← rv.length]; exact sz) fun st pm so _ => ?_
  have pl : (arrOf st).toList.Perm (its.zip its) := by
    have := Array.perm_iff_toList_perm.mp pm
    rwa [pairsOf_toList] at this
  have same : ∀ z ∈ (arrOf st).toList, z.1 = z.2 ∧ z.1 ∈ its := fun z hz => mem_zip_self (pl.mem_iff.mp hz)
  have pm2 : ((arrOf st).toList.map (·.2)).Perm its := by
    have := pl.map Prod.snd
    rwa [List.map_snd_zip (Nat.le_refl _)] at this
  obtain ⟨ep, here⟩ := sortedAll_at s.heap its (Array.map (fun x => x.snd) (arrOf st))
  have asz : (arrOf st).size = (pairsOf its).size := pm.size_eq
  have r3 : ∀ u ∈ (arrOf st).toList.map (·.2), ∃ b, u = Value.ref b := fun u hu => e2 u (pm2.mem_iff.mp hu)
  have ord : (((arrOf st).toList.map (·.2)).map backV).Pairwise fun x y => ¬ Lt (k y).1 (k x).1 := by
    rw [List.map_map, List.pairwise_map, List.pairwise_iff_getElem]
    intro i j hi hj lt hlt
    have kk : ∀ m (hm : m < (arrOf st).toList.length), KK (G.tupKindC s.heap shTI) (arrOf st) m = [Sum.inr (k (backV ((arrOf st).toList[m]).2)).1.cps.toList, Sum.inl (k (backV ((arrOf st).toList[m]).2)).2] := fun m hm => by
      have hm2 : m < (arrOf st).size := by rw [← Array.length_toList]; exact hm
      obtain ⟨a1, a2⟩ := same _ (List.getElem_mem hm)
      have kp := (pr _ a2).key
      have el : (arrOf st).toList[m] = (arrOf st)[m] := rfl
      rw [KK, Array.getElem?_eq_getElem hm2]
      show ((G.tupKindC s.heap shTI).keyOf (arrOf st)[m].1).getD _ = _
      rw [← el]
      show (G.tupKeyC s.heap shTI ((arrOf st).toList[m]).1).getD [] = _
      rw [kp, ← a1]
      rfl
    have h1 := so i j (Nat.le_of_lt lt) (by rw [← asz, ← Array.length_toList]; exact hj)
    rw [kk i hi, kk j hj] at h1
    have h2 : (decide ((k (backV ((arrOf st).toList[j]).2)).1.cps.toList < (k (backV ((arrOf st).toList[i]).2)).1.cps.toList) || _) = false := h1
    rw [Bool.or_eq_false_iff] at h2
    have h3 := of_decide_eq_false h2.1
    have hlt : ltCps _ _ = true := hlt
    rw [ltCps_eq] at hlt
    exact h3 (of_decide_eq_true hlt)
  refine ⟨.ref _, upd H (s.heap.objs.size + 1) (.lst (((arrOf st).toList.map (·.2)).map backV)), I.laid (t' := s.toks) (fun _ _ => sortedAll_old) (Nat.le_succ _) ⟨?_, (arrOf st).toList.map (·.2), ep, vals_back r3, ?_⟩, rfl, q _ _ ?_ ord (I.hok.fresh (Nat.le_succ _))⟩
  · rw [List.length_map, pm2.length_eq, ← rv.length]
    exact sz
  · have ea : (List.map (fun x => x.snd) (arrOf st).toList).toArray = Array.map (fun x => x.snd) (arrOf st) := by
      rw [← Array.toList_map]
    rw [ea]
    exact here
  · rw [e1]
    exact pm2.map backV
end RV
/-! Drawn numbers and sums of the laws about rules. -/
namespace RV
open PySem L2 TL
/-- a number that is not 0, not greater than wide (or 12) -/
def sp_tms : Sp := fun vs H Q _ => ∃ (a : Addr) (n : Nat) (wide : Int), vs = [.ref a, .int wide] ∧ WellAt H a n ∧ n < 900000 ∧ 1 ≤ wide ∧
  ∀ (z : Int) H', z ≠ 0 → -(wide + 12) ≤ z → z ≤ wide + 12 → Grow a H H' → WellAt H' a (n + 2) → Q (.int z) H'
theorem Bag.tms {H0 H : Hp} {a : Addr} {n : Nat} {M F : List (Addr × HO)} {wide : Int} {Q : VK} {E : XK} (h : Bag H0 a n M F H) (hn : n < 900000) (w1 : 1 ≤ wide) (k : ∀ (z : Int) H', z ≠ 0 → -(wide + 12) ≤ z → z ≤ wide + 12 → Bag H0 a (n + 2) M F H' → Q (.int z) H') : Irr sp_tms [.ref a, .int wide] H Q E :=
  irr ⟨a, n, wide, rfl, h.well, hn, w1, fun z H' a1 a2 a3 g w => k z H' a1 a2 a3 (h.grow g w)⟩
/-- a drawn sum: pairs in order, none 0 -/
def sp_totl : Sp := fun vs H Q _ => ∃ (a lt : Addr) (n many : Nat) (wide : Int) (ts : List Str), vs = [.ref a, .ref lt, .int many, .int wide] ∧ WellAt H a n ∧ n < 800000 ∧ H lt = some (.lst (ts.map V.str)) ∧ lt ≠ a ∧ ts.length ≤ 20 ∧ many ≤ 10 ∧ 1 ≤ wide ∧
  ∀ (l : Addr) (us : List TP) H', Bag H a (n + 60) [] ((l, .lst (vP us)) :: lP us) H' → (∀ p ∈ (l, HO.lst (vP us)) :: lP us, H p.1 = none) → Nrm (prs us) → us.length ≤ many → (∀ u ∈ us, u.2.1 ∈ ts ∧ -(wide + 12) ≤ u.2.2 ∧ u.2.2 ≤ wide + 12) → Q (.ref l) H'
theorem nrm_sorted {us : List TP} (h : us.Pairwise fun u v => ¬ Lt v.2.1 u.2.1) (nd : (us.map fun u => u.2.1).Nodup) (n0 : ∀ u ∈ us, u.2.2 ≠ 0) : Nrm (prs us) := by
  refine ⟨?_, fun q hq => ?_⟩
  · have e : (prs us).map (·.1) = us.map fun u => u.2.1 := by
      rw [prs, List.map_map]
      rfl
    rw [e, List.pairwise_map]
    have nd2 : us.Pairwise fun u v => u.2.1 ≠ v.2.1 := List.pairwise_map.mp nd
    refine (h.and nd2).imp fun {u v} z => ?_
    cases c : PySem.Spec.ltCps (cd u.2.1) (cd v.2.1) with
    | true => exact c
    | false => exact absurd (cd_inj (lt_tri c (Bool.eq_false_iff.mpr z.1))) z.2
  · obtain ⟨u, hu, rfl⟩ := List.mem_map.mp hq
    exact n0 u hu
/-- a pair's text and number, where it stands -/
def kS (H : Hp) : V → Str × Int
  | .ref a => match H a with
    | some (.tup [.str x, .int y]) => (x, y)
    | _ => ("", 0)
  | _ => ("", 0)
theorem kS_at {H : Hp} {a : Addr} {x : Str} {y : Int} (h : H a = some (.tup [.str x, .int y])) : kS H (.ref a) = (x, y) := by
  rw [kS, h]
end RV
/-! Drawn steps of rules, in the heap and as data. -/
namespace RV
open PySem L2 TL
abbrev Prs := List (Str × Int)
/-- all stands but what lies at X -/
def GroX (X : List Addr) (H H' : Hp) : Prop := ∀ b o, b ∉ X → H b = some o → H' b = some o
theorem Grow.x {X : List Addr} {a : Addr} {H H' : Hp} (g : Grow a H H') (h : a ∈ X) : GroX X H H' := fun b o n e => g b o (fun z => n (z ▸ h)) e
theorem GroX.same {X : List Addr} {H H' : Hp} (s : Same H H') : GroX X H H' := fun b o _ e => s b o e
theorem GroX.upd {X : List Addr} {c : Addr} {H : Hp} {o : HO} (h : c ∈ X) : GroX X H (L2.upd H c o) := fun b u n e => (upd_ne (show b ≠ c from fun z => n (z ▸ h))).trans e
/-- a drawn sum that stands: a list of pairs, away from X -/
def SumL (X : List Addr) (H : Hp) (l : Addr) (qs : Prs) : Prop := ∃ us : List TP, (l ∉ X ∧ H l = some (.lst (vP us))) ∧ prs us = qs ∧ ∀ u ∈ us, u.1 ∉ X ∧ H u.1 = some (oP u.2)
structure SumOk (ts : List Str) (wide : Int) (qs : Prs) : Prop where
  nrm : Nrm qs
  mem : ∀ q ∈ qs, q.1 ∈ ts ∧ -(wide + 12) ≤ q.2 ∧ q.2 ≤ wide + 12
  len : qs.length ≤ 3
/-- a step of a rule -/
inductive Stp where
  | ifS (p q : Prs) (g : Nat)
  | voteS (n : Nat) (ss : List Prs)
  | tellS (p : Prs)
  | doubtS
/-- lists of sums that stand -/
def SumsL (X : List Addr) (H : Hp) : List Addr → List Prs → Prop
  | [], [] => True
  | l :: ls, q :: qs => SumL X H l q ∧ SumsL X H ls qs
  | _, _ => False
def StpL (X : List Addr) (H : Hp) (t : Addr) : Stp → Prop
  | .ifS p q g => ∃ l1 l2 : Addr, t ∉ X ∧ H t = some (.tup [.str "if", .ref l1, .ref l2, .int g]) ∧ SumL X H l1 p ∧ SumL X H l2 q
  | .voteS n ss => ∃ (l : Addr) (ls : List Addr), t ∉ X ∧ H t = some (.tup [.str "vote", .int n, .ref l]) ∧ (l ∉ X ∧ H l = some (.lst (ls.map V.ref))) ∧ SumsL X H ls ss
  | .tellS p => ∃ l : Addr, t ∉ X ∧ H t = some (.tup [.str "tell", .ref l]) ∧ SumL X H l p
  | .doubtS => t ∉ X ∧ H t = some (.tup [.str "doubt"])
section
variable {X : List Addr} {l t : Addr} {H H' : Hp} {qs : Prs}
theorem SumL.grow (h : SumL X H l qs) (g : GroX X H H') : SumL X H' l qs := by
  obtain ⟨us, ⟨n, e⟩, p, k⟩ := h
  exact ⟨us, ⟨n, g _ _ n e⟩, p, fun u hu => ⟨(k u hu).1, g _ _ (k u hu).1 (k u hu).2⟩⟩
theorem SumsL.grow (g : GroX X H H') : ∀ {ls : List Addr} {qs : List Prs}, SumsL X H ls qs → SumsL X H' ls qs
  | [], [], _ => trivial
  | _ :: _, _ :: _, h => ⟨h.1.grow g, SumsL.grow g h.2⟩
  | [], _ :: _, h => h.elim
  | _ :: _, [], h => h.elim
theorem SumsL.snoc {q : Prs} (h2 : SumL X H l q) : ∀ {ls : List Addr} {qs : List Prs}, SumsL X H ls qs → SumsL X H (ls ++ [l]) (qs ++ [q])
  | [], [], _ => ⟨h2, trivial⟩
  | _ :: _, _ :: _, h => ⟨h.1, SumsL.snoc h2 h.2⟩
  | [], _ :: _, h => h.elim
  | _ :: _, [], h => h.elim
theorem StpL.grow {st : Stp} (h : StpL X H t st) (g : GroX X H H') : StpL X H' t st := by
  cases st with
  | ifS p q n =>
    obtain ⟨l1, l2, n0, e, s1, s2⟩ := h
    exact ⟨l1, l2, n0, g _ _ n0 e, s1.grow g, s2.grow g⟩
  | voteS n ss =>
    obtain ⟨l, ls, n0, e, ⟨n1, e1⟩, s⟩ := h
    exact ⟨l, ls, n0, g _ _ n0 e, ⟨n1, g _ _ n1 e1⟩, s.grow g⟩
  | tellS p =>
    obtain ⟨l, n0, e, s⟩ := h
    exact ⟨l, n0, g _ _ n0 e, s.grow g⟩
  | doubtS => exact ⟨h.1, g _ _ h.1 h.2⟩
end
/-- what a rule's steps are: i of many -/
def StpOk (ts : List Str) (wide : Int) (i many : Nat) : Stp → Prop
  | .ifS p q g => SumOk ts wide p ∧ SumOk ts wide q ∧ i < g ∧ g < many
  | .voteS n ss => n ≤ 3 ∧ 1 ≤ ss.length ∧ ss.length ≤ 10 ∧ ∀ p ∈ ss, SumOk ts wide p
  | .tellS p => SumOk ts wide p
  | .doubtS => True
/-- the drawn tags and three sums of them -/
structure Someat (X : List Addr) (H : Hp) (lt ls : Addr) (ts : List Str) (wide : Int) : Prop where
  ta : lt ∉ X
  et : H lt = some (.lst (ts.map V.str))
  t20 : ts.length ≤ 20
  w1 : 1 ≤ wide
  na : ls ∉ X
  ex : ∃ (l0 l1 l2 : Addr) (q0 q1 q2 : Prs), H ls = some (.lst [.ref l0, .ref l1, .ref l2]) ∧ SumL X H l0 q0 ∧ SumL X H l1 q1 ∧ SumL X H l2 q2 ∧ SumOk ts wide q0 ∧ SumOk ts wide q1 ∧ SumOk ts wide q2
theorem Someat.grow {X : List Addr} {lt ls : Addr} {H H' : Hp} {ts : List Str} {wide : Int} (h : Someat X H lt ls ts wide) (g : GroX X H H') : Someat X H' lt ls ts wide := by
  obtain ⟨l0, l1, l2, q0, q1, q2, e, s0, s1, s2, o0, o1, o2⟩ := h.ex
  exact ⟨h.ta, g _ _ h.ta h.et, h.t20, h.w1, h.na, l0, l1, l2, q0, q1, q2, g _ _ h.na e, s0.grow g, s1.grow g, s2.grow g, o0, o1, o2⟩
/-- X lies there -/
def Laid0 (X : List Addr) (a : Addr) (H : Hp) : Prop := a ∈ X ∧ ∀ x ∈ X, H x ≠ none
theorem Laid0.off {X : List Addr} {a p : Addr} {H : Hp} (h : Laid0 X a H) (e : H p = none) : p ∉ X := fun m => h.2 p m e
def sp_pick : Sp := fun vs H Q _ => ∃ (a ls lt : Addr) (n : Nat) (wide : Int) (ts : List Str) (X : List Addr), vs = [.ref a, .ref ls, .ref lt, .int wide] ∧ WellAt H a n ∧ n < 700000 ∧ Laid0 X a H ∧ Someat X H lt ls ts wide ∧
  ∀ (l : Addr) (qs : Prs) H', Grow a H H' → WellAt H' a (n + 70) → SumL X H' l qs → SumOk ts wide qs → Q (.ref l) H'
def sp_lasts : Sp := fun vs H Q _ => ∃ (a ls lt : Addr) (n : Nat) (wide : Int) (ts : List Str) (X : List Addr), vs = [.ref a, .ref ls, .ref lt, .int wide] ∧ WellAt H a n ∧ n < 690000 ∧ Laid0 X a H ∧ Someat X H lt ls ts wide ∧
  ∀ (t : Addr) (st : Stp) H', Grow a H H' → WellAt H' a (n + 80) → StpL X H' t st → (∀ i many, StpOk ts wide i many st) → (st = .doubtS ∨ ∃ p, st = .tellS p) → Q (.ref t) H'
/-- what lies there goes on lying there -/
theorem Laid0.grow {X : List Addr} {a : Addr} {n : Nat} {H H' : Hp} (h : Laid0 X a H) (g : Grow a H H') (w : WellAt H' a n) : Laid0 X a H' := ⟨h.1, fun x hx e => by
  by_cases z : x = a
  · obtain ⟨p, q, r, e2, _⟩ := w
    rw [z, e2] at e
    cases e
  · cases e0 : H x with
    | none => exact h.2 x hx e0
    | some o =>
      rw [g x o z e0] at e
      cases e⟩
end RV
/-! Drawn lists of steps. -/
namespace RV
open PySem L2 TL
structure StpsL (X : List Addr) (H : Hp) (tl : List Addr) (sts : List Stp) : Prop where
  len : tl.length = sts.length
  each : ∀ (i : Nat) (t : Addr) (st : Stp), tl[i]? = some t → sts[i]? = some st → StpL X H t st
theorem StpsL.nil {X : List Addr} {H : Hp} : StpsL X H [] [] := ⟨rfl, fun _ _ _ h => nomatch h⟩
theorem StpsL.grow {X : List Addr} {H H' : Hp} {tl : List Addr} {sts : List Stp} (h : StpsL X H tl sts) (g : GroX X H H') : StpsL X H' tl sts := ⟨h.len, fun i t st a b => (h.each i t st a b).grow g⟩
theorem StpsL.snoc {X : List Addr} {H : Hp} {tl : List Addr} {sts : List Stp} {t : Addr} {st : Stp} (h : StpsL X H tl sts) (s : StpL X H t st) : StpsL X H (tl ++ [t]) (sts ++ [st]) := by
  refine ⟨by rw [List.length_append, List.length_append, h.len]; rfl, fun i u su hu hs => ?_⟩
  rcases Nat.lt_or_ge i tl.length with z | z
  · rw [List.getElem?_append_left z] at hu
    rw [List.getElem?_append_left (by rw [← h.len]; exact z)] at hs
    exact h.each i u su hu hs
  · rw [List.getElem?_append_right z] at hu
    rw [List.getElem?_append_right (by rw [← h.len]; exact z), ← h.len] at hs
    cases e : i - tl.length with
    | zero =>
      rw [e] at hu hs
      obtain rfl := Option.some.inj hu
      obtain rfl := Option.some.inj hs
      exact s
    | succ m => rw [e] at hu; cases hu
theorem SumL.less {X Y : List Addr} {H : Hp} {l : Addr} {qs : Prs} (h : SumL Y H l qs) (s : ∀ x ∈ X, x ∈ Y) : SumL X H l qs := by
  obtain ⟨us, ⟨n, e⟩, p, k⟩ := h
  exact ⟨us, ⟨fun m => n (s _ m), e⟩, p, fun u hu => ⟨fun m => (k u hu).1 (s _ m), (k u hu).2⟩⟩
theorem SumsL.less {X Y : List Addr} {H : Hp} (s : ∀ x ∈ X, x ∈ Y) : ∀ {ls : List Addr} {qs : List Prs}, SumsL Y H ls qs → SumsL X H ls qs
  | [], [], _ => trivial
  | _ :: _, _ :: _, h => ⟨h.1.less s, SumsL.less s h.2⟩
  | [], _ :: _, h => h.elim
  | _ :: _, [], h => h.elim
theorem StpL.less {X Y : List Addr} {H : Hp} {t : Addr} {st : Stp} (h : StpL Y H t st) (s : ∀ x ∈ X, x ∈ Y) : StpL X H t st := by
  cases st with
  | ifS p q n =>
    obtain ⟨l1, l2, n0, e, s1, s2⟩ := h
    exact ⟨l1, l2, fun m => n0 (s _ m), e, s1.less s, s2.less s⟩
  | voteS n ss =>
    obtain ⟨l, ls, n0, e, ⟨n1, e1⟩, z⟩ := h
    exact ⟨l, ls, fun m => n0 (s _ m), e, ⟨fun m => n1 (s _ m), e1⟩, z.less s⟩
  | tellS p =>
    obtain ⟨l, n0, e, z⟩ := h
    exact ⟨l, fun m => n0 (s _ m), e, z.less s⟩
  | doubtS => exact ⟨fun m => h.1 (s _ m), h.2⟩
theorem StpsL.less {X Y : List Addr} {H : Hp} {tl : List Addr} {sts : List Stp} (h : StpsL Y H tl sts) (s : ∀ x ∈ X, x ∈ Y) : StpsL X H tl sts := ⟨h.len, fun i t st a b => (h.each i t st a b).less s⟩
/-- how many sums there is room for -/
def roomN (left : Nat) : Nat := ((List.range 10).filter fun r => decide ((r + 1) * r ≤ left)).length
theorem room_ok : ∀ left < 91, ∀ c ≤ roomN left, c * (c - 1) ≤ left := by decide +kernel
theorem room_pos : ∀ left < 91, 1 ≤ roomN left := by decide +kernel
theorem room_10 (left : Nat) : roomN left ≤ 10 := by
  have := List.length_filter_le (fun r => decide ((r + 1) * r ≤ left)) (List.range 10)
  rwa [List.length_range] at this
/-- the last step tells or doubts -/
def EndOk (sts : List Stp) : Prop := ∃ st, sts.getLast? = some st ∧ (st = .doubtS ∨ ∃ p, st = .tellS p)
def sp_steps : Sp := fun vs H Q _ => ∃ (a lt : Addr) (n many : Nat) (wide : Int) (ts : List Str) (X : List Addr), vs = [.ref a, .ref lt, .int many, .int wide] ∧ WellAt H a n ∧ n < 600000 ∧ Laid0 X a H ∧ lt ∉ X ∧ H lt = some (.lst (ts.map V.str)) ∧ ts.length ≤ 20 ∧ 1 ≤ many ∧ many ≤ 8 ∧ 1 ≤ wide ∧
  ∀ (l : Addr) (tl : List Addr) (sts : List Stp) H', Grow a H H' → WellAt H' a (n + 20000) → l ∉ X → H' l = some (.lst (tl.map V.ref)) → StpsL X H' tl sts → sts.length ≤ many → (∀ (i : Nat) st, sts[i]? = some st → StpOk ts wide i sts.length st) → EndOk sts → Q (.ref l) H'
theorem Bag.dipG {H0 H : Hp} {a : Addr} {n : Nat} {M F : List (Addr × HO)} {q : Int} {Q : VK} {E : XK} (h : Bag H0 a n M F H) (hn : n < 1000000) (h0 : 0 < q) (h1 : q ≤ 10 ^ 60) (k : ∀ (r : Int) H', 0 ≤ r → r < q → Grow a H H' → Bag H0 a (n + 1) M F H' → Q (.int r) H') : Irr sp_dip [.ref a, .int q] H Q E :=
  irr ⟨a, q, n, rfl, h.well, hn, h0, h1, fun r H' r0 r1 g w => k r H' r0 r1 g (h.grow g w)⟩
/-- what stands while steps are drawn -/
structure Stand (X : List Addr) (a lt D : Addr) (ts : List Str) (wide : Int) (size : Nat) (tl : List Addr) (sts : List Stp) (H : Hp) : Prop where
  sl : StpsL X H tl sts
  so : ∀ (j : Nat) st, sts[j]? = some st → StpOk ts wide j size st
  lx : Laid0 X a H
  sm : Someat X H lt D ts wide
theorem Stand.grow {X : List Addr} {a lt D : Addr} {ts : List Str} {wide : Int} {size n : Nat} {tl : List Addr} {sts : List Stp} {H H' : Hp} (h : Stand X a lt D ts wide size tl sts H) (g : Grow a H H') (w : WellAt H' a n) : Stand X a lt D ts wide size tl sts H' :=
  ⟨h.sl.grow (g.x h.lx.1), h.so, h.lx.grow g w, h.sm.grow (g.x h.lx.1)⟩
/-- one more step, the list of steps written anew -/
theorem Stand.put {X : List Addr} {a lt D C t : Addr} {ts : List Str} {wide : Int} {size : Nat} {tl : List Addr} {sts : List Stp} {st : Stp} {H : Hp} {o : HO} (h : Stand X a lt D ts wide size tl sts H) (hC : C ∈ X) (s : StpL X H t st) (ok : StpOk ts wide sts.length size st) : Stand X a lt D ts wide size (tl ++ [t]) (sts ++ [st]) (upd H C o) := by
  have g : GroX X H (upd H C o) := GroX.upd hC
  refine ⟨(h.sl.snoc s).grow g, fun j su hj => ?_, ⟨h.lx.1, fun x hx e => ?_⟩, h.sm.grow g⟩
  · rcases Nat.lt_or_ge j sts.length with z | z
    · rw [List.getElem?_append_left z] at hj
      exact h.so j su hj
    · rw [List.getElem?_append_right z] at hj
      cases e : j - sts.length with
      | zero =>
        rw [e] at hj
        obtain rfl := Option.some.inj hj
        have : j = sts.length := by omega
        rw [this]
        exact ok
      | succ m => rw [e] at hj; cases hj
  · by_cases z : x = C
    · rw [z, upd_same] at e
      cases e
    · rw [upd_ne z] at e
      exact h.lx.2 x hx e
/-! ### one more thing that changes -/
section
variable {X : List Addr} {H : Hp} {d l t : Addr} {qs : Prs}
theorem off_more {p : Addr} {o : HO} (n : p ∉ X) (e : H p = some o) (f : H d = none) : p ∉ d :: X := fun m => (List.mem_cons.mp m).elim (fun z => by rw [z, f] at e; cases e) n
theorem SumL.more (h : SumL X H l qs) (f : H d = none) : SumL (d :: X) H l qs := by
  obtain ⟨us, ⟨n, e⟩, p, k⟩ := h
  exact ⟨us, ⟨off_more n e f, e⟩, p, fun u hu => ⟨off_more (k u hu).1 (k u hu).2 f, (k u hu).2⟩⟩
theorem SumsL.more (f : H d = none) : ∀ {ls : List Addr} {qs : List Prs}, SumsL X H ls qs → SumsL (d :: X) H ls qs
  | [], [], _ => trivial
  | _ :: _, _ :: _, h => ⟨h.1.more f, SumsL.more f h.2⟩
  | [], _ :: _, h => h.elim
  | _ :: _, [], h => h.elim
theorem StpL.more {st : Stp} (h : StpL X H t st) (f : H d = none) : StpL (d :: X) H t st := by
  cases st with
  | ifS p q n =>
    obtain ⟨l1, l2, n0, e, s1, s2⟩ := h
    exact ⟨l1, l2, off_more n0 e f, e, s1.more f, s2.more f⟩
  | voteS n ss =>
    obtain ⟨l, ls, n0, e, ⟨n1, e1⟩, z⟩ := h
    exact ⟨l, ls, off_more n0 e f, e, ⟨off_more n1 e1 f, e1⟩, z.more f⟩
  | tellS p =>
    obtain ⟨l, n0, e, z⟩ := h
    exact ⟨l, off_more n0 e f, e, z.more f⟩
  | doubtS => exact ⟨off_more h.1 h.2 f, h.2⟩
end
section
variable {X : List Addr} {a lt D c : Addr} {ts : List Str} {wide : Int} {size : Nat} {tl : List Addr} {sts : List Stp} {H : Hp}
/-- what changes at c, c among X or new -/
theorem Stand.upd (h : Stand X a lt D ts wide size tl sts H) (hc : c ∈ X) (o : HO) : Stand X a lt D ts wide size tl sts (upd H c o) := by
  have g : GroX X H (L2.upd H c o) := GroX.upd hc
  refine ⟨h.sl.grow g, h.so, ⟨h.lx.1, fun x hx e => ?_⟩, h.sm.grow g⟩
  by_cases z : x = c
  · rw [z, upd_same] at e
    cases e
  · rw [upd_ne z] at e
    exact h.lx.2 x hx e
theorem Stand.more (h : Stand X a lt D ts wide size tl sts H) (f : H c = none) (o : HO) : Stand (c :: X) a lt D ts wide size tl sts (L2.upd H c o) := by
  have g : GroX (c :: X) H (L2.upd H c o) := GroX.upd List.mem_cons_self
  obtain ⟨l0, l1, l2, q0, q1, q2, e, s0, s1, s2, o0, o1, o2⟩ := h.sm.ex
  have sm : Someat (c :: X) H lt D ts wide := ⟨off_more h.sm.ta h.sm.et f, h.sm.et, h.sm.t20, h.sm.w1, off_more h.sm.na e f, l0, l1, l2, q0, q1, q2, e, s0.more f, s1.more f, s2.more f, o0, o1, o2⟩
  have sl : StpsL (c :: X) H tl sts := ⟨h.sl.len, fun i t st a b => (h.sl.each i t st a b).more f⟩
  refine ⟨sl.grow g, h.so, ⟨List.mem_cons_of_mem _ h.lx.1, fun x hx e => ?_⟩, sm.grow g⟩
  by_cases z : x = c
  · rw [z, upd_same] at e
    cases e
  · rw [upd_ne z] at e
    exact h.lx.2 x ((List.mem_cons.mp hx).resolve_left z) e
theorem Stand.less (h : Stand (c :: X) a lt D ts wide size tl sts H) (ha : a ∈ X) : Stand X a lt D ts wide size tl sts H := by
  have s : ∀ x ∈ X, x ∈ c :: X := fun x hx => List.mem_cons_of_mem _ hx
  obtain ⟨l0, l1, l2, q0, q1, q2, e, s0, s1, s2, o0, o1, o2⟩ := h.sm.ex
  exact ⟨h.sl.less s, h.so, ⟨ha, fun x hx => h.lx.2 x (s x hx)⟩, ⟨fun m => h.sm.ta (s _ m), h.sm.et, h.sm.t20, h.sm.w1, fun m => h.sm.na (s _ m), l0, l1, l2, q0, q1, q2, e, s0.less s, s1.less s, s2.less s, o0, o1, o2⟩⟩
end
theorem walk_rg1 : Walk (Itr 1 10) (((List.range 10).map (· + 1)).map vI).length (fun _ => True) (YAt (((List.range 10).map (· + 1)).map vI)) := by
  have w := walk_range (lo := 1) (n := 10)
  refine ⟨fun i H hi _ => w.goes i H (by simpa using hi) trivial, fun H _ => by simpa using w.stops H trivial, fun i H x H' hi _ y => ?_⟩
  have hi : i < 10 := by simpa using hi
  obtain ⟨rfl, rfl⟩ := w.yields i H x H' hi trivial y
  refine ⟨rfl, ?_⟩
  rw [List.getElem?_map, List.getElem?_map, List.getElem?_range hi]
  show some (vI (i + 1)) = some (V.int (1 + (i : Int)))
  rw [vI]
  exact congrArg (fun z => some (V.int z)) (by omega)
theorem room_len (left : Nat) : ((((List.range 10).map (· + 1)).filter fun k => decide (k * (k - 1) ≤ left)).map vI).length = roomN left := by
  rw [List.length_map, List.filter_map, List.length_map]
  rfl
end RV
/-! Lines of rules. -/
namespace RV
open PySem L2 TL
theorem tot_le {b : Nat} : ∀ {qs : Prs}, (∀ q ∈ qs, q.2.natAbs ≤ b) → tot qs ≤ b * qs.length
  | [], _ => by simp [tot]
  | q :: qs, h => by
    have h1 := h q List.mem_cons_self
    have h2 := tot_le (b := b) (qs := qs) fun r hr => h r (List.mem_cons_of_mem _ hr)
    rw [tot] at h2 ⊢
    rw [List.map_cons, List.sum_cons, List.length_cons, Nat.mul_succ]
    omega
/-- a drawn sum is as Sum.read wants it -/
theorem SumOk.due {ts : List Str} {wide : Int} {qs : Prs} (h : SumOk ts wide qs) (hn : ∀ t ∈ ts, IsNm t) (hw : wide ≤ 10 ^ 20) : Due qs := by
  refine ⟨h.nrm, fun q hq => hn _ (h.mem q hq).1, ?_, Nat.le_trans h.len (by decide)⟩
  have t := tot_le (b := 10 ^ 20 + 12) (qs := qs) fun q hq => by
    have := h.mem q hq
    omega
  have l := h.len
  refine Nat.le_trans t (Nat.le_trans (Nat.mul_le_mul_left _ l) (by decide))
theorem SumsL.len {X : List Addr} {H : Hp} : ∀ {ls : List Addr} {qs : List Prs}, SumsL X H ls qs → ls.length = qs.length
  | [], [], _ => rfl
  | _ :: _, _ :: _, h => by rw [List.length_cons, List.length_cons, SumsL.len h.2]
  | [], _ :: _, h => h.elim
  | _ :: _, [], h => h.elim
theorem SumsL.at {X : List Addr} {H : Hp} : ∀ {ls : List Addr} {qs : List Prs}, SumsL X H ls qs → ∀ (j : Nat) l q, ls[j]? = some l → qs[j]? = some q → SumL X H l q
  | [], [], _, _, _, _, a, _ => nomatch a
  | l :: ls, q :: qs, h, j, l', q', a, b => by
    cases j with
    | zero =>
      obtain rfl := Option.some.inj a
      obtain rfl := Option.some.inj b
      exact h.1
    | succ j => exact SumsL.at h.2 j l' q' a b
  | [], _ :: _, h, _, _, _, _, _ => h.elim
  | _ :: _, [], h, _, _, _, _, _ => h.elim
/-- a step's line -/
def lineS : Stp → Str
  | .ifS p q g => "if " ++ txt p ++ " == " ++ txt q ++ " go " ++ num g
  | .voteS n ss => "vote " ++ num n ++ ": " ++ Txt.join ", " (ss.map txt)
  | .tellS p => "tell " ++ txt p
  | .doubtS => "doubt"
def sp_lineS : Sp := fun vs H Q _ => ∃ (t : Addr) (st : Stp) (X : List Addr) (ts : List Str) (wide : Int) (i many : Nat), vs = [.ref t] ∧ StpL X H t st ∧ StpOk ts wide i many st ∧ (∀ x ∈ ts, IsNm x) ∧ wide ≤ 10 ^ 20 ∧ many ≤ 8 ∧ ∀ H', Same H H' → Q (.str (lineS st)) H'
end RV
/-! Lines of rules, cut: at ' == ', at the last ' go ', at ': ' and ', '. -/
namespace RV
open PySem L2 TL PyProof.Rows
theorem pre_at {S l : List Nat} (h : pre S l = true) (j : Nat) (hj : j < S.length) : l[j]? = S[j]? := by
  have e : l.take S.length = S := eq_of_beq h
  have := congrArg (fun z => z[j]?) e
  simpa [List.getElem?_take, hj] using this
theorem cd_eqs : cd " == " = [32, 61, 61, 32] := by decide +kernel
theorem cd_go : cd " go " = [32, 103, 111, 32] := by decide +kernel
theorem cd_co : cd ": " = [58, 32] := by decide +kernel
theorem cd_cm : cd ", " = [44, 32] := by decide +kernel
/-- the sign that is not in the part stands second in the separator, the first is another -/
theorem free2 {s c : Nat} {S p q : List Nat} (h : c ∉ p) (hq : ∀ z, q.head? = some z → z ≠ c) : ∀ i, i < p.length → pre (s :: c :: S) ((p ++ q).drop i) = false := fun i hi => by
  cases e : pre (s :: c :: S) ((p ++ q).drop i) with
  | false => rfl
  | true =>
    exfalso
    have a := pre_at e 1 (by simp)
    rw [List.getElem?_drop] at a
    have a : (p ++ q)[i + 1]? = some c := by simpa using a
    rcases Nat.lt_or_ge (i + 1) p.length with z | z
    · rw [List.getElem?_append_left z] at a
      exact h (List.mem_of_getElem? a)
    · rw [List.getElem?_append_right z, show i + 1 - p.length = 0 by omega] at a
      exact hq c (by rw [List.head?_eq_getElem?]; exact a) rfl
theorem split_eqs {a b : Str} (ha : 61 ∉ tl a) (hb : 61 ∉ tl b) : Txt.split ((a ++ (" == " : Str)) ++ b) " == " = [a, b] := by
  have e : tl " == " = [32, 61, 61, 32] := cd_eqs
  refine map_tl_inj ?_
  rw [split_spl _ _ (by rw [e]; simp) (kind_ok (by decide +kernel)), tl_append, tl_append, List.append_assoc, e]
  rw [spl_part (by simp) (free2 ha (fun z hz => by simp at hz; omega)), spl_last (fun i hi => by
    have := free2 (s := 32) (S := [61, 32]) (q := []) hb (fun z hz => by simp at hz) i hi
    rwa [List.append_nil] at this)]
  rfl
theorem rpart_go {a d : Str} {c : Nat} (hd : tl d = [c]) : Txt.rpartition ((a ++ (" go " : Str)) ++ d) " go " = (a, (" go " : Str), d) := by
  have ey : tl " go " = [32, 103, 111, 32] := cd_go
  have hy : tl (" go " : Str) ≠ [] := by rw [ey]; simp
  have el : Str.length " go " = 4 := by decide +kernel
  generalize hx : (a ++ (" go " : Str)) ++ d = x
  have ex : tl x = tl a ++ ([32, 103, 111, 32] ++ [c]) := by rw [← hx, tl_append, tl_append, ey, hd, List.append_assoc]
  have xl : x.length = (tl a).length + 5 := by rw [len_tl, ex, List.length_append]; rfl
  have atA : StrLaws.At x " go " x.length (tl a).length := (at_iff hy _).mpr (by
    rw [ex, List.drop_left, ey]
    rfl)
  have notB : ∀ k, (tl a).length < k → ¬ StrLaws.At x " go " x.length k := fun k hk z => by
    have q := (at_iff hy k).mp z
    rw [ey] at q
    have q0 := pre_at q 0 (by decide)
    have q2 := pre_at q 2 (by decide)
    rw [ex, List.getElem?_drop, List.getElem?_append_right (by omega)] at q0 q2
    have q2 : ([32, 103, 111, 32] ++ [c])[k + 2 - (tl a).length]? = some 111 := q2
    have q0 : ([32, 103, 111, 32] ++ [c])[k + 0 - (tl a).length]? = some 32 := q0
    have k2 : k + 2 - (tl a).length < 5 := by
      have := (List.getElem?_eq_some_iff.mp q2).1
      simpa using this
    obtain rfl | rfl : k = (tl a).length + 1 ∨ k = (tl a).length + 2 := by omega
    · rw [show (tl a).length + 1 + 0 - (tl a).length = 1 by omega] at q0
      cases q0
    · rw [show (tl a).length + 2 + 0 - (tl a).length = 2 by omega] at q0
      cases q0
  rcases StrLaws.last_spec x " go " with ⟨_, n⟩ | ⟨i, e, h1, h2⟩
  · exact absurd atA (n _)
  · have hi : i = (tl a).length := by
      rcases Nat.lt_trichotomy i (tl a).length with q | q | q
      · exact absurd atA (h2 _ q)
      · exact q
      · exact absurd h1 (notB _ q)
    subst hi
    unfold Txt.rpartition
    rw [e]
    dsimp only
    refine Prod.ext (cd_inj ?_) (Prod.ext rfl (cd_inj ?_))
    · show tl (Builtin.Str.strSub _ _ _) = tl a
      rw [tl_strSub, ex, List.drop_zero, Nat.sub_zero, List.take_left]
    · show tl (Builtin.Str.strSub _ _ _) = tl d
      rw [tl_strSub_end, ex, el, hd, List.drop_append, List.drop_eq_nil_of_le (by omega), List.nil_append, show (tl a).length + 4 - (tl a).length = 4 by omega]
      rfl
/-! ### the signs of a sum's text -/
theorem okC_not {c : Nat} (h : okC c = true ∨ c = 32 ∨ c = 43 ∨ c = 45) : c ≠ 61 ∧ c ≠ 44 ∧ c ≠ 58 ∧ c ≠ 10 := by
  simp only [okC, tailC, lowC, digC, Bool.or_eq_true, Bool.and_eq_true, decide_eq_true_eq, beq_iff_eq] at h
  omega
theorem txt_sg {qs : List (Str × Int)} (h : ∀ q ∈ qs, IsNm q.1) : ∀ c ∈ cd (txt qs), okC c = true ∨ c = 32 ∨ c = 43 ∨ c = 45 := by
  cases qs with
  | nil =>
    have : cd (txt []) = [48] := by decide +kernel
    intro c hc
    rw [this] at hc
    obtain rfl := List.mem_singleton.mp hc
    exact .inl (by decide)
  | cons q qs =>
    intro c hc
    rw [cd_txt] at hc
    rcases List.mem_append.mp hc with hc | hc
    · unfold fi at hc
      split at hc
      · rw [cd_app, cd_mi] at hc
        rcases List.mem_append.mp hc with hc | hc
        · exact .inr (.inr (.inr (List.mem_singleton.mp hc)))
        · exact .inl (wo_ok (h q List.mem_cons_self) c hc)
      · rw [cd_app, cd_no, List.nil_append] at hc
        exact .inl (wo_ok (h q List.mem_cons_self) c hc)
    · obtain ⟨l, hl, hc⟩ := List.mem_flatten.mp hc
      obtain ⟨r, hr, rfl⟩ := List.mem_map.mp hl
      rw [cd_fu] at hc
      rcases List.mem_cons.mp hc with rfl | hc
      · exact .inr (.inl rfl)
      · rcases List.mem_append.mp hc with hc | hc
        · unfold sgn at hc
          split at hc
          · rw [cd_mi] at hc
            exact .inr (.inr (.inr (List.mem_singleton.mp hc)))
          · rw [cd_pl] at hc
            exact .inr (.inr (.inl (List.mem_singleton.mp hc)))
        · rcases List.mem_cons.mp hc with rfl | hc
          · exact .inr (.inl rfl)
          · exact .inl (wo_ok (h r (List.mem_cons_of_mem _ hr)) c hc)
theorem num_1 {n : Nat} (h : n < 10) : tl (num (n : Nat)) = [48 + n] := by
  have := num_cd (z := ((n : Nat) : Int)) (by omega)
  rw [show tl (num (n : Nat)) = cd (num (n : Nat)) from rfl, this, Int.toNat_natCast, numL_lt h]
theorem num_ne {n m : Nat} (h : n < 10) (k : m < 10) (e : num (n : Nat) = num (m : Nat)) : n = m := by
  have a := num_1 h
  rw [e, num_1 k] at a
  have := (List.cons.inj a).1
  omega
/-! ### what is read: kinds, numbers, texts -/
def kindS : Stp → Str
  | .ifS .. => "if"
  | .voteS .. => "vote"
  | .tellS _ => "tell"
  | .doubtS => "doubt"
def numS : Stp → Nat
  | .ifS _ _ g => g
  | .voteS n _ => n
  | _ => 0
def sumS : Stp → List Prs
  | .ifS p q _ => [p, q]
  | .voteS _ ss => ss
  | .tellS p => [p]
  | .doubtS => []
/-- what stands behind a line's first word -/
def restS : Stp → Str
  | .ifS p q g => (((txt p ++ (" == " : Str)) ++ txt q) ++ (" go " : Str)) ++ num g
  | .voteS n ss => (num n ++ (": " : Str)) ++ Txt.join ", " (ss.map txt)
  | .tellS p => txt p
  | .doubtS => ""
theorem line_rest : ∀ {st : Stp}, st ≠ .doubtS → lineS st = (kindS st ++ (" " : Str)) ++ restS st
  | .ifS p q g, _ => cd_inj (by
    show cd (((((("if " : Str) ++ txt p) ++ " == ") ++ txt q) ++ " go ") ++ num g) = cd ((("if" : Str) ++ (" " : Str)) ++ ((((txt p ++ (" == " : Str)) ++ txt q) ++ (" go " : Str)) ++ num g))
    repeat rw [cd_app]
    rw [show cd "if " = cd "if" ++ cd " " by decide +kernel]
    simp only [List.append_assoc])
  | .voteS n ss, _ => cd_inj (by
    show cd (((("vote " : Str) ++ num n) ++ ": ") ++ Txt.join ", " (ss.map txt)) = cd ((("vote" : Str) ++ (" " : Str)) ++ ((num n ++ (": " : Str)) ++ Txt.join ", " (ss.map txt)))
    repeat rw [cd_app]
    rw [show cd "vote " = cd "vote" ++ cd " " by decide +kernel]
    simp only [List.append_assoc])
  | .tellS p, _ => cd_inj (by
    show cd (("tell " : Str) ++ txt p) = cd ((("tell" : Str) ++ (" " : Str)) ++ txt p)
    repeat rw [cd_app]
    rw [show cd "tell " = cd "tell" ++ cd " " by decide +kernel])
  | .doubtS, h => absurd rfl h
theorem line_cut {st : Stp} (h : st ≠ .doubtS) : Txt.partition (lineS st) " " = (kindS st, (" " : Str), restS st) := by
  rw [line_rest h]
  refine partition_app (s := 32) (S := []) cd_sp ?_
  cases st with
  | ifS p q g =>
    show 32 ∉ tl "if"
    decide +kernel
  | voteS n ss =>
    show 32 ∉ tl "vote"
    decide +kernel
  | tellS p =>
    show 32 ∉ tl "tell"
    decide +kernel
  | doubtS => exact absurd rfl h
theorem line_doubt {st : Stp} (h : st ≠ .doubtS) : lineS st ≠ "doubt" := fun e => by
  have a := line_cut h
  rw [e, show Txt.partition "doubt" " " = (("doubt" : Str), Str.empty, Str.empty) from partition_none (s := 32) (S := []) cd_sp (by decide +kernel)] at a
  have b : tl Str.empty = tl (" " : Str) := congrArg (fun z : Str × Str × Str => tl z.2.1) a
  revert b
  decide +kernel
/-- a sum of at most three meters -/
structure DueS (p : Prs) : Prop where
  d : Due p
  l : p.length ≤ 3
theorem wo_len60 {x : Str} {z : Int} (hx : IsNm x) (hz : z.natAbs < 10 ^ 60) : (wo x z).length ≤ 70 := by
  have lx : 1 ≤ (cd x).length ∧ (cd x).length ≤ 8 := isNm_len hx
  rw [← cd_len] at lx
  unfold wo
  split
  · omega
  · have h1 := num_len60 (z := ab z) (ab_nn z) (by unfold ab; split <;> omega)
    have h2 : Str.length "*" = 1 := by decide +kernel
    have h3 : Str.length Str.empty = 0 := by decide +kernel
    rw [sl_app, sl_app, sl_app, h2, h3]
    omega
theorem fu_len60 {q : Str × Int} (hx : IsNm q.1) (hz : q.2.natAbs < 10 ^ 60) : (fu q).length ≤ 80 := by
  have h1 := wo_len60 hx hz
  have h2 : Str.length " " = 1 := by decide +kernel
  have h3 : Str.length Str.empty = 0 := by decide +kernel
  have h4 := (sg_len q.2).1
  unfold fu
  rw [sl_app, sl_app, sl_app, sl_app, h2, h3]
  omega
theorem pieces_sum60 {qs : List (Str × Int)} (h : ∀ q ∈ qs, IsNm q.1 ∧ q.2.natAbs < 10 ^ 60) : ((pieces qs).map (·.length)).sum ≤ 80 * (qs.length + 1) := by
  have h1 : ∀ qs : List (Str × Int), (∀ q ∈ qs, IsNm q.1 ∧ q.2.natAbs < 10 ^ 60) → ((qs.map fu).map (·.length)).sum ≤ 80 * qs.length := by
    intro qs
    induction qs with
    | nil => intro _; exact Nat.le_refl _
    | cons q qs ih =>
      intro h
      have a := fu_len60 (h q List.mem_cons_self).1 (h q List.mem_cons_self).2
      have b := ih fun r hr => h r (List.mem_cons_of_mem _ hr)
      simp only [List.map_cons, List.sum_cons, List.length_cons]
      omega
  cases qs with
  | nil => decide +kernel
  | cons q qs =>
    have a := wo_len60 (h q List.mem_cons_self).1 (h q List.mem_cons_self).2
    have b := h1 qs fun r hr => h r (List.mem_cons_of_mem _ hr)
    have c := (sg_len q.2).2
    simp only [pieces, List.map_cons, List.sum_cons, List.length_cons, fi, sl_app]
    omega
theorem DueS.len {p : Prs} (h : DueS p) : (txt p).length ≤ 320 := by
  have q : ∀ q ∈ p, IsNm q.1 ∧ q.2.natAbs < 10 ^ 60 := fun q hq => ⟨h.d.nm q hq, Nat.lt_of_le_of_lt (tot_mem hq) (Nat.lt_of_le_of_lt h.d.tt (by decide))⟩
  have e : (txt p).length = ((pieces p).map (·.length)).sum := by
    unfold txt
    rw [join_eq, len_tl, tl_join, show tl "" = [] from cd_no, joinL_nil, List.length_flatten, List.map_map]
    exact congrArg List.sum (List.map_congr_left fun x _ => (len_tl x).symm)
  have h1 := pieces_sum60 q
  have h2 := h.l
  rw [e]
  omega
/-- what a step's sums are to be: i of many -/
def StpD (i many : Nat) : Stp → Prop
  | .ifS p q g => DueS p ∧ DueS q ∧ i < g ∧ g < many
  | .voteS n ss => n ≤ 3 ∧ 1 ≤ ss.length ∧ ss.length ≤ 10 ∧ ∀ p ∈ ss, DueS p
  | .tellS p => DueS p
  | .doubtS => True
theorem StpD.sums {i many : Nat} : ∀ {st : Stp}, StpD i many st → (∀ p ∈ sumS st, DueS p) ∧ (sumS st).length ≤ 10
  | .ifS p q g, h => ⟨fun z hz => by
    rcases List.mem_cons.mp hz with rfl | hz
    · exact h.1
    · obtain rfl := List.mem_singleton.mp hz
      exact h.2.1, by simp [sumS]⟩
  | .voteS n ss, h => ⟨h.2.2.2, h.2.2.1⟩
  | .tellS p, h => ⟨fun z hz => by
    obtain rfl := List.mem_singleton.mp hz
    exact h, by simp [sumS]⟩
  | .doubtS, _ => ⟨fun z hz => (nomatch hz), by simp [sumS]⟩
theorem due_no {p : Prs} (h' : DueS p) : 61 ∉ tl (txt p) ∧ 44 ∉ tl (txt p) ∧ 10 ∉ tl (txt p) :=
  have h := h'.d
  ⟨fun z => (okC_not (txt_sg h.nm _ z)).1 rfl, fun z => (okC_not (txt_sg h.nm _ z)).2.1 rfl, fun z => (okC_not (txt_sg h.nm _ z)).2.2.2 rfl⟩
theorem test_cut {p q : Prs} {g : Nat} (hp : DueS p) (hq : DueS q) (hg : g < 10) :
    Txt.rpartition (restS (.ifS p q g)) " go " = ((txt p ++ (" == " : Str)) ++ txt q, (" go " : Str), num g) ∧ Txt.split ((txt p ++ (" == " : Str)) ++ txt q) " == " = [txt p, txt q] :=
  ⟨rpart_go (num_1 hg), split_eqs (due_no hp).1 (due_no hq).1⟩
theorem vote_cut {n : Nat} {ss : List Prs} (hn : n < 10) (hs : ∀ p ∈ ss, DueS p) (h1 : 1 ≤ ss.length) :
    Txt.partition (restS (.voteS n ss)) ": " = (num n, (": " : Str), Txt.join ", " (ss.map txt)) ∧ Txt.split (Txt.join ", " (ss.map txt)) ", " = ss.map txt := by
  refine ⟨partition_app (s := 58) (S := [32]) cd_co (by rw [num_1 hn]; simp; omega), split_join (s := 44) (S := [32]) cd_cm (by decide +kernel) (fun e => ?_) fun z hz => ?_⟩
  · have := congrArg List.length e
    simp at this
    rw [this] at h1
    simp at h1
  · obtain ⟨p, hp, rfl⟩ := List.mem_map.mp hz
    exact (due_no (hs p hp)).2.1
theorem StpOk.d {ts : List Str} {wide : Int} {i many : Nat} (hn : ∀ t ∈ ts, IsNm t) (hw : wide ≤ 10 ^ 20) : ∀ {st : Stp}, StpOk ts wide i many st → StpD i many st
  | .ifS _ _ _, h => ⟨⟨h.1.due hn hw, h.1.len⟩, ⟨h.2.1.due hn hw, h.2.1.len⟩, h.2.2⟩
  | .voteS _ _, h => ⟨h.1, h.2.1, h.2.2.1, fun p hp => ⟨(h.2.2.2 p hp).due hn hw, (h.2.2.2 p hp).len⟩⟩
  | .tellS _, h => ⟨SumOk.due h hn hw, SumOk.len h⟩
  | .doubtS, _ => trivial
/-- a line's signs: no line feed -/
theorem join_ch {y : Str} {c : Nat} (hy : c ∉ tl y) : ∀ {parts : List Str}, (∀ p ∈ parts, c ∉ tl p) → c ∉ tl (Txt.join y parts) := by
  intro parts hp
  rw [join_eq, tl_join]
  induction parts with
  | nil => simp [joinL]
  | cons p r ih =>
    cases r with
    | nil => simpa [joinL] using hp p List.mem_cons_self
    | cons q r =>
      have h2 := ih fun z hz => hp z (List.mem_cons_of_mem _ hz)
      have h1 := hp p List.mem_cons_self
      show c ∉ tl p ++ (tl y ++ joinL (tl y) ((q :: r).map tl))
      simp only [List.mem_append, not_or]
      exact ⟨h1, hy, h2⟩
theorem line_nl {i many : Nat} (m8 : many ≤ 8) : ∀ {st : Stp}, StpD i many st → 10 ∉ tl (lineS st)
  | .ifS p q g, h => by
    show 10 ∉ tl (((((("if " : Str) ++ txt p) ++ " == ") ++ txt q) ++ " go ") ++ num g)
    obtain ⟨hp, hq, _, hg⟩ := h
    have gg : g < 10 := by omega
    repeat rw [tl_append]
    rw [num_1 gg]
    simp only [List.mem_append, not_or]
    exact ⟨⟨⟨⟨⟨by decide +kernel, (due_no hp).2.2⟩, by decide +kernel⟩, (due_no hq).2.2⟩, by decide +kernel⟩, by simp; omega⟩
  | .voteS n ss, h => by
    show 10 ∉ tl (((("vote " : Str) ++ num n) ++ ": ") ++ Txt.join ", " (ss.map txt))
    obtain ⟨hn, _, _, hs⟩ := h
    repeat rw [tl_append]
    rw [num_1 (by omega)]
    simp only [List.mem_append, not_or]
    refine ⟨⟨⟨by decide +kernel, by simp; omega⟩, by decide +kernel⟩, join_ch (by decide +kernel) fun z hz => ?_⟩
    obtain ⟨p, hp, rfl⟩ := List.mem_map.mp hz
    exact (due_no (hs p hp)).2.2
  | .tellS p, h => by
    show 10 ∉ tl (("tell " : Str) ++ txt p)
    rw [tl_append]
    simp only [List.mem_append, not_or]
    exact ⟨by decide +kernel, (due_no h).2.2⟩
  | .doubtS, _ => by decide +kernel
/-- a line's length -/
theorem line_len8 {i many : Nat} (m8 : many ≤ 8) : ∀ {st : Stp}, StpD i many st → (lineS st).length ≤ 4000
  | .ifS p q g, h => by
    obtain ⟨hp, hq, _, hg⟩ := h
    have a1 := hp.len
    have a2 := hq.len
    have n1 : (num (g : Nat)).length = 1 := by rw [cd_len]; exact congrArg List.length (num_1 (show g < 10 by omega))
    show (((((("if " : Str) ++ txt p) ++ " == ") ++ txt q) ++ " go ") ++ num g).length ≤ 4000
    have e1 : Str.length "if " = 3 := by decide +kernel
    have e2 : Str.length " == " = 4 := by decide +kernel
    have e3 : Str.length " go " = 4 := by decide +kernel
    rw [sl_app, sl_app, sl_app, sl_app, sl_app, e1, e2, e3, n1]
    omega
  | .voteS n ss, h => by
    obtain ⟨hn, hl1, h10, hs⟩ := h
    have n1 : (num (n : Nat)).length = 1 := by rw [cd_len]; exact congrArg List.length (num_1 (show n < 10 by omega))
    show (((("vote " : Str) ++ num n) ++ ": ") ++ Txt.join ", " (ss.map txt)).length ≤ 4000
    have e1 : Str.length "vote " = 5 := by decide +kernel
    have e2 : Str.length ": " = 2 := by decide +kernel
    have e3 : Str.length ", " = 2 := by decide +kernel
    have j := StrLaws.join_length_le ", " (ss.map txt)
    rw [← join_eq, List.length_map, e3] at j
    have t : ((ss.map txt).map (·.length)).sum ≤ 320 * ss.length := by
      clear j h10 hl1
      induction ss with
      | nil => simp
      | cons q ss ih =>
        have h1 := (hs q List.mem_cons_self).len
        have h2 := ih fun z hz => hs z (List.mem_cons_of_mem _ hz)
        rw [List.map_cons, List.map_cons, List.sum_cons, List.length_cons]
        omega
    rw [sl_app, sl_app, sl_app, e1, e2, n1]
    omega
  | .tellS p, h => by
    have a1 := DueS.len h
    show (("tell " : Str) ++ txt p).length ≤ 4000
    have e1 : Str.length "tell " = 5 := by decide +kernel
    rw [sl_app, e1]
    omega
  | .doubtS, _ => by
    show Str.length "doubt" ≤ 4000
    decide +kernel
/-- a line's signs -/
theorem join_all {P : Nat → Prop} {y : Str} (hy : ∀ c ∈ tl y, P c) : ∀ {parts : List Str}, (∀ p ∈ parts, ∀ c ∈ tl p, P c) → ∀ c ∈ tl (Txt.join y parts), P c := by
  intro parts hp
  rw [join_eq, tl_join]
  induction parts with
  | nil => intro c hc; cases hc
  | cons p r ih =>
    cases r with
    | nil => exact hp p List.mem_cons_self
    | cons q r =>
      intro c hc
      have hc : c ∈ tl p ++ (tl y ++ joinL (tl y) ((q :: r).map tl)) := hc
      rcases List.mem_append.mp hc with hc | hc
      · exact hp p List.mem_cons_self c hc
      · rcases List.mem_append.mp hc with hc | hc
        · exact hy c hc
        · exact ih (fun z hz => hp z (List.mem_cons_of_mem _ hz)) c hc
theorem okC_128 {c : Nat} (h : okC c = true ∨ c = 32 ∨ c = 43 ∨ c = 45) : c < 128 := by
  simp only [okC, tailC, lowC, digC, Bool.or_eq_true, Bool.and_eq_true, decide_eq_true_eq, beq_iff_eq] at h
  omega
theorem line_128 {i many : Nat} (m8 : many ≤ 8) : ∀ {st : Stp}, StpD i many st → ∀ c ∈ tl (lineS st), c < 128
  | .ifS p q g, h, c, hc => by
    obtain ⟨hp, hq, _, hg⟩ := h
    have hc : c ∈ tl (((((("if " : Str) ++ txt p) ++ " == ") ++ txt q) ++ " go ") ++ num g) := hc
    repeat rw [tl_append] at hc
    rw [num_1 (show g < 10 by omega)] at hc
    simp only [List.mem_append, List.mem_singleton] at hc
    have a1 : ∀ c ∈ tl "if ", c < 128 := by decide +kernel
    have a2 : ∀ c ∈ tl " == ", c < 128 := by decide +kernel
    have a3 : ∀ c ∈ tl " go ", c < 128 := by decide +kernel
    rcases hc with ((((hc | hc) | hc) | hc) | hc) | hc
    · exact a1 c hc
    · exact okC_128 (txt_sg hp.d.nm c hc)
    · exact a2 c hc
    · exact okC_128 (txt_sg hq.d.nm c hc)
    · exact a3 c hc
    · omega
  | .voteS n ss, h, c, hc => by
    obtain ⟨hn, _, _, hs⟩ := h
    have hc : c ∈ tl (((("vote " : Str) ++ num n) ++ ": ") ++ Txt.join ", " (ss.map txt)) := hc
    repeat rw [tl_append] at hc
    rw [num_1 (show n < 10 by omega)] at hc
    simp only [List.mem_append, List.mem_singleton] at hc
    have a1 : ∀ c ∈ tl "vote ", c < 128 := by decide +kernel
    have a2 : ∀ c ∈ tl ": ", c < 128 := by decide +kernel
    have a3 : ∀ c ∈ tl ", ", c < 128 := by decide +kernel
    rcases hc with ((hc | hc) | hc) | hc
    · exact a1 c hc
    · omega
    · exact a2 c hc
    · refine join_all a3 (fun z hz => ?_) c hc
      obtain ⟨p, hp, rfl⟩ := List.mem_map.mp hz
      exact fun d hd => okC_128 (txt_sg (hs p hp).d.nm d hd)
  | .tellS p, h, c, hc => by
    have hc : c ∈ tl (("tell " : Str) ++ txt p) := hc
    rw [tl_append] at hc
    have a1 : ∀ c ∈ tl "tell ", c < 128 := by decide +kernel
    rcases List.mem_append.mp hc with hc | hc
    · exact a1 c hc
    · exact okC_128 (txt_sg (DueS.d h).nm c hc)
  | .doubtS, _, c, hc => by
    have a1 : ∀ c ∈ tl "doubt", c < 128 := by decide +kernel
    exact a1 c hc
end RV
/-! Rules in the heap, and what their texts promise. -/
namespace RV
open PySem L2 TL PyProof.Rows
section
variable {C CR CS x t D : Addr} {H H' : Hp} {xs tl : List Addr} {qss : List Prs} {q : Prs} {st : Stp} {sts : List Stp}
/-- sums that stand -/
structure SumsR (C : Addr) (H : Hp) (xs : List Addr) (qss : List Prs) : Prop where
  len : xs.length = qss.length
  each : ∀ (j : Nat) x q, xs[j]? = some x → qss[j]? = some q → SumR C H x q
theorem SumsR.ext (h : SumsR C H xs qss) (s : Same H H') : SumsR C H' xs qss := ⟨h.len, fun j x q a b => (h.each j x q a b).ext s⟩
theorem SumR.put {acc : List V} {o : HO} (h : SumR C H x q) (e : H D = some (.lst acc)) : SumR C (upd H D o) x q := by
  obtain ⟨dx, t, us, e1, k⟩ := h
  refine ⟨dx, t, us, e1, fun p hp => (upd_ne fun z => ?_).trans (k p hp)⟩
  have kp := k p hp
  rw [z, e] at kp
  rcases List.mem_cons.mp hp with rfl | hp
  · cases kp
  rcases List.mem_cons.mp hp with rfl | hp
  · cases kp
  obtain ⟨u, _, rfl⟩ := List.mem_map.mp hp
  cases kp
/-- a step that was read -/
def StR (C : Addr) (H : Hp) (t : Addr) (st : Stp) : Prop := ∃ (u : Addr) (xs : List Addr), H t = some (.tup [.str (kindS st), .int (numS st), .ref u]) ∧ H u = some (.tup (xs.map V.ref)) ∧ SumsR C H xs (sumS st)
theorem StR.ext (h : StR C H t st) (s : Same H H') : StR C H' t st := by
  obtain ⟨u, xs, a, b, c⟩ := h
  exact ⟨u, xs, s _ _ a, s _ _ b, c.ext s⟩
structure StsR (C : Addr) (H : Hp) (tl : List Addr) (sts : List Stp) : Prop where
  len : tl.length = sts.length
  each : ∀ (j : Nat) t st, tl[j]? = some t → sts[j]? = some st → StR C H t st
theorem StsR.ext (h : StsR C H tl sts) (s : Same H H') : StsR C H' tl sts := ⟨h.len, fun j x q a b => (h.each j x q a b).ext s⟩
theorem StsR.nil : StsR C H [] [] := ⟨rfl, fun _ _ _ h => nomatch h⟩
theorem StsR.snoc (h : StsR C H tl sts) (s : StR C H t st) : StsR C H (tl ++ [t]) (sts ++ [st]) := by
  refine ⟨by rw [List.length_append, List.length_append, h.len]; rfl, fun i u su hu hs => ?_⟩
  rcases Nat.lt_or_ge i tl.length with z | z
  · rw [List.getElem?_append_left z] at hu
    rw [List.getElem?_append_left (by rw [← h.len]; exact z)] at hs
    exact h.each i u su hu hs
  · rw [List.getElem?_append_right z] at hu
    rw [List.getElem?_append_right (by rw [← h.len]; exact z), ← h.len] at hs
    cases e : i - tl.length with
    | zero =>
      rw [e] at hu hs
      obtain rfl := Option.some.inj hu
      obtain rfl := Option.some.inj hs
      exact s
    | succ m => rw [e] at hu; cases hu
theorem StR.put {acc : List V} {o : HO} (h : StR C H t st) (e : H D = some (.lst acc)) : StR C (upd H D o) t st := by
  obtain ⟨u, xs, a, b, c⟩ := h
  refine ⟨u, xs, (upd_ne fun z => ?_).trans a, (upd_ne fun z => ?_).trans b, c.len, fun j x q hx hq => (c.each j x q hx hq).put e⟩
  · rw [z, e] at a; cases a
  · rw [z, e] at b; cases b
theorem StsR.put {acc : List V} {o : HO} (h : StsR C H tl sts) (e : H D = some (.lst acc)) : StsR C (upd H D o) tl sts := ⟨h.len, fun j x q a b => (h.each j x q a b).put e⟩
end
/-! ### the object -/
theorem kSR : ¬ (("_steps" : Str) = "_rows") := by decide +kernel
def ruleF (ts tr : Addr) : List (Str × V) := putF "_rows" (.ref tr) (putF "_steps" (.ref ts) [])
theorem ruleF_s (ts tr : Addr) : (ruleF ts tr).lookup ("_steps" : Str) = some (.ref ts) := by
  unfold ruleF
  rw [lookup_putF, if_neg kSR, lookup_putF, if_pos rfl]
theorem ruleF_r (ts tr : Addr) : (ruleF ts tr).lookup ("_rows" : Str) = some (.ref tr) := by
  unfold ruleF
  rw [lookup_putF, if_pos rfl]
structure RClass (K : PySem.W.Frag) (mg : Str → Option Value) (C : Addr) : Prop where
  x : ClsX K C
  k : mg "Rule" = some (.ref C)
  n1 : NoAttr K C "_steps"
  n2 : NoAttr K C "_rows"
  me : PySem.W.kitOne K (.ref C) (.ref C) = some true
/-- the constants of rows -/
structure CstR (mg : Str → Option Value) : Prop where
  kif : ∃ u, mg "IF" = some u ∧ RelV (.str "if") u
  vote : ∃ u, mg "VOTE" = some u ∧ RelV (.str "vote") u
  tell : ∃ u, mg "TELL" = some u ∧ RelV (.str "tell") u
  doubt : ∃ u, mg "DOUBT" = some u ∧ RelV (.str "doubt") u
  rows : ∃ u, mg "MOST_ROWS" = some u ∧ RelV (.int 8) u
  sums : ∃ u, mg "MOST_SUMS" = some u ∧ RelV (.int 10) u
  faults : ∃ u, mg "MOST_FAULTS" = some u ∧ RelV (.int 3) u
/-- what the rows of a rule are -/
structure RowsOk (sts : List Stp) : Prop where
  ln : sts.length ≤ 8
  ok : ∀ (i : Nat) st, sts[i]? = some st → StpD i sts.length st
  fin : EndOk sts
theorem RowsOk.pos {sts : List Stp} (h : RowsOk sts) : 0 < sts.length := by
  obtain ⟨st, e, _⟩ := h.fin
  cases sts with
  | nil => cases e
  | cons => exact Nat.succ_pos _
def lines (sts : List Stp) : List Str := sts.map lineS
theorem RowsOk.line {sts : List Stp} (h : RowsOk sts) : ∀ z ∈ lines sts, z.length ≤ 4000 ∧ (∀ c ∈ tl z, c < 128) ∧ 10 ∉ tl z := fun z hz => by
  obtain ⟨st, hs, rfl⟩ := List.mem_map.mp hz
  obtain ⟨i, hi⟩ := List.getElem?_of_mem hs
  have d := h.ok i st hi
  exact ⟨line_len8 h.ln d, line_128 h.ln d, line_nl h.ln d⟩
theorem RowsOk.sum {sts : List Stp} (h : RowsOk sts) : ((lines sts).map (·.length)).sum ≤ 4000 * sts.length := by
  have g : ∀ xs : List Str, (∀ x ∈ xs, x.length ≤ 4000) → (xs.map (·.length)).sum ≤ 4000 * xs.length := by
    intro xs
    induction xs with
    | nil => intro _; exact Nat.le_refl _
    | cons x xs ih =>
      intro h
      have a := h x List.mem_cons_self
      have b := ih fun y hy => h y (List.mem_cons_of_mem _ hy)
      simp only [List.map_cons, List.sum_cons, List.length_cons]
      omega
  have := g (lines sts) fun x hx => (h.line x hx).1
  rwa [show (lines sts).length = sts.length from List.length_map _] at this
/-- the whole text -/
def ruleT (sts : List Stp) : Str := Txt.join "\n" (lines sts)
theorem RowsOk.len {sts : List Stp} (h : RowsOk sts) : (ruleT sts).length ≤ 40000 := by
  have j := StrLaws.join_length_le "\n" (lines sts)
  have e3 : Str.length "\n" = 1 := by decide +kernel
  have s := h.sum
  have l := h.ln
  rw [← join_eq, show (lines sts).length = sts.length from List.length_map _, e3] at j
  have j : (ruleT sts).length ≤ _ := j
  omega
theorem RowsOk.cut {sts : List Stp} (h : RowsOk sts) : Txt.split (ruleT sts) "\n" = lines sts :=
  split_join (s := 10) (S := []) cd_nl (by decide +kernel) (fun e => by
    have := h.pos
    rw [List.map_eq_nil_iff.mp e] at this
    exact absurd this (Nat.lt_irrefl _)) fun p hp => (h.line p hp).2.2
structure RuleR (CR CS : Addr) (H : Hp) (x : Addr) (sts : List Stp) : Prop where
  ex : ∃ (dx ts tr : Addr) (tl : List Addr), H x = some (.ins CR dx (ruleF ts tr)) ∧ H ts = some (.tup (tl.map V.ref)) ∧ StsR CS H tl sts ∧ H tr = some (.tup ((lines sts).map V.str))
theorem RuleR.ext {CR CS x : Addr} {H H' : Hp} {sts : List Stp} (h : RuleR CR CS H x sts) (s : Same H H') : RuleR CR CS H' x sts := by
  obtain ⟨dx, ts, tr, tl, a, b, c, d⟩ := h.ex
  exact ⟨dx, ts, tr, tl, s _ _ a, s _ _ b, c.ext s, s _ _ d⟩
/-- the names in a rule's sums -/
def namesS (sts : List Stp) : List Str := sts.flatMap fun st => (sumS st).flatMap fun p => p.map (·.1)
theorem SortP.uniq {xs zs ws : List Str} (h : SortP xs zs) (k : SortP xs ws) : zs = ws :=
  asc_uniq Lt.irr (fun a b => Lt.tr a b) (asc_of h.1 h.2.1) (asc_of k.1 k.2.1) fun z => (h.2.2 z).trans (k.2.2 z).symm
theorem names_len {sts : List Stp} (h : RowsOk sts) : (namesS sts).length ≤ 240 := by
  have g1 : ∀ qss : List Prs, (∀ p ∈ qss, DueS p) → (qss.flatMap fun p => p.map (·.1)).length ≤ 3 * qss.length := by
    intro qss
    induction qss with
    | nil => intro _; exact Nat.le_refl _
    | cons p qss ih =>
      intro h
      have a := (h p List.mem_cons_self).l
      have b := ih fun y hy => h y (List.mem_cons_of_mem _ hy)
      rw [List.flatMap_cons, List.length_append, List.length_map, List.length_cons]
      omega
  have g2 : ∀ sts : List Stp, (∀ st ∈ sts, (∀ p ∈ sumS st, DueS p) ∧ (sumS st).length ≤ 10) → (namesS sts).length ≤ 30 * sts.length := by
    intro sts
    induction sts with
    | nil => intro _; exact Nat.le_refl _
    | cons st sts ih =>
      intro h
      have a := h st List.mem_cons_self
      have a1 := g1 _ a.1
      have b := ih fun y hy => h y (List.mem_cons_of_mem _ hy)
      rw [namesS, List.flatMap_cons, List.length_append, List.length_cons]
      rw [namesS] at b
      omega
  have := g2 sts fun st hs => by
    obtain ⟨i, hi⟩ := List.getElem?_of_mem hs
    exact (h.ok i st hi).sums
  have l := h.ln
  omega
theorem pre_len {sts : List Stp} (h : RowsOk sts) {i j : Nat} {st : Stp} {q : Prs} (hs : sts[i]? = some st) (hq : (sumS st)[j]? = some q) (m : Nat) :
    (namesS (sts.take i) ++ ((sumS st).take j).flatMap (fun p => p.map (·.1)) ++ (q.take m).map (·.1)).length ≤ 240 := by
  have hl := names_len h
  have e1 : namesS sts = namesS (sts.take i) ++ ((sumS st).flatMap (fun p => p.map (·.1)) ++ namesS (sts.drop (i + 1))) := by
    have hi := (List.getElem?_eq_some_iff.mp hs).1
    have e : sts = sts.take i ++ (st :: sts.drop (i + 1)) := by
      have := List.drop_eq_getElem_cons hi
      rw [(List.getElem?_eq_some_iff.mp hs).2] at this
      rw [← this, List.take_append_drop]
    conv => lhs; rw [e]
    rw [namesS, List.flatMap_append, List.flatMap_cons]
    rfl
  have e2 : (sumS st).flatMap (fun p => p.map (·.1)) = ((sumS st).take j).flatMap (fun p => p.map (·.1)) ++ (q.map (·.1) ++ ((sumS st).drop (j + 1)).flatMap (fun p => p.map (·.1))) := by
    have hj := (List.getElem?_eq_some_iff.mp hq).1
    have e : sumS st = (sumS st).take j ++ (q :: (sumS st).drop (j + 1)) := by
      have := List.drop_eq_getElem_cons hj
      rw [(List.getElem?_eq_some_iff.mp hq).2] at this
      rw [← this, List.take_append_drop]
    conv => lhs; rw [e]
    rw [List.flatMap_append, List.flatMap_cons]
  rw [e1, e2] at hl
  simp only [List.length_append, List.length_map] at hl ⊢
  have := List.length_take_le' m q
  omega
theorem names_nm {sts : List Stp} (h : RowsOk sts) : ∀ z ∈ namesS sts, IsNm z := fun z hz => by
  obtain ⟨st, hs, hz⟩ := List.mem_flatMap.mp hz
  obtain ⟨p, hp, hz⟩ := List.mem_flatMap.mp hz
  obtain ⟨q, hq, rfl⟩ := List.mem_map.mp hz
  obtain ⟨i, hi⟩ := List.getElem?_of_mem hs
  exact ((h.ok i st hi).sums.1 p hp).d.nm q hq
/-! ### promises -/
def sp_rdig : Sp := fun vs H Q _ => ∃ (g : Nat) (lo hi : Int), vs = [.str (num (g : Nat)), .int lo, .int hi] ∧ 0 ≤ lo ∧ lo ≤ g ∧ g ≤ hi ∧ hi < 10 ∧ Q (.int (g : Nat)) H
def sp_stp (C : Addr) : Sp := fun vs H Q _ => ∃ (kd : Str) (n : Nat) (l : Addr) (qss : List Prs), vs = [.str kd, .int (n : Nat), .ref l] ∧ H l = some (.lst ((qss.map txt).map V.str)) ∧ (∀ p ∈ qss, DueS p) ∧ qss.length ≤ 10 ∧
  ∀ (t u : Addr) (xs : List Addr) H', Same H H' → H' t = some (.tup [.str kd, .int (n : Nat), .ref u]) → H' u = some (.tup (xs.map V.ref)) → SumsR C H' xs qss → Q (.ref t) H'
def sp_rtest (C : Addr) : Sp := fun vs H Q _ => ∃ (p q : Prs) (g : Nat) (lo hi : Int), vs = [.str (restS (.ifS p q g)), .int lo, .int hi] ∧ DueS p ∧ DueS q ∧ 0 ≤ lo ∧ lo ≤ g ∧ g ≤ hi ∧ hi < 10 ∧
  ∀ t H', Same H H' → StR C H' t (.ifS p q g) → Q (.ref t) H'
def sp_rvote (C : Addr) : Sp := fun vs H Q _ => ∃ (n : Nat) (ss : List Prs), vs = [.str (restS (.voteS n ss))] ∧ n ≤ 3 ∧ 1 ≤ ss.length ∧ ss.length ≤ 10 ∧ (∀ p ∈ ss, DueS p) ∧
  ∀ t H', Same H H' → StR C H' t (.voteS n ss) → Q (.ref t) H'
def sp_rrow (C : Addr) : Sp := fun vs H Q _ => ∃ (st : Stp) (i many : Nat), vs = [.str (lineS st), .int (i : Nat), .int (many : Nat)] ∧ StpD i many st ∧ many ≤ 8 ∧
  ∀ t H', Same H H' → StR C H' t st → Q (.ref t) H'
def sp_stin (C : Addr) : Sp := fun vs H Q _ => ∃ (tr : Addr) (sts : List Stp), vs = [.ref tr] ∧ H tr = some (.tup ((lines sts).map V.str)) ∧ RowsOk sts ∧
  ∀ (ts : Addr) (tl : List Addr) H', Same H H' → H' ts = some (.tup (tl.map V.ref)) → StsR C H' tl sts → Q (.ref ts) H'
def sp_Rule (CR CS : Addr) : Sp := fun vs H Q _ => ∃ (x dx tr : Addr) (sts : List Stp), vs = [.ref x, .ref tr] ∧ H x = some (.ins CR dx []) ∧ H tr = some (.tup ((lines sts).map V.str)) ∧ RowsOk sts ∧
  ∀ H', (∀ b o, b ≠ x → H b = some o → H' b = some o) → (∃ (dx ts : Addr) (tl : List Addr), H' x = some (.ins CR dx (ruleF ts tr)) ∧ H' ts = some (.tup (tl.map V.ref)) ∧ StsR CS H' tl sts) → Q .non H'
theorem Rule_kp {CR CS x dx tr : Addr} {H : Hp} {sts : List Stp} {R : Hp → Prop} {E : XK} (hr : H tr = some (.tup ((lines sts).map V.str))) (ok : RowsOk sts) (hx : H x = none) (hd : H dx = none) (_ : dx ≠ x) (k : ∀ H', Same H H' → RuleR CR CS H' x sts → R H') :
    Irr (sp_Rule CR CS) [.ref x, .ref tr] (upd (upd H dx (.own x)) x (.ins CR dx [])) (fun v H2 => v = .non ∧ R H2) E := by
  have s : Same H (upd (upd H dx (.own x)) x (.ins CR dx [])) := fun b o eb => by rw [upd_ne (ne_of_none eb hx), upd_ne (ne_of_none eb hd)]; exact eb
  refine irr ⟨x, dx, tr, sts, rfl, upd_same, s _ _ hr, ok, fun H' g p => ⟨rfl, ?_⟩⟩
  have s' : Same H H' := fun b o eb => g b o (ne_of_none eb hx) (s b o eb)
  obtain ⟨dx', ts, tl, p1, p2, p3⟩ := p
  exact k H' s' ⟨dx', ts, tr, tl, p1, p2, p3, s' _ _ hr⟩
def sp_rread (CR CS : Addr) : Sp := fun vs H Q _ => ∃ sts : List Stp, vs = [.ref CR, .str (ruleT sts)] ∧ RowsOk sts ∧ ∀ x H', Same H H' → RuleR CR CS H' x sts → Q (.ref x) H'
def sp_rrows (CR : Addr) : Sp := fun vs H Q _ => ∃ (a dx ts tr : Addr), vs = [.ref a] ∧ H a = some (.ins CR dx (ruleF ts tr)) ∧ Q (.ref tr) H
def sp_rmet (CR CS : Addr) : Sp := fun vs H Q _ => ∃ (a : Addr) (sts : List Stp), vs = [.ref a] ∧ RuleR CR CS H a sts ∧ RowsOk sts ∧ ∀ t zs H', Same H H' → H' t = some (.tup (zs.map V.str)) → SortP (namesS sts) zs → Q (.ref t) H'
def sp_rlen (CR CS : Addr) : Sp := fun vs H Q _ => ∃ (a : Addr) (sts : List Stp), vs = [.ref a] ∧ RuleR CR CS H a sts ∧ Q (.int (sts.length : Nat)) H
def sp_rstr (CR CS : Addr) : Sp := fun vs H Q _ => ∃ (a : Addr) (sts : List Stp), vs = [.ref a] ∧ RuleR CR CS H a sts ∧ RowsOk sts ∧ Q (.str (ruleT sts)) H
def sp_req (K : PySem.W.Frag) (CR CS : Addr) : Sp := fun vs H Q _ => ∃ (a : Addr) (y : V) (sts : List Stp), vs = [.ref a, y] ∧ RuleR CR CS H a sts ∧ RowsOk sts ∧
  ((∃ b rts, y = .ref b ∧ RuleR CR CS H b rts ∧ RowsOk rts ∧ Q (.bl (decide (lines sts = lines rts))) H) ∨ (∃ t, TyX K H y t ∧ PySem.W.kitOne K t (.ref CR) = some false ∧ Q (.bl false) H))
/-! ### texts as data -/
def dL (xs : List Str) : PyData := .tuple (xs.map PyData.str)
theorem strOk_128 {x : Str} (h : ∀ c ∈ tl x, c < 128) : PyData.strOk x = true := by
  unfold PyData.strOk
  rw [← Array.all_toList, List.all_eq_true]
  intro c hc
  exact decide_eq_true (Nat.lt_trans (h c hc) (by decide))
theorem shaped_dL {xs : List Str} (h : ∀ x ∈ xs, PyData.strOk x = true) : SeqAt.shaped (dL xs) = true := by
  have h1 : ∀ xs : List Str, (∀ x ∈ xs, PyData.strOk x = true) → PyData.canLayAll0 (xs.map PyData.str) = true ∧ PyData.depthAll (xs.map PyData.str) ≤ 1 := by
    intro xs
    induction xs with
    | nil => intro _; simp [PyData.canLayAll0, PyData.depthAll]
    | cons x xs ih =>
      intro h
      obtain ⟨a, b⟩ := ih fun r hr => h r (List.mem_cons_of_mem _ hr)
      have c := h x List.mem_cons_self
      refine ⟨by simp [PyData.canLayAll0, PyData.canLay0, a, c], ?_⟩
      simp only [List.map_cons, PyData.depthAll, PyData.depth]
      omega
  obtain ⟨a, b⟩ := h1 xs h
  simp only [SeqAt.shaped, dL, PyData.canLay0, PyData.depth, a, Bool.true_and, decide_eq_true_eq]
  omega
theorem eqv_dL (xs ys : List Str) : PyData.eqv (dL xs) (dL ys) = decide (xs = ys) := by
  have h : ∀ xs ys : List Str, PyData.eqvAll (xs.map PyData.str) (ys.map PyData.str) = decide (xs = ys) := by
    intro xs
    induction xs with
    | nil => intro ys; cases ys <;> simp [PyData.eqvAll]
    | cons x xs ih =>
      intro ys
      cases ys with
      | nil => simp [PyData.eqvAll]
      | cons y ys =>
        simp only [List.map_cons, PyData.eqvAll, PyData.eqv, ih]
        by_cases h1 : x = y <;> by_cases h2 : xs = ys <;> simp [h1, h2]
  simp only [dL, PyData.eqv]
  exact h xs ys
theorem dpAll_str {K : PySem.W.Frag} {H : Hp} : ∀ xs : List Str, DpAll K H (xs.map V.str) (xs.map PyData.str)
  | [] => .nil
  | x :: xs => .cons (.str x) (dpAll_str xs)
theorem dp_dL {K : PySem.W.Frag} {H : Hp} {t : Addr} {xs : List Str} (h : H t = some (.tup (xs.map V.str))) : Dp K H (.ref t) (dL xs) := .tup (SqT.of h) (dpAll_str xs)
end RV
/-! Names of drawn steps; what a drawn list of steps is. -/
namespace RV
open PySem L2 TL
def sp_nmof : Sp := fun vs H Q _ => ∃ (l : Addr) (tl : List Addr) (sts : List Stp) (X : List Addr), vs = [.ref l] ∧ H l = some (.lst (tl.map V.ref)) ∧ StpsL X H tl sts ∧ RowsOk sts ∧
  ∀ t zs H', Same H H' → H' t = some (.tup (zs.map V.str)) → SortP (namesS sts) zs → Q (.ref t) H'
theorem rows_of {ts : List Str} {wide : Int} {sts : List Stp} (hn : ∀ t ∈ ts, IsNm t) (hw : wide ≤ 10 ^ 20) (hl : sts.length ≤ 8) (h : ∀ (i : Nat) st, sts[i]? = some st → StpOk ts wide i sts.length st) (e : EndOk sts) : RowsOk sts :=
  ⟨hl, fun i st hi => (h i st hi).d hn hw, e⟩
theorem names_take {sts : List Stp} {i : Nat} {st : Stp} (h : sts[i]? = some st) : namesS (sts.take (i + 1)) = namesS (sts.take i) ++ (sumS st).flatMap fun p => p.map (·.1) := by
  rw [List.take_add_one, h, namesS, namesS, List.flatMap_append]
  simp
end RV
/-! bool(o), o of an own class with an own __len__ and no __bool__ -/
namespace RV
open PySem L2 PySem.Spec PyProof.Rows Builtin PySem.Calls PySem.W
section
variable {prog : Program} {w : World} {A : Around} {E : Value → Shared → Prop} {s : Shared} {K : Frag} {x C L f : Addr} {h₀ : Heap} {m : Str → Option Value} {ox : Obj} {od : Option Obj}
theorem truthy_KL {Q : Bool → Shared → Prop} (F : Fr h₀ L s.heap m) (X₀ : K.In h₀) (I : InstAt s.heap x ox C od) (hb : findIn K (.ref C) "__bool__" = some none) (hs : findIn K (.ref C) "__len__" = some (some (.ref f))) (hf : isFn K (.ref f) = true)
    (h : wpAny (model prog w) A.in1 (call (.ref f) [.ref x]) (PySem.W.LenBack (fun v s' => ∃ n t, v = .int n t ∧ Q (n != 0) s')) E s) : wpAny (model prog w) A (truthy (.ref x)) Q E s := by
  have X := X₀.keeps F.keep
  unfold truthy
  refine wpAny_bind (m := callSpecial? (.ref x) (Str.ofString "__bool__")) (wpAny_bind (wpAny_bind (I.type.here ((looks_findIn X hb).here (wpAny_pure ?_)))))
  refine wpAny_bind (wpAny_bind (I.type.here ((looks_findIn X hs).here ?_)))
  show wpAny _ _ (if (some (Value.ref f)).isNone = true then _ else _) _ _ _
  rw [if_neg (by simp)]
  have key : wpAny (model prog w) A (runValue (.builtin "len" ⟨[.ref x], []⟩)) (fun v s' => ∃ n t, v = .int n t ∧ Q (n != 0) s') E s := by
    refine wpAny_runValue (codeAny_builtin entry_len ?_)
    rw [Around.under_plainId plain_len _]
    unfold Builtin.«len»
    refine wpAny_bind (m := oneArg "len" _) (wpAny_pure ?_)
    refine wpAny_bind (m := callSpecial? (.ref x) (Str.ofString "__len__")) (special_fn X I hs (beq_iff_eq.mp hf) (wpAny_mono h (fun r s' hr => ?_) fun _ _ y => y))
    cases r <;> first | exact hr.elim | skip
    rename_i n u
    obtain ⟨⟨h0, h1⟩, hq⟩ := hr
    refine wpAny_bind (wpAny_holding (wpAny_pure ?_))
    refine wpAny_bind (wpAny_letGo ?_)
    show wpAny _ _ (if n < 0 then _ else _) _ _ _
    rw [if_neg (by omega)]
    show wpAny _ _ (if n ≥ 2 ^ 63 then _ else _) _ _ _
    rw [if_neg (by omega)]
    exact wpAny_bind (wpAny_mkInt (wpAny_pure hq))
  refine wpAny_bind (wpAny_mono key (fun r s' h' => ?_) fun _ _ e => e)
  obtain ⟨n, t, rfl, hq⟩ := h'
  exact wpAny_pure hq
/-- bool(v), by v's truth -/
theorem call_bool_truth {v : Value} {Q : Value → Shared → Prop} (h : wpAny (model prog w) A.in1.in1 (truthy v) (fun b s' => Q (.bool b) s') E s) : wpAny (model prog w) A (call (.type "bool") [v]) Q E s := by
  obtain ⟨c, tl, hmro⟩ := PySem.F.called_bool.mro
  have hmade := PySem.F.called_bool.made
  have hsub := PySem.F.called_bool.sub
  refine wpAny_call (codeAny_of_tree ?_)
  show wpAny _ _ (callAny (.type "bool") _) _ _ _
  refine wpAny_pure ⟨Code.quiet_builtin _ (by decide +kernel), codeAny_builtin PySem.F.entry_type_call ?_⟩
  rw [Around.under_plain (weight_type_call_type "bool" [v] []) rfl]
  have n1 := PySem.F.called_bool.notType
  have n2 := PySem.F.called_bool.canCreate
  have n3 := PySem.F.typeCall_bool_1 v
  repeat (any_goals (first | assumption | wp_step))
  refine codeAny_mono (codeAny_call_builtin (R := wants (fun obj s₁ => ∃ b, obj = .bool b ∧ Q (.bool b) s₁) E) PySem.F.called_bool.plain PySem.F.entry_bool_new (wpAny_of_eq (PySem.F.newCall_bool_1 v) ?_)) fun r s₁ hr => ?_
  · unfold Builtin.«bool.__new__»
    have f1 := PySem.F.conv_sub_bool
    generalize hT : truthy = TR at h
    repeat (any_goals (first | assumption | wp_step))
    exact wpAny_mono h (fun b s' hq => wpAny_pure ⟨b, rfl, hq⟩) fun _ _ e => e
  · cases r with
    | error e => exact hr
    | ok fl =>
      cases fl with
      | ret obj =>
        obtain ⟨b, rfl, hq⟩ := hr
        have hT := PySem.typeIs_bool s₁ b
        have hli := PySem.F.called_bool.init.lookup
        have hbi := PySem.F.called_bool.init.bind (.bool b)
        repeat (any_goals (first | assumption | wp_step))
        refine codeAny_mono (codeAny_call_builtin (R := wants (fun r s₂ => r = .none ∧ Q (.bool b) s₂) E) PySem.F.called_bool.init.plain PySem.F.entry_object_init (PySem.F.called_bool.init.check _ _ _ _ _ _ _ _ hT (PySem.F.args_object_init_2 (.bool b) v) (object_init_meets PySem.F.called_bool.init.lookup PySem.F.called_bool.made PySem.F.newNe_bool prog w A.in1 _ s₁ ⟨hT, rfl, hq⟩))) fun r₂ s₂ hr₂ => ?_
        cases r₂ with
        | error e => exact hr₂
        | ok fl₂ =>
          cases fl₂ with
          | ret r =>
            obtain ⟨rfl, hq⟩ := hr₂
            repeat (any_goals (first | assumption | wp_step))
          | _ => exact hr₂.elim
      | _ => exact hr.elim
end
section
variable {X : Cx} {k : Nat} {sp : Sp} {C : Addr}
def rBoolL (C : Addr) (sp : Sp) : List V → Hp → VK → Prop := fun xs H Q => ∃ a dx fs, xs = [V.ref a] ∧ H a = some (.ins C dx fs) ∧ sp [.ref a] H (fun v H' => ∃ n : Nat, v = .int n ∧ n < 100000 ∧ Q (.bl ((n : Int) != 0)) H') E0
theorem call_boolLen (h : OwnM X.prog X.w X.K X.mg X.base C "__len__" k sp) (nb : PySem.W.findIn X.K (.ref C) "__bool__" = some none) (hr : Room (k + 3) X.A) : CallR X (.type "bool") (rBoolL C sp) := by
  intro pins s σ H xs us Q I rx hq
  obtain ⟨a, dx, fs, rfl, ha, hsp⟩ := hq
  obtain ⟨f, fd, ps, hs, hf, _, hb, F⟩ := h
  obtain rfl : us = [.ref a] := Vals.ref1 rx
  obtain ⟨mA, J, _⟩ := ins_get I.hok ha
  obtain ⟨od, J, _⟩ := J.look
  obtain ⟨m, hF⟩ := I.fr
  refine call_bool_truth (truthy_KL (A := X.A.in1.in1) hF I.ok.mod.kin J nb hs hf (wpAny_mono (call_owns (A := X.A.in1.in1.in1) F hb (hr.mono (by omega)).in1.in1.in1 rfl I rx hsp) (fun r s' z => ?_) fun _ _ x => x))
  obtain ⟨v, H', I', rv, n, rfl, hn, q⟩ := z
  obtain ⟨t, rfl⟩ := rv
  exact ⟨⟨by omega, by omega⟩, n, _, rfl, .bl _, H', I'.tok _, rfl, q⟩
end
end RV
/-! What the law on rules asks: a sign many times; rules compared; the last row written otherwise; what is shown. -/
namespace RV
open PySem L2 TL PyProof.Rows
/-! ### a sign many times -/
def rRepS : R2 := fun x y H Q => ∃ (z : Str) (k : Int), x = .str z ∧ y = .int k ∧ z.length = 1 ∧ 2 ≤ k ∧ k ≤ 1000 ∧ Q (.str ⟨(List.replicate k.toNat z.cps).foldl (· ++ ·) #[]⟩) H
theorem repS_len (z : Str) : ∀ (k : Nat) (acc : Array Nat), ((List.replicate k z.cps).foldl (· ++ ·) acc).size = acc.size + k * z.cps.size := by
  intro k
  induction k with
  | zero => intro acc; simp
  | succ k ih =>
    intro acc
    rw [List.replicate_succ, List.foldl_cons, ih, Array.size_append, Nat.succ_mul]
    omega
theorem op_repS {X : Cx} : OpR X (binaryOp .Mult) rRepS := by
  intro pins s σ H x y v u Q I rx ry h
  obtain ⟨z, k, rfl, rfl, z1, k2, k3, q⟩ := h
  obtain ⟨t, rfl⟩ := rx
  obtain ⟨t2, rfl⟩ := ry
  have hn : ¬ k < 1 := by omega
  have hc : (k == 1 || z.length == 0) = false := by
    rw [z1]
    simp
    omega
  refine PySem.P.mul_str (by rw [decide_eq_false (by omega), decide_eq_false (by omega)]; rfl) (fun _ _ => ?_) (fun _ _ => ?_) ?_
  · rw [z1]
    have : (1 : Int) ≤ (2 ^ 63 - 1) / k := Int.le_ediv_of_mul_le (by omega) (by omega)
    omega
  · rw [z1]
    unfold PySem.Builtin.Str.tooLong
    exact decide_eq_false (by have : (1000 : Nat) ≤ sizeLine := by decide
                              omega)
  · rw [if_neg hn, hc]
    simp only [Bool.false_eq_true, if_false]
    refine ⟨?_, ?_⟩
    · show Array.size _ ≤ sizeLine
      rw [repS_len, show z.cps.size = 1 from z1]
      have : (1000 : Nat) ≤ sizeLine := by decide
      simp
      omega
    · exact ⟨.str _, H, I.tok _, ⟨_, rfl⟩, q⟩
/-! ### rules compared -/
structure RKinds (K : PySem.W.Frag) (C : Addr) : Prop where
  nS : PySem.W.notFirst K C (.ref C) = true
  nT : PySem.W.notFirst K C (.type "tuple") = true
  nX : PySem.W.notFirst K C (.type "str") = true
  nN : PySem.W.notFirst K C (.type "NoneType") = true
  kT : PySem.W.kitOne K (.type "tuple") (.ref C) = some false
  kX : PySem.W.kitOne K (.type "str") (.ref C) = some false
  kN : PySem.W.kitOne K (.type "NoneType") (.ref C) = some false
section
variable {K : PySem.W.Frag} {CR CS a b : Addr} {H : Hp} {sts rts : List Stp} {y : V} {t : Value} {Q : VK} {neg : Bool}
theorem RuleR.ins (h : RuleR CR CS H a sts) : ∃ dx fs, H a = some (.ins CR dx fs) := by
  obtain ⟨dx, ts, tr, tl, e, _⟩ := h.ex
  exact ⟨dx, _, e⟩
theorem eqR_rule (ha : RuleR CR CS H a sts) (oa : RowsOk sts) (hb : RuleR CR CS H b rts) (ob : RowsOk rts) (RK : RKinds K CR) (r : Bool) (hr : decide (lines sts = lines rts) = r) (q : Q (.bl (if neg then !r else r)) H) : rEqO neg K CR (sp_req K CR CS) (.ref a) (.ref b) H Q := by
  obtain ⟨dx, fs, ea⟩ := ha.ins
  obtain ⟨dy, gs, eb⟩ := hb.ins
  unfold rEqO
  exact ⟨a, dx, fs, .ref CR, rfl, ea, .ins eb, RK.nS, a, .ref b, sts, rfl, ha, oa, .inl ⟨b, rts, rfl, hb, ob, _, rfl, by rw [hr]; exact q⟩⟩
theorem eqR_other (ha : RuleR CR CS H a sts) (oa : RowsOk sts) (ty : TyL H y t) (tx : TyX K H y t) (nf : PySem.W.notFirst K CR t = true) (kt : PySem.W.kitOne K t (.ref CR) = some false) (q : Q (.bl neg) H) : rEqO neg K CR (sp_req K CR CS) (.ref a) y H Q := by
  obtain ⟨dx, fs, ea⟩ := ha.ins
  unfold rEqO
  refine ⟨a, dx, fs, t, rfl, ea, ty, nf, a, y, sts, rfl, ha, oa, .inr ⟨t, tx, kt, false, rfl, ?_⟩⟩
  cases neg <;> exact q
end
/-! ### the last row written otherwise -/
def swapS : Stp → Stp
  | .doubtS => .tellS []
  | _ => .doubtS
def nearS (sts : List Stp) : List Stp := match sts.getLast? with
  | some st => sts.dropLast ++ [swapS st]
  | none => []
theorem tell0 : lineS (.tellS []) = "tell 0" := cd_inj (by decide +kernel)
theorem due0 : DueS [] := ⟨⟨⟨.nil, (fun _ h => (nomatch h))⟩, (fun _ h => (nomatch h)), by decide, by decide⟩, by decide⟩
theorem near_len {sts : List Stp} {st : Stp} (h : sts.getLast? = some st) : (nearS sts).length = sts.length := by
  rw [nearS, h]
  simp only [List.length_append, List.length_dropLast, List.length_cons, List.length_nil]
  cases sts with
  | nil => cases h
  | cons => simp
theorem near_ok {sts : List Stp} (ok : RowsOk sts) : RowsOk (nearS sts) := by
  obtain ⟨st, h, hst⟩ := ok.fin
  have nl := near_len h
  refine ⟨by rw [nl]; exact ok.ln, fun i su hi => ?_, ?_⟩
  · rw [nl]
    rw [nearS, h] at hi
    simp only at hi
    rcases Nat.lt_or_ge i sts.dropLast.length with z | z
    · rw [List.getElem?_append_left z] at hi
      refine ok.ok i su ?_
      rw [List.getElem?_dropLast] at hi
      split at hi
      · exact hi
      · cases hi
    · rw [List.getElem?_append_right z] at hi
      cases e : i - sts.dropLast.length with
      | zero =>
        rw [e] at hi
        obtain rfl := Option.some.inj hi
        cases st <;> first | exact trivial | exact due0
      | succ m => rw [e] at hi; cases hi
  · refine ⟨swapS st, by rw [nearS, h]; simp, ?_⟩
    cases st <;> first | exact .inl rfl | exact .inr ⟨_, rfl⟩
theorem lines_last {sts : List Stp} {st : Stp} (h : sts.getLast? = some st) : lines sts = (lines sts).dropLast ++ [lineS st] := by
  obtain ⟨ys, rfl⟩ := List.getLast?_eq_some_iff.mp h
  simp [lines]
theorem near_lines {sts : List Stp} {st : Stp} (h : sts.getLast? = some st) : lines (nearS sts) = (lines sts).dropLast ++ [lineS (swapS st)] := by
  rw [nearS, h]
  simp only [lines, List.map_append, List.map_dropLast]
  rfl
theorem swap_line {st : Stp} : lineS (swapS st) = if lineS st = "doubt" then ("tell 0" : Str) else ("doubt" : Str) := by
  cases st with
  | doubtS => rw [if_pos (show lineS .doubtS = "doubt" from rfl)]; exact tell0
  | ifS p q g => rw [if_neg (line_doubt (st := .ifS p q g) fun z => (nomatch z))]; rfl
  | voteS n ss => rw [if_neg (line_doubt (st := .voteS n ss) fun z => (nomatch z))]; rfl
  | tellS p => rw [if_neg (line_doubt (st := .tellS p) fun z => (nomatch z))]; rfl
theorem swap_ne {st : Stp} : lineS (swapS st) ≠ lineS st := by
  rw [swap_line]
  split
  · rename_i h
    rw [h]
    decide
  · rename_i h
    exact fun e => h e.symm
theorem near_ne {sts : List Stp} (ok : RowsOk sts) : lines (nearS sts) ≠ lines sts := by
  obtain ⟨st, h, _⟩ := ok.fin
  rw [near_lines h]
  intro e
  have e2 := lines_last h
  rw [← e] at e2
  rw [List.dropLast_concat] at e2
  have := List.append_cancel_left e2
  exact swap_ne (List.cons.inj this).1
/-! ### what is shown -/
theorem shw_str {x : Str} {k : Nat} (h : x.length ≤ k) (c : ∀ c ∈ tl x, c < 128) : Shw (.str x) 0 (10 * k + 2) := by
  refine ⟨by simp [PyData.showable], by simp [PyData.depth], ?_⟩
  have h1 := StrLaws.reprText_len x (fun d hd => Nat.lt_trans (c d hd) (by decide))
  show (PySem.reprText x).length ≤ _
  omega
theorem shw_dL {xs : List Str} {k : Nat} (h : ∀ x ∈ xs, x.length ≤ k ∧ ∀ c ∈ tl x, c < 128) : Shw (dL xs) 1 ((10 * k + 4) * xs.length + 3) := by
  have := shw_tuple (n := 0) (k := 10 * k + 2) (ds := xs.map PyData.str) fun d hd => by
    obtain ⟨x, hx, rfl⟩ := List.mem_map.mp hd
    exact shw_str (h x hx).1 (h x hx).2
  rw [List.length_map] at this
  exact this
/-- rows, meters, length and text as data -/
def dU (sts : List Stp) (zs : List Str) : PyData := .list [dL (lines sts), dL zs, .int (sts.length : Nat), .str (ruleT sts)]
def dU2 (sts : List Stp) : PyData := .list [dL (lines sts), .int (sts.length : Nat)]
theorem nm_128 {x : Str} (h : IsNm x) : x.length ≤ 8 ∧ ∀ c ∈ tl x, c < 128 := by
  refine ⟨(nm8 h).2, fun c hc => ?_⟩
  exact okC_128 (.inl (okC_of (List.all_eq_true.mp (isNm_all h) c hc)))
theorem shw_lines {sts : List Stp} (ok : RowsOk sts) : Shw (dL (lines sts)) 1 330000 := by
  refine (shw_dL (k := 4000) fun x hx => ⟨(ok.line x hx).1, (ok.line x hx).2.1⟩).mono (Nat.le_refl _) ?_
  have := ok.ln
  rw [show (lines sts).length = sts.length from List.length_map _]
  omega
theorem shw_U {sts : List Stp} {zs : List Str} (ok : RowsOk sts) (hz : SortP (namesS sts) zs) : Shw (dU sts zs) 60 2100000 := by
  have nz : zs.length ≤ 240 := by
    have h1 : zs.length ≤ (namesS sts).length := (List.Nodup.length_le_of_subset hz.2.1 fun z h => (hz.2.2 z).mp h)
    have := names_len ok
    omega
  have h1 := shw_lines ok
  have h2 : Shw (dL zs) 1 330000 := (shw_dL (k := 8) fun x hx => nm_128 (names_nm ok x ((hz.2.2 x).mp hx))).mono (Nat.le_refl _) (by omega)
  have h3 : Shw (.int (sts.length : Nat)) 1 330000 := (short_int (k := sts.length) (Nat.le_trans ok.ln (by decide))).shw.mono (by decide) (by decide)
  have h4 : Shw (.str (ruleT sts)) 1 500000 := (shw_str (k := 40000) ok.len (join_all (by decide +kernel) fun z hz => (ok.line z hz).2.1)).mono (by decide) (by decide)
  refine ((shw_list (n := 1) (k := 500000) fun d hd => ?_ : Shw (dU sts zs) (1 + 1) _).mono (by decide) (by simp))
  simp only [List.mem_cons, List.not_mem_nil, or_false] at hd
  rcases hd with rfl | rfl | rfl | rfl
  · exact h1.mono (Nat.le_refl _) (by decide)
  · exact h2.mono (Nat.le_refl _) (by decide)
  · exact h3.mono (Nat.le_refl _) (by decide)
  · exact h4.mono (Nat.le_refl _) (by decide)
theorem shw_U2 {sts : List Stp} (ok : RowsOk sts) : Shw (dU2 sts) 60 2100000 := by
  have h1 := shw_lines ok
  have h3 : Shw (.int (sts.length : Nat)) 1 330000 := (short_int (k := sts.length) (Nat.le_trans ok.ln (by decide))).shw.mono (by decide) (by decide)
  refine ((shw_list (n := 1) (k := 330000) fun d hd => ?_ : Shw (dU2 sts) (1 + 1) _).mono (by decide) (by simp))
  simp only [List.mem_cons, List.not_mem_nil, or_false] at hd
  rcases hd with rfl | rfl
  · exact h1
  · exact h3
theorem rRepr_big {K : PySem.W.Frag} {a : Addr} {d : PyData} {H : Hp} {Q : VK} {k : Nat} (hd : Dp K H (.ref a) d) (h : Shw d 60 k) (hk : k ≤ 16000000) (q : Q (.str d.shown) H) : rRepr K [.ref a] H Q := by
  unfold rRepr
  exact ⟨a, d, rfl, hd, h.ok, h.dp, Nat.le_trans h.ln (Nat.le_trans hk (by decide)), q⟩
theorem join_fit {sts : List Stp} (ok : RowsOk sts) : ((lines sts).map (·.length)).sum + (lines sts).length * Str.length "\n" ≤ 16777216 := by
  have h1 := ok.sum
  have h2 := ok.ln
  have e3 : Str.length "\n" = 1 := by decide +kernel
  rw [show (lines sts).length = sts.length from List.length_map _, e3]
  omega
theorem lines_len (sts : List Stp) : ((lines sts).map V.str).length = sts.length := by rw [List.length_map, lines, List.length_map]
theorem cutV_last (xs : List V) : cutV xs none (some (-1)) = xs.dropLast := by
  have e1 : HT.sIx xs.length xs.length (some (-1)) = xs.length - 1 := by
    show (if (-1 : Int) < 0 then ((-1 : Int) + (xs.length : Int)).toNat else min (-1 : Int).toNat xs.length) = _
    rw [if_pos (by decide)]
    omega
  unfold cutV
  rw [e1, HT.sIx_none, List.drop_zero, List.dropLast_eq_take]
  rfl
theorem not_whole {xs : List V} (h : 0 < xs.length) : ¬ (HT.sIx xs.length 0 none = 0 ∧ HT.sIx xs.length xs.length (some (-1)) = xs.length) := by
  have e1 : HT.sIx xs.length xs.length (some (-1)) = xs.length - 1 := by
    show (if (-1 : Int) < 0 then ((-1 : Int) + (xs.length : Int)).toNat else min (-1 : Int).toNat xs.length) = _
    rw [if_pos (by decide)]
    omega
  rw [e1]
  omega
theorem catA_of {K : PySem.W.Frag} {a b : Addr} {xs ys : List V} {H : Hp} {Q : VK} (ha : SqT K H a xs) (hb : H b = some (.tup ys)) (ny : ys ≠ []) (hz : xs.length + ys.length ≤ sizeLine) (h : ∀ t H', Same H H' → H' t = some (.tup (xs ++ ys)) → Q (.ref t) H') : rCatA K (.ref a) (.ref b) H Q :=
  ⟨a, b, xs, ys, rfl, rfl, ha, SqT.of hb, hz, fun e => h b H (Same.refl _) (by rw [e]; exact hb), fun _ e => absurd e ny, fun _ _ p np => h p _ (fun c o e => (upd_ne (ne_of_none e np)).trans e) upd_same⟩
theorem if_str {l d x y : Str} {σ : L2.St} {H : Hp} {Q : VK} (h : Q (.str (if l = d then x else y)) H) : if decide (V.str l = V.str d) = true then tC (.str x) σ H Q else tC (.str y) σ H Q := by
  by_cases e : l = d
  · rw [if_pos (decide_eq_true (congrArg V.str e))]
    rw [if_pos e] at h
    exact h
  · rw [if_neg (by simp [e])]
    rw [if_neg e] at h
    exact h
theorem at_last {sts : List Stp} {st : Stp} (h : sts.getLast? = some st) : atI ((lines sts).map V.str) (-1) = some (V.str (lineS st)) := by
  rw [lines_last h, List.map_append]
  exact atI_last _ _
theorem near_last {sts : List Stp} {st : Stp} (h : sts.getLast? = some st) : (lines (nearS sts)).map V.str = ((lines sts).map V.str).dropLast ++ [V.str (if lineS st = "doubt" then ("tell 0" : Str) else ("doubt" : Str))] := by
  rw [near_lines h, List.map_append, List.map_dropLast, swap_line]
  rfl
def sp_right47 : Sp := fun vs H Q _ => ∃ (a : Addr) (n : Nat), vs = [.ref a] ∧ WellAt H a n ∧ n < 500000 ∧ ∀ H', Grow a H H' → Q (.bl true) H'
end RV
/-! The rules that the law writes out. -/
namespace RV
open PySem L2 TL PyProof.Rows
def qA : Prs := [("m1", 1)]
def qB : Prs := [("m2", 1), ("m3", 1)]
def qC : Prs := [("m4", 1), ("m5", 1)]
def qD : Prs := [("go", -3), ("if", 1)]
def qE : Prs := [("a", 1111111111111111111111111111111111111111), ("b1234567", -9999999999999999999999999999999999999999)]
def qF : Prs := [("z", 1), ("zz", -1)]
def rA : List Stp := [.ifS qA qB 2, .tellS qC, .tellS qA]
def rB : List Stp := [.doubtS]
def rC : List Stp := [.tellS []]
def rD : List Stp := [.ifS [] [] 7, .tellS qD, .tellS qD, .tellS qD, .tellS qD, .tellS qD, .tellS qD, .tellS qD]
def rE : List Stp := [.voteS 3 [qE], .tellS qF]
theorem due_lit {p : Prs} (h : (p.all fun q => isNm (cd q.1) && q.2 != 0) = true) (s : p.Pairwise fun q r => Lt q.1 r.1) (t : tot p ≤ 10 ^ 45) (l : p.length ≤ 3) : DueS p := by
  have h := List.all_eq_true.mp h
  refine ⟨⟨⟨?_, fun q hq => ?_⟩, fun q hq => ?_, t, Nat.le_trans l (by decide)⟩, l⟩
  · rw [List.pairwise_map]
    exact s
  · have := h q hq
    rw [Bool.and_eq_true] at this
    exact bne_iff_ne.mp this.2
  · have := h q hq
    rw [Bool.and_eq_true] at this
    exact this.1
theorem dA : DueS qA := due_lit (by decide +kernel) (by simp [qA]) (by decide +kernel) (by decide)
theorem dB : DueS qB := due_lit (by decide +kernel) (by simp [qB]; show PySem.Spec.ltCps _ _ = true; decide +kernel) (by decide +kernel) (by decide)
theorem dC : DueS qC := due_lit (by decide +kernel) (by simp [qC]; show PySem.Spec.ltCps _ _ = true; decide +kernel) (by decide +kernel) (by decide)
theorem dD : DueS qD := due_lit (by decide +kernel) (by simp [qD]; show PySem.Spec.ltCps _ _ = true; decide +kernel) (by decide +kernel) (by decide)
theorem dE : DueS qE := due_lit (by decide +kernel) (by simp [qE]; show PySem.Spec.ltCps _ _ = true; decide +kernel) (by decide +kernel) (by decide)
theorem dF : DueS qF := due_lit (by decide +kernel) (by simp [qF]; show PySem.Spec.ltCps _ _ = true; decide +kernel) (by decide +kernel) (by decide)
theorem okA : RowsOk rA := ⟨by decide, (fun i st h => match i, h with
  | 0, h => by obtain rfl := Option.some.inj h; exact ⟨dA, dB, by decide, by decide⟩
  | 1, h => by obtain rfl := Option.some.inj h; exact dC
  | 2, h => by obtain rfl := Option.some.inj h; exact dA
  | i + 3, h => (by cases h)), ⟨_, rfl, .inr ⟨_, rfl⟩⟩⟩
theorem okB : RowsOk rB := ⟨by decide, (fun i st h => match i, h with
  | 0, h => by obtain rfl := Option.some.inj h; exact trivial
  | i + 1, h => (by cases h)), ⟨_, rfl, .inl rfl⟩⟩
theorem okC' : RowsOk rC := ⟨by decide, (fun i st h => match i, h with
  | 0, h => by obtain rfl := Option.some.inj h; exact due0
  | i + 1, h => (by cases h)), ⟨_, rfl, .inr ⟨_, rfl⟩⟩⟩
theorem okD : RowsOk rD := ⟨by decide, (fun i st h => match i, h with
  | 0, h => by obtain rfl := Option.some.inj h; exact ⟨due0, due0, by decide, by decide⟩
  | 1, h => by obtain rfl := Option.some.inj h; exact dD
  | 2, h => by obtain rfl := Option.some.inj h; exact dD
  | 3, h => by obtain rfl := Option.some.inj h; exact dD
  | 4, h => by obtain rfl := Option.some.inj h; exact dD
  | 5, h => by obtain rfl := Option.some.inj h; exact dD
  | 6, h => by obtain rfl := Option.some.inj h; exact dD
  | 7, h => by obtain rfl := Option.some.inj h; exact dD
  | i + 8, h => (by cases h)), ⟨_, rfl, .inr ⟨_, rfl⟩⟩⟩
theorem okE : RowsOk rE := ⟨by decide, (fun i st h => match i, h with
  | 0, h => by
    obtain rfl := Option.some.inj h
    exact ⟨by decide, by decide, by decide, fun p hp => by
      obtain rfl := List.mem_singleton.mp hp
      exact dE⟩
  | 1, h => by obtain rfl := Option.some.inj h; exact dF
  | i + 2, h => (by cases h)), ⟨_, rfl, .inr ⟨_, rfl⟩⟩⟩
/-! their texts -/
theorem tA : (lines rA).map V.str = [.str "if m1 == m2 + m3 go 2", .str "tell m4 + m5", .str "tell m1"] := by
  have e1 : lineS (.ifS qA qB 2) = "if m1 == m2 + m3 go 2" := cd_inj (by decide +kernel)
  have e2 : lineS (.tellS qC) = "tell m4 + m5" := cd_inj (by decide +kernel)
  have e3 : lineS (.tellS qA) = "tell m1" := cd_inj (by decide +kernel)
  show [V.str (lineS (.ifS qA qB 2)), V.str (lineS (.tellS qC)), V.str (lineS (.tellS qA))] = _
  rw [e1, e2, e3]
theorem tB : (lines rB).map V.str = [.str "doubt"] := rfl
theorem tC' : (lines rC).map V.str = [.str "tell 0"] := by
  show [V.str (lineS (.tellS []))] = _
  rw [tell0]
theorem tD : (lines rD).map V.str = [.str "if 0 == 0 go 7"] ++ (List.replicate (Int.toNat 7) [V.str "tell -3*go + if"]).flatten := by
  have e1 : lineS (.ifS [] [] 7) = "if 0 == 0 go 7" := cd_inj (by decide +kernel)
  have e2 : lineS (.tellS qD) = "tell -3*go + if" := cd_inj (by decide +kernel)
  show [V.str (lineS (.ifS [] [] 7)), V.str (lineS (.tellS qD)), V.str (lineS (.tellS qD)), V.str (lineS (.tellS qD)), V.str (lineS (.tellS qD)), V.str (lineS (.tellS qD)), V.str (lineS (.tellS qD)), V.str (lineS (.tellS qD))] = _
  rw [e1, e2]
  rfl
/-- a sign so many times -/
def repS (z : Str) (k : Int) : Str := ⟨(List.replicate k.toNat z.cps).foldl (· ++ ·) #[]⟩
theorem tE : (lines rE).map V.str = [.str (((((("vote 3: " : Str) ++ repS "1" 40) ++ ("*a - " : Str)) ++ repS "9" 40) ++ cutS "*b12345678" none (some 9))), .str "tell z - zz"] := by
  have e1 : lineS (.voteS 3 [qE]) = (((("vote 3: " : Str) ++ repS "1" 40) ++ ("*a - " : Str)) ++ repS "9" 40) ++ cutS "*b12345678" none (some 9) := cd_inj (by decide +kernel)
  have e2 : lineS (.tellS qF) = "tell z - zz" := cd_inj (by decide +kernel)
  show [V.str (lineS (.voteS 3 [qE])), V.str (lineS (.tellS qF))] = _
  rw [e1, e2]
/-! their meters -/
theorem sp_lit {xs zs : List Str} (a : sortedS zs = true) (b : zs.Nodup) (c : (zs.all fun z => decide (z ∈ xs)) = true) (d : (xs.all fun z => decide (z ∈ zs)) = true) : SortP xs zs :=
  ⟨a, b, fun z => ⟨fun h => of_decide_eq_true (List.all_eq_true.mp c z h), fun h => of_decide_eq_true (List.all_eq_true.mp d z h)⟩⟩
theorem nA : SortP (namesS rA) ["m1", "m2", "m3", "m4", "m5"] := sp_lit (by decide +kernel) (by decide +kernel) (by decide +kernel) (by decide +kernel)
theorem nB : SortP (namesS rB) [] := sp_lit (by decide +kernel) (by decide +kernel) (by decide +kernel) (by decide +kernel)
theorem nC : SortP (namesS rC) [] := sp_lit (by decide +kernel) (by decide +kernel) (by decide +kernel) (by decide +kernel)
theorem nD : SortP (namesS rD) ["go", "if"] := sp_lit (by decide +kernel) (by decide +kernel) (by decide +kernel) (by decide +kernel)
theorem nE : SortP (namesS rE) ["a", "b1234567", "z", "zz"] := sp_lit (by decide +kernel) (by decide +kernel) (by decide +kernel) (by decide +kernel)
/-- what the law shows of them -/
def dLaw : PyData := .list [.int 3, dL ["m1", "m2", "m3", "m4", "m5"], .list [dL [], dL [], dL ["go", "if"]], .list [.int 1, .int 1, .int 8], dL ["a", "b1234567", "z", "zz"], .int 2]
theorem shw_law : Shw dLaw 60 100000 := by
  have s : ∀ xs : List Str, (xs.all fun x => isNm (cd x)) = true → xs.length ≤ 5 → Shw (dL xs) 1 1000 := fun xs h l => (shw_dL (k := 8) fun x hx => nm_128 (List.all_eq_true.mp h x hx)).mono (Nat.le_refl _) (by omega)
  have i : ∀ k : Nat, k ≤ 50 → Shw (.int (k : Nat)) 1 1000 := fun k h => (short_int h).shw.mono (by decide) (by decide)
  have a := s ["m1", "m2", "m3", "m4", "m5"] (by decide +kernel) (by decide)
  have b := s [] (by decide +kernel) (by decide)
  have c := s ["go", "if"] (by decide +kernel) (by decide)
  have d := s ["a", "b1234567", "z", "zz"] (by decide +kernel) (by decide)
  have e : Shw (.list [dL [], dL [], dL ["go", "if"]]) 2 5000 := ((shw_list (n := 1) (k := 1000) fun x hx => by
    simp only [List.mem_cons, List.not_mem_nil, or_false] at hx
    rcases hx with rfl | rfl | rfl
    · exact b
    · exact b
    · exact c : Shw (.list [dL [], dL [], dL ["go", "if"]]) (1 + 1) _).mono (by decide) (by simp))
  have g : Shw (.list [.int 1, .int 1, .int 8]) 2 5000 := ((shw_list (n := 1) (k := 1000) fun x hx => by
    simp only [List.mem_cons, List.not_mem_nil, or_false] at hx
    rcases hx with rfl | rfl | rfl
    · exact i 1 (by decide)
    · exact i 1 (by decide)
    · exact i 8 (by decide) : Shw (.list [.int 1, .int 1, .int 8]) (1 + 1) _).mono (by decide) (by simp))
  refine ((shw_list (n := 2) (k := 5000) fun x hx => ?_ : Shw dLaw (2 + 1) _).mono (by decide) (by simp))
  simp only [List.mem_cons, List.not_mem_nil, or_false] at hx
  rcases hx with rfl | rfl | rfl | rfl | rfl | rfl
  · exact (i 3 (by decide)).mono (by decide) (by decide)
  · exact a.mono (by decide) (by decide)
  · exact e
  · exact g
  · exact d.mono (by decide) (by decide)
  · exact (i 2 (by decide)).mono (by decide) (by decide)
end RV
namespace RV
open PySem L2
def top (i : Nat) : Stmt := PySem.Challenge.pw_ringvotes_k47_rules_made.main.body.getD i (.Pass ⟨0, 0, 0, 0⟩)
abbrev s_wall : Stmt := top 0
abbrev sc_wall_N : List Str := ["k"]
abbrev s_is_number : Stmt := top 7
abbrev sc_is_number_N : List Str := ["value"]
theorem sc_is_number : FnScope sc_is_number_N ["value"] (defScope s_is_number) := ⟨rfl, rfl, rfl, by decide +kernel, rfl, by decide +kernel, by decide +kernel⟩
abbrev s_is_name : Stmt := top 8
abbrev sc_is_name_N : List Str := ["value", "letter"]
theorem sc_is_name : FnScope sc_is_name_N ["value"] (defScope s_is_name) := ⟨rfl, rfl, rfl, by decide +kernel, rfl, by decide +kernel, by decide +kernel⟩
abbrev s_is_digits : Stmt := top 9
abbrev sc_is_digits_N : List Str := ["text"]
theorem sc_is_digits : FnScope sc_is_digits_N ["text"] (defScope s_is_digits) := ⟨rfl, rfl, rfl, by decide +kernel, rfl, by decide +kernel, by decide +kernel⟩
abbrev s_written_number : Stmt := top 10
abbrev sc_written_number_N : List Str := ["number", "pieces", "rest"]
theorem sc_written_number : FnScope sc_written_number_N ["number"] (defScope s_written_number) := ⟨rfl, rfl, rfl, by decide +kernel, rfl, by decide +kernel, by decide +kernel⟩
abbrev s_read_number : Stmt := top 11
abbrev sc_read_number_N : List Str := ["digits", "first", "number", "at"]
theorem sc_read_number : FnScope sc_read_number_N ["digits"] (defScope s_read_number) := ⟨rfl, rfl, rfl, by decide +kernel, rfl, by decide +kernel, by decide +kernel⟩
abbrev s_Sum___init__ : Stmt := inClass (top 24) 0
abbrev sc_Sum___init___N : List Str := ["self", "terms"]
theorem sc_Sum___init__ : FnScope sc_Sum___init___N ["self", "terms"] (defScope s_Sum___init__) := ⟨rfl, rfl, rfl, by decide +kernel, rfl, by decide +kernel, by decide +kernel⟩
abbrev s_Sum_read : Stmt := inClass (top 24) 1
abbrev sc_Sum_read_N : List Str := ["cls", "text", "total"]
theorem sc_Sum_read : FnScope sc_Sum_read_N ["cls", "text"] (defScope s_Sum_read) := ⟨rfl, rfl, rfl, by decide +kernel, rfl, by decide +kernel, by decide +kernel⟩
abbrev s_Sum_of : Stmt := inClass (top 24) 2
abbrev sc_Sum_of_N : List Str := ["cls", "names", "name"]
abbrev s_Sum_terms : Stmt := inClass (top 24) 3
abbrev sc_Sum_terms_N : List Str := ["self"]
theorem sc_Sum_terms : FnScope sc_Sum_terms_N ["self"] (defScope s_Sum_terms) := ⟨rfl, rfl, rfl, by decide +kernel, rfl, by decide +kernel, by decide +kernel⟩
abbrev s_Sum___len__ : Stmt := inClass (top 24) 4
abbrev sc_Sum___len___N : List Str := ["self"]
abbrev s_Sum___bool__ : Stmt := inClass (top 24) 5
abbrev sc_Sum___bool___N : List Str := ["self"]
abbrev s_Sum___getitem__ : Stmt := inClass (top 24) 6
abbrev sc_Sum___getitem___N : List Str := ["self", "at", "name", "number"]
abbrev s_Sum___iter__ : Stmt := inClass (top 24) 7
abbrev sc_Sum___iter___N : List Str := ["self"]
abbrev s_Sum___contains__ : Stmt := inClass (top 24) 8
abbrev sc_Sum___contains___N : List Str := ["self", "x"]
abbrev s_Sum___str__ : Stmt := inClass (top 24) 9
abbrev sc_Sum___str___N : List Str := ["self"]
theorem sc_Sum___str__ : FnScope sc_Sum___str___N ["self"] (defScope s_Sum___str__) := ⟨rfl, rfl, rfl, by decide +kernel, rfl, by decide +kernel, by decide +kernel⟩
abbrev s_Sum___eq__ : Stmt := inClass (top 24) 10
abbrev sc_Sum___eq___N : List Str := ["self", "other"]
abbrev s_Sum___add__ : Stmt := inClass (top 24) 11
abbrev sc_Sum___add___N : List Str := ["self", "other"]
abbrev s_Sum___sub__ : Stmt := inClass (top 24) 12
abbrev sc_Sum___sub___N : List Str := ["self", "other"]
abbrev s_Sum___neg__ : Stmt := inClass (top 24) 13
abbrev sc_Sum___neg___N : List Str := ["self"]
abbrev s_Sum___mul__ : Stmt := inClass (top 24) 14
abbrev sc_Sum___mul___N : List Str := ["self", "other", "name", "number"]
abbrev s_Sum___rmul__ : Stmt := inClass (top 24) 15
abbrev sc_Sum___rmul___N : List Str := ["self", "other"]
abbrev s_check_terms : Stmt := top 25
abbrev sc_check_terms_N : List Str := ["terms", "index", "term"]
theorem sc_check_terms : FnScope sc_check_terms_N ["terms"] (defScope s_check_terms) := ⟨rfl, rfl, rfl, by decide +kernel, rfl, by decide +kernel, by decide +kernel⟩
abbrev s_is_term : Stmt := top 26
abbrev sc_is_term_N : List Str := ["value"]
theorem sc_is_term : FnScope sc_is_term_N ["value"] (defScope s_is_term) := ⟨rfl, rfl, rfl, by decide +kernel, rfl, by decide +kernel, by decide +kernel⟩
abbrev s_collected : Stmt := top 27
abbrev sc_collected_N : List Str := ["terms", "coefficients", "name", "number"]
theorem sc_collected : FnScope sc_collected_N ["terms"] (defScope s_collected) := ⟨rfl, rfl, rfl, by decide +kernel, rfl, by decide +kernel, by decide +kernel⟩
abbrev s_written_terms : Stmt := top 28
abbrev sc_written_terms_N : List Str := ["terms", "name", "number", "minus", "first"]
theorem sc_written_terms : FnScope sc_written_terms_N ["terms"] (defScope s_written_terms) := ⟨rfl, rfl, rfl, by decide +kernel, rfl, by decide +kernel, by decide +kernel⟩
abbrev s_written_further : Stmt := top 29
abbrev sc_written_further_N : List Str := ["name", "number", "sign"]
theorem sc_written_further : FnScope sc_written_further_N ["name", "number"] (defScope s_written_further) := ⟨rfl, rfl, rfl, by decide +kernel, rfl, by decide +kernel, by decide +kernel⟩
abbrev s_without_sign : Stmt := top 30
abbrev sc_without_sign_N : List Str := ["name", "number"]
theorem sc_without_sign : FnScope sc_without_sign_N ["name", "number"] (defScope s_without_sign) := ⟨rfl, rfl, rfl, by decide +kernel, rfl, by decide +kernel, by decide +kernel⟩
abbrev s_terms_in : Stmt := top 31
abbrev sc_terms_in_N : List Str := ["text", "words", "terms", "sign", "word", "term"]
theorem sc_terms_in : FnScope sc_terms_in_N ["text"] (defScope s_terms_in) := ⟨rfl, rfl, rfl, by decide +kernel, rfl, by decide +kernel, by decide +kernel⟩
abbrev s_with_sign_apart : Stmt := top 32
abbrev sc_with_sign_apart_N : List Str := ["text"]
theorem sc_with_sign_apart : FnScope sc_with_sign_apart_N ["text"] (defScope s_with_sign_apart) := ⟨rfl, rfl, rfl, by decide +kernel, rfl, by decide +kernel, by decide +kernel⟩
abbrev s_read_term : Stmt := top 33
abbrev sc_read_term_N : List Str := ["sign", "word", "digits", "star", "name", "number"]
theorem sc_read_term : FnScope sc_read_term_N ["sign", "word"] (defScope s_read_term) := ⟨rfl, rfl, rfl, by decide +kernel, rfl, by decide +kernel, by decide +kernel⟩
abbrev s_Rule___init__ : Stmt := inClass (top 39) 0
abbrev sc_Rule___init___N : List Str := ["self", "rows"]
theorem sc_Rule___init__ : FnScope sc_Rule___init___N ["self", "rows"] (defScope s_Rule___init__) := ⟨rfl, rfl, rfl, by decide +kernel, rfl, by decide +kernel, by decide +kernel⟩
abbrev s_Rule_read : Stmt := inClass (top 39) 1
abbrev sc_Rule_read_N : List Str := ["cls", "text"]
theorem sc_Rule_read : FnScope sc_Rule_read_N ["cls", "text"] (defScope s_Rule_read) := ⟨rfl, rfl, rfl, by decide +kernel, rfl, by decide +kernel, by decide +kernel⟩
abbrev s_Rule_voting : Stmt := inClass (top 39) 2
abbrev sc_Rule_voting_N : List Str := ["cls", "against", "totals"]
abbrev s_Rule_rows : Stmt := inClass (top 39) 3
abbrev sc_Rule_rows_N : List Str := ["self"]
theorem sc_Rule_rows : FnScope sc_Rule_rows_N ["self"] (defScope s_Rule_rows) := ⟨rfl, rfl, rfl, by decide +kernel, rfl, by decide +kernel, by decide +kernel⟩
abbrev s_Rule_steps : Stmt := inClass (top 39) 4
abbrev sc_Rule_steps_N : List Str := ["self"]
abbrev s_Rule_meters : Stmt := inClass (top 39) 5
abbrev sc_Rule_meters_N : List Str := ["self", "step", "total", "term"]
theorem sc_Rule_meters : FnScope sc_Rule_meters_N ["self"] (defScope s_Rule_meters) := ⟨rfl, rfl, rfl, by decide +kernel, rfl, by decide +kernel, by decide +kernel⟩
abbrev s_Rule___len__ : Stmt := inClass (top 39) 6
abbrev sc_Rule___len___N : List Str := ["self"]
theorem sc_Rule___len__ : FnScope sc_Rule___len___N ["self"] (defScope s_Rule___len__) := ⟨rfl, rfl, rfl, by decide +kernel, rfl, by decide +kernel, by decide +kernel⟩
abbrev s_Rule___str__ : Stmt := inClass (top 39) 7
abbrev sc_Rule___str___N : List Str := ["self"]
theorem sc_Rule___str__ : FnScope sc_Rule___str___N ["self"] (defScope s_Rule___str__) := ⟨rfl, rfl, rfl, by decide +kernel, rfl, by decide +kernel, by decide +kernel⟩
abbrev s_Rule___eq__ : Stmt := inClass (top 39) 8
abbrev sc_Rule___eq___N : List Str := ["self", "other"]
theorem sc_Rule___eq__ : FnScope sc_Rule___eq___N ["self", "other"] (defScope s_Rule___eq__) := ⟨rfl, rfl, rfl, by decide +kernel, rfl, by decide +kernel, by decide +kernel⟩
abbrev s_steps_in : Stmt := top 40
abbrev sc_steps_in_N : List Str := ["rows", "steps", "index", "row", "step"]
theorem sc_steps_in : FnScope sc_steps_in_N ["rows"] (defScope s_steps_in) := ⟨rfl, rfl, rfl, by decide +kernel, rfl, by decide +kernel, by decide +kernel⟩
abbrev s_read_row : Stmt := top 41
abbrev sc_read_row_N : List Str := ["row", "index", "many", "kind", "_", "rest"]
theorem sc_read_row : FnScope sc_read_row_N ["row", "index", "many"] (defScope s_read_row) := ⟨rfl, rfl, rfl, by decide +kernel, rfl, by decide +kernel, by decide +kernel⟩
abbrev s_read_vote : Stmt := top 42
abbrev sc_read_vote_N : List Str := ["text", "word", "_", "listed", "texts"]
theorem sc_read_vote : FnScope sc_read_vote_N ["text"] (defScope s_read_vote) := ⟨rfl, rfl, rfl, by decide +kernel, rfl, by decide +kernel, by decide +kernel⟩
abbrev s_read_test : Stmt := top 43
abbrev sc_read_test_N : List Str := ["text", "least", "most", "test", "_", "word", "texts"]
theorem sc_read_test : FnScope sc_read_test_N ["text", "least", "most"] (defScope s_read_test) := ⟨rfl, rfl, rfl, by decide +kernel, rfl, by decide +kernel, by decide +kernel⟩
abbrev s_step : Stmt := top 44
abbrev sc_step_N : List Str := ["kind", "number", "texts", "text"]
theorem sc_step : FnScope sc_step_N ["kind", "number", "texts"] (defScope s_step) := ⟨rfl, rfl, rfl, by decide +kernel, rfl, by decide +kernel, by decide +kernel⟩
abbrev s_read_digit : Stmt := top 45
abbrev sc_read_digit_N : List Str := ["word", "least", "most", "number"]
theorem sc_read_digit : FnScope sc_read_digit_N ["word", "least", "most"] (defScope s_read_digit) := ⟨rfl, rfl, rfl, by decide +kernel, rfl, by decide +kernel, by decide +kernel⟩
abbrev s_spring : Stmt := top 47
abbrev sc_spring_N : List Str := ["_law_script", "_law_k", "_law_cell", "_law_state", "_law_part"]
theorem sc_spring : FnScope sc_spring_N ["_law_script", "_law_k"] (defScope s_spring) := ⟨rfl, rfl, rfl, by decide +kernel, rfl, by decide +kernel, by decide +kernel⟩
abbrev s_take : Stmt := top 48
abbrev sc_take_N : List Str := ["_law_spring_here", "_law_many", "_law_digit", "_law_times_here", "_law_more"]
theorem sc_take : FnScope sc_take_N ["_law_spring_here", "_law_many"] (defScope s_take) := ⟨rfl, rfl, rfl, by decide +kernel, rfl, by decide +kernel, by decide +kernel⟩
abbrev s_titles : Stmt := top 49
abbrev sc_titles_N : List Str := ["_law_spring_here", "_law_many", "_law_signs", "_law_found", "_law_words", "_law_k", "_law_size", "_law_title", "_law_turn", "_law_spare", "_law_sign", "_law_one"]
theorem sc_titles : FnScope sc_titles_N ["_law_spring_here", "_law_many"] (defScope s_titles) := ⟨rfl, rfl, rfl, by decide +kernel, rfl, by decide +kernel, by decide +kernel⟩
abbrev s_times : Stmt := top 50
abbrev sc_times_N : List Str := ["_law_spring_here", "_law_wide", "_law_size"]
theorem sc_times : FnScope sc_times_N ["_law_spring_here", "_law_wide"] (defScope s_times) := ⟨rfl, rfl, rfl, by decide +kernel, rfl, by decide +kernel, by decide +kernel⟩
abbrev s_total : Stmt := top 51
abbrev sc_total_N : List Str := ["_law_spring_here", "_law_tags", "_law_many", "_law_wide", "_law_chosen", "_law_turn", "_law_tag", "_law_times_here", "_law_pair"]
theorem sc_total : FnScope sc_total_N ["_law_spring_here", "_law_tags", "_law_many", "_law_wide"] (defScope s_total) := ⟨rfl, rfl, rfl, by decide +kernel, rfl, by decide +kernel, by decide +kernel⟩
abbrev s_steps : Stmt := top 52
abbrev sc_steps_N : List Str := ["_law_spring_here", "_law_tags", "_law_many", "_law_wide", "_law_size", "_law_left", "_law_steps_here", "_law_some", "_law_k", "_law_way", "_law_ends", "_law_count", "_law_sums_here", "_law_turn", "_law_room"]
theorem sc_steps : FnScope sc_steps_N ["_law_spring_here", "_law_tags", "_law_many", "_law_wide"] (defScope s_steps) := ⟨rfl, rfl, rfl, by decide +kernel, rfl, by decide +kernel, by decide +kernel⟩
abbrev s_pick : Stmt := top 53
abbrev sc_pick_N : List Str := ["_law_spring_here", "_law_some", "_law_tags", "_law_wide", "_law_way"]
theorem sc_pick : FnScope sc_pick_N ["_law_spring_here", "_law_some", "_law_tags", "_law_wide"] (defScope s_pick) := ⟨rfl, rfl, rfl, by decide +kernel, rfl, by decide +kernel, by decide +kernel⟩
abbrev s_last : Stmt := top 54
abbrev sc_last_N : List Str := ["_law_spring_here", "_law_some", "_law_tags", "_law_wide"]
theorem sc_last : FnScope sc_last_N ["_law_spring_here", "_law_some", "_law_tags", "_law_wide"] (defScope s_last) := ⟨rfl, rfl, rfl, by decide +kernel, rfl, by decide +kernel, by decide +kernel⟩
abbrev s_told : Stmt := top 55
abbrev sc_told_N : List Str := ["_law_pairs", "_law_text_here", "_law_tag", "_law_times_here", "_law_body"]
theorem sc_told : FnScope sc_told_N ["_law_pairs"] (defScope s_told) := ⟨rfl, rfl, rfl, by decide +kernel, rfl, by decide +kernel, by decide +kernel⟩
abbrev s_line : Stmt := top 56
abbrev sc_line_N : List Str := ["_law_step", "_law_one"]
theorem sc_line : FnScope sc_line_N ["_law_step"] (defScope s_line) := ⟨rfl, rfl, rfl, by decide +kernel, rfl, by decide +kernel, by decide +kernel⟩
abbrev s_names_of : Stmt := top 57
abbrev sc_names_of_N : List Str := ["_law_steps_here", "_law_found", "_law_step", "_law_sums_here", "_law_one", "_law_pair"]
theorem sc_names_of : FnScope sc_names_of_N ["_law_steps_here"] (defScope s_names_of) := ⟨rfl, rfl, rfl, by decide +kernel, rfl, by decide +kernel, by decide +kernel⟩
abbrev s_right : Stmt := top 58
abbrev sc_right_N : List Str := ["_law_spring_here", "_law_tags", "_law_steps_here", "_law_later", "_law_lines", "_law_others", "_law_due", "_law_mine", "_law_twin", "_law_third", "_law_mate", "_law_near", "_law_one", "_law_same", "_law_told_here", "_law_wanted", "_law_step"]
theorem sc_right : FnScope sc_right_N ["_law_spring_here"] (defScope s_right) := ⟨rfl, rfl, rfl, by decide +kernel, rfl, by decide +kernel, by decide +kernel⟩
abbrev s_law : Stmt := top 59
abbrev sc_law_N : List Str := ["_law_script", "_law_mine", "_law_few", "_law_wide", "_law_told_here", "_law_one", "_law_k"]
theorem sc_law : FnScope sc_law_N ["_law_script"] (defScope s_law) := ⟨rfl, rfl, rfl, by decide +kernel, rfl, by decide +kernel, by decide +kernel⟩
end RV
namespace RV
open PySem L2
section
variable {P : Program} {w : World} {K : PySem.W.Frag} {mg : Str → Option Value} {base : Heap}
theorem ok_is_name {f : Addr} {fd : FuncData} (F : Fun K "is_name" "is_name" s_is_name f fd) (T : Blt mg) (C : Cst mg) : FnOk P w K mg base CX0 1 f fd ["value"] (sp_is_name K) := by
  refine F.ok sc_is_name (fun vs H Q E h => ?_) (fun cdv A outer s H vs Q E hr h => ?_)
  · obtain ⟨_, rfl, _⟩ := h
    rfl
  · obtain ⟨v, rfl, k⟩ := h
    refine ⟨_, (pss_cons (ps_if (PW.pt (pw_or (pt_not (pt_val (pe_callB call_isi (by rfl) T.b_isinstance (by decide +kernel) (pa_cons (pv 0) (pa_cons (pe_bltn (v := .ty "str") (by rfl) T.b_str (by decide +kernel) rfl) pa_nil))))) (pw_or1 (pt_not (pt_chain op_le op_le pe_int (pe_callB call_len_str (by rfl) T.b_len (by decide +kernel) (pa_cons (pv 0) pa_nil)) (pe_gI C.c__LONGEST_NAME)))))) (pss_one (ps_ret pe_bl)) pss_nil)
      (pss_one (ps_ret (pe_and (pe_cmpR op_in_sign (pe_ix ix_str (pv 0) pe_int (fun _ _ => rfl)) (pe_gS C.c__LETTERS) (by rfl)) (pe_one (pe_callB (cr_all rfl) (by rfl) T.b_all (by decide +kernel) (pa_cons (pe_lc (own := [("letter", 1)]) (g := gName 1) (tt := tYes) rfl sc_is_name.nd (pi_str (pv 0)) (blkOk_by (N := sc_is_name_N) (sc := defScope s_is_name) (by decide +kernel)) (fun _ _ _ _ _ => pg_name (i := 1) sc_is_name.nd rfl (Or.inl rfl)) (fun _ _ _ _ _ => pts_nil) (fun _ _ _ _ _ => (pe_cmpR op_in_sign (pv 1) (pe_op op_add_str (pe_gS C.c__LETTERS) (pe_gS C.c__DIGITS)) (by rfl)))) pa_nil))))))), ?_⟩
    rcases k with ⟨x, rfl, hx, k⟩ | ⟨t, ty, kt, k⟩
    · refine ⟨_, rfl, _, _, .type "str", .type "str", true, rfl, .ty _, .base (.str x), kit_ty (by decide +kernel), true, rfl, ?_⟩
      refine iteF ⟨_, rfl, _, rfl, hx, _, _, rfl, rfl, _, rfl, ?_⟩
      have out : isNm (cd x) = false → Q (.bl false) H := fun e => e ▸ k H (Same.refl H)
      refine ite2 (fun h1 => ?_) (fun h1 => ?_)
      · refine ⟨_, _, rfl, rfl, _, rfl, ?_⟩
        have h1' := of_decide_eq_true h1
        cases e8 : decide ((x.length : Int) ≤ 8) with
        | false =>
          refine out ?_
          cases q : isNm (cd x) with
          | false => rfl
          | true =>
            have := isNm_len q
            rw [← cd_len] at this
            have h8 := of_decide_eq_false e8
            omega
        | true =>
          have h8 := of_decide_eq_true e8
          obtain ⟨c, r, ec⟩ : ∃ c r, cd x = c :: r := by
            cases e : cd x with
            | nil =>
              rw [cd_len, e] at h1'
              simp at h1'
            | cons c r => exact ⟨c, r, rfl⟩
          have hr7 : r.length ≤ 7 := by
            rw [cd_len, ec, List.length_cons] at h8
            omega
          refine ⟨_, rfl, x, _, c, rfl, rfl, hx, atI_nat (j := 0) (by show (cd x)[0]? = some c; rw [ec]; rfl), c, _, rfl, rfl, _, rfl, ?_⟩
          have el : decide (c ∈ cd "abcdefghijklmnopqrstuvwxyz") = lowC c := low_in c
          refine ite2 (fun hl => ?_) (fun hl => ?_)
          · have hl' : lowC c = true := el.symm.trans hl
            refine ⟨_, rfl, x, rfl, fun D nD => lc_str (z := x) (fun i H' => Same H H' ∧ H' D = some (.lst ((((cd x).take i).map tailC).map V.bl))) ⟨fun b o e => by rw [upd_ne (ne_of_none e nD)]; exact e, upd_same⟩ ?_ ?_⟩
            · rintro i d H6 hi ⟨s6, h6⟩
              refine ⟨rfl, _, rfl, _, _, rfl, rfl, by decide, d, _, rfl, rfl, _, h6, ?_, ?_⟩
              · rw [List.length_map, List.length_map, List.length_take, ← cd_len]
                exact Nat.lt_of_lt_of_le (show _ < 1000 by omega) (by decide)
              · refine ⟨fun b o e => by rw [upd_ne (ne_of_none e nD)]; exact s6 b o e, ?_⟩
                rw [upd_same]
                obtain ⟨hl6, e'⟩ := List.getElem?_eq_some_iff.mp hi
                rw [List.take_succ_eq_append_getElem hl6, e', List.map_append, List.map_append]
                show some (HO.lst (_ ++ [V.bl (decide (d ∈ cd (("abcdefghijklmnopqrstuvwxyz" : Str) ++ ("0123456789" : Str))))])) = _
                rw [tail_in]
                rfl
            · rintro H6 ⟨s6, h6⟩
              rw [List.take_of_length_le (Nat.le_refl _)] at h6
              refine ⟨D, _, rfl, SqL.of h6, ?_⟩
              have e : isNm (cd x) = ((cd x).map tailC).all id := by
                rw [ec]
                show (lowC c && r.all tailC && decide (r.length ≤ 7)) = (tailC c && (r.map tailC).all id)
                rw [hl', tail_of_low hl', decide_eq_true hr7, List.all_map]
                simp
              have := k H6 s6
              rwa [e] at this
          · refine out ?_
            have hl' : lowC c = false := by
              rw [← el]
              exact Bool.eq_false_iff.mpr hl
            rw [ec]
            simp [isNm, hl']
      · refine ⟨_, rfl, ?_⟩
        refine out ?_
        cases q : isNm (cd x) with
        | false => rfl
        | true =>
          have := isNm_len q
          rw [← cd_len] at this
          exact absurd (decide_eq_true (by omega)) h1
    · refine ⟨_, rfl, _, _, t, .type "str", false, rfl, .ty _, ty, kt, false, rfl, ?_⟩
      exact iteT (iteT k)
end
end RV
namespace RV
open PySem L2
section
variable {P : Program} {w : World} {K : PySem.W.Frag} {mg : Str → Option Value} {base : Heap}
theorem ok_is_number {f : Addr} {fd : FuncData} (F : Fun K "is_number" "is_number" s_is_number f fd) (T : Blt mg) (T2 : Blt2 mg) : FnOk P w K mg base CX0 1 f fd ["value"] (sp_is_number K) := by
  refine F.ok sc_is_number (fun vs H Q E h => ?_) (fun cdv A outer s H vs Q E hr h => ?_)
  · obtain ⟨_, rfl, _⟩ := h
    rfl
  · obtain ⟨v, rfl, k⟩ := h
    refine ⟨_, (pss_one (ps_ret (pe_and (pe_callB call_isi (by rfl) T.b_isinstance (by decide +kernel) (pa_cons (pv 0) (pa_cons (pe_bltn (v := .ty "int") (by rfl) T.b_int (by decide +kernel) rfl) pa_nil))) (pe_one (pe_not (pe_callB call_isi (by rfl) T.b_isinstance (by decide +kernel) (pa_cons (pv 0) (pa_cons (pe_bltn (v := .ty "bool") (by rfl) T2.b_bool (by decide +kernel) rfl) pa_nil)))))))), ?_⟩
    rcases k with ⟨z, rfl, k⟩ | ⟨b, rfl, k⟩ | ⟨t, ty, kt, k⟩
    · refine ⟨_, rfl, _, _, .type "int", .type "int", true, rfl, .ty _, .base (.int z), kit_ty (by decide +kernel), true, rfl, ?_⟩
      exact iteT ⟨_, rfl, _, _, .type "int", .type "bool", false, rfl, .ty _, .base (.int z), kit_ty (by decide +kernel), false, rfl, k⟩
    · refine ⟨_, rfl, _, _, .type "bool", .type "int", true, rfl, .ty _, .base (.bl b), kit_ty (by decide +kernel), true, rfl, ?_⟩
      exact iteT ⟨_, rfl, _, _, .type "bool", .type "bool", true, rfl, .ty _, .base (.bl b), kit_ty (by decide +kernel), true, rfl, k⟩
    · refine ⟨_, rfl, _, _, t, .type "int", false, rfl, .ty _, ty, kt, false, rfl, ?_⟩
      exact iteF k
theorem ok_is_term {f : Addr} {fd : FuncData} (F : Fun K "_is_term" "_is_term" s_is_term f fd) (T : Blt mg) (T2 : Blt2 mg) (h_is_name : Fn P w K mg base "is_name" 1 ["value"] (Irr (sp_is_name K))) (h_is_number : Fn P w K mg base "is_number" 1 ["value"] (Irr (sp_is_number K))) : FnOk P w K mg base CX0 2 f fd ["value"] (sp_is_term K) := by
  refine F.ok sc_is_term (fun vs H Q E h => ?_) (fun cdv A outer s H vs Q E hr h => ?_)
  · obtain ⟨_, _, _, rfl, _⟩ := h
    rfl
  · obtain ⟨t, x, z, rfl, ht, hx, k⟩ := h
    refine ⟨_, (pss_one (ps_ret (pe_and (pe_callB call_isi (by rfl) T.b_isinstance (by decide +kernel) (pa_cons (pv 0) (pa_cons (pe_bltn (v := .ty "tuple") (by rfl) T2.b_tuple (by decide +kernel) rfl) pa_nil))) (pe_and (pe_cmpR op_eq (pe_callB call_len_seq (by rfl) T.b_len (by decide +kernel) (pa_cons (pv 0) pa_nil)) pe_int (nomark _)) (pe_and (pe_fn h_is_name (hr.mono (by decide)) (pa_cons (pe_ix ix_tup (pv 0) pe_int (fun _ _ => rfl)) pa_nil)) (pe_one (pe_fn h_is_number (hr.mono (by decide)) (pa_cons (pe_ix ix_tup (pv 0) pe_int (fun _ _ => rfl)) pa_nil)))))))), ?_⟩
    refine ⟨_, rfl, _, _, .type "tuple", .type "tuple", true, rfl, .ty _, tyx_tup ht, kit_ty (by decide +kernel), true, rfl, iteT ?_⟩
    refine ⟨_, rfl, t, _, rfl, .inr ht, rfl, _, rfl, ?_⟩
    have hxl : x.length ≤ sizeLine := by rw [cd_len]; exact Nat.le_trans (isNm_len hx).2 (by decide)
    refine iteT ⟨_, rfl, t, _, 0, .str x, rfl, rfl, ht, rfl, irr ⟨_, rfl, .inl ⟨x, rfl, hxl, fun H1 s1 => ⟨true, by rw [show isNm (cd x) = true from hx], ?_⟩⟩⟩⟩
    refine iteT ⟨_, rfl, t, _, 1, .int z, rfl, rfl, ht.ext s1, rfl, irr ⟨_, rfl, .inl ⟨z, rfl, k H1 s1⟩⟩⟩
theorem ok_check_terms {f : Addr} {fd : FuncData} (F : Fun K "_check_terms" "_check_terms" s_check_terms f fd) (T : Blt mg) (T2 : Blt2 mg) (h_is_term : Fn P w K mg base "_is_term" 2 ["value"] (Irr (sp_is_term K))) : FnOk P w K mg base CX0 3 f fd ["terms"] (sp_check_terms K) := by
  refine F.ok sc_check_terms (fun vs H Q E h => ?_) (fun cdv A outer s H vs Q E hr h => ?_)
  · obtain ⟨_, _, rfl, _⟩ := h
    rfl
  · obtain ⟨t, us, rfl, hl, ht, hx, hn, k⟩ := h
    refine ⟨_, (pss_cons (ps_if (pt_not (pt_val (pe_callB call_isi (by rfl) T.b_isinstance (by decide +kernel) (pa_cons (pv 0) (pa_cons (pe_bltn (v := .ty "tuple") (by rfl) T2.b_tuple (by decide +kernel) rfl) pa_nil))))) (pss_one ps_never) pss_nil)
      (pss_one (ps_for PassesOwn.never rfl (pi_enumT (by rfl) T2.b_enumerate (pa_cons (pv 0) pa_nil)) (pg_tup (by rfl) (pgs_cons (pg_name (i := 1) sc_check_terms.nd rfl (Or.inl rfl)) (pgs_cons (pg_name (i := 2) sc_check_terms.nd rfl (Or.inl rfl)) pgs_nil))) (pss_one (ps_if (pt_not (pt_val (pe_fn h_is_term (hr.mono (by decide)) (pa_cons (pv 2) pa_nil)))) (pss_one ps_never) pss_nil))))), ?_⟩
    refine ⟨_, rfl, _, _, .type "tuple", .type "tuple", true, rfl, .ty _, tyx_tup hl, kit_ty (by decide +kernel), true, rfl, iteF ?_⟩
    refine ⟨_, rfl, t, _, rfl, hl, for_enumT (xs := vP us) (fun i σ H' => ∃ o1 o2, σ = [some (.ref t), o1, o2] ∧ Same H H') ⟨none, none, rfl, fun _ _ e => e⟩ ?_ ?_ ?_⟩
    · rintro i σ H1 _ ⟨_, _, _, s1⟩
      exact hl.ext s1
    · rintro i x σ H1 T hx' ⟨o1, o2, rfl, s1⟩ nT
      rw [vP, List.getElem?_map] at hx'
      cases hu : us[i]? with
      | none => rw [hu] at hx'; cases hx'
      | some u =>
        rw [hu] at hx'
        obtain rfl : V.ref u.1 = x := Option.some.inj hx'
        have hm := List.mem_of_getElem? hu
        have s2 : Same H (upd H1 T (.tup [.int (i : Nat), .ref u.1])) := fun b o e => by
          rw [upd_ne (ne_of_none (s1 b o e) nT)]
          exact s1 b o e
        refine ⟨T, _, rfl, SqT.of upd_same, rfl, _, _, rfl, _, _, rfl, rfl, ?_⟩
        refine ⟨_, rfl, irr ⟨u.1, u.2.1, u.2.2, rfl, (ht u hm).ext s2, hx u.2 (List.mem_map.mpr ⟨u, hm, rfl⟩), fun H2 s3 => ⟨true, rfl, ?_⟩⟩⟩
        exact iteF ⟨_, _, rfl, fun b o e => s3 b o (s2 b o e)⟩
    · rintro σ H1 ⟨_, _, _, s1⟩
      exact k H1 s1
end
end RV
namespace RV
open PySem L2
section
variable {P : Program} {w : World} {K : PySem.W.Frag} {mg : Str → Option Value} {base : Heap}
theorem ok_collected {f : Addr} {fd : FuncData} (F : Fun K "_collected" "_collected" s_collected f fd) (T2 : Blt2 mg) : FnOk P w K mg base CX0 1 f fd ["terms"] (sp_collected K) := by
  refine F.ok sc_collected (fun vs H Q E h => ?_) (fun cdv A outer s H vs Q E hr h => ?_)
  · obtain ⟨_, _, rfl, _⟩ := h
    rfl
  · obtain ⟨t, us, rfl, hl, ht, hn, k⟩ := h
    have hu : (A.deeper (PyProof.Rows.envOfC "_collected" (defScope s_collected) s.heap.objs.size f cdv)).units + 1 < cLine := by have := hr.units; omega
    refine ⟨_, (pss_cons (ps_set (i := 1) sc_collected.nd rfl (Or.inr rfl) pe_dnewK)
      (pss_cons (ps_for PassesOwn.never rfl (pi_tup (pv 0)) (pg_tup (by rfl) (pgs_cons (pg_name (i := 2) sc_collected.nd rfl (Or.inl rfl)) (pgs_cons (pg_name (i := 3) sc_collected.nd rfl (Or.inl rfl)) pgs_nil))) (pss_one (ps_dput hu (pv 1) (pv 2) (pe_op op_add (pe_dget2 hu (pv 1) (pv 2) pe_int ⟨by rfl, by rfl, by rfl, by rfl⟩) (pv 3)) (by rfl))))
      (pss_one (ps_ret (pe_callTy call_tuple_of (by rfl) T2.b_tuple (by decide +kernel) (pa_cons (pe_lc (own := [("name", 2)]) (g := gName 2) rfl sc_collected.nd (pi_list (pe_callB (call_sortedD rfl) (by rfl) T2.b_sorted (by decide +kernel) (pa_cons (pv 1) pa_nil))) (blkOk_by (N := sc_collected_N) (sc := defScope s_collected) (by decide +kernel)) (fun _ _ _ _ _ => pg_name (i := 2) sc_collected.nd rfl (Or.inl rfl)) (fun _ _ _ _ _ => pts_one (pt_cmpR op_ne (pe_dget hu (pv 1) (pv 2) (fun _ _ => rfl)) pe_int (nomark _))) (fun _ _ _ _ _ => (pe_tup (pa_cons (pv 2) (pa_cons (pe_dget hu (pv 1) (pv 2) (fun _ _ => rfl)) pa_nil))))) pa_nil)))))), ?_⟩
    intro dl d0
    have h1 := (Kp.start H).new (o := .dK []) d0
    refine ⟨_, rfl, t, rfl, ⟨_, hl.ext h1.sm⟩, for_tup (xs := vP us) (fun i σ H' => ∃ kvs ks o2 o3, σ = [some (.ref t), some (.ref dl), o2, o3] ∧ Dct kvs ((prs us).take i) ks ∧ Kp H [(dl, .dK kvs)] H') ⟨[], [], none, none, rfl, Dct.nil, h1⟩ ?_ ?_ ?_⟩
    · rintro i σ H1 _ ⟨_, _, _, _, _, _, h2⟩
      exact hl.ext h2.sm
    · rintro i x σ H1 hx' ⟨kvs, ks, o2, o3, rfl, hD, h2⟩
      rw [vP, List.getElem?_map] at hx'
      cases hu' : us[i]? with
      | none => rw [hu'] at hx'; cases hx'
      | some u =>
        rw [hu'] at hx'
        obtain rfl : V.ref u.1 = x := Option.some.inj hx'
        have hm := List.mem_of_getElem? hu'
        have et : (prs us).take (i + 1) = (prs us).take i ++ [u.2] := by
          rw [List.take_add_one, prs, List.getElem?_map, hu']
          rfl
        have hat := h2.at (p := dl) (o := .dK kvs) List.mem_cons_self
        refine ⟨u.1, _, rfl, (ht u hm).ext h2.sm, rfl, _, _, rfl, _, _, rfl, rfl, ?_⟩
        refine ⟨_, rfl, dl, rfl, .inl ⟨_, .inl hat⟩, _, rfl, _, DGet.k (k := Sum.inr u.2.1) hat, _, rfl, _, _, hD.get u.2.1, rfl, ?_⟩
        obtain ⟨ks', hD'⟩ := hD.put u.2.1 u.2.2
        refine ⟨_, rfl, _, rfl, dl, _, rfl, DPut.k (k := Sum.inr u.2.1) hat ?_, putK kvs (.inr u.2.1) (.int (co ((prs us).take i) u.2.1 + u.2.2)), ks', _, _, rfl, ?_, h2.reset fun q hq => nomatch hq⟩
        · have e := congrArg List.length hD.keys
          rw [List.length_map, List.length_map] at e
          have e2 := hD.ln
          rw [List.length_take] at e2
          rw [e]
          exact Nat.lt_of_le_of_lt (show ks.length ≤ 120 by have := hn.1; rw [prs_len] at e2 this; omega) (by decide)
        · rw [et]
          exact hD'
    · rintro σ H1 ⟨kvs, ks, o2, o3, rfl, hD, h2⟩
      rw [vP_len, ← prs_len, List.take_length] at hD
      have hln : ks.length ≤ us.length := by rw [← prs_len]; exact hD.ln
      have hat := h2.at (p := dl) (o := .dK kvs) List.mem_cons_self
      have h60 : ks.length ≤ 60 := by
        obtain ⟨_, pool, h2, h3⟩ := hn
        refine Nat.le_trans (nodup_len hD.nd fun y hy => ?_) h2
        obtain ⟨q, hq, e⟩ := List.mem_map.mp ((hD.mem y).mp hy)
        exact e ▸ h3 q hq
      refine ⟨_, rfl, dl, kvs, ks, rfl, .inl hat, hD.keys, by omega, fun xs xl pm sx nxl => ?_⟩
      have nx : xs.Nodup := pm.nodup_iff.mpr hD.nd
      have hx : ∀ y, y ∈ xs ↔ y ∈ (prs us).map fun q => q.1 := fun y => pm.mem_iff.trans (hD.mem y)
      have asc := asc_of sx nx
      have lxu : xs.length ≤ us.length := by rw [pm.length_eq]; exact hln
      have h3 := h2.new (o := .lst (xs.map V.str)) nxl
      refine ⟨xl, rfl, ⟨_, SqL.of upd_same⟩, fun D nD => ?_⟩
      have h4 := h3.new (o := .lst []) nD
      have nDd : D ≠ dl := (ne_of_none (h3.at (p := dl) (o := .dK kvs) (List.mem_cons_of_mem _ List.mem_cons_self)) nD).symm
      have nDx : D ≠ xl := (ne_of_none (h3.at (p := xl) (o := .lst (xs.map V.str)) List.mem_cons_self) nD).symm
      refine lc_list (xs := xs.map V.str) (fun i H' => ∃ (ds : List TP), prs ds = ((xs.take i).map fun x => (x, co (prs us) x)).filter (fun q => !decide (q.2 = 0)) ∧ Kp H ((D, .lst (vP ds)) :: (xl, .lst (xs.map V.str)) :: (dl, .dK kvs) :: lP ds) H') ⟨[], rfl, h4⟩ ?_ ?_ ?_
      · rintro i H5 _ ⟨ds, _, h5⟩
        exact SqL.of (h5.at (List.mem_cons_of_mem _ List.mem_cons_self))
      · rintro i x H5 hxi ⟨ds, hds, h5⟩
        obtain ⟨y, hy, rfl⟩ : ∃ y, xs[i]? = some y ∧ x = V.str y := by
          rw [List.getElem?_map] at hxi
          cases e : xs[i]? with
          | none => rw [e] at hxi; cases hxi
          | some y => rw [e] at hxi; exact ⟨y, rfl, (Option.some.inj hxi).symm⟩
        have et : xs.take (i + 1) = xs.take i ++ [y] := by rw [List.take_add_one, hy]; rfl
        have lds : ds.length ≤ i := by
          rw [← prs_len, hds]
          refine Nat.le_trans (List.length_filter_le _ _) ?_
          rw [List.length_map]
          exact List.length_take_le i xs
        have li := (List.getElem?_eq_some_iff.mp hy).1
        have hv : valV kvs (.inr y) = some (.int (co (prs us) y)) := by
          rw [hD.val, if_pos (pm.mem_iff.mp (List.mem_of_getElem? hy))]
        have dat := h5.at (p := dl) (o := .dK kvs) (List.mem_cons_of_mem _ (List.mem_cons_of_mem _ List.mem_cons_self))
        have e3 : ∀ b, (!decide (co (prs us) y = 0)) = b → ((xs.take (i + 1)).map fun x => (x, co (prs us) x)).filter (fun q => !decide (q.2 = 0)) = prs ds ++ if b = true then [(y, co (prs us) y)] else [] := fun b hb => by
          rw [et, List.map_append, List.filter_append, ← hds]
          cases b <;> simp [List.filter_cons, hb]
        have dg : ∀ H', H' dl = some (.dK kvs) → DGet H' dl (.str y) (some (.int (co (prs us) y))) := fun H' e => hv ▸ DGet.k (k := Sum.inr y) e
        refine ⟨rfl, _, rfl, _, rfl, dl, _, rfl, dg _ dat, rfl, _, rfl, ?_⟩
        have dz : (!decide (V.int (co (prs us) y) = V.int 0)) = !decide (co (prs us) y = 0) := by simp
        rw [dz]
        refine ite2 (fun hz => ?_) (fun hz => ?_)
        · refine ⟨_, rfl, _, rfl, _, rfl, dl, _, rfl, dg _ dat, (by show 2 ≤ sizeLine; decide), fun T nT => ?_⟩
          have h7 := (h5.new (o := oP (y, co (prs us) y)) nT).sub (L' := (D, HO.lst (vP ds)) :: (xl, .lst (xs.map V.str)) :: (dl, .dK kvs) :: lP (ds ++ [(T, y, co (prs us) y)])) fun q hq => by
            rw [lP_app] at hq
            simp only [List.mem_cons, List.mem_append, lP, List.map_cons, List.map_nil, List.not_mem_nil, or_false] at hq ⊢
            rcases hq with q | q | q | q | q
            · exact .inr (.inl q)
            · exact .inr (.inr (.inl q))
            · exact .inr (.inr (.inr (.inl q)))
            · exact .inr (.inr (.inr (.inr q)))
            · exact .inl q
          refine ⟨_, h7.at List.mem_cons_self, ?_, ds ++ [(T, y, co (prs us) y)], ?_, ?_⟩
          · rw [vP_len]
            exact Nat.lt_of_le_of_lt (show ds.length ≤ 121 by have := hn.1; rw [prs_len] at this; omega) (by decide)
          · rw [prs_app, e3 true hz]
            rfl
          · rw [vP_app]
            refine h7.reset fun q hq => ?_
            rcases List.mem_cons.mp hq with rfl | hq'
            · exact nDx.symm
            rcases List.mem_cons.mp hq' with rfl | hq''
            · exact nDd.symm
            · obtain ⟨u, hu, rfl⟩ := List.mem_map.mp hq''
              exact h7.apart (List.mem_cons_of_mem _ hq) List.mem_cons_self (fun e => nomatch e)
        · refine ⟨ds, ?_, h5⟩
          rw [e3 false (Bool.eq_false_iff.mpr hz)]
          simp
      · rintro H5 ⟨ds, hds, h5⟩
        rw [List.length_map, List.take_length] at hds
        refine ⟨D, _, rfl, .inl ⟨SqL.of (h5.at List.mem_cons_self), fun m nm => ?_⟩⟩
        refine k ds m _ ?_ ?_ ?_ ?_ ((h5.new (o := .tup (vP ds)) nm).sub fun p hp => ?_)
        · rw [hds]; exact nrm_of asc
        · intro x
          rw [hds]
          exact nrm_co asc (fun y hy => co_none fun q hq e => hy ((hx y).2 (List.mem_map.mpr ⟨q, hq, e⟩))) x
        · intro q hq
          rw [hds] at hq
          obtain ⟨y, hy, rfl⟩ := List.mem_map.mp (List.mem_filter.mp hq).1
          exact (hx y).1 hy
        · rw [← prs_len, hds]
          refine Nat.le_trans (List.length_filter_le _ _) ?_
          rw [List.length_map]
          exact lxu
        · rcases List.mem_cons.mp hp with e | e
          · exact e ▸ List.mem_cons_self
          · exact List.mem_cons_of_mem _ (List.mem_cons_of_mem _ (List.mem_cons_of_mem _ (List.mem_cons_of_mem _ e)))
end
end RV
namespace RV
open PySem L2
section
variable {P : Program} {w : World} {K : PySem.W.Frag} {mg : Str → Option Value} {base : Heap} {C : Addr}
theorem ok_Sum_i {f : Addr} {fd : FuncData} {pds : List V} {kws : List (Str × V)} (F : FunD K "__init__" "Sum.__init__" (defArgs s_Sum___init__) (defBody s_Sum___init__) (defScope s_Sum___init__) pds kws f fd) (T : SClass K mg C) (h_check_terms : Fn P w K mg base "_check_terms" 3 ["terms"] (Irr (sp_check_terms K))) (h_collected : Fn P w K mg base "_collected" 1 ["terms"] (Irr (sp_collected K))) : FnOk P w K mg base CX0 4 f fd ["self", "terms"] (sp_Sum K C) := by
  refine F.ok sc_Sum___init__ (fun vs H Q E h => ?_) (fun cdv A outer s H vs Q E hr h => ?_)
  · obtain ⟨_, _, _, _, rfl, _⟩ := h
    rfl
  · obtain ⟨x, dx, t, us, rfl, hx, ht, k⟩ := h
    refine ⟨_, (pss_cons (ps_expr (pe_fn h_check_terms (hr.mono (by decide)) (pa_cons (pv 1) pa_nil)))
      (pss_one (ps_fld (pv 0) (pe_fn h_collected (hr.mono (by decide)) (pa_cons (pv 1) pa_nil)) rfl))), ?_⟩
    refine ⟨_, rfl, irr ⟨t, us, rfl, ht.tp, ht.ps, ht.nm, by rw [← prs_len]; exact ht.ln.1, fun H1 s1 => ?_⟩⟩
    refine ⟨_, rfl, irr ⟨t, us, rfl, ht.tp.ext s1, ht.ps.ext s1, ht.ln, fun ds m H2 n1 n2 n3 n4 kp => ?_⟩⟩
    have hx2 := kp.sm _ _ (s1 _ _ hx)
    refine ⟨_, rfl, x, C, dx, _, rfl, hx2, T.x.cl, T.n1, (by show 0 < 1000; decide), ?_⟩
    refine k ds m dx _ ⟨n1, n2, n3, by rw [prs_len, prs_len]; exact n4⟩ (fun b o hb e => by rw [upd_ne hb]; exact kp.sm _ _ (s1 _ _ e)) (fun p hp => ?_) fun p hp => ?_
    · cases e : H p.1 with
      | none => rfl
      | some o =>
        have := s1 _ _ e
        rw [(kp.nw p hp).1] at this
        cases this
    · rcases List.mem_cons.mp hp with rfl | hp
      · exact upd_same
      · have hne : p.1 ≠ x := (ne_of_none (s1 _ _ hx) (kp.nw p hp).1).symm
        rw [upd_ne hne]
        exact (kp.nw p hp).2
theorem ok_Sum_t {f : Addr} {fd : FuncData} (F : Fun K "terms" "Sum.terms" s_Sum_terms f fd) (T : SClass K mg C) : FnOk P w K mg base CX0 1 f fd ["self"] (sp_terms C) := by
  refine F.ok sc_Sum_terms (fun vs H Q E h => ?_) (fun cdv A outer s H vs Q E hr h => ?_)
  · obtain ⟨_, _, _, _, rfl, _⟩ := h
    rfl
  · obtain ⟨a, dx, t, us, rfl, hs, k⟩ := h
    refine ⟨_, (pss_one (ps_ret (pe_fld (pv 0) rfl))), ?_⟩
    exact ⟨_, rfl, a, C, dx, _, _, rfl, hs _ List.mem_cons_self, T.x.cl, T.n1, rfl, k⟩
end
end RV
namespace RV
open PySem L2
open PyProof.Rows (int_text_len_1921)
section
variable {P : Program} {w : World} {K : PySem.W.Frag} {mg : Str → Option Value} {base : Heap} {C : Addr}
theorem ok_written_number {f : Addr} {fd : FuncData} (F : Fun K "written_number" "written_number" s_written_number f fd) (T : Blt mg) (C2 : Cst2 mg) : FnOk P w K mg base CX0 1 f fd ["number"] sp_written := by
  refine F.ok sc_written_number (fun vs H Q E h => ?_) (fun cdv A outer s H vs Q E hr h => ?_)
  · obtain ⟨_, rfl, _⟩ := h
    rfl
  · obtain ⟨z, rfl, z0, z1, k⟩ := h
    refine ⟨_, (pss_cons (ps_set (i := 1) sc_written_number.nd rfl (Or.inl rfl) (pe_lst pa_nil))
      (pss_cons (ps_while PassesOwn.never (pt_cmpR op_ge (pv 0) (pe_gI C2.worth) (nomark _)) (pss_cons (ps_asg (pe_callB call_divmodW (by rfl) T.b_divmod (by decide +kernel) (pa_cons (pv 0) (pa_cons (pe_gI C2.worth) pa_nil))) (pg_tup (by rfl) (pgs_cons (pg_name (i := 0) sc_written_number.nd rfl (Or.inl rfl)) (pgs_cons (pg_name (i := 2) sc_written_number.nd rfl (Or.inl rfl)) pgs_nil)))) (pss_one (ps_expr (pe_bm PySem.F.plainAttrs_list PySem.F.slot_list_append PySem.F.type_list_append mt_append (pv 1) (pa_cons (pe_bm PySem.F.plainAttrs_str PySem.F.slot_str_zfill PySem.F.type_str_zfill mt_zfill (pe_callTy call_str_int (by rfl) T.b_str (by decide +kernel) (pa_cons (pv 2) pa_nil)) (pa_cons (pe_gI C2.piece) pa_nil)) pa_nil))))))
      (pss_cons (ps_expr (pe_bm PySem.F.plainAttrs_list PySem.F.slot_list_append PySem.F.type_list_append mt_append (pv 1) (pa_cons (pe_callTy call_str_int (by rfl) T.b_str (by decide +kernel) (pa_cons (pv 0) pa_nil)) pa_nil)))
      (pss_one (ps_ret (pe_join pe_str (pe_revL (pv 1)))))))), ?_⟩
    refine ⟨by decide, fun pl np => ?_⟩
    refine while_by (fun σ H' => σ = [some (.int z), some (.ref pl), none] ∧ H' = upd H pl (.lst [])) (fun _ _ => 0) ⟨rfl, rfl⟩ ?_ ?_
    · rintro σ H1 ⟨rfl, rfl⟩
      refine ⟨_, rfl, _, _, rfl, rfl, _, rfl, ?_⟩
      refine ite2 (fun h => absurd (of_decide_eq_true h) (by omega)) (fun _ => ?_)
      have zl : z.natAbs.log2 < 1920 := by
        have q := PySem.Flt.log2_lt_of (n := z.natAbs) (k := 300) (by decide) (by omega)
        omega
      refine ⟨_, rfl, .inl ⟨rfl, _, SqL.of upd_same⟩, _, rfl, z, rfl, zl, pl, _, _, rfl, rfl, upd_same, by decide, ?_⟩
      refine ⟨⟨_, rfl⟩, _, rfl, pl, _, rfl, SqL.of upd_same, fun p np2 => ⟨_, p, [num z], rfl, rfl, .inl (SqL.of upd_same), ?_, ?_⟩⟩
      · have h1 : (num z).length ≤ 1921 := int_text_len_1921 zl
        simp only [List.map_cons, List.map_nil, List.sum_cons, List.sum_nil, List.length_cons, List.length_nil]
        have h2 : Str.length "" = 0 := by decide +kernel
        rw [h2]
        omega
      · rw [join_one]
        refine k _ fun b o e => ?_
        have n1 := ne_of_none e np
        have e2 : (upd (upd H pl (.lst [])) pl (.lst ([] ++ [V.str (num z)]))) b = some o := by rw [upd_ne n1, upd_ne n1]; exact e
        rw [upd_ne (ne_of_none e2 np2)]
        exact e2
    · rintro σ H' Q1 Q2 hq ⟨v, hv, i, j, e1, e2, b, e3, q⟩
      exact ⟨v, hv, i, j, e1, e2, b, e3, hq _ _ q⟩
end
end RV
namespace RV
open PySem L2
section
variable {P : Program} {w : World} {K : PySem.W.Frag} {mg : Str → Option Value} {base : Heap} {C : Addr}
theorem ok_without_sign {f : Addr} {fd : FuncData} (F : Fun K "_without_sign" "_without_sign" s_without_sign f fd) (T : Blt mg) (h_written_number : Fn P w K mg base "written_number" 1 ["number"] (Irr sp_written)) : FnOk P w K mg base CX0 2 f fd ["name", "number"] sp_without := by
  refine F.ok sc_without_sign (fun vs H Q E h => ?_) (fun cdv A outer s H vs Q E hr h => ?_)
  · obtain ⟨_, _, rfl, _⟩ := h
    rfl
  · obtain ⟨x, z, rfl, hx, hz, k⟩ := h
    refine ⟨_, (pss_cons (ps_if (pt_cmpR op_eq (pe_callB call_abs (by rfl) T.b_abs (by decide +kernel) (pa_cons (pv 1) pa_nil)) pe_int (nomark _)) (pss_one (ps_ret (pv 0))) pss_nil)
      (pss_one (ps_ret (pe_joined (.cons (pe_fmt (pe_fn h_written_number (hr.mono (by decide)) (pa_cons (pe_callB call_abs (by rfl) T.b_abs (by decide +kernel) (pa_cons (pv 1) pa_nil)) pa_nil))) (.cons pe_str (.cons (pe_fmt (pv 0)) .nil))))))), ?_⟩
    have lx : 1 ≤ (cd x).length ∧ (cd x).length ≤ 8 := isNm_len hx
    rw [← cd_len] at lx
    refine ⟨_, rfl, _, rfl, rfl, _, rfl, ?_⟩
    refine ite2 (fun h => ?_) (fun h => ?_)
    · have e : ab z = 1 := V.int.inj (of_decide_eq_true h)
      have := k H (Same.refl H)
      rw [wo, if_pos e] at this
      exact ⟨_, rfl, this⟩
    · have e : ¬ ab z = 1 := fun q => h (decide_eq_true (congrArg V.int q))
      have nl := num_len (ab_lt hz)
      have h2 : Str.length "*" = 1 := by decide +kernel
      have h3 : Str.length Str.empty = 0 := by decide +kernel
      refine ⟨_, rfl, z, rfl, irr ⟨ab z, rfl, (ab_lt hz).1, (ab_lt hz).2, fun H1 s1 => .inl ⟨_, rfl, Nat.le_trans nl (by decide), _, rfl, ?_, _, rfl, ?_, _, rfl, .inl ⟨_, rfl, szn (by omega), _, rfl, ?_, ?_⟩⟩⟩⟩
      · rw [sl_app, h3]; exact Nat.le_trans (show _ ≤ 5000 by omega) (by decide)
      · rw [sl_app, sl_app, h3, h2]; exact Nat.le_trans (show _ ≤ 5000 by omega) (by decide)
      · rw [sl_app, sl_app, sl_app, h3, h2]; exact Nat.le_trans (show _ ≤ 5000 by omega) (by decide)
      · have := k H1 s1
        rw [wo, if_neg e] at this
        exact this
theorem ok_written_further {f : Addr} {fd : FuncData} (F : Fun K "_written_further" "_written_further" s_written_further f fd) (h_without_sign : Fn P w K mg base "_without_sign" 2 ["name", "number"] (Irr sp_without)) : FnOk P w K mg base CX0 3 f fd ["name", "number"] sp_further := by
  refine F.ok sc_written_further (fun vs H Q E h => ?_) (fun cdv A outer s H vs Q E hr h => ?_)
  · obtain ⟨_, rfl, _⟩ := h
    rfl
  · obtain ⟨q, rfl, hx, hz, k⟩ := h
    refine ⟨_, (pss_cons (ps_set (i := 2) sc_written_further.nd rfl (Or.inl rfl) (pe_ifExp (pt_cmpR op_lt (pv 1) pe_int (nomark _)) pe_str pe_str))
      (pss_one (ps_ret (pe_joined (.cons pe_str (.cons (pe_fmt (pv 2)) (.cons pe_str (.cons (pe_fmt (pe_fn h_without_sign (hr.mono (by decide)) (pa_cons (pv 0) (pa_cons (pv 1) pa_nil)))) .nil)))))))), ?_⟩
    have wl := wo_len hx hz
    have h2 : Str.length " " = 1 := by decide +kernel
    have h3 : Str.length Str.empty = 0 := by decide +kernel
    have sl := (sg_len q.2).1
    refine seq_of (fun σ' H' => σ' = [some (.str q.1), some (.int q.2), some (.str (if q.2 < 0 then ("-" : Str) else "+"))] ∧ H' = H) ?rest (fun N hN => ?main)
    case main =>
      refine ⟨_, rfl, _, _, rfl, rfl, _, rfl, ?_⟩
      refine ite2 (fun h => ?_) (fun h => ?_)
      · exact hN _ _ ⟨by rw [if_pos (of_decide_eq_true h)]; rfl, rfl⟩
      · exact hN _ _ ⟨by rw [if_neg (fun z => h (decide_eq_true z))]; rfl, rfl⟩
    rintro σ1 H1 ⟨rfl, rfl⟩
    refine ⟨_, rfl, ?_, _, rfl, .inl ⟨_, rfl, Nat.le_trans sl (by decide), _, rfl, ?_, _, rfl, ?_, _, rfl, _, rfl, irr ⟨q.1, q.2, rfl, hx, hz, fun H2 s2 => .inl ⟨_, rfl, Nat.le_trans wl (by decide), _, rfl, ?_, k H2 s2⟩⟩⟩⟩
    · rw [sl_app, h2, h3]; decide
    · rw [sl_app, sl_app, h2, h3]; exact Nat.le_trans (show _ ≤ 5000 by omega) (by decide)
    · rw [sl_app, sl_app, sl_app, h2, h3]; exact Nat.le_trans (show _ ≤ 5000 by omega) (by decide)
    · rw [sl_app, sl_app, sl_app, sl_app, h2, h3]; exact Nat.le_trans (show _ ≤ 5000 by omega) (by decide)
end
end RV
namespace RV
open PySem L2
section
variable {P : Program} {w : World} {K : PySem.W.Frag} {mg : Str → Option Value} {base : Heap} {C : Addr}
theorem ok_written_terms {f : Addr} {fd : FuncData} (F : Fun K "_written_terms" "_written_terms" s_written_terms f fd) (h_without_sign : Fn P w K mg base "_without_sign" 2 ["name", "number"] (Irr sp_without)) (h_written_further : Fn P w K mg base "_written_further" 3 ["name", "number"] (Irr sp_further)) : FnOk P w K mg base CX0 4 f fd ["terms"] (sp_wterms K) := by
  refine F.ok sc_written_terms (fun vs H Q E h => ?_) (fun cdv A outer s H vs Q E hr h => ?_)
  · obtain ⟨_, _, rfl, _⟩ := h
    rfl
  · obtain ⟨t, us, rfl, hl, ht, hn, hlen, k⟩ := h
    refine ⟨_, (pss_cons (ps_if (pt_not (pt_truth (pv 0) (by intro _; rfl))) (pss_one (ps_ret (pe_lst (pa_cons pe_str pa_nil)))) pss_nil)
      (pss_cons (ps_asg (pe_ix ix_tup (pv 0) pe_int (fun _ _ => rfl)) (pg_tup (by rfl) (pgs_cons (pg_name (i := 1) sc_written_terms.nd rfl (Or.inl rfl)) (pgs_cons (pg_name (i := 2) sc_written_terms.nd rfl (Or.inl rfl)) pgs_nil))))
      (pss_cons (ps_set (i := 3) sc_written_terms.nd rfl (Or.inl rfl) (pe_ifExp (pt_cmpR op_lt (pv 2) pe_int (nomark _)) pe_str pe_str))
      (pss_cons (ps_set (i := 4) sc_written_terms.nd rfl (Or.inl rfl) (pe_op op_add_str (pv 3) (pe_fn h_without_sign (hr.mono (by decide)) (pa_cons (pv 1) (pa_cons (pv 2) pa_nil)))))
      (pss_one (ps_ret (pe_op op_cat (pe_lst (pa_cons (pv 4) pa_nil)) (pe_lc (own := [("name", 1), ("number", 2)]) (g := gPr K 1 2) (tt := tYes) rfl sc_written_terms.nd (pi_tup (pe_slice sl_tup (pv 0) (po_some pe_int) po_none)) (blkOk_by (N := sc_written_terms_N) (sc := defScope s_written_terms) (by decide +kernel)) (fun _ _ _ _ _ => pg_tupK (by rfl) (pgs_cons (pg_name (i := 1) sc_written_terms.nd rfl (Or.inl rfl)) (pgs_cons (pg_name (i := 2) sc_written_terms.nd rfl (Or.inl rfl)) pgs_nil))) (fun _ _ _ _ _ => pts_nil) (fun _ _ _ _ _ => (pe_fn h_written_further (hr.mono (by decide)) (pa_cons (pv 1) (pa_cons (pv 2) pa_nil)))))))))))), ?_⟩
    cases us with
    | nil =>
      refine ⟨_, rfl, false, .inr (.inl ⟨[], hl, rfl⟩), ?_⟩
      refine iteT ⟨by decide, fun m nm => ?_⟩
      exact k m _ ((Kp.start H).new nm)
    | cons u us =>
      have hu := hn u.2 List.mem_cons_self
      refine ⟨_, rfl, true, .inr (.inl ⟨_, hl, rfl⟩), iteF ?_⟩
      refine ⟨_, rfl, t, _, 0, .ref u.1, rfl, rfl, hl, atI_nat (j := 0) rfl, u.1, _, rfl, ht u List.mem_cons_self, rfl, _, _, rfl, _, _, rfl, rfl, ?_⟩
      dsimp only
      refine seq_of (fun σ' H' => σ' = [some (.ref t), some (.str u.2.1), some (.int u.2.2), some (.str (if u.2.2 < 0 then ("-" : Str) else "")), none] ∧ H' = H) ?rest (fun N hN => ?main)
      case main =>
        refine ⟨_, rfl, _, _, rfl, rfl, _, rfl, ?_⟩
        refine ite2 (fun h => ?_) (fun h => ?_)
        · exact hN _ _ ⟨by rw [if_pos (of_decide_eq_true h)]; rfl, rfl⟩
        · exact hN _ _ ⟨by rw [if_neg (fun z => h (decide_eq_true z))]; rfl, rfl⟩
      rintro σ1 H1 ⟨rfl, rfl⟩
      have wl := wo_len hu.1 hu.2
      have sl := (sg_len u.2.2).2
      refine ⟨_, rfl, _, rfl, _, rfl, irr ⟨u.2.1, u.2.2, rfl, hu.1, hu.2, fun H2 s2 => ⟨_, _, rfl, rfl, Nat.le_trans (show _ ≤ 5000 by omega) (by decide), ?_⟩⟩⟩
      refine ⟨_, rfl, (by show 1 ≤ sizeLine; decide), fun p1 n1 => ?_⟩
      have k1 : Kp H1 [(p1, .lst [V.str (fi u.2)])] (upd H2 p1 (.lst [V.str (fi u.2)])) := ((Kp.start H1).next s2).new n1
      refine ⟨_, rfl, _, rfl, t, _, rfl, hl.ext k1.sm, ?_, fun p2 n2 => ?_⟩
      · rw [sIx_none, show (some (1 : Int)) = some ((1 : Nat) : Int) from rfl, sIx_some, vP_len, List.length_cons]
        omega
      rw [show (some (1 : Int)) = some ((1 : Nat) : Int) from rfl, cutV_suf]
      have k2 := k1.new (o := .tup (vP ((u :: us).drop 1))) n2
      refine ⟨p2, rfl, ⟨_, SqT.of upd_same⟩, fun D nD => lc_pairsT (us := us) (fun q => V.str (fu q)) (SqT.of upd_same) (TPs.ext (fun v hv => ht v (List.mem_cons_of_mem _ hv)) k2.sm) nD (by rw [List.length_cons] at hlen; omega) (fun _ _ => rfl) (fun q hq H3 s3 R hR => ?_) fun H3 s3 hD => ?_⟩
      · have hq' := hn q (List.mem_cons_of_mem _ hq)
        exact ⟨_, rfl, _, rfl, irr ⟨q, rfl, hq'.1, hq'.2, hR⟩⟩
      · have k3 := k2.next s3
        refine ⟨p1, D, _, _, rfl, rfl, k3.at (List.mem_cons_of_mem _ List.mem_cons_self), hD, ?_, fun m nm => ?_⟩
        · rw [List.length_map, prs_len]
          rw [List.length_cons] at hlen
          exact Nat.le_trans (show _ ≤ 5000 by simp; omega) (by decide)
        · have k4 := (k3.new (o := .lst ([V.str (fi u.2)] ++ (prs us).map fun q => V.str (fu q))) nm).sub (L' := [(m, .lst ([V.str (fi u.2)] ++ (prs us).map fun q => V.str (fu q)))]) fun q hq => by
            rw [List.mem_singleton.mp hq]; exact List.mem_cons_self
          have e : (pieces (prs (u :: us))).map V.str = [V.str (fi u.2)] ++ (prs us).map fun q => V.str (fu q) := by
            show V.str (fi u.2) :: ((prs us).map fu).map V.str = _
            rw [List.map_map]
            rfl
          rw [← e] at k4
          have := k m _ k4
          rw [e] at this
          exact this
end
end RV
namespace RV
open PySem L2
section
variable {P : Program} {w : World} {K : PySem.W.Frag} {mg : Str → Option Value} {base : Heap} {C : Addr}
theorem ok_Sum_s {f : Addr} {fd : FuncData} (F : Fun K "__str__" "Sum.__str__" s_Sum___str__ f fd) (T : SClass K mg C) (h_written_terms : Fn P w K mg base "_written_terms" 4 ["terms"] (Irr (sp_wterms K))) : FnOk P w K mg base CX0 5 f fd ["self"] (sp_text C) := by
  refine F.ok sc_Sum___str__ (fun vs H Q E h => ?_) (fun cdv A outer s H vs Q E hr h => ?_)
  · obtain ⟨_, _, rfl, _⟩ := h
    rfl
  · obtain ⟨a, qs, rfl, ⟨dx, t, us, rfl, q⟩, hn, hl, k⟩ := h
    refine ⟨_, (pss_one (ps_ret (pe_join pe_str (pe_fn h_written_terms (hr.mono (by decide)) (pa_cons (pe_fld (pv 0) rfl) pa_nil))))), ?_⟩
    refine ⟨⟨_, rfl⟩, _, rfl, a, C, dx, _, _, rfl, q _ List.mem_cons_self, T.x.cl, T.n1, rfl, irr ⟨t, us, rfl, SqT.of (q _ (List.mem_cons_of_mem _ List.mem_cons_self)), fun u hu => SqT.of (q _ (List.mem_cons_of_mem _ (List.mem_cons_of_mem _ (List.mem_map.mpr ⟨u, hu, rfl⟩)))), hn, by rw [← prs_len]; exact hl, fun m H' kp => ⟨_, m, pieces (prs us), rfl, rfl, .inl (SqL.of (kp.at List.mem_cons_self)), ?_, k H' kp.sm⟩⟩⟩
    have h1 := pieces_sum hn
    have h2 := pieces_length (prs us)
    have h3 : Str.length "" = 0 := by decide +kernel
    rw [h3]
    omega
end
end RV
namespace RV
open PySem L2
/-! ### Sum(), Sum(t), Sum(terms=t) -/
abbrev FSum (K : PySem.W.Frag) (t0 f : Addr) (fd : FuncData) : Prop := FunD K "__init__" "Sum.__init__" (defArgs s_Sum___init__) (defBody s_Sum___init__) (defScope s_Sum___init__) [.ref t0] [] f fd
theorem chainB {f t0 : Addr} {K : PySem.W.Frag} {fd : FuncData} (F : FSum K t0 f fd) : ∃ ds, Vals [] ds ∧ Binds K fd ["self", "terms"] ds := by
  refine FunD.binds1 F 2 1 (by simp) rfl fun T kV doc pm an cdv ct us its h1 h2 => ?_
  match us, h1, its, h2 with
  | [x, y], _, [d], _ => exact ⟨_, rfl, rfl⟩
def gS' (us ws : List Value) : List Value := match us, ws with
  | [x], [t] => [x, t]
  | _, _ => []
theorem gS_rel {vs : List V} {us : List Value} {zs : List V} {ws : List Value} (r1 : Vals vs us) (r2 : Vals zs ws) : Vals (gS vs zs) (gS' us ws) := by
  cases r1 with
  | nil => exact .nil
  | cons a r =>
    cases r with
    | cons b r => exact .nil
    | nil =>
      cases r2 with
      | nil => exact .nil
      | cons c r2 =>
        cases r2 with
        | nil => exact .cons a (.cons c .nil)
        | cons d r2 => exact .nil
end RV
namespace RV
open PySem L2
section
variable {P : Program} {w : World} {K : PySem.W.Frag} {mg : Str → Option Value} {base : Heap} {C : Addr}
theorem ok_is_digits {f : Addr} {fd : FuncData} (F : Fun K "is_digits" "is_digits" s_is_digits f fd) : FnOk P w K mg base CX0 1 f fd ["text"] sp_digits := by
  refine F.ok sc_is_digits (fun vs H Q E h => ?_) (fun cdv A outer s H vs Q E hr h => ?_)
  · obtain ⟨_, rfl, _⟩ := h
    rfl
  · obtain ⟨z, rfl, hz, k⟩ := h
    refine ⟨_, (pss_one (ps_ret (pe_and (pe_m0 PySem.F.slot_str_isascii PySem.F.type_str_isascii mt_isascii (pv 0)) (pe_one (pe_m0 PySem.F.slot_str_isdigit PySem.F.type_str_isdigit mt_isdigit (pv 0)))))), ?_⟩
    refine ⟨_, rfl, ⟨_, rfl⟩, _, rfl, rfl, trivial, true, congrArg V.bl (num_ascii hz), iteT ⟨_, rfl, ⟨_, rfl⟩, _, rfl, rfl, trivial, ?_⟩⟩
    rw [num_digit hz]
    exact k
theorem ok_read_number {f : Addr} {fd : FuncData} (F : Fun K "read_number" "read_number" s_read_number f fd) (T : Blt mg) (C2 : Cst2 mg) : FnOk P w K mg base CX0 1 f fd ["digits"] sp_readnum := by
  refine F.ok sc_read_number (fun vs H Q E h => ?_) (fun cdv A outer s H vs Q E hr h => ?_)
  · obtain ⟨_, rfl, _⟩ := h
    rfl
  · obtain ⟨z, rfl, hz, h1, k⟩ := h
    refine ⟨_, (pss_cons (ps_set (i := 1) sc_read_number.nd rfl (Or.inl rfl) (pe_op op_mod (pe_callB call_len_str (by rfl) T.b_len (by decide +kernel) (pa_cons (pv 0) pa_nil)) (pe_gI C2.piece)))
      (pss_cons (ps_set (i := 2) sc_read_number.nd rfl (Or.inl rfl) (pe_callTy call_int_str (by rfl) T.b_int (by decide +kernel) (pa_cons (pe_op op_add_str pe_str (pe_slice sl_str (pv 0) po_none (po_some (pv 1)))) pa_nil)))
      (pss_cons (ps_for PassesOwn.never rfl (pi_range3 (by rfl) T.b_range (pa_cons (pv 1) (pa_cons (pe_callB call_len_str (by rfl) T.b_len (by decide +kernel) (pa_cons (pv 0) pa_nil)) (pa_cons (pe_gI C2.piece) pa_nil)))) (pg_name (i := 3) sc_read_number.nd rfl (Or.inl rfl)) (pss_one (ps_set (i := 2) sc_read_number.nd rfl (Or.inl rfl) (pe_op op_add (pe_op op_mul (pv 2) (pe_gI C2.worth)) (pe_callTy call_int_str (by rfl) T.b_int (by decide +kernel) (pa_cons (pe_slice sl_str (pv 0) (po_some (pv 3)) (po_some (pe_op op_add (pv 3) (pe_gI C2.piece)))) pa_nil))))))
      (pss_one (ps_ret (pv 2)))))), ?_⟩
    have l0 := num_len0 hz
    have l1 := num_len60 hz h1
    refine ⟨_, rfl, _, rfl, szn (by omega), _, _, rfl, rfl, (by show (0 : Int) < 64; decide), ?_⟩
    dsimp only [gName]
    rw [show ((num z).length : Int) % 64 = ((num z).length : Nat) from by omega]
    refine ⟨_, rfl, _, rfl, _, rfl, _, rfl, szn (by omega), ?_⟩
    rw [cutS_all _ _ (Nat.le_refl _)]
    have l2 : Str.length "0" = 1 := by decide +kernel
    refine ⟨_, _, rfl, rfl, ?_, _, _, rfl, int_back hz h1, ?_, ?_⟩
    · rw [l2]
      exact szn (by omega)
    · rw [cd_len, cd_app, List.length_append, ← cd_len, ← cd_len, l2]
      omega
    have rg : ∀ l : Fin 61, RgC ((l.val : Nat) : Int) ((l.val : Nat) : Int) 64 0 := by
      unfold RgC
      decide +kernel
    refine ⟨_, rfl, _, rfl, _, rfl, szn (by omega), _, _, _, 0, rfl, rg ⟨(num z).length, by omega⟩, for_it (walk_rangeC) (fun _ σ H' => H' = H ∧ σ = [some (.str (num z)), some (.int ((num z).length : Nat)), some (.int z), none]) ⟨rfl, rfl⟩ (fun _ _ _ _ _ => trivial) (fun i x σ H1 H2 hi => absurd hi (Nat.not_lt_zero _)) ?_⟩
    rintro σ H' ⟨rfl, rfl⟩
    exact ⟨_, rfl, k⟩
theorem ok_with_sign_apart {f : Addr} {fd : FuncData} (F : Fun K "_with_sign_apart" "_with_sign_apart" s_with_sign_apart f fd) : FnOk P w K mg base CX0 1 f fd ["text"] sp_apart := by
  refine F.ok sc_with_sign_apart (fun vs H Q E h => ?_) (fun cdv A outer s H vs Q E hr h => ?_)
  · obtain ⟨_, rfl, _⟩ := h
    rfl
  · obtain ⟨z, rfl, hz, k⟩ := h
    refine ⟨_, (pss_cons (ps_if (pt_val (pe_bm PySem.F.plainAttrs_str PySem.F.slot_str_startswith PySem.F.type_str_startswith mt_startswith (pv 0) (pa_cons pe_str pa_nil))) (pss_one (ps_ret (pe_op op_add_str pe_str (pe_slice sl_str (pv 0) (po_some pe_int) po_none)))) pss_nil)
      (pss_one (ps_ret (pe_op op_add_str pe_str (pv 0))))), ?_⟩
    unfold apart at k
    refine ⟨_, rfl, rfl, _, _, rfl, rfl, _, rfl, ?_⟩
    have l2 : Str.length "- " = 2 := by decide +kernel
    have l3 : Str.length "+ " = 2 := by decide +kernel
    revert k
    cases Txt.startswith z "-" with
    | true =>
      intro k
      refine iteT ⟨_, rfl, _, rfl, _, rfl, Nat.le_trans hz (by decide), _, _, rfl, rfl, ?_, k⟩
      have l4 : (cutS z (some 1) none).length ≤ z.length := by
        rw [cd_len, cd_rest, List.length_drop, cd_len]
        omega
      rw [l2]
      exact Nat.le_trans (show _ ≤ 1000002 by omega) (by decide)
    | false =>
      intro k
      refine iteF ⟨_, rfl, _, _, rfl, rfl, ?_, k⟩
      rw [l3]
      exact Nat.le_trans (show _ ≤ 1000002 by omega) (by decide)
theorem ok_read_term {f : Addr} {fd : FuncData} (F : Fun K "_read_term" "_read_term" s_read_term f fd) (h_is_name : Fn P w K mg base "is_name" 1 ["value"] (Irr (sp_is_name K))) (h_is_digits : Fn P w K mg base "is_digits" 1 ["text"] (Irr sp_digits)) (h_read_number : Fn P w K mg base "read_number" 1 ["digits"] (Irr sp_readnum)) : FnOk P w K mg base CX0 2 f fd ["sign", "word"] (sp_rterm K) := by
  refine F.ok sc_read_term (fun vs H Q E h => ?_) (fun cdv A outer s H vs Q E hr h => ?_)
  · rcases h with ⟨_, rfl, _⟩ | ⟨rfl, _⟩ <;> rfl
  · obtain ⟨sg, wd, D, S, N, rfl, ep, lw, h⟩ : ∃ sg wd D S N : Str, vs = [.str sg, .str wd] ∧ Txt.rpartition wd "*" = (D, S, N) ∧ wd.length ≤ 1000 ∧ ((∃ q : Str × Int, sg = sgn q ∧ N = q.1 ∧ IsNm q.1 ∧ q.2.natAbs < 10 ^ 60 ∧ ((ab q.2 = 1 ∧ D = Str.empty ∧ S = Str.empty) ∨ (¬ ab q.2 = 1 ∧ D = num (ab q.2) ∧ S = "*")) ∧ ∀ t H', Kp H [(t, oP q)] H' → Q (.ref t) H') ∨ (N = "0" ∧ D = Str.empty ∧ S = Str.empty ∧ ∀ H', Same H H' → Q .non H')) := by
      rcases h with ⟨q, rfl, inm, hz, k⟩ | ⟨rfl, k⟩
      · have lw : (wo q.1 q.2).length ≤ 1000 := by
          unfold wo
          have hx := isNm_len inm
          rw [← cd_len] at hx
          split
          · omega
          · have := num_len60 (ab_nn q.2) (show ab q.2 < 10 ^ 60 by unfold ab; split <;> omega)
            have e1 : Str.length "*" = 1 := by decide +kernel
            have e2 : Str.length Str.empty = 0 := by decide +kernel
            rw [sl_app, sl_app, sl_app, e1, e2]
            omega
        by_cases h1 : ab q.2 = 1
        · exact ⟨_, _, _, _, _, rfl, star_one inm h1, lw, .inl ⟨q, rfl, rfl, inm, hz, .inl ⟨h1, rfl, rfl⟩, k⟩⟩
        · exact ⟨_, _, _, _, _, rfl, star_two inm h1, lw, .inl ⟨q, rfl, rfl, inm, hz, .inr ⟨h1, rfl, rfl⟩, k⟩⟩
      · exact ⟨_, _, _, _, _, rfl, star_zero, by decide +kernel, .inr ⟨rfl, rfl, rfl, k⟩⟩
    refine ⟨_, (pss_cons (ps_asg (pe_rpartition (pv 1) pe_str) (pg_tup (by rfl) (pgs_cons (pg_name (i := 2) sc_read_term.nd rfl (Or.inl rfl)) (pgs_cons (pg_name (i := 3) sc_read_term.nd rfl (Or.inl rfl)) (pgs_cons (pg_name (i := 4) sc_read_term.nd rfl (Or.inl rfl)) pgs_nil)))))
      (pss_cons (ps_if (PW.pt (pw_or (pt_not (pt_val (pe_fn h_is_name (hr.mono (by decide)) (pa_cons (pv 4) pa_nil)))) (pw_or1 (PW.pt (pw_and (pt_truth (pv 3) (by intro _; rfl)) (pw_and1 (pt_not (pt_val (pe_fn h_is_digits (hr.mono (by decide)) (pa_cons (pv 2) pa_nil)))))))))) (pss_one (ps_ret pe_non)) pss_nil)
      (pss_cons (ps_set (i := 5) sc_read_term.nd rfl (Or.inl rfl) (pe_ifExp (pt_truth (pv 3) (by intro _; rfl)) (pe_fn h_read_number (hr.mono (by decide)) (pa_cons (pv 2) pa_nil)) pe_int))
      (pss_one (ps_ret (pe_tup (pa_cons (pv 4) (pa_cons (pe_ifExp (pt_cmpR op_eq (pv 0) pe_str (nomark _)) (pe_un un_neg (pv 5)) (pv 5)) pa_nil)))))))), ?_⟩
    refine ⟨_, rfl, ⟨_, rfl⟩, _, _, rfl, rfl, by decide +kernel, szn lw, fun p np => ?_⟩
    rw [ep]
    refine ⟨p, _, rfl, SqT.of upd_same, rfl, _, _, rfl, _, _, rfl, _, _, rfl, rfl, ?_⟩
    have sp : Same H (upd H p (.tup [.str D, .str S, .str N])) := fun b o e => by rw [upd_ne (ne_of_none e np)]; exact e
    revert sp
    generalize upd H p (.tup [.str D, .str S, .str N]) = H1
    intro sp
    dsimp only
    have lN : ∀ {n : Str}, IsNm n → n.length ≤ sizeLine := fun h => by
      have := (isNm_len h).2
      rw [← cd_len] at this
      exact szn (by omega)
    rcases h with ⟨q, rfl, rfl, inm, hz, hw, k⟩ | ⟨rfl, rfl, rfl, k⟩
    · refine seq_of (fun σ' H' => σ' = [some (.str (sgn q)), some (.str wd), some (.str D), some (.str S), some (.str q.1), none] ∧ Same H H') ?rest (fun M hM => ?main)
      case main =>
        refine ⟨_, rfl, irr ⟨_, rfl, .inl ⟨q.1, rfl, lN inm, fun H2 s2 => ⟨true, congrArg V.bl inm, iteF ?_⟩⟩⟩⟩
        have s3 : Same H H2 := fun b o e => s2 b o (sp b o e)
        rcases hw with ⟨h1, rfl, rfl⟩ | ⟨h1, rfl, rfl⟩
        · exact ⟨_, rfl, false, ⟨by decide +kernel, by decide +kernel⟩, iteF (hM _ _ ⟨rfl, s3⟩)⟩
        · exact ⟨_, rfl, true, ⟨by decide +kernel, by decide +kernel⟩, iteT ⟨_, rfl, irr ⟨ab q.2, rfl, ab_nn _, true, rfl, hM _ _ ⟨rfl, s3⟩⟩⟩⟩
      rintro σ2 H2 ⟨rfl, s2⟩
      refine seq_of (fun σ' H' => σ' = [some (.str (sgn q)), some (.str wd), some (.str D), some (.str S), some (.str q.1), some (.int (ab q.2))] ∧ H' = H2) ?rest2 (fun M hM => ?main2)
      case main2 =>
        rcases hw with ⟨h1, rfl, rfl⟩ | ⟨h1, rfl, rfl⟩
        · exact ⟨_, rfl, false, ⟨by decide +kernel, by decide +kernel⟩, iteF (hM _ _ ⟨by rw [h1]; rfl, rfl⟩)⟩
        · exact ⟨_, rfl, true, ⟨by decide +kernel, by decide +kernel⟩, iteT ⟨_, rfl, irr ⟨ab q.2, rfl, ab_nn _, by unfold ab; split <;> omega, hM _ _ ⟨rfl, rfl⟩⟩⟩⟩
      rintro σ3 H3 ⟨rfl, rfl⟩
      refine ⟨_, rfl, _, rfl, rfl, _, rfl, ?_⟩
      have fin : ∀ t, H3 t = none → Q (.ref t) (upd H3 t (.tup [.str q.1, .int q.2])) := fun t nt => k t _ ⟨fun b o e => by rw [upd_ne (ne_of_none (s2 b o e) nt)]; exact s2 b o e, fun p hp => by
        rw [List.mem_singleton.mp hp]
        refine ⟨?_, upd_same⟩
        cases e : H t with
        | none => rfl
        | some o => rw [s2 t o e] at nt; cases nt⟩
      by_cases hn : q.2 < 0
      · have e : sgn q = "-" := if_pos hn
        rw [e]
        refine iteT ⟨_, rfl, _, rfl, (by show 2 ≤ sizeLine; decide), ?_⟩
        have ea : -ab q.2 = q.2 := by unfold ab; rw [if_pos hn]; omega
        dsimp only
        rw [ea]
        exact fin
      · have e : sgn q = "+" := if_neg hn
        rw [e]
        refine iteF ⟨_, rfl, (by show 2 ≤ sizeLine; decide), ?_⟩
        have ea : ab q.2 = q.2 := by unfold ab; rw [if_neg hn]
        dsimp only
        rw [ea]
        exact fin
    · refine ⟨_, rfl, irr ⟨_, rfl, .inl ⟨"0", rfl, by decide +kernel, fun H2 s2 => ⟨false, by decide +kernel, iteT ?_⟩⟩⟩⟩
      exact k H2 fun b o e => s2 b o (sp b o e)
end
end RV
namespace RV
open PySem L2
section
variable {P : Program} {w : World} {K : PySem.W.Frag} {mg : Str → Option Value} {base : Heap} {C : Addr}
theorem ok_terms_in {f : Addr} {fd : FuncData} (F : Fun K "_terms_in" "_terms_in" s_terms_in f fd) (hz : mg "zip" = none) (T2 : Blt2 mg) (h_apart : Fn P w K mg base "_with_sign_apart" 1 ["text"] (Irr sp_apart)) (h_rterm : Fn P w K mg base "_read_term" 2 ["sign", "word"] (Irr (sp_rterm K))) : FnOk P w K mg base CX0 3 f fd ["text"] (sp_termsin K) := by
  refine F.ok sc_terms_in (fun vs H Q E h => ?_) (fun cdv A outer s H vs Q E hr h => ?_)
  · obtain ⟨_, rfl, _⟩ := h
    rfl
  · obtain ⟨qs, rfl, d, k⟩ := h
    refine ⟨_, (pss_cons (ps_set (i := 1) sc_terms_in.nd rfl (Or.inl rfl) (pe_split (pe_fn h_apart (hr.mono (by decide)) (pa_cons (pv 0) pa_nil)) pe_str))
      (pss_cons (ps_setLc (i := 2) (own := [("sign", 3), ("word", 4)]) (g := gPr K 3 4) (tt := tYes) rfl sc_terms_in.nd rfl rfl (sw_true rfl rfl rfl (by decide +kernel)) (pi_zip (by rfl) hz (pa_cons (pe_sl2 (i := 0) (pv 1)) (pa_cons (pe_sl2 (i := 1) (pv 1)) pa_nil))) (blkOk_by (N := sc_terms_in_N) (sc := defScope s_terms_in) (by decide +kernel)) (fun _ _ _ _ _ => pg_tupK (by rfl) (pgs_cons (pg_name (i := 3) sc_terms_in.nd rfl (Or.inl rfl)) (pgs_cons (pg_name (i := 4) sc_terms_in.nd rfl (Or.inl rfl)) pgs_nil))) (fun _ _ _ _ _ => pts_nil) (fun _ _ _ _ _ => (pe_fn h_rterm (hr.mono (by decide)) (pa_cons (pv 3) (pa_cons (pv 4) pa_nil)))))
      (pss_one (ps_ret (pe_callTy call_tuple_of (by rfl) T2.b_tuple (by decide +kernel) (pa_cons (pe_lc (own := [("term", 5)]) (g := gName 5) rfl sc_terms_in.nd (pi_list (pv 2)) (blkOk_by (N := sc_terms_in_N) (sc := defScope s_terms_in) (by decide +kernel)) (fun _ _ _ _ _ => pg_name (i := 5) sc_terms_in.nd rfl (Or.inl rfl)) (fun _ _ _ _ _ => pts_one (pt_cmpR op_notN (pv 5) pe_non (nomark _))) (fun _ _ _ _ _ => (pv 5))) pa_nil)))))), ?_⟩
    have tl := txt_len d
    have dl := d.ln
    have al : (apart (txt qs)).length ≤ 200004 := by
      unfold apart
      have l2 : Str.length "- " = 2 := by decide +kernel
      have l3 : Str.length "+ " = 2 := by decide +kernel
      have l4 : (cutS (txt qs) (some 1) none).length ≤ (txt qs).length := by
        rw [cd_len, cd_rest, List.length_drop, cd_len]
        omega
      split
      · rw [sl_app, l2]; omega
      · rw [sl_app, l3]; omega
    refine ⟨_, rfl, irr ⟨txt qs, rfl, by omega, ⟨_, rfl⟩, _, _, rfl, rfl, by decide +kernel, Nat.le_trans (show _ ≤ 200010 by omega) (by decide), fun p np => ?_⟩⟩
    rw [apart_txt d.nm, split_apart d.nm]
    -- the pairs of a sign and a word
    obtain ⟨PS, hPS, ePS⟩ : ∃ PS : List (Str × Str), (partsZ qs).map V.str = PS.flatMap (fun q => [V.str q.1, V.str q.2]) ∧ ((qs = [] ∧ PS = [(("+" : Str), ("0" : Str))]) ∨ (qs ≠ [] ∧ PS = qs.map fun q => (sgn q, wo q.1 q.2))) := by
      by_cases hq : qs = []
      · exact ⟨[(("+" : Str), ("0" : Str))], by rw [hq]; rfl, .inl ⟨hq, rfl⟩⟩
      · refine ⟨qs.map fun q => (sgn q, wo q.1 q.2), ?_, .inr ⟨hq, rfl⟩⟩
        rw [partsZ, if_neg hq, parts, List.map_flatMap, List.flatMap_map]
        rfl
    have plen : PS.length ≤ 61 := by
      rcases ePS with ⟨_, rfl⟩ | ⟨_, rfl⟩
      · decide
      · rw [List.length_map]; omega
    rw [hPS]
    have k0 := (Kp.start H).new (o := .lst (PS.flatMap fun q => [V.str q.1, V.str q.2])) np
    dsimp only [gName]
    refine seq_of (fun σ' H' => ∃ (D : Addr) (zs : List V) (us : List TP), σ' = [some (.str (txt qs)), some (.ref p), some (.ref D), none, none, none] ∧ prs us = qs ∧ zs.filter (fun z => !decide (z = V.non)) = vP us ∧ zs.length ≤ 100 ∧ Kp H (lP us) H' ∧ H' D = some (.lst zs)) ?rest (fun M hM => ?main)
    case main =>
      refine ⟨_, rfl, p, _, rfl, SqL.of upd_same, fun p2 np2 => ?_⟩
      have k1 := k0.new (o := .lst (step2 0 (PS.flatMap fun q => [V.str q.1, V.str q.2]))) np2
      refine ⟨_, rfl, p, _, rfl, SqL.of (k1.at (List.mem_cons_of_mem _ List.mem_cons_self)), fun p3 np3 => ?_⟩
      have k2 := k1.new (o := .lst (step2 1 (PS.flatMap fun q => [V.str q.1, V.str q.2]))) np3
      rw [step2_even (fun q : Str × Str => V.str q.1) (fun q => V.str q.2), step2_odd (fun q : Str × Str => V.str q.1) (fun q => V.str q.2)] at k2 ⊢
      refine ⟨p2, p3, _, _, rfl, SqL.of (k2.at (List.mem_cons_of_mem _ List.mem_cons_self)), SqL.of (k2.at List.mem_cons_self), fun D nD => ?_⟩
      have e2 := k2.at (p := p2) (o := .lst (PS.map fun q => V.str q.1)) (List.mem_cons_of_mem _ List.mem_cons_self)
      have e3 := k2.at (p := p3) (o := .lst (PS.map fun q => V.str q.2)) List.mem_cons_self
      revert k2 e2 e3 nD
      generalize upd (upd (upd H p (HO.lst (List.flatMap (fun q : Str × Str => [V.str q.fst, V.str q.snd]) PS))) p2 (HO.lst (List.map (fun q : Str × Str => V.str q.fst) PS))) p3 (HO.lst (List.map (fun q : Str × Str => V.str q.snd) PS)) = H3
      intro k2 nD e2 e3
      refine L2.lc_it (walk_zip (K := K) (xs := PS.map fun q => V.str q.1) (ys := PS.map fun q => V.str q.2) (n := PS.length) (by simp))
        (fun i H' => ∃ (zs : List V) (us : List TP), zs.filter (fun z => !decide (z = V.non)) = vP us ∧ zs.length = i ∧ prs us = qs.take i ∧ Kp H3 (lP us) H' ∧ H' D = some (.lst zs))
        ⟨[], [], rfl, rfl, by simp [prs], (Kp.start H3).put nD fun _ hp => (nomatch hp), upd_same⟩ (fun i H' _ z => ?_) (fun i x Ha Hb hi hv y => ?_) (fun H' hv => ?_)
      · obtain ⟨_, _, _, _, _, kp, _⟩ := z
        exact ⟨SqL.of (kp.sm _ _ e2), SqL.of (kp.sm _ _ e3)⟩
      · obtain ⟨zs, us, hf, hl, hu, kp, eD⟩ := hv
        obtain ⟨T, a, b, rfl, nT, rfl, ha, hb⟩ := y
        dsimp only at ha hb
        rw [List.getElem?_map, List.getElem?_eq_getElem hi] at ha hb
        obtain rfl : V.str PS[i].1 = a := Option.some.inj ha
        obtain rfl : V.str PS[i].2 = b := Option.some.inj hb
        have kT := (kp.new (o := .tup [V.str PS[i].1, V.str PS[i].2]) nT).sub (L' := lP us) fun _ hp => List.mem_cons_of_mem _ hp
        have eT : upd Ha T (.tup [V.str PS[i].1, V.str PS[i].2]) D = some (.lst zs) := by rw [upd_ne (ne_of_none eD nT)]; exact eD
        refine ⟨T, _, rfl, SqT.of upd_same, rfl, _, _, rfl, _, _, rfl, ⟨rfl, ⟨rfl, ?_⟩⟩⟩
        have e0 : ∀ (σ : L2.St) (H : Hp) (R : Bool → Hp → Prop), R true H → tYes σ H R := fun _ _ _ r => r
        refine e0 _ _ _ ?_
        simp only [↓reduceIte]
        refine ⟨_, rfl, _, rfl, irr ?_⟩
        have zl : zs.length < sizeLine := by rw [hl]; exact Nat.lt_of_lt_of_le (show i < 100 by omega) (by decide)
        rcases ePS with ⟨hq, hPS⟩ | ⟨hq, hPS⟩
        · subst hPS
          have i0 : i = 0 := by simpa using hi
          subst i0
          refine .inr ⟨rfl, fun H' sm => ⟨zs, sm _ _ eT, zl, zs ++ [.non], us, ?_, by rw [List.length_append, hl]; rfl, by rw [hu, hq]; rfl, (kT.next sm).put nD (Kp.off (kT.next sm) (sm _ _ eT)), upd_same⟩⟩
          rw [List.filter_append, hf]
          simp
        · have hi' : i < qs.length := by rw [hPS, List.length_map] at hi; exact hi
          have e : PS[i] = (sgn qs[i], wo qs[i].1 qs[i].2) := by simp [hPS]
          rw [e]
          have hm : qs[i] ∈ qs := List.getElem_mem hi'
          refine .inl ⟨qs[i], rfl, d.nm _ hm, Nat.lt_of_le_of_lt (tot_mem hm) (Nat.lt_of_le_of_lt d.tt (by decide)), fun t H' kt => ?_⟩
          have kt2 : Kp H3 (lP (us ++ [(t, qs[i])])) H' := (kT.thn (by rw [e]; exact kt)).sub fun p hp => by
            rw [lP_app] at hp
            exact List.mem_append.mpr ((List.mem_append.mp hp).symm)
          have eD' : H' D = some (.lst zs) := kt.sm _ _ (by rw [← e]; exact eT)
          refine ⟨zs, eD', zl, zs ++ [.ref t], us ++ [(t, qs[i])], ?_, by rw [List.length_append, hl]; rfl, ?_, kt2.put nD (Kp.off kt2 eD'), upd_same⟩
          · rw [List.filter_append, hf, vP_app]
            rfl
          · rw [prs_app, hu, List.take_add_one, List.getElem?_eq_getElem hi']
            rfl
      · obtain ⟨zs, us, hf, hl, hu, kp, eD⟩ := hv
        refine hM _ _ ⟨D, zs, us, rfl, ?_, hf, by omega, ?_, eD⟩
        · rw [hu]
          rcases ePS with ⟨hq, _⟩ | ⟨_, hPS⟩
          · rw [hq]; simp
          · rw [hPS, List.length_map, List.take_length]
        · exact ⟨fun b o e => kp.sm b o (k2.sm b o e), fun p hp => ⟨k2.none0 (kp.nw p hp).1, (kp.nw p hp).2⟩⟩
    rintro σ1 H1 ⟨D, zs, us, rfl, eus, hzs, zl, k1, eD⟩
    refine ⟨_, rfl, D, rfl, ⟨_, SqL.of eD⟩, fun D2 nD2 => ?_⟩
    refine lc_list (xs := zs) (fun i H' => Same H1 H' ∧ H' D2 = some (.lst ((zs.take i).filter fun z => !decide (z = V.non)))) ⟨fun b o e => by rw [upd_ne (ne_of_none e nD2)]; exact e, upd_same⟩ (fun i H' _ z => SqL.of (z.1 _ _ eD)) ?_ ?_
    · rintro i x H' hx ⟨sm, e2⟩
      have et : zs.take (i + 1) = zs.take i ++ [x] := by rw [List.take_add_one, hx]; rfl
      refine ⟨rfl, _, rfl, rfl, _, rfl, ?_⟩
      rw [et, List.filter_append]
      by_cases hn : x = V.non
      · rw [hn]
        refine iteF ⟨sm, ?_⟩
        rw [e2]
        simp
      · have hd : (!decide (x = V.non)) = true := by rw [decide_eq_false hn]; rfl
        dsimp only
        rw [if_pos hd]
        refine ⟨_, rfl, _, e2, ?_, fun b o e => by rw [upd_ne (ne_of_none e nD2)]; exact sm b o e, ?_⟩
        · exact Nat.lt_of_le_of_lt (List.length_filter_le _ _) (Nat.lt_of_le_of_lt (List.length_take_le' _ _) (Nat.lt_of_le_of_lt zl (by decide)))
        · rw [upd_same]
          have e3 : [x].filter (fun z => !decide (z = V.non)) = [x] := by simp [hn]
          rw [e3]
    · rintro H' ⟨sm, e2⟩
      rw [List.take_length, hzs] at e2
      refine ⟨D2, vP us, rfl, .inl ⟨SqL.of e2, fun m nm => ?_⟩⟩
      exact k us m _ eus ((k1.next sm).new nm)
end
end RV
namespace RV
open PySem L2
section
variable {P : Program} {w : World} {K : PySem.W.Frag} {mg : Str → Option Value} {base : Heap} {C : Addr}
theorem ok_Sum_r {f : Addr} {fd : FuncData} (F : Fun K "read" "Sum.read" s_Sum_read f fd) (T : Blt mg) (h_Sum : Mkr P w K mg base "Sum" C 4 (Irr (sp_Sum K C)) []) (h_terms_in : Fn P w K mg base "_terms_in" 3 ["text"] (Irr (sp_termsin K))) (h_str : OwnM P w K mg base C "__str__" 5 (Irr (sp_text C))) : FnOk P w K mg base CX0 8 f fd ["cls", "text"] (sp_read C) := by
  refine F.ok sc_Sum_read (fun vs H Q E h => ?_) (fun cdv A outer s H vs Q E hr h => ?_)
  · obtain ⟨_, rfl, _⟩ := h
    rfl
  · obtain ⟨qs, rfl, d, k⟩ := h
    refine ⟨_, (pss_cons (ps_if (pt_not (pt_val (pe_callB call_isi (by rfl) T.b_isinstance (by decide +kernel) (pa_cons (pv 1) (pa_cons (pe_bltn (v := .ty "str") (by rfl) T.b_str (by decide +kernel) rfl) pa_nil))))) (pss_one ps_never) pss_nil)
      (pss_cons (ps_set (i := 2) sc_Sum_read.nd rfl (Or.inl rfl) (pe_mkL (i := 0) h_Sum (hr.mono (by decide)) rfl (Or.inl rfl) (pa_cons (pe_fn h_terms_in (hr.mono (by decide)) (pa_cons (pv 1) pa_nil)) pa_nil)))
      (pss_cons (ps_if (pt_cmpR op_ne (pe_callTy (call_strO h_str (hr.mono (by decide))) (by rfl) T.b_str (by decide +kernel) (pa_cons (pv 2) pa_nil)) (pv 1) (nomark _)) (pss_one ps_never) pss_nil)
      (pss_one (ps_ret (pv 2)))))), ?_⟩
    refine ⟨_, rfl, _, _, .type "str", .type "str", true, rfl, .ty _, .base (.str _), kit_ty (by decide +kernel), true, rfl, iteF ?_⟩
    refine ⟨rfl, _, rfl, irr ⟨qs, rfl, d, fun us m H1 eus k1 => ?_⟩⟩
    have un : ∀ q ∈ prs us, IsNm q.1 := eus ▸ d.nm
    have ul : us.length ≤ 60 := by rw [← prs_len, eus]; exact d.ln
    refine fun x dx hx hd ne => Sum_kp (us := us) ⟨SqT.of (k1.at List.mem_cons_self), fun u hu => SqT.of (k1.at (List.mem_cons_of_mem _ (List.mem_map.mpr ⟨u, hu, rfl⟩))), un, by omega⟩ hx hd ne fun ds m2 dx2 H2 md k2 => ?_
    have eds : prs ds = qs := by
      have d2 : Nrm (prs us) := eus ▸ d.nr
      rw [md.nr.uniq d2 md.co, eus]
    have k3 : Kp H (lS C x dx2 m2 ds) H2 := ⟨fun b o e => k2.sm b o (k1.sm b o e), fun p hp => ⟨k1.none0 (k2.nw p hp).1, (k2.nw p hp).2⟩⟩
    refine ⟨_, rfl, x, dx2, _, rfl, k3.at List.mem_cons_self, irr ⟨x, qs, rfl, eds ▸ SumR.of fun p hp => k3.at hp, fun q hq => ⟨d.nm q hq, Nat.lt_of_le_of_lt (tot_mem hq) (Nat.lt_of_le_of_lt d.tt (by decide))⟩, Nat.le_trans d.ln (by decide), fun H3 s3 => ?_⟩⟩
    refine ⟨_, rfl, _, rfl, rfl, _, rfl, ?_⟩
    refine ite2 (fun h => ?_) (fun _ => ?_)
    · simp at h
    exact ⟨_, rfl, k x dx2 m2 ds H3 eds (k3.next s3)⟩
end
end RV
/-! springs: the wells of the later laws -/
namespace RV
open PySem L2
section
variable {P : Program} {w : World} {K : PySem.W.Frag} {mg : Str → Option Value} {base : Heap}
theorem ok_spring {f : Addr} {fd : FuncData} (F : Fun K "_law_spring" "_law_spring" s_spring f fd) (T : Blt mg) : FnOk P w K mg base CX0 1 f fd ["_law_script", "_law_k"] (sp_spring K) := by
  refine F.ok sc_spring (fun vs H Q E h => ?_) (fun cdv A outer s H vs Q E hr h => ?_)
  · obtain ⟨_, _, _, rfl, _⟩ := h
    rfl
  · obtain ⟨c, ns, i, rfl, hS, hl, hi, k⟩ := h
    refine ⟨_, (pss_cons (ps_set (i := 2) sc_spring.nd rfl (Or.inl rfl) (pe_ifExp (pt_cmpR op_lt (pv 1) (pe_callB call_len_seq (by rfl) T.b_len (by decide +kernel) (pa_cons (pv 0) pa_nil)) (nomark _)) (pe_callTy call_int1 (by rfl) T.b_int (by decide +kernel) (pa_cons (pe_ix ix_list (pv 0) (pv 1) (fun _ _ => rfl)) pa_nil)) (pe_op op_add (pe_op op_mul pe_int (pv 1)) pe_int)))
      (pss_cons (ps_set (i := 3) sc_spring.nd rfl (Or.inl rfl) (pe_op op_add pe_int (pe_op op_mul pe_int (pv 1))))
      (pss_cons (ps_for PassesOwn.never rfl (pi_list (pe_slice sl_list (pv 0) po_none (po_some pe_int))) (pg_name (i := 4) sc_spring.nd rfl (Or.inl rfl)) (pss_one (ps_set (i := 3) sc_spring.nd rfl (Or.inl rfl) (pe_op op_mod (pe_callTy call_int1 (by rfl) T.b_int (by decide +kernel) (pa_cons (pe_op op_add (pe_op op_add (pe_op op_mul (pv 3) pe_int) (pe_op op_mul (pe_callTy call_int1 (by rfl) T.b_int (by decide +kernel) (pa_cons (pv 4) pa_nil)) pe_int)) pe_int) pa_nil)) pe_int))))
      (pss_cons (ps_set (i := 3) sc_spring.nd rfl (Or.inl rfl) (pe_op op_mod (pe_callTy call_int1 (by rfl) T.b_int (by decide +kernel) (pa_cons (pe_op op_add (pe_op op_add (pe_op op_mul (pv 3) (pv 3)) (pe_op op_mul (pv 2) pe_int)) pe_int) pa_nil)) pe_int))
      (pss_one (ps_ret (pe_lst (pa_cons (pe_op op_mod (pe_callTy call_int1 (by rfl) T.b_int (by decide +kernel) (pa_cons (pe_op op_add (pe_op op_mul (pv 3) pe_int) pe_int) pa_nil)) pe_int) (pa_cons (pe_ifExp (pt_cmpR op_ge (pe_callB call_abs (by rfl) T.b_abs (by decide +kernel) (pa_cons (pv 2) pa_nil)) (pe_op op_pow pe_int pe_int) (nomark _)) (pe_callB call_abs (by rfl) T.b_abs (by decide +kernel) (pa_cons (pv 2) pa_nil)) pe_int) (pa_cons (pv 1) pa_nil)))))))))), ?_⟩
    refine seq_of (fun σ' H' => ∃ z : Int, σ' = [some (.ref c), some (.int i), some (.int z), none, none] ∧ H' = H) ?rest (fun N hN => ?main)
    case main =>
      refine tif_int (b := decide ((i : Int) < ns.length)) (fun R r => ⟨_, rfl, _, rfl, c, _, rfl, .inl hS, _, _, rfl, rfl, _, rfl, by rw [List.length_map]; exact r⟩) (fun hb => ?_) (fun hb => ?_) (fun z => hN _ _ ⟨z, rfl, rfl⟩)
      · have hlt : (i : Int) < ns.length := of_decide_eq_true hb
        have hlt' : i < ns.length := by omega
        exact ⟨ns[i], fun R r => ⟨_, rfl, _, rfl, c, _, _, _, rfl, rfl, hS, atI_nat (by rw [List.getElem?_map, List.getElem?_eq_getElem hlt']; rfl), .inl ⟨_, rfl, r⟩⟩⟩
      · exact ⟨5 * i + 3, fun R r => ⟨_, rfl, _, _, rfl, rfl, .inl ⟨by decide, by decide⟩, _, _, rfl, rfl, r⟩⟩
    rintro σ1 H1 ⟨z, rfl, rfl⟩
    refine ⟨_, rfl, _, _, rfl, rfl, .inl ⟨by decide, by decide⟩, _, _, rfl, rfl, ?_⟩
    dsimp only [gName]
    refine ⟨_, rfl, _, rfl, c, _, rfl, hS, fun p np => ?_⟩
    obtain ⟨ms, em, lm⟩ := cutV_int ns none (some 3)
    rw [em]
    have s1 : Same H1 (upd H1 p (.lst (ms.map V.int))) := fun b o e => (upd_ne (ne_of_none e np)).trans e
    have hp : SqL K (upd H1 p (.lst (ms.map V.int))) p (ms.map V.int) := SqL.of upd_same
    revert s1 hp
    generalize upd H1 p (.lst (ms.map V.int)) = H2
    intro s1 hp
    refine ⟨p, rfl, ⟨_, hp⟩, for_list (K := K) (a := p) (xs := ms.map V.int) (fun j σ H' => H' = H2 ∧ ∃ (y : Int) (o : Option V), 0 ≤ y ∧ y < 2147483543 ∧ σ = [some (.ref c), some (.int i), some (.int z), some (.int y), o]) ⟨rfl, _, none, ?_, ?_, rfl⟩ (fun j σ H' _ h => by rw [h.1]; exact hp) ?_ ?_⟩
    · show (0 : Int) ≤ 991 + 613 * (i : Int)
      omega
    · show 991 + 613 * (i : Int) < 2147483543
      omega
    · rintro j y σ H' hj ⟨rfl, y', o, y0, y1, rfl⟩
      obtain ⟨u, rfl⟩ : ∃ u, y = V.int u := by
        rw [List.getElem?_map] at hj
        cases e : ms[j]? with
        | none => rw [e] at hj; cases hj
        | some u => rw [e] at hj; exact ⟨u, (Option.some.inj hj).symm⟩
      dsimp only [gName]
      refine ⟨_, rfl, _, _, rfl, rfl, .inr ⟨by decide, by decide⟩, _, rfl, .inl ⟨_, rfl, _, _, rfl, rfl, .inr ⟨by decide, by decide⟩, _, _, rfl, rfl, _, _, rfl, rfl, .inl ⟨_, rfl, _, _, rfl, rfl, (by show (0 : Int) < 2147483543; decide), rfl, _, _, ?_, ?_, rfl⟩⟩⟩
      · exact Int.emod_nonneg _ (by decide)
      · exact Int.emod_lt_of_pos _ (by decide)
    · rintro σ H' ⟨rfl, y, o, y0, y1, rfl⟩
      refine ⟨_, rfl, _, rfl, _, _, rfl, rfl, .inl ⟨by omega, by omega⟩, _, rfl, _, _, rfl, rfl, .inr ⟨by decide, by decide⟩, _, _, rfl, rfl, _, _, rfl, rfl, .inl ⟨_, rfl, _, _, rfl, rfl, (by show (0 : Int) < 2147483543; decide), ?_⟩⟩
      dsimp only [gName]
      generalize hx : (y * y + z * 7 + 11) % 2147483543 = x
      have hx0 : 0 ≤ x ∧ x < 2147483543 := by subst hx; exact ⟨Int.emod_nonneg _ (by decide), Int.emod_lt_of_pos _ (by decide)⟩
      refine ⟨_, rfl, _, _, rfl, rfl, .inr ⟨by decide, by decide⟩, _, _, rfl, rfl, .inl ⟨_, rfl, _, _, rfl, rfl, (by show (0 : Int) < 2147483543; decide), ?_⟩⟩
      dsimp only
      generalize hx2 : (x * 40009 + 77) % 2147483543 = x2
      have hx3 : 0 ≤ x2 ∧ x2 < 2147483629 := by subst hx2; omega
      refine ⟨_, rfl, _, rfl, _, _, rfl, rfl, ⟨by decide, by decide, by decide⟩, _, _, rfl, rfl, _, rfl, ?_⟩
      have out : ∀ y : Int, 0 ≤ y → ∀ p, H' p = none → Q (.ref p) (upd H' p (.lst [.int x2, .int y, .int i])) := fun y hy q nq =>
        k q _ (by
          cases e : H1 q with
          | none => rfl
          | some o => rw [s1 _ _ e] at nq; cases nq) (fun b o e => (upd_ne (ne_of_none (s1 b o e) nq)).trans (s1 b o e)) ⟨_, _, _, upd_same, hx3, hy, by omega⟩
      have hz : (0 : Int) ≤ if z < 0 then -z else z := by split <;> omega
      refine ite2 (fun _ => ?_) (fun _ => ?_)
      · exact ⟨_, rfl, _, rfl, _, rfl, (by show 3 ≤ sizeLine; decide), out _ hz⟩
      · exact ⟨_, rfl, (by show 3 ≤ sizeLine; decide), out _ (by decide)⟩
theorem ok_take {f : Addr} {fd : FuncData} (F : Fun K "_law_take" "_law_take" s_take f fd) (T : Blt mg) : FnOk P w K mg base CX0 1 f fd ["_law_spring_here", "_law_many"] sp_dip := by
  refine F.ok sc_take (fun vs H Q E h => ?_) (fun cdv A outer s H vs Q E hr h => ?_)
  · obtain ⟨_, _, _, rfl, _⟩ := h
    rfl
  · obtain ⟨a, m, n, rfl, ⟨x, y, z, e, hx, hy, hz⟩, hn, hm, hm2, k⟩ := h
    refine ⟨_, (pss_cons (ps_if (pt_cmpR op_gt (pe_ix ix_list (pv 0) pe_int (fun _ _ => rfl)) pe_int (nomark _)) (pss_cons (ps_asg (pe_callB call_divmodW (by rfl) T.b_divmod (by decide +kernel) (pa_cons (pe_ix ix_list (pv 0) pe_int (fun _ _ => rfl)) (pa_cons (pv 1) pa_nil))) (pg_tup (by rfl) (pgs_cons (pg_sub (pv 0) pe_int set_list) (pgs_cons (pg_name (i := 2) sc_take.nd rfl (Or.inl rfl)) pgs_nil)))) (pss_one (ps_ret (pv 2)))) pss_nil)
      (pss_cons (ps_asg (pe_op op_add (pe_ix ix_list (pv 0) pe_int (fun _ _ => rfl)) pe_int) (pg_sub (pv 0) pe_int set_list))
      (pss_cons (ps_par (i := 3) (j := 4) (by rfl) sc_take.nd rfl rfl (by decide) rfl rfl (pa_cons (pe_op op_add pe_int (pe_op op_mul pe_int (pe_ix ix_list (pv 0) pe_int (fun _ _ => rfl)))) (pa_cons (pe_op op_add (pe_op op_mul pe_int (pe_ix ix_list (pv 0) pe_int (fun _ _ => rfl))) pe_int) pa_nil)) (by rfl))
      (pss_cons (ps_asg (pe_op op_mod (pe_callTy call_int1 (by rfl) T.b_int (by decide +kernel) (pa_cons (pe_op op_add (pe_op op_mul (pe_ix ix_list (pv 0) pe_int (fun _ _ => rfl)) (pv 3)) (pv 4)) pa_nil)) pe_int) (pg_sub (pv 0) pe_int set_list))
      (pss_one (ps_ret (pe_op op_mod (pe_callTy call_int1 (by rfl) T.b_int (by decide +kernel) (pa_cons (pe_op op_fdiv (pe_ix ix_list (pv 0) pe_int (fun _ _ => rfl)) pe_int) pa_nil)) (pv 1)))))))), ?_⟩
    refine ⟨_, rfl, a, _, 1, _, rfl, rfl, SqL.of e, rfl, _, _, rfl, rfl, _, rfl, ?_⟩
    refine ite2 (fun hp => ?_) (fun _ => ?_)
    · refine ⟨_, rfl, a, _, 1, _, rfl, rfl, SqL.of e, rfl, _, rfl, _, _, rfl, ⟨hm, ?_⟩, fun p np => ?_⟩
      · refine PyProof.noPylong_of_log2 ?_
        have q := PySem.Flt.log2_lt_of (n := m.natAbs) (k := 200) (by decide) (by omega)
        omega
      · have npa : a ≠ p := fun w => by rw [← w, e] at np; cases np
        refine ⟨p, _, rfl, SqT.of upd_same, rfl, _, _, rfl, ⟨_, rfl, a, _, _, 1, rfl, rfl, Eq.trans (upd_ne npa) e, rfl, _, _, rfl, ⟨rfl, _, rfl, ?_⟩⟩⟩
        refine k _ _ (Int.emod_nonneg _ (by omega)) (Int.emod_lt_of_pos _ hm) (fun b o hb eb => ?_) ⟨_, _, _, upd_same, hx, Int.ediv_nonneg hy (by omega), hz.1, by omega⟩
        rw [upd_ne hb, upd_ne (ne_of_none eb np)]
        exact eb
    · refine ⟨_, rfl, a, _, 2, _, rfl, rfl, SqL.of e, rfl, _, _, rfl, rfl, _, rfl, a, _, _, 2, rfl, rfl, e, rfl, ?_⟩
      refine ⟨_, rfl, a, _, 2, _, rfl, rfl, SqL.of upd_same, rfl, _, _, rfl, rfl, .inl ⟨by decide, by decide⟩, _, _, rfl, rfl, _, rfl, a, _, 2, _, rfl, rfl, SqL.of upd_same, rfl, _, _, rfl, rfl, .inl ⟨by decide, by decide⟩, _, _, rfl, rfl, _, _, rfl, ?_⟩
      dsimp only
      refine ⟨_, rfl, a, _, 0, _, rfl, rfl, SqL.of upd_same, rfl, _, rfl, _, _, rfl, rfl, .inl ⟨by omega, by omega⟩, _, rfl, _, _, rfl, rfl, .inl ⟨_, rfl, _, _, rfl, rfl, (by show (0 : Int) < 2147483543; decide), _, rfl, a, _, _, 0, rfl, rfl, upd_same, rfl, ?_⟩⟩
      refine ⟨_, rfl, a, _, 0, _, rfl, rfl, SqL.of upd_same, rfl, _, _, rfl, rfl, ⟨by decide, by decide⟩, .inl ⟨_, rfl, _, rfl, _, _, rfl, rfl, hm, ?_⟩⟩
      refine k _ _ (Int.emod_nonneg _ (by omega)) (Int.emod_lt_of_pos _ hm) (fun b o hb eb => by rw [upd_ne hb, upd_ne hb]; exact eb) ⟨_, _, _, upd_same, ⟨Int.emod_nonneg _ (by decide), Int.lt_of_lt_of_le (Int.emod_lt_of_pos _ (by decide)) (by decide)⟩, hy, by omega, by omega⟩
end
end RV
/-! names of the later laws -/
namespace RV
open PySem L2 TL
section
variable {P : Program} {w : World} {K : PySem.W.Frag} {mg : Str → Option Value} {base : Heap}
theorem ok_titles {f : Addr} {fd : FuncData} (F : Fun K "_law_titles" "_law_titles" s_titles f fd) (T : Blt mg) (h_take : Fn P w K mg base "_law_take" 1 ["_law_spring_here", "_law_many"] (Irr sp_dip)) : FnOk P w K mg base CX0 2 f fd ["_law_spring_here", "_law_many"] sp_names := by
  refine F.ok sc_titles (fun vs H Q E h => ?_) (fun cdv A outer s H vs Q E hr h => ?_)
  · obtain ⟨_, _, _, rfl, _⟩ := h
    rfl
  · obtain ⟨a, n, m, rfl, wl, hn, hm, k⟩ := h
    refine ⟨_, (pss_cons (ps_asg (pe_tup (pa_cons pe_str (pa_cons (pe_lst pa_nil) pa_nil))) (pg_tup (by rfl) (pgs_cons (pg_name (i := 2) sc_titles.nd rfl (Or.inl rfl)) (pgs_cons (pg_name (i := 3) sc_titles.nd rfl (Or.inr rfl)) pgs_nil))))
      (pss_cons (ps_set (i := 4) sc_titles.nd rfl (Or.inl rfl) (pe_lst (pa_cons pe_str (pa_cons pe_str (pa_cons pe_str (pa_cons pe_str (pa_cons pe_str (pa_cons pe_str (pa_cons pe_str (pa_cons pe_str pa_nil))))))))))
      (pss_cons (ps_for PassesOwn.never rfl (pi_range1 rfl T.b_range (pa_cons (pv 1) pa_nil)) (pg_name (i := 5) sc_titles.nd rfl (Or.inl rfl)) (pss_cons (ps_asg (pe_tup (pa_cons (pe_ix ix_list (pe_lst (pa_cons pe_int (pa_cons pe_int (pa_cons pe_int (pa_cons pe_int (pa_cons pe_int (pa_cons pe_int pa_nil))))))) (pe_fn h_take (hr.mono (by decide)) (pa_cons (pv 0) (pa_cons pe_int pa_nil))) (fun _ _ => rfl)) (pa_cons (pe_ix ix_str (pv 2) (pe_fn h_take (hr.mono (by decide)) (pa_cons (pv 0) (pa_cons pe_int pa_nil))) (fun _ _ => rfl)) pa_nil))) (pg_tup (by rfl) (pgs_cons (pg_name (i := 6) sc_titles.nd rfl (Or.inl rfl)) (pgs_cons (pg_name (i := 7) sc_titles.nd rfl (Or.inr rfl)) pgs_nil)))) (pss_cons (ps_for PassesOwn.never rfl (pi_range1 rfl T.b_range (pa_cons (pv 6) pa_nil)) (pg_name (i := 8) sc_titles.nd rfl (Or.inl rfl)) (pss_one (ps_set (i := 7) sc_titles.nd rfl (Or.inr rfl) (pe_op op_add_str (pv 7) (pe_ix ix_str (pv 2) (pe_fn h_take (hr.mono (by decide)) (pa_cons (pv 0) (pa_cons pe_int pa_nil))) (fun _ _ => rfl)))))) (pss_cons (ps_if (pt_cmpR op_eq (pe_fn h_take (hr.mono (by decide)) (pa_cons (pv 0) (pa_cons pe_int pa_nil))) pe_int (nomark _)) (pss_one (ps_set (i := 7) sc_titles.nd rfl (Or.inr rfl) (pe_ix ix_list (pv 4) (pe_fn h_take (hr.mono (by decide)) (pa_cons (pv 0) (pa_cons pe_int pa_nil))) (fun _ _ => rfl)))) pss_nil) (pss_cons (ps_set (i := 9) sc_titles.nd rfl (Or.inl rfl) (pe_op op_cat (pe_lst (pa_cons (pv 7) pa_nil)) (pe_lc (own := [("_law_sign", 10)]) (g := gName 10) (tt := tYes) rfl sc_titles.nd (pi_str (pv 2)) (blkOk_by (N := sc_titles_N) (sc := defScope s_titles) (by decide +kernel)) (fun _ _ _ _ _ => pg_name (i := 10) sc_titles.nd rfl (Or.inl rfl)) (fun _ _ _ _ _ => pts_nil) (fun _ _ _ _ _ => (pe_op op_add_str (pe_slice sl_str (pv 7) po_none (po_some pe_int)) (pv 10)))))) (pss_one (ps_expr (pe_bm PySem.F.plainAttrs_list PySem.F.slot_list_append PySem.F.type_list_append mt_append (pv 3) (pa_cons (pe_ix ix_list (pe_lc (own := [("_law_one", 11)]) (g := gName 11) rfl sc_titles.nd (pi_list (pv 9)) (blkOk_by (N := sc_titles_N) (sc := defScope s_titles) (by decide +kernel)) (fun _ _ _ _ _ => pg_name (i := 11) sc_titles.nd rfl (Or.inl rfl)) (fun _ _ _ _ _ => pts_one (pt_cmpR (op_notInK (K := K)) (pv 11) (pv 3) (by rfl))) (fun _ _ _ _ _ => (pv 11))) pe_int (fun _ _ => rfl)) pa_nil)))))))))
      (pss_one (ps_ret (pv 3)))))), ?_⟩
    have b0 := Bag.start wl
    refine ⟨by decide, fun fl f0 => ⟨(by show 2 ≤ sizeLine; decide), fun T0 nT0 => ⟨T0, _, rfl, SqT.of upd_same, rfl, _, _, rfl, _, _, rfl, rfl, ?_⟩⟩⟩
    have b1 := (b0.newM (o := .lst []) f0).new (o := .tup [.str signs, .ref fl]) nT0
    dsimp only
    refine ⟨(by show 8 ≤ sizeLine; decide), fun W0 nW0 => ?_⟩
    have b2 := (b1.new (o := .lst (words3.map V.str)) nW0).sub (F' := [(W0, .lst (words3.map V.str))]) fun p hp => by
      rw [List.mem_singleton.mp hp]
      exact List.mem_cons_self
    dsimp only [gName]
    refine ⟨_, rfl, m, rfl, by omega, by omega, for_range (lo := 0) (n := m) (fun j σ H' => ∃ (xs : List Str) (o5 o6 o7 o8 o9 o10 o11 : Option V), σ = [some (.ref a), some (.int m), some (.str signs), some (.ref fl), some (.ref W0), o5, o6, o7, o8, o9, o10, o11] ∧
      xs.length = j ∧ xs.Nodup ∧ (∀ x ∈ xs, IsNm x) ∧ Bag H a (n + 15 * j) [(fl, .lst (xs.map V.str))] [(W0, .lst (words3.map V.str))] H') ?_ ?_ ?_⟩
    · exact ⟨[], _, _, _, _, _, _, _, rfl, rfl, .nil, (fun _ hx => nomatch hx), b2⟩
    · rintro j σ H2 hj ⟨xs, o5, o6, o7, o8, o9, o10, o11, rfl, xl, xd, xn, b3⟩
      dsimp only [gName]
      rw [Int.zero_add]
      -- size, first sign
      refine ⟨(by show 6 ≤ sizeLine; decide), fun q0 nq0 => ?_⟩
      have b4 := b3.new (o := .lst [.int 0, .int 0, .int 1, .int 1, .int 3, .int 7]) nq0
      refine ⟨_, rfl, b4.dip (by omega) (by decide) (by decide) fun r H3 r0 r1 b5 => ?_⟩
      obtain ⟨sz, hsz, esz⟩ := sizes_at r0 r1
      refine ⟨q0, _, _, _, rfl, rfl, SqL.of (b5.at List.mem_cons_self), esz, _, rfl, _, rfl, b5.dip (by omega) (by decide) (by decide) fun r H4 r0 r1 b6 => ?_⟩
      obtain ⟨c, hc, lc⟩ := at_low r0 r1
      refine ⟨signs, _, c, rfl, rfl, by decide, hc, (by show 2 ≤ sizeLine; decide), fun T1 nT1 => ⟨T1, _, rfl, SqT.of upd_same, rfl, _, _, rfl, _, _, rfl, rfl, ?_⟩⟩
      have b7 := ((b6.new (o := .tup [.int sz, .str ⟨#[c]⟩]) nT1).wm (m := n + 15 * j + 2) (by omega)).sub (F' := [(W0, .lst (words3.map V.str))]) fun p hp => List.mem_cons_of_mem _ (List.mem_cons_of_mem _ hp)
      dsimp only
      -- the further signs
      refine ⟨_, rfl, (sz : Int), rfl, by omega, by omega, for_range (lo := 0) (n := sz) (fun t σ H' => ∃ (x : Str) (o8 : Option V), σ = [some (.ref a), some (.int m), some (.str signs), some (.ref fl), some (.ref W0), some (.int (j : Int)), some (.int (sz : Int)), some (.str x), o8, o9, o10, o11] ∧
        IsNm x ∧ x.length = t + 1 ∧ Bag H a (n + 15 * j + 2 + t) [(fl, .lst (xs.map V.str))] [(W0, .lst (words3.map V.str))] H') ?_ ?_ ?_⟩
      · exact ⟨_, _, rfl, isNm_iff.mpr ⟨c, [], rfl, lc, rfl, by decide⟩, rfl, b7⟩
      · rintro t σ H5 ht ⟨x, o8, rfl, nx, lx, b8⟩
        dsimp only [gName]
        refine ⟨_, rfl, _, rfl, _, rfl, b8.dip (by omega) (by decide) (by decide) fun r H6 r0 r1 b9 => ?_⟩
        obtain ⟨d, hd, ld⟩ := at_tail r0 r1
        refine ⟨signs, _, d, rfl, rfl, by decide, hd, _, _, rfl, rfl, szn (by rw [lx]; show t + 1 + 1 ≤ 1000; omega), _, _, rfl, ?_, by rw [sl_app, lx]; rfl, b9⟩
        show isNm (cd _) = true
        rw [cd_app]
        exact isNm_snoc nx (by rw [← cd_len]; omega) ld
      rintro σ H5 ⟨x, o8', rfl, nx, lx, b8⟩
      dsimp only
      -- a word
      refine seq_of (fun σ' H' => ∃ x : Str, IsNm x ∧ σ' = [some (.ref a), some (.int m), some (.str signs), some (.ref fl), some (.ref W0), some (.int (j : Int)), some (.int (sz : Int)), some (.str x), o8', o9, o10, o11] ∧ Bag H a (n + 15 * j + 12) [(fl, .lst (xs.map V.str))] [(W0, .lst (words3.map V.str))] H') ?rest3 (fun N hN => ?main3)
      case main3 =>
        refine ⟨_, rfl, b8.dip (by omega) (by decide) (by decide) fun r H6 _ _ b9 => ⟨rfl, _, rfl, ite2 (fun _ => ?_) fun _ => hN _ _ ⟨x, nx, rfl, b9.wm (by omega)⟩⟩⟩
        refine ⟨_, rfl, _, rfl, b9.dip (by omega) (by decide) (by decide) fun r H7 r0 r1 b10 => ?_⟩
        obtain ⟨y, hy, hyn⟩ := word3_at r0 r1
        exact ⟨W0, _, r, .str y, rfl, rfl, SqL.of (b10.at List.mem_cons_self), hy, hN _ _ ⟨y, hyn, rfl, b10.wm (by omega)⟩⟩
      rintro σ3 H6 ⟨y, ny, rfl, b9⟩
      clear b8 nx lx b7 b6 b5 b4
      have ly := nm8 ny
      -- the spare ones
      refine ⟨_, rfl, (by show 1 ≤ sizeLine; decide), fun p np => ?_⟩
      have b10 := b9.new (o := .lst [.str y]) np
      refine ⟨_, rfl, signs, rfl, fun D nD => lc_str (z := signs) (fun i H' => Bag H a (n + 15 * j + 12) [(D, .lst (((cands y).take i).map V.str)), (fl, .lst (xs.map V.str))] ((p, .lst [.str y]) :: [(W0, .lst (words3.map V.str))]) H') (b10.newM nD) ?_ ?_⟩
      · rintro i c H7 hi b11
        refine ⟨rfl, _, rfl, _, rfl, _, rfl, szn (by omega), _, rfl, _, _, rfl, rfl, ?_, _, b11.am List.mem_cons_self, ?_, ?_⟩
        · rw [show cutS y none (some 7) = cutS y none (some ((7 : Nat) : Int)) from rfl, cd_len, cd_pre, List.length_take, ← cd_len]
          have e2 : Str.length ⟨#[c]⟩ = 1 := rfl
          rw [e2]
          exact szn (by omega)
        · rw [List.length_map, List.length_take]
          exact Nat.lt_of_lt_of_le (show min i (cands y).length < 1000 by rw [cands_len]; omega) (by decide)
        · have e : (cands y)[i]? = some (cutS y none (some 7) ++ ⟨#[c]⟩) := by
            unfold cands
            rw [List.getElem?_map, hi]
            rfl
          rw [List.take_add_one, e, List.map_append]
          exact b11.put0
      rintro H7 b11
      rw [List.take_of_length_le (by rw [cands_len, cd_signs]; decide)] at b11
      refine ⟨p, D, _, _, rfl, rfl, b11.at List.mem_cons_self, b11.am List.mem_cons_self, ?_, fun q nq => ?_⟩
      · rw [List.length_map, cands_len]
        exact (by show 1 + 36 ≤ sizeLine; decide)
      have b12 := b11.frz.new (o := .lst ([V.str y] ++ (cands y).map V.str)) nq
      have eq1 : [V.str y] ++ (cands y).map V.str = (y :: cands y).map V.str := rfl
      rw [eq1] at b12 ⊢
      have esp : SqL K _ q ((y :: cands y).map V.str) := SqL.of (b12.at List.mem_cons_self)
      have eF := b12.am List.mem_cons_self
      dsimp only [gName]
      refine ⟨_, rfl, .inl ⟨rfl, _, SqL.of eF⟩, _, rfl, q, rfl, ⟨_, esp⟩, fun D2 nD2 => lc_keepV (xs := (y :: cands y).map V.str) (fun v => !inV v (xs.map V.str)) walk_list nD2 (by rw [List.length_map, List.length_cons, cands_len]; decide) (fun H' s' => esp.ext s') (fun _ => rfl) (fun v hv H8 s8 R kR => ?_) (fun v hv H8 R r => ⟨_, rfl, r⟩) fun H8 s8 hD2 => ?_⟩
      · obtain ⟨z, _, rfl⟩ := List.mem_map.mp hv
        exact ⟨_, rfl, _, rfl, fl, _, rfl, .inl (SqL.of (s8 _ _ eF)), rfl, strs_flat _, _, rfl, kR⟩
      have b13 := b12.same s8
      have ef : ((y :: cands y).map V.str).filter (fun v => !inV v (xs.map V.str)) = ((y :: cands y).filter fun z => !decide (z ∈ xs)).map V.str := by
        rw [List.filter_map]
        congr 1
        exact List.filter_congr fun y _ => by rw [Function.comp, inV_str]
      rw [ef] at hD2
      obtain ⟨z, hz, hzx⟩ := one_free (cands_nodup y) (xs := xs) (by rw [cands_len]; omega)
      have hm2 : z ∈ (y :: cands y).filter (fun z => !decide (z ∈ xs)) := List.mem_filter.mpr ⟨List.mem_cons_of_mem _ hz, by simp [hzx]⟩
      cases eg : (y :: cands y).filter (fun z => !decide (z ∈ xs)) with
      | nil => rw [eg] at hm2; cases hm2
      | cons u us =>
        rw [eg] at hD2
        have hu : u ∈ (y :: cands y).filter (fun z => !decide (z ∈ xs)) := by rw [eg]; exact List.mem_cons_self
        obtain ⟨hu1, hu2⟩ := List.mem_filter.mp hu
        have hux : u ∉ xs := by simpa using hu2
        have hun : IsNm u := by
          rcases List.mem_cons.mp hu1 with z | z
          · rw [z]; exact ny
          · exact cands_nm ny u z
        refine ⟨D2, _, 0, .str u, rfl, rfl, SqL.of hD2, atI_nat (j := 0) rfl, fl, _, _, rfl, rfl, b13.am List.mem_cons_self, ?_, xs ++ [u], _, _, _, _, _, _, _, rfl, by rw [List.length_append, xl]; rfl, nodup_snoc xd hux, fun z hz => ?_, ?_⟩
        · rw [List.length_map, xl]
          exact Nat.lt_of_lt_of_le (show j < 20 by omega) (by decide)
        · exact (List.mem_append.mp hz).elim (xn z) fun w => by rw [List.mem_singleton.mp w]; exact hun
        · rw [List.map_append]
          exact ((b13.put0 (o' := .lst (xs.map V.str ++ [V.str u]))).wm (by omega)).sub fun p hp => by
            rw [List.mem_singleton.mp hp]
            exact List.mem_cons_of_mem _ (List.mem_cons_of_mem _ (List.mem_cons_of_mem _ List.mem_cons_self))
    · rintro σ H2 ⟨xs, o5, o6, o7, o8, o9, o10, o11, rfl, xl, xd, xn, b3⟩
      exact ⟨_, rfl, k fl xs H2 f0 (b3.m _ List.mem_cons_self).2.1 b3.gr (b3.well.mono (by omega)) (b3.am List.mem_cons_self) xl xd xn⟩
end
end RV
/-! k47: drawn numbers -/
namespace RV
open PySem L2 TL
section
variable {P : Program} {w : World} {K : PySem.W.Frag} {mg : Str → Option Value} {base : Heap}
theorem ok_times {f : Addr} {fd : FuncData} (F : Fun K "_law_times" "_law_times" s_times f fd) (h_take : Fn P w K mg base "_law_take" 1 ["_law_spring_here", "_law_many"] (Irr sp_dip)) : FnOk P w K mg base CX0 2 f fd ["_law_spring_here", "_law_wide"] sp_tms := by
  refine F.ok sc_times (fun vs H Q E h => ?_) (fun cdv A outer s H vs Q E hr h => ?_)
  · obtain ⟨_, _, _, rfl, _⟩ := h
    rfl
  · obtain ⟨a, n, wide, rfl, wl, hn, w1, k⟩ := h
    refine ⟨_, (pss_cons (ps_set (i := 2) sc_times.nd rfl (Or.inl rfl) (pe_ix ix_list (pe_lst (pa_cons pe_int (pa_cons pe_int (pa_cons pe_int (pa_cons pe_int (pa_cons pe_int (pa_cons pe_int (pa_cons pe_int (pa_cons (pv 1) pa_nil))))))))) (pe_fn h_take (hr.mono (by decide)) (pa_cons (pv 0) (pa_cons pe_int pa_nil))) (fun _ _ => rfl)))
      (pss_one (ps_ret (pe_ix ix_list (pe_lst (pa_cons (pv 2) (pa_cons (pe_un un_neg (pv 2)) pa_nil))) (pe_fn h_take (hr.mono (by decide)) (pa_cons (pv 0) (pa_cons pe_int pa_nil))) (fun _ _ => rfl))))), ?_⟩
    have b0 := Bag.start wl
    refine ⟨_, rfl, by show 8 ≤ sizeLine; decide, fun L nL => ?_⟩
    have b1 := b0.new (o := .lst [.int 1, .int 1, .int 1, .int 1, .int 2, .int 3, .int 12, .int wide]) nL
    refine ⟨_, rfl, b1.dip (by omega) (by decide) (by decide) fun r H2 r0 r1 b2 => ?_⟩
    have hx : ∃ x : Int, 1 ≤ x ∧ x ≤ wide + 12 ∧ atI [V.int 1, V.int 1, V.int 1, V.int 1, V.int 2, V.int 3, V.int 12, V.int wide] r = some (.int x) := by
      rcases (show r = 0 ∨ r = 1 ∨ r = 2 ∨ r = 3 ∨ r = 4 ∨ r = 5 ∨ r = 6 ∨ r = 7 by omega) with rfl | rfl | rfl | rfl | rfl | rfl | rfl | rfl
      · exact ⟨1, by omega, by omega, rfl⟩
      · exact ⟨1, by omega, by omega, rfl⟩
      · exact ⟨1, by omega, by omega, rfl⟩
      · exact ⟨1, by omega, by omega, rfl⟩
      · exact ⟨2, by omega, by omega, rfl⟩
      · exact ⟨3, by omega, by omega, rfl⟩
      · exact ⟨12, by omega, by omega, rfl⟩
      · exact ⟨wide, by omega, by omega, rfl⟩
    obtain ⟨x, x1, x2, ex⟩ := hx
    refine ⟨L, _, r, _, rfl, rfl, SqL.of (b2.at List.mem_cons_self), ex, ?_⟩
    dsimp only [gName]
    refine ⟨_, rfl, _, rfl, _, rfl, by show 2 ≤ sizeLine; decide, fun L2 nL2 => ?_⟩
    have b3 := b2.new (o := .lst [.int x, .int (-x)]) nL2
    refine ⟨_, rfl, b3.dip (by omega) (by decide) (by decide) fun q H4 q0 q1 b4 => ?_⟩
    have hy : ∃ y : Int, y ≠ 0 ∧ -(wide + 12) ≤ y ∧ y ≤ wide + 12 ∧ atI [V.int x, V.int (-x)] q = some (.int y) := by
      rcases (show q = 0 ∨ q = 1 by omega) with rfl | rfl
      · exact ⟨x, by omega, by omega, by omega, rfl⟩
      · exact ⟨-x, by omega, by omega, by omega, rfl⟩
    obtain ⟨y, y1, y2, y3, ey⟩ := hy
    exact ⟨L2, _, q, _, rfl, rfl, SqL.of (b4.at List.mem_cons_self), ey, k y H4 y1 y2 y3 b4.gr b4.well⟩
end
end RV
/-! k47: drawn sums -/
namespace RV
open PySem L2 TL
section
variable {P : Program} {w : World} {K : PySem.W.Frag} {mg : Str → Option Value} {base : Heap}
theorem ok_total {f : Addr} {fd : FuncData} (F : Fun K "_law_total" "_law_total" s_total f fd) (T : Blt mg) (T2 : Blt2 mg) (h_take : Fn P w K mg base "_law_take" 1 ["_law_spring_here", "_law_many"] (Irr sp_dip)) (h_times : Fn P w K mg base "_law_times" 2 ["_law_spring_here", "_law_wide"] (Irr sp_tms)) : FnOk P w K mg base CX0 3 f fd ["_law_spring_here", "_law_tags", "_law_many", "_law_wide"] sp_totl := by
  refine F.ok sc_total (fun vs H Q E h => ?_) (fun cdv A outer s H vs Q E hr h => ?_)
  · obtain ⟨_, _, _, _, _, _, rfl, _⟩ := h
    rfl
  · obtain ⟨a, lt, n, many, wide, ts, rfl, wl, hn, eT, ta, t20, m10, w1, k⟩ := h
    refine ⟨_, (pss_cons (ps_set (i := 4) sc_total.nd rfl (Or.inl rfl) (pe_lst pa_nil))
      (pss_cons (ps_for PassesOwn.never rfl (pi_range1 rfl T.b_range (pa_cons (pe_ifExp (pt_cmpR (op_neE (Nat.lt_of_le_of_lt (Nat.le_add_right _ 64) hr.units)) (pv 1) (pe_lst pa_nil) (nomark _)) (pe_fn h_take (hr.mono (by decide)) (pa_cons (pv 0) (pa_cons (pe_op op_add (pv 2) pe_int) pa_nil))) pe_int) pa_nil)) (pg_name (i := 5) sc_total.nd rfl (Or.inl rfl)) (pss_cons (ps_par (i := 6) (j := 7) (by rfl) sc_total.nd rfl rfl (by decide) rfl rfl (pa_cons (pe_ix ix_list (pv 1) (pe_fn h_take (hr.mono (by decide)) (pa_cons (pv 0) (pa_cons (pe_callB call_len_seq (by rfl) T.b_len (by decide +kernel) (pa_cons (pv 1) pa_nil)) pa_nil))) (fun _ _ => rfl)) (pa_cons (pe_fn h_times (hr.mono (by decide)) (pa_cons (pv 0) (pa_cons (pv 3) pa_nil))) pa_nil)) (by rfl)) (pss_one (ps_if (pt_cmpR op_notIn_seq (pv 6) (pe_lc (own := [("_law_pair", 8)]) (g := gName 8) (tt := tYes) rfl sc_total.nd (pi_list (pv 4)) (blkOk_by (N := sc_total_N) (sc := defScope s_total) (by decide +kernel)) (fun _ _ _ _ _ => pg_name (i := 8) sc_total.nd rfl (Or.inl rfl)) (fun _ _ _ _ _ => pts_nil) (fun _ _ _ _ _ => (pe_ix (ix_tupK (K := K)) (pv 8) pe_int (fun _ _ => rfl)))) (by rfl)) (pss_one (ps_expr (pe_bm PySem.F.plainAttrs_list PySem.F.slot_list_append PySem.F.type_list_append mt_append (pv 4) (pa_cons (pe_tup (pa_cons (pv 6) (pa_cons (pv 7) pa_nil))) pa_nil)))) pss_nil))))
      (pss_one (ps_ret (pe_callB cr_sortTI (by rfl) T2.b_sorted (by decide +kernel) (pa_cons (pv 4) pa_nil)))))), ?_⟩
    have b0 := Bag.start wl
    refine ⟨by decide, fun C nC => ?_⟩
    have b1 := b0.newM (o := .lst []) nC
    have keep : ∀ {m : Nat} {M F : List (Addr × HO)} {H' : Hp}, Bag H a m M F H' → H' lt = some (.lst (ts.map V.str)) := fun b => b.gr _ _ ta eT
    dsimp only [gName]
    show tIf _ _ _ _ _ _
    refine val_of (fun v H' => ∃ j : Nat, v = .int j ∧ j ≤ many ∧ (j ≠ 0 → ts ≠ []) ∧ Bag H a (n + 1) [(C, .lst [])] [] H') (fun v H3 z => ?_) (fun Q' hQ => ?_)
    · obtain ⟨j, rfl, jm, jt, b3⟩ := z
      refine ⟨j, rfl, by omega, by omega, for_range (lo := 0) (n := j) (fun i σ H' => ∃ (us : List TP) (o5 o6 o7 o8 : Option V), σ = [some (.ref a), some (.ref lt), some (.int many), some (.int wide), some (.ref C), o5, o6, o7, o8] ∧ us.length ≤ i ∧ (us.map fun u => u.2.1).Nodup ∧ (∀ u ∈ us, u.2.1 ∈ ts ∧ u.2.2 ≠ 0 ∧ -(wide + 12) ≤ u.2.2 ∧ u.2.2 ≤ wide + 12 ∧ H u.1 = none) ∧ Bag H a (n + 1 + 5 * i) [(C, .lst (vP us))] (lP us) H') ⟨[], _, _, _, _, rfl, Nat.le_refl _, .nil, (fun _ h => nomatch h), b3⟩ ?_ ?_⟩
      · rintro i σ H4 hi ⟨us, o5, o6, o7, o8, rfl, ul, nd, hu, b4⟩
        have hne := jt (by omega)
        have tl : 0 < ts.length := List.length_pos_iff.mpr hne
        dsimp only [gName]
        refine ⟨_, rfl, _, rfl, _, rfl, lt, _, rfl, .inl (SqL.of (keep b4)), ?_⟩
        rw [List.length_map]
        refine b4.dip (by omega) (by omega) (by omega) fun r H5 r0 r1 b5 => ?_
        have hx : ∃ t, t ∈ ts ∧ atI (ts.map V.str) r = some (.str t) := by
          obtain ⟨q, rfl⟩ := Int.eq_ofNat_of_zero_le r0
          have hq : q < ts.length := by omega
          exact ⟨ts[q], List.getElem_mem hq, atI_nat (by rw [List.getElem?_map, List.getElem?_eq_getElem hq]; rfl)⟩
        obtain ⟨t, ht, et⟩ := hx
        refine ⟨lt, _, r, _, rfl, rfl, SqL.of (keep b5), et, _, rfl, _, rfl, b5.tms (by omega) w1 fun z H6 z0 z1 z2 b6 => ⟨_, _, rfl, ?_⟩⟩
        have eC := b6.am (p := C) List.mem_cons_self
        dsimp only
        refine ⟨_, rfl, _, rfl, C, rfl, ⟨_, SqL.of eC⟩, fun D nD => lc_to (xs := vP us) ((us.map fun u => u.2.1).map V.str) (by rw [List.length_map, List.length_map, vP, List.length_map]) walk_list nD (by rw [vP, List.length_map]; omega) (fun H' s' => SqL.of (s' _ _ eC)) (fun _ => rfl) (fun j v y hv hy H7 s7 R kR => ?_) fun H7 s7 eD => ?_⟩
        · rw [vP, List.getElem?_map] at hv
          rw [List.getElem?_map, List.getElem?_map] at hy
          cases e : us[j]? with
          | none => rw [e] at hv; cases hv
          | some u =>
            rw [e] at hv hy
            obtain rfl := Option.some.inj hv
            obtain rfl := Option.some.inj hy
            have hm : (u.1, oP u.2) ∈ lP us := List.mem_map.mpr ⟨u, List.mem_of_getElem? e, rfl⟩
            exact ⟨_, rfl, u.1, _, 0, _, rfl, rfl, SqT.of (s7 _ _ (b6.at hm)), rfl, kR H7 (Same.refl _)⟩
        have b7 := b6.same s7
        have eC7 := b7.am (p := C) List.mem_cons_self
        refine ⟨D, _, rfl, .inl (SqL.of eD), rfl, flat_str _, _, rfl, ?_⟩
        rw [inV_str]
        by_cases hin : t ∈ us.map fun u => u.2.1
        · rw [decide_eq_true hin]
          exact iteF ⟨us, _, _, _, _, rfl, by omega, nd, hu, b7.wm (by omega)⟩
        · rw [decide_eq_false hin]
          refine iteT ⟨_, rfl, .inl ⟨rfl, _, SqL.of eC7⟩, _, rfl, _, rfl, by show 2 ≤ sizeLine; decide, fun S nS => ?_⟩
          have b8 := b7.new (o := .tup [.str t, .int z]) nS
          have eC8 := b8.am (p := C) List.mem_cons_self
          refine ⟨C, _, _, rfl, rfl, eC8, ?_, us ++ [(S, t, z)], _, _, _, _, rfl, ?_, ?_, fun u hu2 => ?_, ?_⟩
          · rw [vP, List.length_map]
            exact Nat.lt_of_lt_of_le (show us.length < 20 by omega) (by decide)
          · rw [List.length_append, List.length_singleton]
            omega
          · rw [List.map_append, List.nodup_append]
            refine ⟨nd, by simp, fun x hx y hy e => ?_⟩
            rw [List.map_singleton, List.mem_singleton] at hy
            rw [e, hy] at hx
            exact hin hx
          · rcases List.mem_append.mp hu2 with h | h
            · exact hu u h
            · obtain rfl := List.mem_singleton.mp h
              exact ⟨ht, z0, z1, z2, b7.none0 nS⟩
          · have b9 : Bag H a _ [(C, .lst (vP us ++ [V.ref S]))] _ _ := b8.put0
            rw [vP_app, lP_app]
            refine (b9.sub fun p hp => ?_).wm (by omega)
            rcases List.mem_append.mp hp with h | h
            · exact List.mem_cons_of_mem _ h
            · obtain rfl := List.mem_singleton.mp h
              exact List.mem_cons_self
      · rintro σ H4 ⟨us, o5, o6, o7, o8, rfl, ul, nd, hu, b4⟩
        dsimp only
        have at4 : ∀ u ∈ us, H4 u.1 = some (.tup [.str u.2.1, .int u.2.2]) := fun u hu => b4.at (List.mem_map.mpr ⟨u, hu, rfl⟩)
        refine ⟨_, rfl, C, vP us, kS H4, rfl, SqL.of (b4.am List.mem_cons_self), fun v hv => ?_, fun ys p pm ord np => ?_⟩
        · obtain ⟨u, hu, rfl⟩ := List.mem_map.mp hv
          exact ⟨u.1, rfl, by rw [kS_at (at4 u hu)]; exact at4 u hu⟩
        · obtain ⟨us', pu, rfl⟩ := perm_back (f := fun u : TP => V.ref u.1) pm
          have mem : ∀ u, u ∈ us' → u ∈ us := fun u => pu.mem_iff.mp
          have b5 := b4.frz.new (o := .lst (us'.map fun u => V.ref u.1)) np
          refine k p us' _ ((b5.sub fun q hq => ?_).wm (by omega)) (fun q hq => ?_) ?_ (by rw [pu.length_eq]; omega) fun u hu' => ⟨(hu u (mem u hu')).1, (hu u (mem u hu')).2.2.1, (hu u (mem u hu')).2.2.2.1⟩
          · rcases List.mem_cons.mp hq with rfl | hq
            · exact List.mem_cons_self
            · obtain ⟨u, hu', rfl⟩ := List.mem_map.mp hq
              exact List.mem_cons_of_mem _ (List.mem_cons_of_mem _ (List.mem_map.mpr ⟨u, mem u hu', rfl⟩))
          · rcases List.mem_cons.mp hq with rfl | hq
            · exact b4.none0 np
            · obtain ⟨u, hu', rfl⟩ := List.mem_map.mp hq
              exact (hu u (mem u hu')).2.2.2.2
          · refine nrm_sorted ?_ ((pu.map _).nodup_iff.mpr nd) fun u hu' => (hu u (mem u hu')).2.1
            rw [List.pairwise_map] at ord
            refine ord.imp_of_mem fun {x y} hx hy z => ?_
            rwa [kS_at (at4 x (mem x hx)), kS_at (at4 y (mem y hy))] at z
    · refine ⟨_, rfl, by decide, fun Z nZ => ?_⟩
      have b2 := b1.new (o := .lst []) nZ
      refine ⟨lt, Z, _, rfl, rfl, SqL.of (keep b2), SqL.of upd_same, _, rfl, ?_⟩
      cases ts with
      | nil => exact iteF (hQ _ _ ⟨0, rfl, Nat.zero_le _, fun h => absurd rfl h, (b2.sub (F' := []) (fun p hp => nomatch hp)).wm (m := n + 1) (by omega)⟩)
      | cons t ts =>
        refine iteT ⟨_, rfl, _, rfl, _, _, rfl, rfl, ?_⟩
        refine b2.dip (by omega) (by omega) (by omega) fun r H3 r0 r1 b3 => ?_
        obtain ⟨q, rfl⟩ := Int.eq_ofNat_of_zero_le r0
        exact hQ _ _ ⟨q, rfl, by omega, (fun _ h => nomatch h), b3.sub (F' := []) (fun p hp => nomatch hp)⟩
end
end RV
/-! k47: sums picked, last steps -/
namespace RV
open PySem L2 TL
section
variable {P : Program} {w : World} {K : PySem.W.Frag} {mg : Str → Option Value} {base : Heap}
theorem ok_pick {f : Addr} {fd : FuncData} (F : Fun K "_law_pick" "_law_pick" s_pick f fd) (h_take : Fn P w K mg base "_law_take" 1 ["_law_spring_here", "_law_many"] (Irr sp_dip)) (h_total : Fn P w K mg base "_law_total" 3 ["_law_spring_here", "_law_tags", "_law_many", "_law_wide"] (Irr sp_totl)) : FnOk P w K mg base CX0 4 f fd ["_law_spring_here", "_law_some", "_law_tags", "_law_wide"] sp_pick := by
  refine F.ok sc_pick (fun vs H Q E h => ?_) (fun cdv A outer s H vs Q E hr h => ?_)
  · obtain ⟨_, _, _, _, _, _, _, rfl, _⟩ := h
    rfl
  · obtain ⟨a, ls, lt, n, wide, ts, X, rfl, wl, hn, lx, sm, k⟩ := h
    refine ⟨_, (pss_cons (ps_set (i := 4) sc_pick.nd rfl (Or.inl rfl) (pe_fn h_take (hr.mono (by decide)) (pa_cons (pv 0) (pa_cons pe_int pa_nil))))
      (pss_one (ps_ret (pe_ifExp (pt_cmpR op_lt (pv 4) pe_int (nomark _)) (pe_ix ix_list (pv 1) (pv 4) (fun _ _ => rfl)) (pe_fn h_total (hr.mono (by decide)) (pa_cons (pv 0) (pa_cons (pv 2) (pa_cons pe_int (pa_cons (pv 3) pa_nil))))))))), ?_⟩
    have b0 := Bag.start wl
    refine ⟨_, rfl, b0.dip (by omega) (by decide) (by decide) fun r H1 r0 r1 b1 => ?_⟩
    have sm1 := sm.grow (b1.gr.x lx.1)
    have lx1 := lx.grow b1.gr b1.well
    obtain ⟨l0, l1, l2, q0, q1, q2, e, s0, s1, s2, o0, o1, o2⟩ := sm1.ex
    dsimp only [gName]
    refine ⟨_, rfl, _, _, rfl, rfl, _, rfl, ?_⟩
    by_cases z : r < 3
    · rw [decide_eq_true z]
      refine iteT ?_
      have hx : ∃ (l : Addr) (qs : Prs), atI [V.ref l0, V.ref l1, V.ref l2] r = some (.ref l) ∧ SumL X H1 l qs ∧ SumOk ts wide qs := by
        rcases (show r = 0 ∨ r = 1 ∨ r = 2 by omega) with rfl | rfl | rfl
        · exact ⟨l0, q0, rfl, s0, o0⟩
        · exact ⟨l1, q1, rfl, s1, o1⟩
        · exact ⟨l2, q2, rfl, s2, o2⟩
      obtain ⟨l, qs, ex, sl, so⟩ := hx
      exact ⟨_, rfl, _, rfl, ls, _, r, _, rfl, rfl, SqL.of e, ex, k l qs H1 b1.gr (b1.well.mono (by omega)) sl so⟩
    · rw [decide_eq_false z]
      refine iteF ⟨_, rfl, _, rfl, _, rfl, irr ⟨a, lt, n + 1, 3, wide, ts, rfl, b1.well, by omega, sm1.et, fun z => sm1.ta (z ▸ lx.1), sm1.t20, by omega, sm1.w1, fun l us H2 b2 fr nrm ul um => ?_⟩⟩
      refine k l (prs us) H2 (b1.gr.trans b2.gr) (b2.well.mono (by omega)) ⟨us, ⟨lx1.off (fr _ List.mem_cons_self), b2.at List.mem_cons_self⟩, rfl, fun u hu => ?_⟩ ⟨nrm, fun q hq => ?_, by rw [prs, List.length_map]; exact ul⟩
      · have hm : (u.1, oP u.2) ∈ (l, HO.lst (vP us)) :: lP us := List.mem_cons_of_mem _ (List.mem_map.mpr ⟨u, hu, rfl⟩)
        exact ⟨lx1.off (fr _ hm), b2.at hm⟩
      · obtain ⟨u, hu, rfl⟩ := List.mem_map.mp hq
        exact um u hu
theorem ok_last {f : Addr} {fd : FuncData} (F : Fun K "_law_last" "_law_last" s_last f fd) (h_take : Fn P w K mg base "_law_take" 1 ["_law_spring_here", "_law_many"] (Irr sp_dip)) (h_pick : Fn P w K mg base "_law_pick" 4 ["_law_spring_here", "_law_some", "_law_tags", "_law_wide"] (Irr sp_pick)) : FnOk P w K mg base CX0 5 f fd ["_law_spring_here", "_law_some", "_law_tags", "_law_wide"] sp_lasts := by
  refine F.ok sc_last (fun vs H Q E h => ?_) (fun cdv A outer s H vs Q E hr h => ?_)
  · obtain ⟨_, _, _, _, _, _, _, rfl, _⟩ := h
    rfl
  · obtain ⟨a, ls, lt, n, wide, ts, X, rfl, wl, hn, lx, sm, k⟩ := h
    refine ⟨_, (pss_one (ps_ret (pe_ifExp (pt_cmpR op_gt (pe_fn h_take (hr.mono (by decide)) (pa_cons (pv 0) (pa_cons pe_int pa_nil))) pe_int (nomark _)) (pe_tup (pa_cons pe_str (pa_cons (pe_fn h_pick (hr.mono (by decide)) (pa_cons (pv 0) (pa_cons (pv 1) (pa_cons (pv 2) (pa_cons (pv 3) pa_nil))))) pa_nil))) (pe_tup (pa_cons pe_str pa_nil))))), ?_⟩
    have b0 := Bag.start wl
    refine ⟨_, rfl, b0.dip (by omega) (by decide) (by decide) fun r H1 r0 r1 b1 => ?_⟩
    have sm1 := sm.grow (b1.gr.x lx.1)
    have lx1 := lx.grow b1.gr b1.well
    refine ⟨_, _, rfl, rfl, _, rfl, ?_⟩
    by_cases z : 0 < r
    · rw [decide_eq_true z]
      refine iteT ⟨_, rfl, _, rfl, _, rfl, _, rfl, irr ⟨a, ls, lt, n + 1, wide, ts, X, rfl, b1.well, by omega, lx1, sm1, fun l qs H2 g2 w2 sl so => ?_⟩⟩
      refine ⟨by show 2 ≤ sizeLine; decide, fun t nt => ?_⟩
      have b2 := b1.grow g2 w2
      have b3 := b2.new (o := .tup [.str "tell", .ref l]) nt
      exact k t (.tellS qs) _ b3.gr (b3.well.mono (by omega)) ⟨l, (lx1.grow g2 w2).off nt, upd_same, sl.grow ((Grow.new nt).x lx.1)⟩ (fun i many => so) (.inr ⟨qs, rfl⟩)
    · rw [decide_eq_false z]
      refine iteF ⟨by decide, fun t nt => ?_⟩
      have b3 := b1.new (o := .tup [.str "doubt"]) nt
      exact k t .doubtS _ b3.gr (b3.well.mono (by omega)) ⟨lx1.off nt, upd_same⟩ (fun i many => trivial) (.inl rfl)
end
end RV
/-! k47: drawn steps -/
namespace RV
open PySem L2 TL
section
variable {P : Program} {w : World} {K : PySem.W.Frag} {mg : Str → Option Value} {base : Heap}
theorem ok_steps {f : Addr} {fd : FuncData} (F : Fun K "_law_steps" "_law_steps" s_steps f fd) (T : Blt mg) (h_take : Fn P w K mg base "_law_take" 1 ["_law_spring_here", "_law_many"] (Irr sp_dip)) (h_total : Fn P w K mg base "_law_total" 3 ["_law_spring_here", "_law_tags", "_law_many", "_law_wide"] (Irr sp_totl)) (h_pick : Fn P w K mg base "_law_pick" 4 ["_law_spring_here", "_law_some", "_law_tags", "_law_wide"] (Irr sp_pick)) (h_last : Fn P w K mg base "_law_last" 5 ["_law_spring_here", "_law_some", "_law_tags", "_law_wide"] (Irr sp_lasts)) : FnOk P w K mg base CX0 6 f fd ["_law_spring_here", "_law_tags", "_law_many", "_law_wide"] sp_steps := by
  refine F.ok sc_steps (fun vs H Q E h => ?_) (fun cdv A outer s H vs Q E hr h => ?_)
  · obtain ⟨_, _, _, _, _, _, _, rfl, _⟩ := h
    rfl
  · obtain ⟨a, lt, n, many, wide, ts, X, rfl, wl, hn, lx, ta, eT, t20, m1, m8, w1, k⟩ := h
    refine ⟨_, (pss_cons (ps_asg (pe_tup (pa_cons (pe_op op_add pe_int (pe_fn h_take (hr.mono (by decide)) (pa_cons (pv 0) (pa_cons (pv 2) pa_nil)))) (pa_cons pe_int (pa_cons (pe_lst pa_nil) pa_nil)))) (pg_tup (by rfl) (pgs_cons (pg_name (i := 4) sc_steps.nd rfl (Or.inl rfl)) (pgs_cons (pg_name (i := 5) sc_steps.nd rfl (Or.inr rfl)) (pgs_cons (pg_name (i := 6) sc_steps.nd rfl (Or.inl rfl)) pgs_nil)))))
      (pss_cons (ps_set (i := 7) sc_steps.nd rfl (Or.inr rfl) (pe_lc (own := [("_law_turn", 13)]) (g := gName 13) (tt := tYes) rfl sc_steps.nd (pi_range1 rfl T.b_range (pa_cons pe_int pa_nil)) (blkOk_by (N := sc_steps_N) (sc := defScope s_steps) (by decide +kernel)) (fun _ _ _ _ _ => pg_name (i := 13) sc_steps.nd rfl (Or.inl rfl)) (fun _ _ _ _ _ => pts_nil) (fun _ _ _ _ _ => (pe_fn h_total (hr.mono (by decide)) (pa_cons (pv 0) (pa_cons (pv 1) (pa_cons pe_int (pa_cons (pv 3) pa_nil))))))))
      (pss_cons (ps_for PassesOwn.never rfl (pi_range1 rfl T.b_range (pa_cons (pe_op op_sub (pv 4) pe_int) pa_nil)) (pg_name (i := 8) sc_steps.nd rfl (Or.inl rfl)) (pss_cons (ps_set (i := 9) sc_steps.nd rfl (Or.inl rfl) (pe_fn h_take (hr.mono (by decide)) (pa_cons (pv 0) (pa_cons pe_int pa_nil)))) (pss_one (ps_if (pt_cmpR op_lt (pv 9) pe_int (nomark _)) (pss_cons (ps_set (i := 10) sc_steps.nd rfl (Or.inl rfl) (pe_lst (pa_cons (pe_fn h_pick (hr.mono (by decide)) (pa_cons (pv 0) (pa_cons (pv 7) (pa_cons (pv 1) (pa_cons (pv 3) pa_nil))))) (pa_cons (pe_fn h_pick (hr.mono (by decide)) (pa_cons (pv 0) (pa_cons (pv 7) (pa_cons (pv 1) (pa_cons (pv 3) pa_nil))))) pa_nil)))) (pss_one (ps_expr (pe_bm PySem.F.plainAttrs_list PySem.F.slot_list_append PySem.F.type_list_append mt_append (pv 6) (pa_cons (pe_tup (pa_cons pe_str (pa_cons (pe_ix ix_list (pv 10) pe_int (fun _ _ => rfl)) (pa_cons (pe_ix ix_list (pv 10) pe_int (fun _ _ => rfl)) (pa_cons (pe_op op_add (pe_op op_add (pv 8) pe_int) (pe_fn h_take (hr.mono (by decide)) (pa_cons (pv 0) (pa_cons (pe_op op_sub (pe_op op_sub (pv 4) pe_int) (pv 8)) pa_nil)))) pa_nil))))) pa_nil))))) (pss_one (ps_if (pt_cmpR op_lt (pv 9) pe_int (nomark _)) (pss_cons (ps_set (i := 11) sc_steps.nd rfl (Or.inl rfl) (pe_op op_add pe_int (pe_fn h_take (hr.mono (by decide)) (pa_cons (pv 0) (pa_cons (pe_callB call_len_seq (by rfl) T.b_len (by decide +kernel) (pa_cons (pe_lc (own := [("_law_room", 14)]) (g := gName 14) rfl sc_steps.nd (pi_range2 (by rfl) T.b_range (pa_cons pe_int (pa_cons pe_int pa_nil))) (blkOk_by (N := sc_steps_N) (sc := defScope s_steps) (by decide +kernel)) (fun _ _ _ _ _ => pg_name (i := 14) sc_steps.nd rfl (Or.inl rfl)) (fun _ _ _ _ _ => pts_one (pt_cmpR op_le (pe_op op_mul (pv 14) (pe_op op_sub (pv 14) pe_int)) (pv 5) (nomark _))) (fun _ _ _ _ _ => (pv 14))) pa_nil)) pa_nil))))) (pss_cons (ps_set (i := 5) sc_steps.nd rfl (Or.inr rfl) (pe_op op_sub (pv 5) (pe_op op_mul (pv 11) (pe_op op_sub (pv 11) pe_int)))) (pss_cons (ps_setLc (i := 12) (own := [("_law_turn", 13)]) (g := gName 13) (tt := tYes) rfl sc_steps.nd rfl rfl (sw_true rfl rfl rfl (by decide +kernel)) (pi_range1 rfl T.b_range (pa_cons (pv 11) pa_nil)) (blkOk_by (N := sc_steps_N) (sc := defScope s_steps) (by decide +kernel)) (fun _ _ _ _ _ => pg_name (i := 13) sc_steps.nd rfl (Or.inl rfl)) (fun _ _ _ _ _ => pts_nil) (fun _ _ _ _ _ => (pe_fn h_pick (hr.mono (by decide)) (pa_cons (pv 0) (pa_cons (pv 7) (pa_cons (pv 1) (pa_cons (pv 3) pa_nil))))))) (pss_one (ps_expr (pe_bm PySem.F.plainAttrs_list PySem.F.slot_list_append PySem.F.type_list_append mt_append (pv 6) (pa_cons (pe_tup (pa_cons pe_str (pa_cons (pe_fn h_take (hr.mono (by decide)) (pa_cons (pv 0) (pa_cons pe_int pa_nil))) (pa_cons (pv 12) pa_nil)))) pa_nil))))))) (pss_one (ps_expr (pe_bm PySem.F.plainAttrs_list PySem.F.slot_list_append PySem.F.type_list_append mt_append (pv 6) (pa_cons (pe_fn h_last (hr.mono (by decide)) (pa_cons (pv 0) (pa_cons (pv 7) (pa_cons (pv 1) (pa_cons (pv 3) pa_nil))))) pa_nil))))))))))
      (pss_one (ps_ret (pe_op op_cat (pv 6) (pe_lst (pa_cons (pe_fn h_last (hr.mono (by decide)) (pa_cons (pv 0) (pa_cons (pv 7) (pa_cons (pv 1) (pa_cons (pv 3) pa_nil))))) pa_nil)))))))), ?_⟩
    have b0 := Bag.start wl
    refine ⟨_, rfl, _, rfl, b0.dip (by omega) (by omega) (by omega) fun r H1 r0 r1 b1 => ?_⟩
    obtain ⟨q, rfl⟩ := Int.eq_ofNat_of_zero_le r0
    refine ⟨_, _, rfl, rfl, ?_⟩
    dsimp only
    rw [show (1 : Int) + (q : Int) = ((q + 1 : Nat) : Int) by omega]
    have hz : 1 ≤ q + 1 ∧ q + 1 ≤ many := by omega
    revert hz
    generalize q + 1 = size
    intro hz
    refine ⟨by decide, fun C nC => ⟨by show 3 ≤ sizeLine; decide, fun T0 nT0 => ⟨T0, _, rfl, SqT.of upd_same, rfl, _, _, rfl, _, _, rfl, _, _, rfl, rfl, ?_⟩⟩⟩
    have b2 := ((b1.newM (o := .lst []) nC).new (o := .tup [.int size, .int 90, .ref C]) nT0).sub (F' := []) fun p hp => nomatch hp
    have lx2 : Laid0 X a H1 := lx.grow b1.gr b1.well
    have hCX : C ∉ X := lx2.off nC
    generalize upd (upd H1 C (.lst [])) T0 (.tup [.int size, .int 90, .ref C]) = H2 at b2 ⊢
    -- three sums
    refine ⟨3, rfl, by decide, by decide, fun D nD => ?_⟩
    have b3 := b2.newM (o := .lst []) nD
    have lx3 : Laid0 X a H2 := lx.grow b2.gr b2.well
    have hDX : D ∉ X := lx3.off nD
    have hCH : H2 C = some (.lst []) := b2.am List.mem_cons_self
    have hDC : D ≠ C := fun z => by rw [z, hCH] at nD; cases nD
    refine lc_range (lo := 0) (n := 3) (fun i H' => ∃ (ls : List Addr) (qs : List Prs), ls.length = i ∧ SumsL (D :: C :: X) H' ls qs ∧ (∀ q ∈ qs, SumOk ts wide q) ∧ Bag H a (n + 1 + 60 * i) [(D, .lst (ls.map V.ref)), (C, .lst [])] [] H') ⟨[], [], rfl, trivial, (fun _ h => nomatch h), b3⟩ ?_ ?_
    · rintro i H3 hi ⟨ls, qs, ll, sl, so, b4⟩
      have e0 : ∀ (σ : L2.St) (H : Hp) (R : Bool → Hp → Prop), R true H → tYes σ H R := fun _ _ _ r => r
      refine ⟨rfl, e0 _ _ _ ?_⟩
      simp only [↓reduceIte]
      have laX : a ∈ X := lx.1
      have lat : lt ≠ a := fun z => ta (z ▸ laX)
      refine ⟨_, rfl, _, rfl, _, rfl, irr ⟨a, lt, _, 2, wide, ts, rfl, b4.well, by omega, b4.gr _ _ lat eT, lat, t20, by omega, w1, fun l us H4 b5 fr nrm ul um => ?_⟩⟩
      have b6 := b4.grow b5.gr b5.well
      have LX : Laid0 (D :: C :: X) a H3 := ⟨List.mem_cons_of_mem _ (List.mem_cons_of_mem _ laX), fun x hx e => by
        rcases List.mem_cons.mp hx with rfl | hx
        · rw [b4.am List.mem_cons_self] at e
          cases e
        · rcases List.mem_cons.mp hx with rfl | hx
          · rw [b4.am (List.mem_cons_of_mem _ List.mem_cons_self)] at e
            cases e
          · exact (lx.grow b4.gr b4.well).2 x hx e⟩
      have g4 : GroX (D :: C :: X) H3 H4 := b5.gr.x LX.1
      have g5 : ∀ o, GroX (D :: C :: X) H4 (upd H4 D o) := fun o => GroX.upd List.mem_cons_self
      have sl4 : SumL (D :: C :: X) H4 l (prs us) := ⟨us, ⟨LX.off (fr _ List.mem_cons_self), b5.at List.mem_cons_self⟩, rfl, fun u hu => by
        have hm : (u.1, oP u.2) ∈ (l, HO.lst (vP us)) :: lP us := List.mem_cons_of_mem _ (List.mem_map.mpr ⟨u, hu, rfl⟩)
        exact ⟨LX.off (fr _ hm), b5.at hm⟩⟩
      have so4 : SumOk ts wide (prs us) := ⟨nrm, fun q hq => by
        obtain ⟨u, hu, rfl⟩ := List.mem_map.mp hq
        exact um u hu, by rw [prs, List.length_map]; omega⟩
      refine ⟨_, b6.am List.mem_cons_self, ?_, ls ++ [l], qs ++ [prs us], by rw [List.length_append, ll]; rfl, ((sl.grow g4).grow (g5 _)).snoc (sl4.grow (g5 _)), fun q hq => ?_, ?_⟩
      · rw [List.length_map, ll]
        exact Nat.lt_of_lt_of_le (show i < 9 by omega) (by decide)
      · rcases List.mem_append.mp hq with z | z
        · exact so q z
        · rw [List.mem_singleton.mp z]
          exact so4
      · rw [List.map_append]
        have b7 : Bag H a _ [(D, .lst (ls.map V.ref ++ [V.ref l])), (C, .lst [])] [] _ := b6.put0
        exact b7.wm (by omega)
    · rintro H3 ⟨ls, qs, ll, sl, so, b4⟩
      have b5 := b4.frz
      have laX : a ∈ X := lx.1
      have lat : lt ≠ a := fun z => ta (z ▸ laX)
      have hT3 := b5.gr _ _ lat eT
      have hD3 := b5.at (p := D) List.mem_cons_self
      have hC3 := b5.am (p := C) List.mem_cons_self
      have lx4 : Laid0 (C :: X) a H3 := ⟨List.mem_cons_of_mem _ laX, fun x hx e => by
        rcases List.mem_cons.mp hx with rfl | hx
        · rw [hC3] at e
          cases e
        · exact (lx.grow b5.gr b5.well).2 x hx e⟩
      have ltC : lt ≠ C := fun z => by
        have := b2.none0 (p := C)
        rw [z] at eT
        have h0 : H C = none := b1.none0 nC
        rw [h0] at eT
        cases eT
      have sm3 : Someat (C :: X) H3 lt D ts wide := by
        refine ⟨fun m => (List.mem_cons.mp m).elim ltC ta, hT3, t20, w1, fun m => (List.mem_cons.mp m).elim hDC hDX, ?_⟩
        have lessX : ∀ x ∈ C :: X, x ∈ D :: C :: X := fun x hx => List.mem_cons_of_mem _ hx
        match ls, qs, ll, sl with
        | [l0, l1, l2], [q0, q1, q2], _, sl =>
          exact ⟨l0, l1, l2, q0, q1, q2, hD3, sl.1.less lessX, sl.2.1.less lessX, sl.2.2.1.less lessX, so q0 (by simp), so q1 (by simp), so q2 (by simp)⟩
      dsimp only [gName]
      refine ⟨_, rfl, _, _, rfl, rfl, ?_⟩
      refine ⟨((size - 1 : Nat) : Int), (by show [V.int ((size : Int) - 1)] = _; rw [show (size : Int) - 1 = ((size - 1 : Nat) : Int) by omega]), by omega, by omega, for_range (lo := 0) (n := size - 1) (fun i σ H' => ∃ (left : Nat) (tl : List Addr) (sts : List Stp) (o8 o9 o10 o11 o12 o13 o14 : Option V), σ = [some (.ref a), some (.ref lt), some (.int many), some (.int wide), some (.int size), some (.int left), some (.ref C), some (.ref D), o8, o9, o10, o11, o12, o13, o14] ∧ left ≤ 90 ∧ sts.length = i ∧ Stand (C :: X) a lt D ts wide size tl sts H' ∧ Bag H a (n + 181 + 1000 * i) [(C, .lst (tl.map V.ref))] [] H') ⟨90, [], [], _, _, _, _, _, _, _, rfl, Nat.le_refl _, rfl, ⟨StpsL.nil, (fun _ _ h => nomatch h), lx4, sm3⟩, (b5.sub (F' := []) (fun _ h => nomatch h)).wm (by omega)⟩ ?_ ?_⟩
      · rintro i σ H4 hi ⟨left, tl, sts, o8, o9, o10, o11, o12, o13, o14, rfl, l90, sl4, sd4, b6⟩
        have aX : a ∈ C :: X := lx4.1
        dsimp only [gName]
        refine ⟨_, rfl, b6.dipG (by omega) (by decide) (by decide) fun way H5 _ _ g5 b7 => ?_⟩
        have sd5 := sd4.grow g5 b7.well
        dsimp only
        refine ⟨_, rfl, _, _, rfl, rfl, _, rfl, ?_⟩
        by_cases w4 : way < 4
        · rw [decide_eq_true w4]
          refine iteT ⟨_, rfl, _, rfl, _, rfl, _, rfl, irr ⟨a, D, lt, _, wide, ts, C :: X, rfl, b7.well, by omega, sd5.lx, sd5.sm, fun la pa H6 g6 w6 sa oa => ?_⟩⟩
          have b8 := b7.grow g6 w6
          have sd6 := sd5.grow g6 w6
          refine ⟨_, rfl, _, rfl, _, rfl, _, rfl, irr ⟨a, D, lt, _, wide, ts, C :: X, rfl, b8.well, by omega, sd6.lx, sd6.sm, fun lb pb H7 g7 w7 sb ob => ?_⟩⟩
          have b9 := b8.grow g7 w7
          have sd7 := sd6.grow g7 w7
          have sa7 := sa.grow (g7.x aX)
          refine ⟨by show 2 ≤ sizeLine; decide, fun E2 nE => ?_⟩
          have gE : Grow a H7 (upd H7 E2 (.lst [.ref la, .ref lb])) := Grow.new nE
          have b10 := b9.new (o := .lst [.ref la, .ref lb]) nE
          have sd8 := sd7.grow gE b10.well
          have sa8 := sa7.grow (gE.x aX)
          have sb8 := sb.grow (gE.x aX)
          have eE : upd H7 E2 (.lst [.ref la, .ref lb]) E2 = some (.lst [.ref la, .ref lb]) := upd_same
          generalize upd H7 E2 (.lst [.ref la, .ref lb]) = H8 at b10 sd8 sa8 sb8 eE gE ⊢
          dsimp only [gName]
          refine ⟨_, rfl, .inl ⟨rfl, _, SqL.of (b10.am List.mem_cons_self)⟩, _, rfl, E2, _, 0, _, rfl, rfl, SqL.of eE, rfl, _, rfl, E2, _, 1, _, rfl, rfl, SqL.of eE, rfl, _, rfl, _, _, rfl, rfl, _, rfl, _, rfl, _, _, rfl, rfl, _, rfl, _, _, rfl, rfl, ?_⟩
          refine b10.dipG (by omega) (by omega) (by omega) fun r2 H9 r20 r21 g9 b11 => ?_
          obtain ⟨q2, rfl⟩ := Int.eq_ofNat_of_zero_le r20
          have sd9 := sd8.grow g9 b11.well
          have sa9 := sa8.grow (g9.x aX)
          have sb9 := sb8.grow (g9.x aX)
          refine ⟨_, _, rfl, rfl, by show 4 ≤ sizeLine; decide, fun t nt => ?_⟩
          have ev : (0 : Int) + (i : Nat) + 1 + (q2 : Nat) = ((i + 1 + q2 : Nat) : Int) := by omega
          dsimp only
          rw [ev]
          have gt : Grow a H9 (upd H9 t (.tup [.str "if", .ref la, .ref lb, .int ((i + 1 + q2 : Nat) : Int)])) := Grow.new nt
          have b12 := b11.new (o := .tup [.str "if", .ref la, .ref lb, .int ((i + 1 + q2 : Nat) : Int)]) nt
          have sd10 := sd9.grow gt b12.well
          have stt : StpL (C :: X) (upd H9 t (.tup [.str "if", .ref la, .ref lb, .int ((i + 1 + q2 : Nat) : Int)])) t (.ifS pa pb (i + 1 + q2)) := ⟨la, lb, sd9.lx.off nt, upd_same, sa9.grow (gt.x aX), sb9.grow (gt.x aX)⟩
          have eC := b12.am (p := C) List.mem_cons_self
          have tll : tl.length = i := by rw [sd4.sl.len, sl4]
          refine ⟨C, _, _, rfl, rfl, eC, ?_, left, tl ++ [t], sts ++ [.ifS pa pb (i + 1 + q2)], _, _, _, _, _, _, _, rfl, l90, by rw [List.length_append, sl4]; rfl, sd10.put List.mem_cons_self stt (show StpOk ts wide sts.length size (.ifS pa pb (i + 1 + q2)) from ⟨oa, ob, by omega, by omega⟩), ?_⟩
          · rw [List.length_map, tll]
            exact Nat.lt_of_lt_of_le (show i < 9 by omega) (by decide)
          · rw [List.map_append]
            have b13 : Bag H a _ [(C, .lst (tl.map V.ref ++ [V.ref t]))] _ _ := b12.put0
            exact (b13.sub (F' := []) (fun _ h => nomatch h)).wm (by omega)
        · rw [decide_eq_false w4]
          refine iteF ⟨_, rfl, _, _, rfl, rfl, _, rfl, ?_⟩
          by_cases w8 : way < 8
          · rw [decide_eq_true w8]
            refine iteT ?_
            -- how many sums
            refine ⟨_, rfl, _, _, rfl, ⟨by decide, by decide, by decide, by decide⟩, fun D2 nD2 => lc_idx ((List.range 10).map (· + 1)) (fun k => decide (k * (k - 1) ≤ left)) vI walk_rg1 nD2 (by decide) (fun _ _ => True.intro) (fun _ => rfl) (fun k hk H6 s6 R kR => ?_) (fun k hk hp H6 s6 R kR => ⟨_, rfl, kR H6 (Same.refl _)⟩) fun H6 s6 eD2 => ?_⟩
            · obtain ⟨r, hr, rfl⟩ := List.mem_map.mp hk
              have hr := List.mem_range.mp hr
              refine ⟨_, rfl, _, rfl, _, _, rfl, rfl, _, _, rfl, rfl, .inl ⟨by omega, by omega⟩, _, rfl, _, _, rfl, rfl, _, rfl, ?_⟩
              have ek := kR H6 (Same.refl _)
              rw [show decide (((r + 1 : Nat) : Int) * (((r + 1 : Nat) : Int) - 1) ≤ (left : Int)) = decide ((r + 1) * (r + 1 - 1) ≤ left) from decide_eq_decide.mpr (by
                rw [Nat.add_sub_cancel, show ((r + 1 : Nat) : Int) - 1 = (r : Int) by omega, ← Int.natCast_mul]
                exact Int.ofNat_le)]
              exact ek
            refine ⟨D2, _, rfl, .inl (SqL.of eD2), ?_⟩
            rw [room_len]
            have b8 := b7.same s6
            have sd6 := sd5.grow (fun b o _ e => s6 b o e) b8.well
            have rp := room_pos left (by omega)
            have r10 := room_10 left
            refine b8.dipG (by omega) (by omega) (by omega) fun r H7 r0 r1 g7 b9 => ?_
            obtain ⟨q3, rfl⟩ := Int.eq_ofNat_of_zero_le r0
            have sd7 := sd6.grow g7 b9.well
            refine ⟨_, _, rfl, rfl, ?_⟩
            dsimp only [gName]
            rw [show (1 : Int) + (q3 : Int) = ((q3 + 1 : Nat) : Int) by omega]
            have hc : 1 ≤ q3 + 1 ∧ q3 + 1 ≤ roomN left := by omega
            revert hc
            generalize q3 + 1 = c
            intro hc
            have cl := room_ok left (by omega) c hc.2
            refine ⟨_, rfl, _, rfl, _, rfl, _, _, rfl, rfl, _, _, rfl, rfl, .inl ⟨by omega, by omega⟩, _, _, rfl, rfl, ?_⟩
            dsimp only
            have ev : (left : Int) - (c : Int) * ((c : Int) - 1) = ((left - c * (c - 1) : Nat) : Int) := by
              rw [show (c : Int) - 1 = ((c - 1 : Nat) : Int) by omega, ← Int.natCast_mul]
              omega
            rw [ev]
            have l91 : left - c * (c - 1) ≤ 90 := by omega
            revert l91
            generalize left - c * (c - 1) = left2
            intro l91
            refine ⟨_, rfl, (c : Int), rfl, by omega, by omega, fun D3 nD3 => lc_range (lo := 0) (n := c) (fun m H' => ∃ (ls : List Addr) (qs : List Prs), ls.length = m ∧ qs.length = m ∧ SumsL (D3 :: C :: X) H' ls qs ∧ (∀ q ∈ qs, SumOk ts wide q) ∧ Stand (D3 :: C :: X) a lt D ts wide size tl sts H' ∧ Bag H a (n + 181 + 1000 * i + 2 + 80 * m) [(D3, .lst (ls.map V.ref)), (C, .lst (tl.map V.ref))] [] H') ⟨[], [], rfl, rfl, trivial, (fun _ h => nomatch h), sd7.more nD3 _, (b9.newM nD3).wm (by omega)⟩ ?_ ?_⟩
            · rintro m H8 hm ⟨ls2, qs, ll, ql, sls, so, sd8, b10⟩
              have e0 : ∀ (σ : L2.St) (H : Hp) (R : Bool → Hp → Prop), R true H → tYes σ H R := fun _ _ _ r => r
              refine ⟨rfl, e0 _ _ _ ?_⟩
              simp only [↓reduceIte]
              refine ⟨_, rfl, _, rfl, _, rfl, _, rfl, irr ⟨a, D, lt, _, wide, ts, D3 :: C :: X, rfl, b10.well, by omega, sd8.lx, sd8.sm, fun l2 q2 H9 g9 w9 sq oq => ?_⟩⟩
              have b11 := b10.grow g9 w9
              have sd9 := sd8.grow g9 w9
              have gu : ∀ o, GroX (D3 :: C :: X) H9 (upd H9 D3 o) := fun o => GroX.upd List.mem_cons_self
              refine ⟨_, b11.am List.mem_cons_self, ?_, ls2 ++ [l2], qs ++ [q2], by rw [List.length_append, ll]; rfl, by rw [List.length_append, ql]; rfl, ((sls.grow (g9.x sd8.lx.1)).grow (gu _)).snoc (sq.grow (gu _)), fun q hq => ?_, sd9.upd List.mem_cons_self _, ?_⟩
              · rw [List.length_map, ll]
                exact Nat.lt_of_lt_of_le (show m < 11 by omega) (by decide)
              · rcases List.mem_append.mp hq with z | z
                · exact so q z
                · rw [List.mem_singleton.mp z]
                  exact oq
              · rw [List.map_append]
                have b12 : Bag H a _ [(D3, .lst (ls2.map V.ref ++ [V.ref l2])), (C, .lst (tl.map V.ref))] [] _ := b11.put0
                exact b12.wm (by omega)
            · rintro H8 ⟨ls2, qs, ll, ql, sls, so, sd8, b10⟩
              have b11 := b10.frz
              have hD3 := b11.at (p := D3) List.mem_cons_self
              have less : ∀ x ∈ C :: X, x ∈ D3 :: C :: X := fun x hx => List.mem_cons_of_mem _ hx
              have d3X : D3 ∉ C :: X := sd7.lx.off nD3
              have sls8 := SumsL.less less sls
              have sd9 := sd8.less aX
              dsimp only [gName]
              refine ⟨_, rfl, .inl ⟨rfl, _, SqL.of (b11.am List.mem_cons_self)⟩, _, rfl, b11.dipG (by omega) (by decide) (by decide) fun v4 H9 v0 v1 g9 b12 => ⟨_, rfl, by show 3 ≤ sizeLine; decide, fun t nt => ?_⟩⟩
              obtain ⟨v, rfl⟩ := Int.eq_ofNat_of_zero_le v0
              have sd10 := sd9.grow g9 b12.well
              have gt : Grow a H9 (upd H9 t (.tup [.str "vote", .int ((v : Nat) : Int), .ref D3])) := Grow.new nt
              have b13 := b12.new (o := .tup [.str "vote", .int ((v : Nat) : Int), .ref D3]) nt
              have sd11 := sd10.grow gt b13.well
              have stt : StpL (C :: X) (upd H9 t (.tup [.str "vote", .int ((v : Nat) : Int), .ref D3])) t (.voteS v qs) := ⟨D3, ls2, sd10.lx.off nt, upd_same, ⟨d3X, b13.at (List.mem_cons_of_mem _ List.mem_cons_self)⟩, (sls8.grow (g9.x aX)).grow (gt.x aX)⟩
              have tll : tl.length = i := by rw [sd4.sl.len, sl4]
              refine ⟨C, _, _, rfl, rfl, b13.am List.mem_cons_self, ?_, left2, tl ++ [t], sts ++ [.voteS v qs], _, _, _, _, _, _, _, rfl, l91, by rw [List.length_append, sl4]; rfl, sd11.put List.mem_cons_self stt (show StpOk ts wide sts.length size (.voteS v qs) from ⟨by omega, by omega, by omega, so⟩), ?_⟩
              · rw [List.length_map, tll]
                exact Nat.lt_of_lt_of_le (show i < 9 by omega) (by decide)
              · rw [List.map_append]
                have b14 : Bag H a _ [(C, .lst (tl.map V.ref ++ [V.ref t]))] _ _ := b13.put0
                exact (b14.sub (F' := []) (fun _ h => nomatch h)).wm (by omega)
          · rw [decide_eq_false w8]
            refine iteF ⟨_, rfl, .inl ⟨rfl, _, SqL.of (b7.am List.mem_cons_self)⟩, _, rfl, _, rfl, _, rfl, _, rfl, irr ⟨a, D, lt, _, wide, ts, C :: X, rfl, b7.well, by omega, sd5.lx, sd5.sm, fun t st H6 g6 w6 ss so _ => ?_⟩⟩
            have b8 := b7.grow g6 w6
            have sd6 := sd5.grow g6 w6
            have tll : tl.length = i := by rw [sd4.sl.len, sl4]
            refine ⟨C, _, _, rfl, rfl, b8.am List.mem_cons_self, ?_, left, tl ++ [t], sts ++ [st], _, _, _, _, _, _, _, rfl, l90, by rw [List.length_append, sl4]; rfl, sd6.put List.mem_cons_self ss (so _ _), ?_⟩
            · rw [List.length_map, tll]
              exact Nat.lt_of_lt_of_le (show i < 9 by omega) (by decide)
            · rw [List.map_append]
              have b13 : Bag H a _ [(C, .lst (tl.map V.ref ++ [V.ref t]))] _ _ := b8.put0
              exact b13.wm (by omega)
      · rintro σ H4 ⟨left, tl, sts, o8, o9, o10, o11, o12, o13, o14, rfl, l90, sl4, sd4, b6⟩
        dsimp only
        refine ⟨_, rfl, _, rfl, _, rfl, _, rfl, _, rfl, irr ⟨a, D, lt, _, wide, ts, C :: X, rfl, b6.well, by omega, sd4.lx, sd4.sm, fun t st H5 g5 w5 ss so en => ⟨by show 1 ≤ sizeLine; decide, fun L nL => ?_⟩⟩⟩
        have b7 := b6.grow g5 w5
        have sd5 := sd4.grow g5 w5
        have b8 := b7.new (o := .lst [.ref t]) nL
        have gL : Grow a H5 (upd H5 L (.lst [.ref t])) := Grow.new nL
        have sd6 := sd5.grow gL b8.well
        have ss6 := ss.grow (gL.x sd5.lx.1)
        have tll : tl.length = size - 1 := by rw [sd4.sl.len, sl4]
        have eL : upd H5 L (.lst [.ref t]) L = some (.lst [.ref t]) := upd_same
        generalize upd H5 L (.lst [.ref t]) = H6 at b8 sd6 ss6 eL ⊢
        refine ⟨C, L, _, _, rfl, rfl, b8.am List.mem_cons_self, eL, ?_, fun p np => ?_⟩
        · rw [List.length_map, tll]
          exact Nat.le_trans (show size - 1 + 1 ≤ 9 by omega) (by decide)
        · have b9 := b8.new (o := .lst (tl.map V.ref ++ [.ref t])) np
          have gp : Grow a H6 (upd H6 p (.lst (tl.map V.ref ++ [.ref t]))) := Grow.new np
          have sl9 := (sd6.sl.snoc ss6).grow (gp.x sd6.lx.1)
          have lls : (sts ++ [st]).length = size := by rw [List.length_append, sl4, List.length_singleton]; omega
          refine k p (tl ++ [t]) (sts ++ [st]) _ b9.gr (b9.well.mono (by omega)) (fun m => sd6.lx.off np (List.mem_cons_of_mem _ m)) ?_ (sl9.less fun x hx => List.mem_cons_of_mem _ hx) (by omega) (fun j su hj => ?_) ⟨st, by simp, en⟩
          · rw [upd_same, List.map_append]
            rfl
          · rw [lls]
            rcases Nat.lt_or_ge j sts.length with z | z
            · rw [List.getElem?_append_left z] at hj
              exact sd6.so j su hj
            · rw [List.getElem?_append_right z] at hj
              cases e : j - sts.length with
              | zero =>
                rw [e] at hj
                obtain rfl := Option.some.inj hj
                exact so _ _
              | succ m => rw [e] at hj; cases hj
end
end RV
namespace RV
open PySem L2
section
variable {P : Program} {w : World} {K : PySem.W.Frag} {mg : Str → Option Value} {base : Heap} {C : Addr}
theorem ok_told {f : Addr} {fd : FuncData} (F : Fun K "_law_told" "_law_told" s_told f fd) (T : Blt mg) : FnOk P w K mg base CX0 1 f fd ["_law_pairs"] (sp_sumtext K) := by
  refine F.ok sc_told (fun vs H Q E h => ?_) (fun cdv A outer s H vs Q E hr h => ?_)
  · obtain ⟨_, _, rfl, _⟩ := h
    rfl
  · obtain ⟨l, ds, rfl, hl, ht, d, k⟩ := h
    refine ⟨_, (pss_cons (ps_set (i := 1) sc_told.nd rfl (Or.inl rfl) pe_str)
      (pss_cons (ps_for PassesOwn.never rfl (pi_list (pv 0)) (pg_tup (by rfl) (pgs_cons (pg_name (i := 2) sc_told.nd rfl (Or.inl rfl)) (pgs_cons (pg_name (i := 3) sc_told.nd rfl (Or.inl rfl)) pgs_nil))) (pss_cons (ps_set (i := 4) sc_told.nd rfl (Or.inl rfl) (pe_ifExp (pt_cmpR op_eq (pe_callB call_abs (by rfl) T.b_abs (by decide +kernel) (pa_cons (pv 3) pa_nil)) pe_int (nomark _)) (pv 2) (pe_op op_add_str (pe_op op_add_str (pe_callTy call_str_int (by rfl) T.b_str (by decide +kernel) (pa_cons (pe_callB call_abs (by rfl) T.b_abs (by decide +kernel) (pa_cons (pv 3) pa_nil)) pa_nil)) pe_str) (pv 2)))) (pss_one (ps_if (pt_cmpR op_eq (pv 1) pe_str (nomark _)) (pss_one (ps_set (i := 1) sc_told.nd rfl (Or.inl rfl) (pe_ifExp (pt_cmpR op_lt (pv 3) pe_int (nomark _)) (pe_op op_add_str pe_str (pv 4)) (pv 4)))) (pss_one (ps_set (i := 1) sc_told.nd rfl (Or.inl rfl) (pe_op op_add_str (pe_op op_add_str (pv 1) (pe_ifExp (pt_cmpR op_lt (pv 3) pe_int (nomark _)) pe_str pe_str)) (pv 4))))))))
      (pss_one (ps_ret (pe_ifExp (pt_cmpR op_ne (pv 1) pe_str (nomark _)) (pv 1) pe_str))))), ?_⟩
    have ul : ds.length ≤ 60 := by rw [← prs_len]; exact d.ln
    have dq : ∀ q ∈ prs ds, IsNm q.1 ∧ q.2.natAbs < 10 ^ 64 := fun q hq => ⟨d.nm q hq, Nat.lt_of_le_of_lt (tot_mem hq) (Nat.lt_of_le_of_lt d.tt (by decide))⟩
    have big5 : ∀ {n m : Nat}, n ≤ 200000 → m ≤ 5000 → n + m ≤ sizeLine := fun h1 h2 => Nat.le_trans (show _ ≤ 205000 by omega) (by decide)
    refine ⟨_, rfl, l, rfl, ⟨_, hl⟩, for_list (xs := vP ds) (fun i σ H' => H' = H ∧ ∃ o2 o3 o4, σ = [some (.ref l), some (.str (line ((prs ds).take i))), o2, o3, o4]) ⟨rfl, none, none, none, rfl⟩ (fun i σ H' _ h => by rw [h.1]; exact hl) ?_ ?_⟩
    · rintro i y σ H1 hy ⟨rfl, o2, o3, o4, rfl⟩
      rw [vP, List.getElem?_map] at hy
      cases hu : ds[i]? with
      | none => rw [hu] at hy; cases hy
      | some u =>
        rw [hu] at hy
        obtain rfl : V.ref u.1 = y := Option.some.inj hy
        have hm := List.mem_of_getElem? hu
        have hq : u.2 ∈ prs ds := List.mem_map.mpr ⟨u, hm, rfl⟩
        have et : (prs ds).take (i + 1) = (prs ds).take i ++ [u.2] := by
          rw [List.take_add_one, prs, List.getElem?_map, hu]
          rfl
        have hx := (dq _ hq).1
        have hz := Nat.le_trans (tot_mem hq) d.tt
        have wl := wo_len hx (dq _ hq).2
        have ll : (line ((prs ds).take i)).length ≤ 200000 := line_len (fun q hq => dq q (List.mem_of_mem_take hq)) (by rw [List.length_take, prs_len]; omega)
        refine ⟨u.1, _, rfl, ht u hm, rfl, _, _, rfl, _, _, rfl, rfl, ?_⟩
        dsimp only
        refine seq_of (fun σ' H' => σ' = [some (.ref l), some (.str (line ((prs ds).take i))), some (.str u.2.1), some (.int u.2.2), some (.str (wo u.2.1 u.2.2))] ∧ H' = H1) ?rest (fun M hM => ?main)
        case main =>
          refine ⟨_, rfl, _, rfl, rfl, _, rfl, ?_⟩
          rw [show (if u.2.2 < 0 then -u.2.2 else u.2.2) = ab u.2.2 from rfl]
          refine ite2 (fun h => ?_) (fun h => ?_)
          · have h1 : ab u.2.2 = 1 := V.int.inj (of_decide_eq_true h)
            refine ⟨_, rfl, hM _ _ ⟨?_, rfl⟩⟩
            rw [wo, if_pos h1]
            rfl
          · have h1 : ¬ ab u.2.2 = 1 := fun e => h (decide_eq_true (congrArg V.int e))
            have lg : (ab u.2.2).natAbs ≤ 10 ^ 45 := by unfold ab; split <;> omega
            have nl := num_len (z := ab u.2.2) (ab_lt (dq _ hq).2)
            have e1 : Str.length "*" = 1 := by decide +kernel
            have hx8 := isNm_len hx
            rw [← cd_len] at hx8
            refine ⟨_, rfl, _, rfl, _, rfl, log_small lg, _, _, rfl, rfl, ?_, _, rfl, _, _, rfl, rfl, ?_, ?_⟩
            · show (num (ab u.2.2)).length + _ ≤ _
              rw [e1]
              exact big5 (show _ ≤ 200000 by omega) (by decide)
            · show (num (ab u.2.2) ++ ("*" : Str)).length + _ ≤ _
              rw [sl_app, e1]
              exact big5 (show _ ≤ 200000 by omega) (by omega)
            · refine hM _ _ ⟨?_, rfl⟩
              rw [← wo_law _ _ h1]
              rfl
        rintro σ2 H2 ⟨rfl, rfl⟩
        refine ⟨_, rfl, rfl, _, rfl, ?_⟩
        rw [et]
        generalize hqs : (prs ds).take i = qs at ll ⊢
        cases qs with
        | nil =>
          refine iteT ⟨_, rfl, _, _, rfl, rfl, _, rfl, ?_⟩
          refine ite2 (fun h => ?_) (fun h => ?_)
          · have hn : u.2.2 < 0 := of_decide_eq_true h
            have e1 : Str.length "-" = 1 := by decide +kernel
            refine ⟨_, rfl, _, _, rfl, rfl, ?_, ⟨rfl, some (.str u.2.1), some (.int u.2.2), some (.str (wo u.2.1 u.2.2)), ?_⟩⟩
            · rw [e1]
              exact big5 (by decide) (by omega)
            · rw [List.nil_append, ← line_one, if_pos hn]
              rfl
          · have hn : ¬ u.2.2 < 0 := of_decide_eq_false (by simpa using h)
            refine ⟨_, rfl, ⟨rfl, some (.str u.2.1), some (.int u.2.2), some (.str (wo u.2.1 u.2.2)), ?_⟩⟩
            rw [List.nil_append, ← line_one, if_neg hn]
            rfl
        | cons q r =>
          have hq0 : q ∈ prs ds := List.mem_of_mem_take (i := i) (by rw [hqs]; exact List.mem_cons_self)
          have ne : decide (V.str (line (q :: r)) = V.str "") = false := decide_eq_false fun e => line_ne (dq q hq0).1 (V.str.inj e)
          have e1 : Str.length " - " = 3 := by decide +kernel
          have e2 : Str.length " + " = 3 := by decide +kernel
          rw [ne]
          refine iteF ⟨_, rfl, _, rfl, _, _, rfl, rfl, _, rfl, ?_⟩
          refine ite2 (fun h => ?_) (fun h => ?_)
          · have hn : u.2.2 < 0 := of_decide_eq_true h
            refine ⟨_, _, rfl, rfl, ?_, _, rfl, _, _, rfl, rfl, ?_, ⟨rfl, some (.str u.2.1), some (.int u.2.2), some (.str (wo u.2.1 u.2.2)), ?_⟩⟩
            · rw [e1]
              exact big5 ll (by decide)
            · rw [sl_app, e1]
              exact Nat.le_trans (show _ ≤ 205000 by omega) (by decide)
            · rw [← line_more, if_pos hn]
              rfl
          · have hn : ¬ u.2.2 < 0 := of_decide_eq_false (by simpa using h)
            refine ⟨_, _, rfl, rfl, ?_, _, rfl, _, _, rfl, rfl, ?_, ⟨rfl, some (.str u.2.1), some (.int u.2.2), some (.str (wo u.2.1 u.2.2)), ?_⟩⟩
            · rw [e2]
              exact big5 ll (by decide)
            · rw [sl_app, e2]
              exact Nat.le_trans (show _ ≤ 205000 by omega) (by decide)
            · rw [← line_more, if_neg hn]
              rfl
    · rintro σ H1 ⟨rfl, o2, o3, o4, rfl⟩
      rw [vP_len, ← prs_len, List.take_length]
      refine ⟨_, rfl, rfl, _, rfl, ?_⟩
      revert k dq
      generalize prs ds = qs
      intro dq k
      cases qs with
      | nil => exact iteF k
      | cons q r =>
        have ne : decide (V.str (line (q :: r)) = V.str "") = false := decide_eq_false fun e => line_ne (dq q List.mem_cons_self).1 (V.str.inj e)
        rw [ne]
        refine iteT ⟨_, rfl, ?_⟩
        rw [line, if_neg (by simp)]
        exact k
end
end RV
/-! k47: a step's line -/
namespace RV
open PySem L2 TL
section
variable {P : Program} {w : World} {K : PySem.W.Frag} {mg : Str → Option Value} {base : Heap}
theorem ok_line {f : Addr} {fd : FuncData} (F : Fun K "_law_line" "_law_line" s_line f fd) (T : Blt mg) (h_told : Fn P w K mg base "_law_told" 1 ["_law_pairs"] (Irr (sp_sumtext K))) : FnOk P w K mg base CX0 2 f fd ["_law_step"] sp_lineS := by
  refine F.ok sc_line (fun vs H Q E h => ?_) (fun cdv A outer s H vs Q E hr h => ?_)
  · obtain ⟨_, _, _, _, _, _, _, rfl, _⟩ := h
    rfl
  · obtain ⟨t, st, X, ts, wide, i, many, rfl, sl, so, hn, hw, m8, k⟩ := h
    refine ⟨_, (pss_cons (ps_if (pt_cmpR op_eq (pe_ix ix_tup (pv 0) pe_int (fun _ _ => rfl)) pe_str (nomark _)) (pss_one (ps_ret (pe_op op_add_str (pe_op op_add_str (pe_op op_add_str (pe_op op_add_str (pe_op op_add_str pe_str (pe_fn h_told (hr.mono (by decide)) (pa_cons (pe_ix ix_tup (pv 0) pe_int (fun _ _ => rfl)) pa_nil))) pe_str) (pe_fn h_told (hr.mono (by decide)) (pa_cons (pe_ix ix_tup (pv 0) pe_int (fun _ _ => rfl)) pa_nil))) pe_str) (pe_callTy call_str_int (by rfl) T.b_str (by decide +kernel) (pa_cons (pe_ix ix_tup (pv 0) pe_int (fun _ _ => rfl)) pa_nil))))) pss_nil)
      (pss_cons (ps_if (pt_cmpR op_eq (pe_ix ix_tup (pv 0) pe_int (fun _ _ => rfl)) pe_str (nomark _)) (pss_one (ps_ret (pe_op op_add_str (pe_op op_add_str (pe_op op_add_str pe_str (pe_callTy call_str_int (by rfl) T.b_str (by decide +kernel) (pa_cons (pe_ix ix_tup (pv 0) pe_int (fun _ _ => rfl)) pa_nil))) pe_str) (pe_bm PySem.F.plainAttrs_str PySem.F.slot_str_join PySem.F.type_str_join mt_join pe_str (pa_cons (pe_lc (own := [("_law_one", 1)]) (g := gName 1) (tt := tYes) rfl sc_line.nd (pi_list (pe_ix ix_tup (pv 0) pe_int (fun _ _ => rfl))) (blkOk_by (N := sc_line_N) (sc := defScope s_line) (by decide +kernel)) (fun _ _ _ _ _ => pg_name (i := 1) sc_line.nd rfl (Or.inl rfl)) (fun _ _ _ _ _ => pts_nil) (fun _ _ _ _ _ => (pe_fn h_told (hr.mono (by decide)) (pa_cons (pv 1) pa_nil)))) pa_nil))))) pss_nil)
      (pss_one (ps_ret (pe_ifExp (pt_cmpR op_eq (pe_ix ix_tup (pv 0) pe_int (fun _ _ => rfl)) pe_str (nomark _)) (pe_op op_add_str pe_str (pe_fn h_told (hr.mono (by decide)) (pa_cons (pe_ix ix_tup (pv 0) pe_int (fun _ _ => rfl)) pa_nil))) pe_str))))), ?_⟩
    have sum : ∀ {l : Addr} {p : Prs} {Q' : VK} {H' : Hp}, SumL X H l p → SumOk ts wide p → Same H H' → ((txt p).length ≤ 200000 → Q' (.str (txt p)) H') → Irr (sp_sumtext K) [.ref l] H' Q' E0 := fun {l p Q' H'} h o s c => by
      obtain ⟨us, ⟨_, e⟩, rfl, ku⟩ := h
      have d := o.due hn hw
      exact irr ⟨l, us, rfl, SqL.of (s _ _ e), fun u hu => SqT.of (s _ _ (ku u hu).2), d, c (txt_len d)⟩
    have sz : ∀ {n : Nat}, n ≤ 3000000 → n ≤ sizeLine := fun h => Nat.le_trans h (by decide)
    cases st with
    | ifS p q g =>
      obtain ⟨l1, l2, _, e, s1, s2⟩ := sl
      obtain ⟨o1, o2, _, g8⟩ := so
      refine ⟨_, rfl, t, _, 0, _, rfl, rfl, SqT.of e, rfl, rfl, _, rfl, ?_⟩
      rw [decide_eq_true rfl]
      refine iteT ⟨_, rfl, t, _, 1, _, rfl, rfl, SqT.of e, rfl, sum s1 o1 (Same.refl H) fun n1 => ?_⟩
      have a1 : Str.length "if " = 3 := by decide +kernel
      have a2 : Str.length " == " = 4 := by decide +kernel
      have a3 : Str.length " go " = 4 := by decide +kernel
      refine ⟨_, _, rfl, rfl, sz (by omega), _, _, rfl, rfl, sz (by rw [sl_app]; omega), _, rfl, t, _, 2, _, rfl, rfl, SqT.of e, rfl, sum s2 o2 (Same.refl H) fun n2 => ?_⟩
      have g1 : ((g : Nat) : Int).natAbs ≤ 10 ^ 45 := by omega
      have nl := num_len (z := ((g : Nat) : Int)) (by omega)
      refine ⟨_, _, rfl, rfl, sz (by rw [sl_app, sl_app]; omega), _, _, rfl, rfl, sz (by rw [sl_app, sl_app, sl_app]; omega), _, rfl, t, _, 3, _, rfl, rfl, SqT.of e, rfl, _, rfl, log_small g1, _, _, rfl, rfl, sz ?_, k H (Same.refl H)⟩
      show _ + (num ((g : Nat) : Int)).length ≤ _
      rw [sl_app, sl_app, sl_app, sl_app]
      omega
    | voteS n ss =>
      obtain ⟨l, ls, _, e, ⟨_, el⟩, sl⟩ := sl
      obtain ⟨n3, c1, c10, so⟩ := so
      refine ⟨_, rfl, t, _, 0, _, rfl, rfl, SqT.of e, rfl, rfl, _, rfl, ?_⟩
      rw [decide_eq_false (show ¬ V.str "vote" = V.str "if" by decide)]
      refine iteF ⟨_, rfl, t, _, 0, _, rfl, rfl, SqT.of e, rfl, rfl, _, rfl, ?_⟩
      rw [decide_eq_true rfl]
      have g1 : ((n : Nat) : Int).natAbs ≤ 10 ^ 45 := by omega
      have nl := num_len (z := ((n : Nat) : Int)) (by omega)
      have a1 : Str.length "vote " = 5 := by decide +kernel
      have a2 : Str.length ": " = 2 := by decide +kernel
      refine iteT ⟨_, rfl, t, _, 1, _, rfl, rfl, SqT.of e, rfl, _, rfl, log_small g1, _, _, rfl, rfl, sz (show _ + (num ((n : Nat) : Int)).length ≤ _ by omega), _, _, rfl, rfl, sz (show (_ ++ num ((n : Nat) : Int)).length + _ ≤ _ by rw [sl_app]; omega), ?_⟩
      have a3 : Str.length ", " = 2 := by decide +kernel
      have ll := sl.len
      have hb : ∀ q ∈ ss, (txt q).length ≤ 200000 := fun q hq => txt_len ((so q hq).due hn hw)
      have hs : ((ss.map txt).map (·.length)).sum ≤ 200000 * ss.length := by
        clear ll c1 c10 sl so k
        induction ss with
        | nil => simp
        | cons q ss ih =>
          have h1 := hb q List.mem_cons_self
          have h2 := ih fun q hq => hb q (List.mem_cons_of_mem _ hq)
          rw [List.map_cons, List.map_cons, List.sum_cons, List.length_cons]
          omega
      have hj := StrLaws.join_length_le ", " (ss.map txt)
      rw [List.length_map, a3] at hj
      refine ⟨rfl, _, rfl, t, _, 2, _, rfl, rfl, SqT.of e, rfl, l, rfl, ⟨_, SqL.of el⟩, fun D nD => lc_to (xs := ls.map V.ref) ((ss.map txt).map V.str) (by rw [List.length_map, List.length_map, List.length_map, ll]) walk_list nD (by rw [List.length_map]; omega) (fun H' s' => SqL.of (s' _ _ el)) (fun _ => rfl) (fun j v y hv hy H2 s2 R kR => ?_) fun H2 s2 eD => ?_⟩
      · rw [List.getElem?_map] at hv
        rw [List.getElem?_map, List.getElem?_map] at hy
        cases e1 : ls[j]? with
        | none => rw [e1] at hv; cases hv
        | some l' =>
          cases e2 : ss[j]? with
          | none => rw [e2] at hy; cases hy
          | some q =>
            rw [e1] at hv
            rw [e2] at hy
            obtain rfl := Option.some.inj hv
            obtain rfl := Option.some.inj hy
            exact ⟨_, rfl, sum (sl.at j l' q e1 e2) (so q (List.mem_of_getElem? e2)) s2 fun _ => kR H2 (Same.refl _)⟩
      · refine ⟨_, D, ss.map txt, rfl, rfl, .inl (SqL.of eD), ?_, _, _, rfl, rfl, sz (show ((_ ++ num ((n : Nat) : Int)) ++ _).length + (Txt.join ", " (ss.map txt)).length ≤ _ from ?_), k H2 s2⟩
        · rw [List.length_map, a3]
          omega
        · rw [sl_app, sl_app]
          have hj2 := hj
          rw [← join_eq] at hj2
          omega
    | tellS p =>
      obtain ⟨l, _, e, s1⟩ := sl
      refine ⟨_, rfl, t, _, 0, _, rfl, rfl, SqT.of e, rfl, rfl, _, rfl, ?_⟩
      rw [decide_eq_false (show ¬ V.str "tell" = V.str "if" by decide)]
      refine iteF ⟨_, rfl, t, _, 0, _, rfl, rfl, SqT.of e, rfl, rfl, _, rfl, ?_⟩
      rw [decide_eq_false (show ¬ V.str "tell" = V.str "vote" by decide)]
      refine iteF ⟨_, rfl, t, _, 0, _, rfl, rfl, SqT.of e, rfl, rfl, _, rfl, ?_⟩
      rw [decide_eq_true rfl]
      refine iteT ⟨_, rfl, t, _, 1, _, rfl, rfl, SqT.of e, rfl, sum s1 so (Same.refl H) fun n1 => ?_⟩
      exact ⟨_, _, rfl, rfl, sz (show _ + _ ≤ _ by have : Str.length "tell " = 5 := by decide +kernel
                                                   omega), k H (Same.refl H)⟩
    | doubtS =>
      obtain ⟨_, e⟩ := sl
      refine ⟨_, rfl, t, _, 0, _, rfl, rfl, SqT.of e, rfl, rfl, _, rfl, ?_⟩
      rw [decide_eq_false (show ¬ V.str "doubt" = V.str "if" by decide)]
      refine iteF ⟨_, rfl, t, _, 0, _, rfl, rfl, SqT.of e, rfl, rfl, _, rfl, ?_⟩
      rw [decide_eq_false (show ¬ V.str "doubt" = V.str "vote" by decide)]
      refine iteF ⟨_, rfl, t, _, 0, _, rfl, rfl, SqT.of e, rfl, rfl, _, rfl, ?_⟩
      rw [decide_eq_false (show ¬ V.str "doubt" = V.str "tell" by decide)]
      exact iteF (k H (Same.refl H))
end
end RV
/-! k47: rows read -/
namespace RV
open PySem L2 TL
section
variable {P : Program} {w : World} {K : PySem.W.Frag} {mg : Str → Option Value} {base : Heap} {C : Addr}
theorem ok_rdig {f : Addr} {fd : FuncData} (F : Fun K "_read_digit" "_read_digit" s_read_digit f fd) (T : Blt mg) : FnOk P w K mg base CX0 1 f fd ["word", "least", "most"] sp_rdig := by
  refine F.ok sc_read_digit (fun vs H Q E h => ?_) (fun cdv A outer s H vs Q E hr h => ?_)
  · obtain ⟨_, _, _, rfl, _⟩ := h
    rfl
  · obtain ⟨g, lo, hi, rfl, h0, h1, h2, h9, k⟩ := h
    refine ⟨_, (pss_cons (ps_for PassesOwn.never rfl (pi_range2 (by rfl) T.b_range (pa_cons (pv 1) (pa_cons (pe_op op_add (pv 2) pe_int) pa_nil))) (pg_name (i := 3) sc_read_digit.nd rfl (Or.inl rfl)) (pss_one (ps_if (pt_cmpR op_eq (pv 0) (pe_callTy call_str_int (by rfl) T.b_str (by decide +kernel) (pa_cons (pv 3) pa_nil)) (nomark _)) (pss_one (ps_ret (pv 3))) pss_nil)))
      (pss_one (ps_ret pe_non))), ?_⟩
    refine ⟨_, rfl, _, rfl, _, _, rfl, rfl, lo, hi + 1, rfl, by omega, for_range (lo := lo) (n := (hi + 1 - lo).toNat) (fun i σ H' => H' = H ∧ lo + (i : Int) ≤ g ∧ ∃ o, σ = [some (.str (num (g : Nat))), some (.int lo), some (.int hi), o]) ⟨rfl, by omega, none, rfl⟩ ?_ ?_⟩
    · rintro i σ H1 hi1 ⟨rfl, hg, o, rfl⟩
      dsimp only [gName]
      have hb : (lo + (i : Int)).natAbs ≤ 10 ^ 45 := by omega
      refine ⟨_, rfl, _, rfl, _, rfl, log_small hb, rfl, _, rfl, ?_⟩
      obtain ⟨m, em⟩ : ∃ m : Nat, lo + (i : Int) = (m : Nat) := ⟨(lo + i).toNat, by omega⟩
      show if decide (V.str (num (g : Nat)) = V.str (num (lo + (i : Int)))) = true then _ else _
      rw [em]
      refine ite2 (fun h => ?_) (fun h => ?_)
      · have e := num_ne (by omega) (by omega) (V.str.inj (of_decide_eq_true h))
        refine ⟨_, rfl, ?_⟩
        rw [e] at k
        exact k
      · have ne : m ≠ g := fun e => h (by rw [e]; exact decide_eq_true rfl)
        exact ⟨rfl, by omega, _, rfl⟩
    · rintro σ H1 ⟨rfl, hg, o, rfl⟩
      omega
theorem ok_stp {f : Addr} {fd : FuncData} (F : Fun K "_step" "_step" s_step f fd) (T2 : Blt2 mg) (SC : SClass K mg C) (h_read : ClsM P w K mg base C "read" 8 ["cls", "text"] (Irr (sp_read C))) : FnOk P w K mg base CX0 10 f fd ["kind", "number", "texts"] (sp_stp C) := by
  refine F.ok sc_step (fun vs H Q E h => ?_) (fun cdv A outer s H vs Q E hr h => ?_)
  · obtain ⟨_, _, _, _, rfl, _⟩ := h
    rfl
  · obtain ⟨kd, n, l, qss, rfl, el, dq, q10, k⟩ := h
    refine ⟨_, (pss_cons (ps_if (pt_cmpR op_isN (pv 1) pe_non (nomark _)) (pss_one (ps_ret pe_non)) pss_nil)
      (pss_one (ps_try_thru0 (pss_one (ps_ret (pe_tup (pa_cons (pv 0) (pa_cons (pv 1) (pa_cons (pe_callTy call_tuple_of (by rfl) T2.b_tuple (by decide +kernel) (pa_cons (pe_lc (own := [("text", 3)]) (g := gName 3) (tt := tYes) rfl sc_step.nd (pi_list (pv 2)) (blkOk_by (N := sc_step_N) (sc := defScope s_step) (by decide +kernel)) (fun _ _ _ _ _ => pg_name (i := 3) sc_step.nd rfl (Or.inl rfl)) (fun _ _ _ _ _ => pts_nil) (fun _ _ _ _ _ => pe_cm h_read (hr.mono (by decide)) (pe_gC SC.k) (pa_cons (pv 3) pa_nil))) pa_nil)) pa_nil))))))))), ?_⟩
    refine ⟨_, rfl, rfl, _, rfl, ?_⟩
    rw [decide_eq_false (show ¬ V.int (n : Nat) = V.non from fun z => nomatch z)]
    refine iteF ?_
    refine ⟨_, rfl, _, rfl, _, rfl, l, rfl, ⟨_, SqL.of el⟩, fun D nD => ?_⟩
    refine lc_new (xs := (qss.map txt).map V.str) (β := Addr) V.ref (fun j x H' => ∃ q, qss[j]? = some q ∧ SumR C H' x q) walk_list nD (by rw [List.length_map, List.length_map]; omega) (fun H' s' => SqL.of (s' _ _ el)) (fun _ => rfl) (fun j x H' H'' s' z => ?_) (fun j x H' acc acc' e z => ?_) (fun j x hx H2 s2 hD2 R kR => ?_) fun bs H2 s2 bl bp hD2 => ?_
    · obtain ⟨q, a, b⟩ := z
      exact ⟨q, a, b.ext s'⟩
    · obtain ⟨q, a, b⟩ := z
      exact ⟨q, a, b.put e⟩
    · rw [List.getElem?_map, List.getElem?_map] at hx
      cases hq : qss[j]? with
      | none => rw [hq] at hx; cases hx
      | some q =>
      rw [hq] at hx
      obtain rfl := Option.some.inj hx
      refine ⟨rfl, _, rfl, irr ⟨q, rfl, (dq q (List.mem_of_getElem? hq)).d, fun x dx m us H3 eq kp => ?_⟩⟩
      exact kR x H3 kp.sm ⟨q, hq, eq ▸ SumR.of fun p hp => kp.at hp⟩
    · refine ⟨D, _, rfl, .inl ⟨SqL.of hD2, fun u nu => ⟨(by show 3 ≤ sizeLine; decide), fun t nt => ?_⟩⟩⟩
      have s3 : Same H2 (upd H2 u (.tup (bs.map V.ref))) := fun b o e => (upd_ne (ne_of_none e nu)).trans e
      have s4 : Same (upd H2 u (.tup (bs.map V.ref))) (upd (upd H2 u (.tup (bs.map V.ref))) t (.tup [.str kd, .int (n : Nat), .ref u])) := fun b o e => (upd_ne (ne_of_none e nt)).trans e
      rw [List.length_map, List.length_map] at bl
      refine k t u bs _ (fun b o e => s4 _ _ (s3 _ _ (s2 _ _ e))) upd_same (s4 _ _ upd_same) ⟨bl, fun j x q hx hq => ?_⟩
      obtain ⟨q', a, b⟩ := bp j x hx
      rw [hq] at a
      obtain rfl := Option.some.inj a
      exact (b.ext s3).ext s4
theorem ok_rtest {f : Addr} {fd : FuncData} (F : Fun K "_read_test" "_read_test" s_read_test f fd) (T : Blt mg) (Cr : CstR mg) (h_read_digit : Fn P w K mg base "_read_digit" 1 ["word", "least", "most"] (Irr sp_rdig)) (h_step : Fn P w K mg base "_step" 10 ["kind", "number", "texts"] (Irr (sp_stp C))) : FnOk P w K mg base CX0 11 f fd ["text", "least", "most"] (sp_rtest C) := by
  refine F.ok sc_read_test (fun vs H Q E h => ?_) (fun cdv A outer s H vs Q E hr h => ?_)
  · obtain ⟨_, _, _, _, _, rfl, _⟩ := h
    rfl
  · obtain ⟨p, q, g, lo, hi, rfl, dp, dq, l0, l1, l2', l3, k⟩ := h
    refine ⟨_, (pss_cons (ps_asg (pe_rpartition (pv 0) pe_str) (pg_tup (by rfl) (pgs_cons (pg_name (i := 3) sc_read_test.nd rfl (Or.inl rfl)) (pgs_cons (pg_name (i := 4) sc_read_test.nd rfl (Or.inl rfl)) (pgs_cons (pg_name (i := 5) sc_read_test.nd rfl (Or.inl rfl)) pgs_nil)))))
      (pss_cons (ps_set (i := 6) sc_read_test.nd rfl (Or.inl rfl) (pe_split (pv 3) pe_str))
      (pss_one (ps_ret (pe_ifExp (pt_cmpR op_eq (pe_callB call_len_seq (by rfl) T.b_len (by decide +kernel) (pa_cons (pv 6) pa_nil)) pe_int (nomark _)) (pe_fn h_step (hr.mono (by decide)) (pa_cons (pe_gS Cr.kif) (pa_cons (pe_fn h_read_digit (hr.mono (by decide)) (pa_cons (pv 5) (pa_cons (pv 1) (pa_cons (pv 2) pa_nil)))) (pa_cons (pv 6) pa_nil)))) pe_non))))), ?_⟩
    obtain ⟨c1, c2⟩ := test_cut dp dq (g := g) (by omega)
    have ll : (restS (.ifS p q g)).length ≤ 1000 := by
      have a1 := dp.len
      have a2 := dq.len
      have e2 : Str.length " == " = 4 := by decide +kernel
      have e3 : Str.length " go " = 4 := by decide +kernel
      have n1 : (num (g : Nat)).length = 1 := by rw [cd_len]; exact congrArg List.length (num_1 (show g < 10 by omega))
      rw [restS, sl_app, sl_app, sl_app, sl_app, e2, e3, n1]
      omega
    have l2 : ((txt p ++ (" == " : Str)) ++ txt q).length ≤ 1000 := by
      have a1 := dp.len
      have a2 := dq.len
      have e2 : Str.length " == " = 4 := by decide +kernel
      rw [sl_app, sl_app, e2]
      omega
    refine ⟨_, rfl, ⟨_, rfl⟩, _, _, rfl, rfl, by decide +kernel, Nat.le_trans ll (by decide), fun t nt => ?_⟩
    rw [c1]
    refine ⟨t, _, rfl, SqT.of upd_same, rfl, _, _, rfl, _, _, rfl, _, _, rfl, rfl, ?_⟩
    dsimp only
    refine ⟨_, rfl, ⟨_, rfl⟩, _, _, rfl, rfl, by decide +kernel, Nat.le_trans (Nat.add_le_add_right l2 2) (by decide), fun l nl => ?_⟩
    rw [c2]
    have s1 : Same H (upd H t (.tup [.str ((txt p ++ (" == " : Str)) ++ txt q), .str (" go " : Str), .str (num (g : Nat))])) := fun b o e => (upd_ne (ne_of_none e nt)).trans e
    have s2 : Same H (upd (upd H t (.tup [.str ((txt p ++ (" == " : Str)) ++ txt q), .str (" go " : Str), .str (num (g : Nat))])) l (.lst ([txt p, txt q].map V.str))) := fun b o e => (upd_ne (ne_of_none (s1 _ _ e) nl)).trans (s1 _ _ e)
    refine ⟨_, rfl, l, _, rfl, .inl (SqL.of upd_same), rfl, _, rfl, ?_⟩
    rw [decide_eq_true (show V.int ((List.map V.str [txt p, txt q]).length : Nat) = V.int 2 from rfl)]
    refine iteT ?_
    refine ⟨_, rfl, _, rfl, _, rfl, irr ⟨g, lo, hi, rfl, l0, l1, l2', l3, ?_⟩⟩
    refine ⟨_, rfl, irr ⟨"if", g, l, [p, q], rfl, upd_same, fun z hz => ?_, by simp, fun t2 u xs H' s' e1 e2 sm => ?_⟩⟩
    · rcases List.mem_cons.mp hz with rfl | hz
      · exact dp
      · obtain rfl := List.mem_singleton.mp hz
        exact dq
    · exact k t2 H' (fun b o e => s' _ _ (s2 _ _ e)) ⟨u, xs, e1, e2, sm⟩
theorem ok_rvote {f : Addr} {fd : FuncData} (F : Fun K "_read_vote" "_read_vote" s_read_vote f fd) (T : Blt mg) (Cr : CstR mg) (h_read_digit : Fn P w K mg base "_read_digit" 1 ["word", "least", "most"] (Irr sp_rdig)) (h_step : Fn P w K mg base "_step" 10 ["kind", "number", "texts"] (Irr (sp_stp C))) : FnOk P w K mg base CX0 11 f fd ["text"] (sp_rvote C) := by
  refine F.ok sc_read_vote (fun vs H Q E h => ?_) (fun cdv A outer s H vs Q E hr h => ?_)
  · obtain ⟨_, _, rfl, _⟩ := h
    rfl
  · obtain ⟨n, ss, rfl, n3, s1, s10, ds, k⟩ := h
    refine ⟨_, (pss_cons (ps_asg (pe_partition (pv 0) pe_str) (pg_tup (by rfl) (pgs_cons (pg_name (i := 1) sc_read_vote.nd rfl (Or.inl rfl)) (pgs_cons (pg_name (i := 2) sc_read_vote.nd rfl (Or.inl rfl)) (pgs_cons (pg_name (i := 3) sc_read_vote.nd rfl (Or.inl rfl)) pgs_nil)))))
      (pss_cons (ps_set (i := 4) sc_read_vote.nd rfl (Or.inl rfl) (pe_split (pv 3) pe_str))
      (pss_one (ps_ret (pe_ifExp (pt_cmpR op_le (pe_callB call_len_seq (by rfl) T.b_len (by decide +kernel) (pa_cons (pv 4) pa_nil)) (pe_gI Cr.sums) (nomark _)) (pe_fn h_step (hr.mono (by decide)) (pa_cons (pe_gS Cr.vote) (pa_cons (pe_fn h_read_digit (hr.mono (by decide)) (pa_cons (pv 1) (pa_cons pe_int (pa_cons (pe_gI Cr.faults) pa_nil)))) (pa_cons (pv 4) pa_nil)))) pe_non))))), ?_⟩
    obtain ⟨c1, c2⟩ := vote_cut (n := n) (by omega) ds s1
    have ll : (lineS (.voteS n ss)).length ≤ 4000 := line_len8 (i := 0) (many := 8) (by decide) ⟨n3, s1, s10, ds⟩
    have el : lineS (.voteS n ss) = (kindS (.voteS n ss) ++ (" " : Str)) ++ restS (.voteS n ss) := line_rest fun z => nomatch z
    have l1 : (restS (.voteS n ss)).length ≤ 4000 := by
      rw [el, sl_app] at ll
      omega
    have l2 : (Txt.join ", " (ss.map txt)).length ≤ 4000 := by
      rw [restS, sl_app] at l1
      omega
    refine ⟨_, rfl, ⟨_, rfl⟩, _, _, rfl, rfl, by decide +kernel, Nat.le_trans l1 (by decide), fun t nt => ?_⟩
    rw [c1]
    refine ⟨t, _, rfl, SqT.of upd_same, rfl, _, _, rfl, _, _, rfl, _, _, rfl, rfl, ?_⟩
    dsimp only
    refine ⟨_, rfl, ⟨_, rfl⟩, _, _, rfl, rfl, by decide +kernel, Nat.le_trans (Nat.add_le_add_right l2 2) (by decide), fun l nl => ?_⟩
    rw [c2]
    have g1 : Same H (upd H t (.tup [.str (num (n : Nat)), .str (": " : Str), .str (Txt.join ", " (ss.map txt))])) := fun b o e => (upd_ne (ne_of_none e nt)).trans e
    have g2 : Same H (upd (upd H t (.tup [.str (num (n : Nat)), .str (": " : Str), .str (Txt.join ", " (ss.map txt))])) l (.lst ((ss.map txt).map V.str))) := fun b o e => (upd_ne (ne_of_none (g1 _ _ e) nl)).trans (g1 _ _ e)
    refine ⟨_, rfl, l, _, rfl, .inl (SqL.of upd_same), _, _, rfl, rfl, _, rfl, ?_⟩
    rw [decide_eq_true (show (((ss.map txt).map V.str).length : Int) ≤ 10 by rw [List.length_map, List.length_map]; omega)]
    refine iteT ?_
    refine ⟨_, rfl, irr ⟨n, 0, 3, rfl, by decide, by omega, by omega, by decide, ?_⟩⟩
    refine ⟨_, rfl, irr ⟨"vote", n, l, ss, rfl, upd_same, ds, s10, fun t2 u xs H' s' e1 e2 sm => ?_⟩⟩
    exact k t2 H' (fun b o e => s' _ _ (g2 _ _ e)) ⟨u, xs, e1, e2, sm⟩
theorem ok_rrow {f : Addr} {fd : FuncData} (F : Fun K "_read_row" "_read_row" s_read_row f fd) (T : Blt mg) (Cr : CstR mg) (h_step : Fn P w K mg base "_step" 10 ["kind", "number", "texts"] (Irr (sp_stp C))) (h_read_vote : Fn P w K mg base "_read_vote" 11 ["text"] (Irr (sp_rvote C))) (h_read_test : Fn P w K mg base "_read_test" 11 ["text", "least", "most"] (Irr (sp_rtest C))) : FnOk P w K mg base CX0 12 f fd ["row", "index", "many"] (sp_rrow C) := by
  refine F.ok sc_read_row (fun vs H Q E h => ?_) (fun cdv A outer s H vs Q E hr h => ?_)
  · obtain ⟨_, _, _, rfl, _⟩ := h
    rfl
  · obtain ⟨st, i, many, rfl, so, m8, k⟩ := h
    refine ⟨_, (pss_cons (ps_if (pt_not (pt_val (pe_callB call_isi (by rfl) T.b_isinstance (by decide +kernel) (pa_cons (pv 0) (pa_cons (pe_bltn (v := .ty "str") (by rfl) T.b_str (by decide +kernel) rfl) pa_nil))))) (pss_one (ps_ret pe_non)) pss_nil)
      (pss_cons (ps_if (pt_cmpR op_eq (pv 0) (pe_gS Cr.doubt) (nomark _)) (pss_one (ps_ret (pe_tup (pa_cons (pe_gS Cr.doubt) (pa_cons pe_int (pa_cons (pe_tup pa_nil) pa_nil)))))) pss_nil)
      (pss_cons (ps_asg (pe_partition (pv 0) pe_str) (pg_tup (by rfl) (pgs_cons (pg_name (i := 3) sc_read_row.nd rfl (Or.inl rfl)) (pgs_cons (pg_name (i := 4) sc_read_row.nd rfl (Or.inl rfl)) (pgs_cons (pg_name (i := 5) sc_read_row.nd rfl (Or.inl rfl)) pgs_nil)))))
      (pss_cons (ps_if (pt_cmpR op_eq (pv 3) (pe_gS Cr.tell) (nomark _)) (pss_one (ps_ret (pe_fn h_step (hr.mono (by decide)) (pa_cons (pe_gS Cr.tell) (pa_cons pe_int (pa_cons (pe_lst (pa_cons (pv 5) pa_nil)) pa_nil)))))) pss_nil)
      (pss_cons (ps_if (pt_cmpR op_eq (pv 3) (pe_gS Cr.vote) (nomark _)) (pss_one (ps_ret (pe_fn h_read_vote (hr.mono (by decide)) (pa_cons (pv 5) pa_nil)))) pss_nil)
      (pss_cons (ps_if (pt_cmpR op_eq (pv 3) (pe_gS Cr.kif) (nomark _)) (pss_one (ps_ret (pe_fn h_read_test (hr.mono (by decide)) (pa_cons (pv 5) (pa_cons (pe_op op_add (pv 1) pe_int) (pa_cons (pe_op op_sub (pe_callB (call_min2 rfl) (by rfl) T.b_min (by decide +kernel) (pa_cons (pv 2) (pa_cons (pe_gI Cr.rows) pa_nil))) pe_int) pa_nil)))))) pss_nil)
      (pss_one (ps_ret pe_non)))))))), ?_⟩
    refine ⟨_, rfl, _, _, .type "str", .type "str", true, rfl, .ty _, .base (.str _), kit_ty (by decide +kernel), true, rfl, iteF ?_⟩
    refine ⟨_, rfl, rfl, _, rfl, ?_⟩
    by_cases hd : st = .doubtS
    · subst hd
      rw [decide_eq_true (show V.str (lineS .doubtS) = V.str "doubt" from rfl)]
      refine iteT ?_
      refine ⟨(by show 0 ≤ sizeLine; decide), fun u nu => ⟨(by show 3 ≤ sizeLine; decide), fun t nt => ?_⟩⟩
      have h1 : Same H (upd H u (.tup [])) := fun b o e => (upd_ne (ne_of_none e nu)).trans e
      have h2 : Same (upd H u (.tup [])) (upd (upd H u (.tup [])) t (.tup [.str "doubt", .int 0, .ref u])) := fun b o e => (upd_ne (ne_of_none e nt)).trans e
      exact k t _ (fun b o e => h2 _ _ (h1 _ _ e)) ⟨u, [], upd_same, h2 _ _ upd_same, rfl, fun j x q hx => nomatch hx⟩
    rw [decide_eq_false (show ¬ V.str (lineS st) = V.str "doubt" from fun e => line_doubt hd (V.str.inj e))]
    refine iteF ?_
    have ll := line_len8 m8 so
    refine ⟨_, rfl, ⟨_, rfl⟩, _, _, rfl, rfl, by decide +kernel, Nat.le_trans ll (by decide), fun t nt => ?_⟩
    rw [line_cut hd]
    refine ⟨t, _, rfl, SqT.of upd_same, rfl, _, _, rfl, _, _, rfl, _, _, rfl, rfl, ?_⟩
    dsimp only
    have g1 : Same H (upd H t (.tup [.str (kindS st), .str (" " : Str), .str (restS st)])) := fun b o e => (upd_ne (ne_of_none e nt)).trans e
    refine ⟨_, rfl, rfl, _, rfl, ?_⟩
    cases st with
    | doubtS => exact absurd rfl hd
    | tellS p =>
      rw [decide_eq_true (show V.str (kindS (.tellS p)) = V.str "tell" from rfl)]
      refine iteT ?_
      refine ⟨_, rfl, (by show 1 ≤ sizeLine; decide), fun l nl => irr ⟨"tell", 0, l, [p], rfl, upd_same, fun z hz => ?_, by simp, fun t2 u xs H' s' e1 e2 sm => ?_⟩⟩
      · obtain rfl := List.mem_singleton.mp hz
        exact so
      · have g2 : Same H (upd (upd H t (.tup [.str (kindS (.tellS p)), .str (" " : Str), .str (restS (.tellS p))])) l (.lst [.str (restS (.tellS p))])) := fun b o e => (upd_ne (ne_of_none (g1 _ _ e) nl)).trans (g1 _ _ e)
        exact k t2 H' (fun b o e => s' _ _ (g2 _ _ e)) ⟨u, xs, e1, e2, sm⟩
    | voteS n ss =>
      rw [decide_eq_false (show ¬ V.str (kindS (.voteS n ss)) = V.str "tell" by show ¬ V.str "vote" = V.str "tell"; decide)]
      refine iteF ?_
      refine ⟨_, rfl, rfl, _, rfl, ?_⟩
      rw [decide_eq_true (show V.str (kindS (.voteS n ss)) = V.str "vote" from rfl)]
      refine iteT ?_
      refine ⟨_, rfl, irr ⟨n, ss, rfl, so.1, so.2.1, so.2.2.1, so.2.2.2, fun t2 H' s' r => k t2 H' (fun b o e => s' _ _ (g1 _ _ e)) r⟩⟩
    | ifS p q g =>
      rw [decide_eq_false (show ¬ V.str (kindS (.ifS p q g)) = V.str "tell" by show ¬ V.str "if" = V.str "tell"; decide)]
      refine iteF ?_
      refine ⟨_, rfl, rfl, _, rfl, ?_⟩
      rw [decide_eq_false (show ¬ V.str (kindS (.ifS p q g)) = V.str "vote" by show ¬ V.str "if" = V.str "vote"; decide)]
      refine iteF ?_
      refine ⟨_, rfl, rfl, _, rfl, ?_⟩
      rw [decide_eq_true (show V.str (kindS (.ifS p q g)) = V.str "if" from rfl)]
      refine iteT ?_
      obtain ⟨dp, dq, hig, hg⟩ := so
      refine ⟨_, rfl, _, rfl, _, _, rfl, rfl, _, rfl, _, _, rfl, _, _, rfl, rfl, irr ⟨p, q, g, _, _, rfl, dp, dq, by omega, by omega, ?_, ?_, fun t2 H' s' r => k t2 H' (fun b o e => s' _ _ (g1 _ _ e)) r⟩⟩
      · rw [if_neg (by omega)]
        omega
      · rw [if_neg (by omega)]
        omega
theorem ok_stin {f : Addr} {fd : FuncData} (F : Fun K "_steps_in" "_steps_in" s_steps_in f fd) (T : Blt mg) (T2 : Blt2 mg) (Cr : CstR mg) (h_read_row : Fn P w K mg base "_read_row" 12 ["row", "index", "many"] (Irr (sp_rrow C))) : FnOk P w K mg base CX0 13 f fd ["rows"] (sp_stin C) := by
  refine F.ok sc_steps_in (fun vs H Q E h => ?_) (fun cdv A outer s H vs Q E hr h => ?_)
  · obtain ⟨_, _, rfl, _⟩ := h
    rfl
  · obtain ⟨tr, sts, rfl, er, ok, k⟩ := h
    refine ⟨_, (pss_cons (ps_if (PW.pt (pw_or (pt_not (pt_val (pe_callB call_isi (by rfl) T.b_isinstance (by decide +kernel) (pa_cons (pv 0) (pa_cons (pe_bltn (v := .ty "tuple") (by rfl) T2.b_tuple (by decide +kernel) rfl) pa_nil))))) (pw_or1 (pt_not (pt_truth (pv 0) (by intro _; rfl)))))) (pss_one ps_never) pss_nil)
      (pss_cons (ps_set (i := 1) sc_steps_in.nd rfl (Or.inl rfl) (pe_lst pa_nil))
      (pss_cons (ps_for PassesOwn.never rfl (pi_enumT (by rfl) T2.b_enumerate (pa_cons (pv 0) pa_nil)) (pg_tup (by rfl) (pgs_cons (pg_name (i := 2) sc_steps_in.nd rfl (Or.inl rfl)) (pgs_cons (pg_name (i := 3) sc_steps_in.nd rfl (Or.inl rfl)) pgs_nil))) (pss_cons (ps_set (i := 4) sc_steps_in.nd rfl (Or.inl rfl) (pe_fn h_read_row (hr.mono (by decide)) (pa_cons (pv 3) (pa_cons (pv 2) (pa_cons (pe_callB call_len_seq (by rfl) T.b_len (by decide +kernel) (pa_cons (pv 0) pa_nil)) pa_nil))))) (pss_cons (ps_if (PW.pt (pw_or (pt_cmpR op_isN (pv 4) pe_non (nomark _)) (pw_or1 (pt_cmpR op_ge (pv 2) (pe_gI Cr.rows) (nomark _))))) (pss_one ps_never) pss_nil) (pss_one (ps_expr (pe_bm PySem.F.plainAttrs_list PySem.F.slot_list_append PySem.F.type_list_append mt_append (pv 1) (pa_cons (pv 4) pa_nil)))))))
      (pss_cons (ps_if (pt_cmpR op_notIn_seq (pe_ix ix_tup (pe_ix ix_list (pv 1) (pe_un un_neg pe_int) (fun _ _ => rfl)) pe_int (fun _ _ => rfl)) (pe_tup (pa_cons (pe_gS Cr.tell) (pa_cons (pe_gS Cr.doubt) pa_nil))) (by rfl)) (pss_one ps_never) pss_nil)
      (pss_one (ps_ret (pe_callTy call_tuple_of (by rfl) T2.b_tuple (by decide +kernel) (pa_cons (pv 1) pa_nil)))))))), ?_⟩
    refine ⟨_, rfl, _, _, .type "tuple", .type "tuple", true, rfl, .ty _, tyx_tup (SqT.of er), kit_ty (by decide +kernel), true, rfl, iteF ?_⟩
    have pos := ok.pos
    have ln := ok.ln
    have ll : (lines sts).length = sts.length := List.length_map _
    have ne : true = !((lines sts).map V.str).isEmpty := by
      cases hs : sts with
      | nil => rw [hs] at pos; exact absurd pos (Nat.lt_irrefl _)
      | cons => rfl
    refine ⟨_, rfl, true, .inr (.inl ⟨_, SqT.of er, ne⟩), iteF ?_⟩
    refine ⟨by decide, fun nl nn => ?_⟩
    have s0 : Same H (upd H nl (.lst [])) := fun b o e => (upd_ne (ne_of_none e nn)).trans e
    dsimp only [gName]
    refine ⟨_, rfl, tr, _, rfl, (SqT.of er).ext s0, for_enumT (xs := (lines sts).map V.str) (fun i σ H' => (∃ o2 o3 o4, σ = [some (.ref tr), some (.ref nl), o2, o3, o4]) ∧ Same H H' ∧ ∃ tl, H' nl = some (.lst (tl.map V.ref)) ∧ StsR C H' tl (sts.take i)) ⟨⟨none, none, none, rfl⟩, s0, [], upd_same, StsR.nil⟩ ?_ ?_ ?_⟩
    · rintro i σ H1 _ ⟨_, s1, _⟩
      exact (SqT.of er).ext s1
    · rintro i x σ H1 T' hx' ⟨⟨o2, o3, o4, rfl⟩, s1, tl, e1, r1⟩ nT
      rw [lines, List.map_map, List.getElem?_map] at hx'
      cases hs : sts[i]? with
      | none => rw [hs] at hx'; cases hx'
      | some st =>
      rw [hs] at hx'
      obtain rfl := Option.some.inj hx'
      have hlt := (List.getElem?_eq_some_iff.mp hs).1
      have s2 : Same H1 (upd H1 T' (.tup [.int (i : Nat), .str (lineS st)])) := fun b o e => (upd_ne (ne_of_none e nT)).trans e
      refine ⟨T', _, rfl, SqT.of upd_same, rfl, _, _, rfl, _, _, rfl, rfl, ?_⟩
      dsimp only
      refine ⟨_, rfl, _, rfl, _, rfl, tr, _, rfl, .inr (SqT.of (s2 _ _ (s1 _ _ er))), irr ⟨st, i, sts.length, ?_, ok.ok i st hs, ln, fun t H2 s3 r2 => ?_⟩⟩
      · rw [List.length_map, ll]
        rfl
      have e3 := s3 _ _ (s2 _ _ e1)
      dsimp only [gName]
      refine ⟨_, rfl, rfl, _, rfl, ?_⟩
      rw [decide_eq_false (show ¬ V.ref t = V.non from fun z => nomatch z)]
      refine iteF ⟨_, rfl, _, _, rfl, rfl, _, rfl, ?_⟩
      refine ite2 (fun h => ?_) fun _ => ?_
      · have := of_decide_eq_true h
        omega
      have tll : tl.length < 9 := by
        rw [r1.len, List.length_take]
        omega
      refine ⟨_, rfl, .inl ⟨rfl, _, SqL.of e3⟩, _, rfl, nl, _, _, rfl, rfl, e3, ?_, ⟨_, _, _, rfl⟩, fun b o e => ?_, tl ++ [t], ?_, ?_⟩
      · rw [List.length_map]
        exact Nat.lt_trans tll (by decide)
      · rw [upd_ne (ne_of_none e nn)]
        exact s3 _ _ (s2 _ _ (s1 _ _ e))
      · rw [upd_same, List.map_append]
        rfl
      · have := ((r1.ext s2).ext s3).snoc r2
        rw [show sts.take (i + 1) = sts.take i ++ [st] by rw [List.take_add_one, hs]; rfl]
        exact this.put e3
    · rintro σ H1 ⟨⟨o2, o3, o4, rfl⟩, s1, tl, e1, r1⟩
      rw [List.length_map, ll, List.take_length] at r1
      obtain ⟨st, hl, hst⟩ := ok.fin
      have hl2 : sts[sts.length - 1]? = some st := by rw [← List.getLast?_eq_getElem?, hl]
      obtain ⟨t, ht⟩ : ∃ t, tl[sts.length - 1]? = some t := ⟨tl[sts.length - 1]'(by rw [r1.len]; omega), List.getElem?_eq_getElem _⟩
      obtain ⟨u, xs, a1, a2, a3⟩ := r1.each _ t st ht hl2
      have at1 : atI (tl.map V.ref) (-1) = some (V.ref t) := by
        have e : tl = tl.take (sts.length - 1) ++ [t] := by
          have e2 := List.take_add_one (l := tl) (i := sts.length - 1)
          rw [ht, show sts.length - 1 + 1 = tl.length by rw [r1.len]; omega, List.take_length] at e2
          exact e2
        rw [e, List.map_append]
        exact atI_last _ _
      have hk : kindS st = "tell" ∨ kindS st = "doubt" := by
        rcases hst with rfl | ⟨p, rfl⟩
        · exact .inr rfl
        · exact .inl rfl
      refine ⟨_, rfl, _, rfl, nl, _, -1, _, rfl, rfl, SqL.of e1, at1, t, _, 0, _, rfl, rfl, SqT.of a1, rfl, ?_⟩
      refine ⟨(by show 2 ≤ sizeLine; decide), fun q nq => ⟨q, _, rfl, .inr (SqT.of upd_same), rfl, rfl, ?_⟩⟩
      have h5 : Same H1 (upd H1 q (.tup [.str "tell", .str "doubt"])) := fun b o e => (upd_ne (ne_of_none e nq)).trans e
      have hin : inV (V.str (kindS st)) [V.str "tell", V.str "doubt"] = true := by
        rcases hk with e | e <;> rw [e] <;> decide
      rw [hin]
      refine ⟨_, rfl, iteF ?_⟩
      refine ⟨_, rfl, nl, _, rfl, .inl ⟨SqL.of (h5 _ _ e1), fun ts nts => ?_⟩⟩
      have h6 : Same (upd H1 q (.tup [.str "tell", .str "doubt"])) (upd (upd H1 q (.tup [.str "tell", .str "doubt"])) ts (.tup (tl.map V.ref))) := fun b o e => (upd_ne (ne_of_none e nts)).trans e
      exact k ts tl _ (fun b o e => h6 _ _ (h5 _ _ (s1 _ _ e))) upd_same ((r1.ext h5).ext h6)
end
end RV
/-! k47: the class Rule -/
namespace RV
open PySem L2 TL
section
variable {P : Program} {w : World} {K : PySem.W.Frag} {mg : Str → Option Value} {base : Heap} {CR CS : Addr}
theorem ok_Rule_i {f : Addr} {fd : FuncData} (F : Fun K "__init__" "Rule.__init__" s_Rule___init__ f fd) (T : RClass K mg CR) (h_steps_in : Fn P w K mg base "_steps_in" 13 ["rows"] (Irr (sp_stin CS))) : FnOk P w K mg base CX0 14 f fd ["self", "rows"] (sp_Rule CR CS) := by
  refine F.ok sc_Rule___init__ (fun vs H Q E h => ?_) (fun cdv A outer s H vs Q E hr h => ?_)
  · obtain ⟨_, _, _, _, rfl, _⟩ := h
    rfl
  · obtain ⟨x, dx, tr, sts, rfl, hx, er, ok, k⟩ := h
    refine ⟨_, (pss_cons (ps_fld (pv 0) (pe_fn h_steps_in (hr.mono (by decide)) (pa_cons (pv 1) pa_nil)) rfl)
      (pss_one (ps_fld (pv 0) (pv 1) rfl))), ?_⟩
    refine ⟨_, rfl, irr ⟨tr, sts, rfl, er, ok, fun ts tl H1 s1 e1 r1 => ?_⟩⟩
    refine ⟨_, rfl, x, CR, dx, _, rfl, s1 _ _ hx, T.x.cl, T.n1, (by show 0 < 1000; decide), ?_⟩
    refine ⟨_, rfl, _, rfl, x, CR, dx, _, rfl, upd_same, T.x.cl, T.n2, (by have := putF_len "_steps" (.ref ts) []; simp at this ⊢; omega), ?_⟩
    have nx : ∀ {t : Addr} {vs : List V}, H1 t = some (.tup vs) → t ≠ x := fun e z => by rw [z, s1 _ _ hx] at e; cases e
    have g : ∀ b o, b ≠ x → H1 b = some o → _ := fun b o hb eb => (upd_ne (o := .ins CR dx (ruleF ts tr)) hb).trans ((upd_ne (o := .ins CR dx (putF "_steps" (.ref ts) [])) hb).trans eb)
    refine k _ (fun b o hb eb => g b o hb (s1 _ _ eb)) ⟨dx, ts, tl, upd_same, g _ _ (nx e1) e1, r1.len, fun j t st hj hs => ?_⟩
    obtain ⟨u, xs, a1, a2, a3⟩ := r1.each j t st hj hs
    refine ⟨u, xs, g _ _ (nx a1) a1, g _ _ (nx a2) a2, a3.len, fun i y q hy hq => ?_⟩
    obtain ⟨dy, t2, us, e2, k2⟩ := a3.each i y q hy hq
    have apart : ∀ p ∈ lS CS y dy t2 us, p.1 ≠ x := fun p hp z => by
      have kp := k2 p hp
      rw [z, s1 _ _ hx] at kp
      rcases List.mem_cons.mp hp with rfl | hp
      · cases kp
      rcases List.mem_cons.mp hp with rfl | hp
      · cases kp
      obtain ⟨u, _, rfl⟩ := List.mem_map.mp hp
      cases kp
    exact ⟨dy, t2, us, e2, fun p hp => g _ _ (apart p hp) (k2 p hp)⟩
theorem ok_Rule_r {f : Addr} {fd : FuncData} (F : Fun K "rows" "Rule.rows" s_Rule_rows f fd) (T : RClass K mg CR) : FnOk P w K mg base CX0 1 f fd ["self"] (sp_rrows CR) := by
  refine F.ok sc_Rule_rows (fun vs H Q E h => ?_) (fun cdv A outer s H vs Q E hr h => ?_)
  · obtain ⟨_, _, _, _, rfl, _⟩ := h
    rfl
  · obtain ⟨a, dx, ts, tr, rfl, ha, k⟩ := h
    refine ⟨_, (pss_one (ps_ret (pe_fld (pv 0) rfl))), ?_⟩
    exact ⟨_, rfl, a, CR, dx, _, _, rfl, ha, T.x.cl, T.n2, ruleF_r _ _, k⟩
theorem ok_Rule_l {f : Addr} {fd : FuncData} (F : Fun K "__len__" "Rule.__len__" s_Rule___len__ f fd) (T : RClass K mg CR) (B : Blt mg) : FnOk P w K mg base CX0 1 f fd ["self"] (sp_rlen CR CS) := by
  refine F.ok sc_Rule___len__ (fun vs H Q E h => ?_) (fun cdv A outer s H vs Q E hr h => ?_)
  · obtain ⟨_, _, rfl, _⟩ := h
    rfl
  · obtain ⟨a, sts, rfl, ⟨dx, ts, tr, tl, ha, _, _, er⟩, k⟩ := h
    refine ⟨_, (pss_one (ps_ret (pe_callB call_len_seq (by rfl) B.b_len (by decide +kernel) (pa_cons (pe_fld (pv 0) rfl) pa_nil)))), ?_⟩
    refine ⟨_, rfl, a, CR, dx, _, _, rfl, ha, T.x.cl, T.n2, ruleF_r _ _, tr, _, rfl, .inr (SqT.of er), ?_⟩
    rw [List.length_map, show (lines sts).length = sts.length from List.length_map _]
    exact k
theorem ok_Rule_s {f : Addr} {fd : FuncData} (F : Fun K "__str__" "Rule.__str__" s_Rule___str__ f fd) (T : RClass K mg CR) : FnOk P w K mg base CX0 1 f fd ["self"] (sp_rstr CR CS) := by
  refine F.ok sc_Rule___str__ (fun vs H Q E h => ?_) (fun cdv A outer s H vs Q E hr h => ?_)
  · obtain ⟨_, _, rfl, _⟩ := h
    rfl
  · obtain ⟨a, sts, rfl, ⟨dx, ts, tr, tl, ha, _, _, er⟩, ok, k⟩ := h
    refine ⟨_, (pss_one (ps_ret (pe_join pe_str (pe_fld (pv 0) rfl)))), ?_⟩
    have e3 : Str.length "\n" = 1 := by decide +kernel
    refine ⟨⟨_, rfl⟩, _, rfl, a, CR, dx, _, _, rfl, ha, T.x.cl, T.n2, ruleF_r _ _, _, tr, lines sts, rfl, rfl, .inr (SqT.of er), ?_, k⟩
    have h1 := ok.sum
    have h2 := ok.ln
    rw [show (lines sts).length = sts.length from List.length_map _, e3]
    omega
theorem ok_Rule_q {f : Addr} {fd : FuncData} (F : Fun K "__eq__" "Rule.__eq__" s_Rule___eq__ f fd) (T : RClass K mg CR) (B : Blt mg) : FnOk P w K mg base CX0 1 f fd ["self", "other"] (sp_req K CR CS) := by
  refine F.ok sc_Rule___eq__ (fun vs H Q E h => ?_) (fun cdv A outer s H vs Q E hr h => ?_)
  · obtain ⟨_, _, _, rfl, _⟩ := h
    rfl
  · obtain ⟨a, y, sts, rfl, ⟨dx, ts, tr, tl, ha, _, _, er⟩, ok, k⟩ := h
    refine ⟨_, (pss_one (ps_ret (pe_and (pe_callB call_isi (by rfl) B.b_isinstance (by decide +kernel) (pa_cons (pv 1) (pa_cons (pe_gC T.k) pa_nil))) (pe_one (pe_cmpR (op_eqD hr.units) (pe_fld (pv 0) rfl) (pe_fld (pv 1) rfl) (nomark _)))))), ?_⟩
    rcases k with ⟨b, rts, rfl, ⟨dy, ts2, tr2, tl2, hb, _, _, er2⟩, ok2, k⟩ | ⟨t, ty, kt, k⟩
    · refine ⟨_, rfl, _, _, _, .ref CR, true, rfl, .own CR, T.x.ty hb, T.me, true, rfl, iteT ?_⟩
      refine ⟨_, rfl, a, CR, dx, _, _, rfl, ha, T.x.cl, T.n2, ruleF_r _ _, _, rfl, b, CR, dy, _, _, rfl, hb, T.x.cl, T.n2, ruleF_r _ _, dL (lines sts), dL (lines rts), dp_dL er, dp_dL er2, shaped_dL fun z hz => strOk_128 (ok.line z hz).2.1, shaped_dL fun z hz => strOk_128 (ok2.line z hz).2.1, ?_⟩
      rw [eqv_dL]
      exact k
    · exact ⟨_, rfl, _, _, t, .ref CR, false, rfl, .own CR, ty, kt, false, rfl, iteF k⟩
theorem ok_Rule_rd {f : Addr} {fd : FuncData} (F : Fun K "read" "Rule.read" s_Rule_read f fd) (T : Blt mg) (T2 : Blt2 mg) (h_Rule : Mkr P w K mg base "Rule" CR 14 (Irr (sp_Rule CR CS)) []) : FnOk P w K mg base CX0 16 f fd ["cls", "text"] (sp_rread CR CS) := by
  refine F.ok sc_Rule_read (fun vs H Q E h => ?_) (fun cdv A outer s H vs Q E hr h => ?_)
  · obtain ⟨_, rfl, _⟩ := h
    rfl
  · obtain ⟨sts, rfl, ok, k⟩ := h
    refine ⟨_, (pss_cons (ps_if (pt_not (pt_val (pe_callB call_isi (by rfl) T.b_isinstance (by decide +kernel) (pa_cons (pv 1) (pa_cons (pe_bltn (v := .ty "str") (by rfl) T.b_str (by decide +kernel) rfl) pa_nil))))) (pss_one ps_never) pss_nil)
      (pss_one (ps_try_thru0 (pss_one (ps_ret (pe_mkL (i := 0) h_Rule (hr.mono (by decide)) rfl (Or.inl rfl) (pa_cons (pe_callTy call_tuple_of (by rfl) T2.b_tuple (by decide +kernel) (pa_cons (pe_split (pv 1) pe_str) pa_nil)) pa_nil))))))), ?_⟩
    refine ⟨_, rfl, _, _, .type "str", .type "str", true, rfl, .ty _, .base (.str _), kit_ty (by decide +kernel), true, rfl, iteF ?_⟩
    refine ⟨rfl, _, rfl, ⟨_, rfl⟩, _, _, rfl, rfl, by decide +kernel, Nat.le_trans (Nat.add_le_add_right ok.len 2) (by decide), fun p hp => ?_⟩
    rw [ok.cut]
    refine ⟨p, _, rfl, .inl ⟨SqL.of upd_same, fun l hl => ?_⟩⟩
    have s1 : Same H (upd H p (.lst ((lines sts).map V.str))) := fun b o e => (upd_ne (ne_of_none e hp)).trans e
    have s2 : Same H (upd (upd H p (.lst ((lines sts).map V.str))) l (.tup ((lines sts).map V.str))) := fun b o e => (upd_ne (ne_of_none (s1 _ _ e) hl)).trans (s1 _ _ e)
    exact fun x dx hx hd ne => Rule_kp upd_same ok hx hd ne fun H' s' rr => k x H' (fun b o e => s' _ _ (s2 _ _ e)) rr
theorem ok_Rule_m {f : Addr} {fd : FuncData} (F : Fun K "meters" "Rule.meters" s_Rule_meters f fd) (T : RClass K mg CR) (B : Blt mg) (T2 : Blt2 mg) (h_terms : Prp P w K mg base CS "terms" 1 (Irr (sp_terms CS))) : FnOk P w K mg base CX0 3 f fd ["self"] (sp_rmet CR CS) := by
  refine F.ok sc_Rule_meters (fun vs H Q E h => ?_) (fun cdv A outer s H vs Q E hr h => ?_)
  · obtain ⟨_, _, rfl, _⟩ := h
    rfl
  · obtain ⟨a, sts, rfl, ⟨dx, ts, tr, tl, ha, et, rs, er⟩, ok, k⟩ := h
    refine ⟨_, (pss_one (ps_ret (pe_callTy call_tuple_of (by rfl) T2.b_tuple (by decide +kernel) (pa_cons (pe_callB (cr_sortS rfl) (by rfl) T2.b_sorted (by decide +kernel) (pa_cons
      (pe_set3 (own := [("step", 1), ("total", 2), ("term", 3)]) (ws := [2, 3]) (us := [3]) (g := gName 1) (g1 := gName 2) (g2 := gName 3) (tt := tYes) (tt1 := tYes) (tt2 := tYes) rfl sc_Rule_meters.nd (pi_tup (pe_fld (pv 0) rfl)) (blkOk_by (N := sc_Rule_meters_N) (sc := defScope s_Rule_meters) (by decide +kernel)) (by decide) (by decide) (fun _ _ _ _ _ => pg_name (i := 1) sc_Rule_meters.nd rfl (Or.inl rfl)) (fun _ _ _ _ _ => pts_nil)
        (fun _ _ _ _ _ => pi_tupK (K := K) (pe_ix (ix_tupK (K := K)) (pv 1) pe_int (fun _ _ => rfl))) (fun _ _ _ _ _ => pg_name (i := 2) sc_Rule_meters.nd rfl (Or.inl rfl)) (fun _ _ _ _ _ => pts_nil)
        (fun _ _ _ _ _ => pi_tupK (K := K) (pe_propN h_terms (hr.mono (by decide)) (pv 2))) (fun _ _ _ _ _ => pg_name (i := 3) sc_Rule_meters.nd rfl (Or.inl rfl)) (fun _ _ _ _ _ => pts_nil) (fun _ _ _ _ _ => pe_ix (ix_tupK (K := K)) (pv 3) pe_int (fun _ _ => rfl))) pa_nil)) pa_nil)))), ?_⟩
    refine ⟨_, rfl, a, CR, dx, _, _, rfl, ha, T.x.cl, T.n1, ruleF_s _ _, ?_⟩
    refine ⟨ts, rfl, ⟨_, SqT.of et⟩, fun D nD => ?_⟩
    have e0 : ∀ (σ : L2.St) (H : Hp) (R : Bool → Hp → Prop), R true H → tYes σ H R := fun _ _ _ r => r
    have s0 : Same H (upd H D (SetT P w D (fun _ => false) 0)) := fun b o e => (upd_ne (ne_of_none e nD)).trans e
    refine cl_walk (walk_tup (xs := tl.map V.ref)) (fun i H' => ∃ (S : Str → Bool) (n : Nat), Sb D (upd H D (SetT P w D (fun _ => false) 0)) H' ∧ H' D = some (SetT P w D S n) ∧ n ≤ (namesS (sts.take i)).length ∧ ∀ z, S z = true ↔ z ∈ namesS (sts.take i)) ⟨_, 0, Sb.refl _, upd_same, Nat.zero_le _, fun z => by simp [namesS]⟩ ?_ ?_ ?_
    · rintro i H' _ ⟨_, _, sb, _⟩
      exact (SqT.of et).ext (Sb.same s0 nD sb)
    · rintro i v Ha Hb hi ⟨S, n, sb, hD, hn, hS⟩ ⟨rfl, hx⟩
      rw [List.getElem?_map] at hx
      cases hu : tl[i]? with
      | none => rw [hu] at hx; cases hx
      | some t =>
      rw [hu] at hx
      obtain rfl := Option.some.inj hx
      rw [List.length_map, rs.len] at hi
      have hs : sts[i]? = some sts[i] := List.getElem?_eq_getElem hi
      have sab := Sb.same s0 nD sb
      obtain ⟨u, xs, e1, e2, sm⟩ := rs.each i t _ hu hs
      dsimp only [gName]
      refine ⟨rfl, e0 _ _ _ ?_⟩
      simp only [↓reduceIte]
      refine ⟨_, rfl, t, _, 2, _, rfl, rfl, SqT.of (sab _ _ e1), rfl, u, rfl, ⟨_, SqT.of (sab _ _ e2)⟩, ?_⟩
      refine cl_walk (walk_tup (xs := xs.map V.ref)) (fun j H' => ∃ (S : Str → Bool) (n : Nat), Sb D Hb H' ∧ H' D = some (SetT P w D S n) ∧ n ≤ (namesS (sts.take i) ++ ((sumS sts[i]).take j).flatMap fun p => p.map (·.1)).length ∧ ∀ z, S z = true ↔ z ∈ namesS (sts.take i) ++ ((sumS sts[i]).take j).flatMap fun p => p.map (·.1)) ⟨S, n, Sb.refl _, hD, by simpa using hn, fun z => by simp [hS]⟩ ?_ ?_ ?_
      · rintro j H' _ ⟨_, _, sb1, _⟩
        exact SqT.of ((Sb.same s0 nD (sb.trans sb1)) _ _ e2)
      · rintro j v Hc Hd hj ⟨S1, n1, sb1, hD1, hn1, hS1⟩ ⟨rfl, hv⟩
        rw [List.getElem?_map] at hv
        cases hy : xs[j]? with
        | none => rw [hy] at hv; cases hv
        | some y =>
        rw [hy] at hv
        obtain rfl := Option.some.inj hv
        rw [List.length_map, sm.len] at hj
        have hq : (sumS sts[i])[j]? = some (sumS sts[i])[j] := List.getElem?_eq_getElem hj
        have sac := Sb.same s0 nD (sb.trans sb1)
        obtain ⟨dy, t2, us, e3, ky⟩ := (sm.each j y _ hy hq).ext sac
        dsimp only [gName]
        refine ⟨rfl, e0 _ _ _ ?_⟩
        simp only [↓reduceIte]
        refine ⟨_, rfl, y, dy, _, rfl, ky _ List.mem_cons_self, irr ⟨y, dy, t2, us, rfl, ky, t2, rfl, ⟨_, SqT.of (ky _ (List.mem_cons_of_mem _ List.mem_cons_self))⟩, ?_⟩⟩
        have kp : ∀ u ∈ us, Hd u.1 = some (oP u.2) := fun u hu => ky _ (List.mem_cons_of_mem _ (List.mem_cons_of_mem _ (List.mem_map.mpr ⟨u, hu, rfl⟩)))
        refine cl_walk (walk_tup (xs := vP us)) (fun m H' => ∃ (S : Str → Bool) (n : Nat), Sb D Hd H' ∧ H' D = some (SetT P w D S n) ∧ n ≤ (namesS (sts.take i) ++ ((sumS sts[i]).take j).flatMap (fun p => p.map (·.1)) ++ ((prs us).take m).map (·.1)).length ∧ ∀ z, S z = true ↔ z ∈ namesS (sts.take i) ++ ((sumS sts[i]).take j).flatMap (fun p => p.map (·.1)) ++ ((prs us).take m).map (·.1)) ⟨S1, n1, Sb.refl _, hD1, by simpa using hn1, fun z => by simp [hS1]⟩ ?_ ?_ ?_
        · rintro m H' _ ⟨_, _, sb2, hD2, _⟩
          have t2D : t2 ≠ D := fun z => by
            have := ky _ (List.mem_cons_of_mem _ List.mem_cons_self)
            dsimp only at this
            rw [z, hD1] at this
            cases this
          exact SqT.of (sb2 _ _ t2D (ky _ (List.mem_cons_of_mem _ List.mem_cons_self)))
        · rintro m v Hf Hg hm ⟨S2, n2, sb2, hD2, hn2, hS2⟩ ⟨rfl, hv⟩
          rw [vP, List.getElem?_map] at hv
          cases hu3 : us[m]? with
          | none => rw [hu3] at hv; cases hv
          | some u3 =>
          rw [hu3] at hv
          obtain rfl := Option.some.inj hv
          have k3 := kp u3 (List.mem_of_getElem? hu3)
          have u3D : u3.1 ≠ D := fun z => by rw [z, hD1] at k3; cases k3
          have k4 := sb2 _ _ u3D k3
          dsimp only [gName]
          refine ⟨rfl, e0 _ _ _ ?_⟩
          simp only [↓reduceIte]
          have et3 : ((prs us).take (m + 1)).map (·.1) = ((prs us).take m).map (·.1) ++ [u3.2.1] := by
            rw [List.take_add_one, prs, List.getElem?_map, hu3, List.map_append]
            rfl
          refine ⟨_, rfl, u3.1, _, 0, _, rfl, rfl, SqT.of k4, rfl, u3.2.1, S2, n2, rfl, hD2, ?_, fun n' hn' => ⟨_, n', fun b o ne e => (upd_ne ne).trans (sb2 b o ne e), upd_same, ?_, fun z => ?_⟩⟩
          · have := pre_len ok hs hq m
            rw [← e3] at this
            simp only [List.length_append] at hn2 this
            omega
          · rw [et3]
            simp only [List.length_append, List.length_cons, List.length_nil] at hn2 ⊢
            omega
          · rw [et3, Bool.or_eq_true, decide_eq_true_eq, hS2 z]
            simp only [List.mem_append, List.mem_singleton, or_assoc]
        · rintro H' ⟨S2, n2, sb2, hD2, hn2, hS2⟩
          have etj : ((sumS sts[i]).take (j + 1)).flatMap (fun p => p.map (·.1)) = ((sumS sts[i]).take j).flatMap (fun p => p.map (·.1)) ++ (prs us).map (·.1) := by
            rw [List.take_add_one, hq, List.flatMap_append, e3]
            simp
          rw [vP_len, ← prs_len, List.take_length] at hn2 hS2
          refine ⟨S2, n2, sb1.trans sb2, hD2, ?_, fun z => ?_⟩
          · rw [etj, ← List.append_assoc]
            exact hn2
          · rw [etj, ← List.append_assoc]
            exact hS2 z
      · rintro H' ⟨S1, n1, sb1, hD1, hn1, hS1⟩
        rw [List.length_map, sm.len, List.take_length] at hn1 hS1
        have eti : namesS (sts.take (i + 1)) = namesS (sts.take i) ++ (sumS sts[i]).flatMap fun p => p.map (·.1) := by
          rw [List.take_add_one, hs, namesS, namesS, List.flatMap_append]
          simp
        refine ⟨S1, n1, sb.trans sb1, hD1, ?_, fun z => ?_⟩
        · rw [eti]
          exact hn1
        · rw [eti]
          exact hS1 z
    · rintro H' ⟨S, n, sb, hD, hn, hS⟩
      rw [List.length_map, rs.len, List.take_length] at hn hS
      refine ⟨D, S, n, rfl, hD, fun xs p h1 h2 h3 h4 np => ?_⟩
      refine ⟨p, xs.map V.str, rfl, .inl ⟨SqL.of upd_same, fun l nl => ?_⟩⟩
      have sH := Sb.same s0 nD sb
      have sA : Same H (upd H' p (.lst (xs.map V.str))) := fun b o e => (upd_ne (ne_of_none (sH _ _ e) np)).trans (sH _ _ e)
      exact k l xs _ (fun b o e => (upd_ne (ne_of_none (sA _ _ e) nl)).trans (sA _ _ e)) upd_same ⟨h1, h2, fun z => (h3 z).trans (hS z)⟩
end
end RV
/-! k47: the names of drawn steps -/
namespace RV
open PySem L2 TL
section
variable {P : Program} {w : World} {K : PySem.W.Frag} {mg : Str → Option Value} {base : Heap}
theorem nm_tail {X : List Addr} {l lf t ls : Addr} {lq : List Addr} {qss : List Prs} {xs0 : List Str} {o4 o5 : Option V} {H2 : Hp} (D : Ends) (els : H2 ls = some (.lst (lq.map V.ref))) (sl : SumsL X H2 lq qss) (elf : H2 lf = some (.lst (xs0.map V.str))) (q3 : ∀ p ∈ qss, p.length ≤ 3) (q10 : qss.length ≤ 10) (x0 : xs0.length ≤ 1000)
    (done : ∀ lf' H' o4' o5', Same H2 H' → H' lf' = some (.lst ((xs0 ++ qss.flatMap fun p => p.map (·.1)).map V.str)) → D.nx [some (.ref l), some (.ref lf'), some (.ref t), some (.ref ls), o4', o5'] H') :
    tFor (iList K (tVar 3)) (gName 4) (tAsg (tOp rCat (tVar 1) (tLc (iList K (tVar 4)) (gName 5) tYes (tOp (rIxT K) (tVar 5) (tC (V.int 0))) [5])) (gName 1)) D [some (.ref l), some (.ref lf), some (.ref t), some (.ref ls), o4, o5] H2 := by
  have ll := sl.len
  refine ⟨_, rfl, ls, rfl, ⟨_, SqL.of els⟩, for_list (xs := lq.map V.ref) (fun i σ H' => (∃ lf' o4' o5', σ = [some (.ref l), some (.ref lf'), some (.ref t), some (.ref ls), o4', o5'] ∧ H' lf' = some (.lst ((xs0 ++ (qss.take i).flatMap fun p => p.map (·.1)).map V.str))) ∧ Same H2 H') ⟨⟨lf, o4, o5, rfl, by simpa using elf⟩, Same.refl _⟩ (fun i σ H' _ h => SqL.of (h.2 _ _ els)) ?_ ?_⟩
  · rintro i y σ H3 hy ⟨⟨lf1, o4', o5', rfl, e1⟩, s1⟩
    rw [List.getElem?_map] at hy
    cases hu : lq[i]? with
    | none => rw [hu] at hy; cases hy
    | some l4 =>
    rw [hu] at hy
    obtain rfl := Option.some.inj hy
    have hi : i < qss.length := by
      rw [← ll]
      exact (List.getElem?_eq_some_iff.mp hu).1
    obtain ⟨q, hq⟩ : ∃ q, qss[i]? = some q := ⟨_, List.getElem?_eq_getElem hi⟩
    obtain ⟨us, ⟨_, eu⟩, rfl, ku⟩ := (sl.at i l4 q hu hq).grow (GroX.same s1)
    have u3 := q3 _ (List.mem_of_getElem? hq)
    rw [prs_len] at u3
    dsimp only [gName]
    refine ⟨_, rfl, _, rfl, l4, rfl, ⟨_, SqL.of eu⟩, fun D4 nD4 => lc_to (xs := vP us) (((prs us).map (·.1)).map V.str) (by rw [List.length_map, List.length_map, prs_len, vP_len]) walk_list nD4 (by rw [vP_len]; omega) (fun H' s' => SqL.of (s' _ _ eu)) (fun _ => rfl) (fun j v y hv hy H4 s4 R kR => ?_) fun H4 s4 eD => ?_⟩
    · rw [vP, List.getElem?_map] at hv
      rw [List.getElem?_map, List.getElem?_map, prs, List.getElem?_map] at hy
      cases hj : us[j]? with
      | none => rw [hj] at hv; cases hv
      | some u =>
      rw [hj] at hv hy
      obtain rfl := Option.some.inj hv
      obtain rfl := Option.some.inj hy
      have ku' := (ku u (List.mem_of_getElem? hj)).2
      exact ⟨_, rfl, u.1, _, 0, _, rfl, rfl, SqT.of (s4 _ _ ku'), rfl, kR H4 (Same.refl _)⟩
    · have fl : ((qss.take i).flatMap fun p => p.map (·.1)).length ≤ 30 := by
        have g1 : ∀ ps : List Prs, (∀ p ∈ ps, p.length ≤ 3) → (ps.flatMap fun p => p.map (·.1)).length ≤ 3 * ps.length := by
          intro ps
          induction ps with
          | nil => intro _; exact Nat.le_refl _
          | cons p ps ih =>
            intro h
            have a := h p List.mem_cons_self
            have b := ih fun y hy => h y (List.mem_cons_of_mem _ hy)
            rw [List.flatMap_cons, List.length_append, List.length_map, List.length_cons]
            omega
        have := g1 (qss.take i) fun p hp => q3 p (List.mem_of_mem_take hp)
        rw [List.length_take] at this
        omega
      refine ⟨lf1, D4, _, _, rfl, rfl, s4 _ _ e1, eD, ?_, fun lo nlo => ⟨⟨lo, _, _, rfl, ?_⟩, ?_⟩⟩
      · simp only [List.length_map, List.length_append, prs_len]
        exact Nat.le_trans (show _ ≤ 2000 by omega) (by decide)
      · rw [upd_same, List.take_add_one, hq, List.flatMap_append, ← List.append_assoc, List.map_append (l₁ := xs0 ++ _)]
        simp
      · exact fun b o e => (upd_ne (ne_of_none (s4 _ _ (s1 _ _ e)) nlo)).trans (s4 _ _ (s1 _ _ e))
  · rintro σ H3 ⟨⟨lf1, o4', o5', rfl, e1⟩, s1⟩
    rw [List.length_map, ll, List.take_length] at e1
    exact done _ _ _ _ s1 e1
theorem ok_nmof {f : Addr} {fd : FuncData} (F : Fun K "_law_names_of" "_law_names_of" s_names_of f fd) (T : Blt mg) (T2 : Blt2 mg) : FnOk P w K mg base CX0 2 f fd ["_law_steps_here"] sp_nmof := by
  refine F.ok sc_names_of (fun vs H Q E h => ?_) (fun cdv A outer s H vs Q E hr h => ?_)
  · obtain ⟨_, _, _, _, rfl, _⟩ := h
    rfl
  · obtain ⟨l, tl, sts, X, rfl, el, sl, ok, k⟩ := h
    refine ⟨_, (pss_cons (ps_set (i := 1) sc_names_of.nd rfl (Or.inl rfl) (pe_lst pa_nil))
      (pss_cons (ps_for PassesOwn.never rfl (pi_list (pv 0)) (pg_name (i := 2) sc_names_of.nd rfl (Or.inl rfl)) (pss_cons (ps_set (i := 3) sc_names_of.nd rfl (Or.inl rfl) (pe_ifExp (pt_cmpR op_eq (pe_ix ix_tup (pv 2) pe_int (fun _ _ => rfl)) pe_str (nomark _)) (pe_lst (pa_cons (pe_ix ix_tup (pv 2) pe_int (fun _ _ => rfl)) (pa_cons (pe_ix ix_tup (pv 2) pe_int (fun _ _ => rfl)) pa_nil))) (pe_lst pa_nil))) (pss_cons (ps_set (i := 3) sc_names_of.nd rfl (Or.inl rfl) (pe_ifExp (pt_cmpR op_eq (pe_ix ix_tup (pv 2) pe_int (fun _ _ => rfl)) pe_str (nomark _)) (pe_ix ix_tup (pv 2) pe_int (fun _ _ => rfl)) (pv 3))) (pss_cons (ps_set (i := 3) sc_names_of.nd rfl (Or.inl rfl) (pe_ifExp (pt_cmpR op_eq (pe_ix ix_tup (pv 2) pe_int (fun _ _ => rfl)) pe_str (nomark _)) (pe_lst (pa_cons (pe_ix ix_tup (pv 2) pe_int (fun _ _ => rfl)) pa_nil)) (pv 3))) (pss_one (ps_for PassesOwn.never rfl (pi_list (pv 3)) (pg_name (i := 4) sc_names_of.nd rfl (Or.inl rfl)) (pss_one (ps_set (i := 1) sc_names_of.nd rfl (Or.inl rfl) (pe_op op_cat (pv 1) (pe_lc (own := [("_law_pair", 5)]) (g := gName 5) (tt := tYes) rfl sc_names_of.nd (pi_list (pv 4)) (blkOk_by (N := sc_names_of_N) (sc := defScope s_names_of) (by decide +kernel)) (fun _ _ _ _ _ => pg_name (i := 5) sc_names_of.nd rfl (Or.inl rfl)) (fun _ _ _ _ _ => pts_nil) (fun _ _ _ _ _ => (pe_ix (ix_tupK (K := K)) (pv 5) pe_int (fun _ _ => rfl)))))))))))))
      (pss_one (ps_ret (pe_callTy call_tuple_of (by rfl) T2.b_tuple (by decide +kernel) (pa_cons (pe_callB (cr_sortS rfl) (by rfl) T2.b_sorted (by decide +kernel) (pa_cons (pe_callTy (cr_setS rfl) (by rfl) T2.b_set (by decide +kernel) (pa_cons (pv 1) pa_nil)) pa_nil)) pa_nil)))))), ?_⟩
    refine ⟨by decide, fun lf nlf => ?_⟩
    have s0 : Same H (upd H lf (.lst [])) := fun b o e => (upd_ne (ne_of_none e nlf)).trans e
    dsimp only [gName]
    refine ⟨_, rfl, l, rfl, ⟨_, SqL.of (s0 _ _ el)⟩, for_list (xs := tl.map V.ref) (fun i σ H' => (∃ lf o2 o3 o4 o5, σ = [some (.ref l), some (.ref lf), o2, o3, o4, o5] ∧ H' lf = some (.lst ((namesS (sts.take i)).map V.str))) ∧ Same H H') ⟨⟨lf, none, none, none, none, rfl, upd_same⟩, s0⟩ (fun i σ H' _ h => SqL.of (h.2 _ _ el)) ?_ ?_⟩
    · rintro i y σ H1 hy ⟨⟨lf1, o2, o3, o4, o5, rfl, e1⟩, s1⟩
      rw [List.getElem?_map] at hy
      cases hu : tl[i]? with
      | none => rw [hu] at hy; cases hy
      | some t =>
      rw [hu] at hy
      obtain rfl := Option.some.inj hy
      have hi : i < sts.length := by
        rw [← sl.len]
        exact (List.getElem?_eq_some_iff.mp hu).1
      obtain ⟨st, hs⟩ : ∃ st, sts[i]? = some st := ⟨_, List.getElem?_eq_getElem hi⟩
      have st1 : StpL X H1 t st := (sl.each i t st hu hs).grow (GroX.same s1)
      dsimp only [gName]
      have d := ok.ok i st hs
      have nmi := names_take hs
      have nlen : (namesS (sts.take i)).length ≤ 1000 := by
        have := names_len ok
        have e : namesS sts = namesS (sts.take i) ++ namesS (sts.drop i) := by
          rw [namesS, namesS, namesS, ← List.flatMap_append, List.take_append_drop]
        rw [e, List.length_append] at this
        omega
      have q3 : ∀ p ∈ sumS st, p.length ≤ 3 := fun p hp => (d.sums.1 p hp).l
      have q10 := d.sums.2
      cases st with
      | ifS p q g =>
        obtain ⟨l1, l2, _, et, a1, a2⟩ := st1
        refine ⟨_, rfl, t, _, 0, _, rfl, rfl, SqT.of et, rfl, rfl, _, rfl, ?_⟩
        rw [decide_eq_true rfl]
        refine iteT ⟨_, rfl, t, _, 1, _, rfl, rfl, SqT.of et, rfl, _, rfl, t, _, 2, _, rfl, rfl, SqT.of et, rfl, (by show 2 ≤ sizeLine; decide), fun ls nls => ?_⟩
        have s2 : Same H1 (upd H1 ls (.lst [.ref l1, .ref l2])) := fun b o e => (upd_ne (ne_of_none e nls)).trans e
        refine ⟨_, rfl, t, _, 0, _, rfl, rfl, SqT.of (s2 _ _ et), rfl, rfl, _, rfl, ?_⟩
        rw [decide_eq_false (show ¬ V.str "if" = V.str "vote" by decide)]
        refine iteF ⟨_, rfl, ?_⟩
        refine ⟨_, rfl, t, _, 0, _, rfl, rfl, SqT.of (s2 _ _ et), rfl, rfl, _, rfl, ?_⟩
        rw [decide_eq_false (show ¬ V.str "if" = V.str "tell" by decide)]
        refine iteF ⟨_, rfl, ?_⟩
        refine nm_tail (X := X) (lq := [l1, l2]) (qss := [p, q]) _ upd_same ⟨a1.grow (GroX.same s2), a2.grow (GroX.same s2), trivial⟩ (s2 _ _ e1) q3 q10 nlen fun lf' H' o4' o5' s' e' => ⟨⟨lf', _, _, _, _, rfl, ?_⟩, fun b o e => s' _ _ (s2 _ _ (s1 _ _ e))⟩
        rw [nmi]
        exact e'
      | voteS n ss =>
        obtain ⟨lv, lq, _, et, ⟨_, ev⟩, a1⟩ := st1
        refine ⟨_, rfl, t, _, 0, _, rfl, rfl, SqT.of et, rfl, rfl, _, rfl, ?_⟩
        rw [decide_eq_false (show ¬ V.str "vote" = V.str "if" by decide)]
        refine iteF ⟨by decide, fun ls nls => ?_⟩
        have s2 : Same H1 (upd H1 ls (.lst [])) := fun b o e => (upd_ne (ne_of_none e nls)).trans e
        refine ⟨_, rfl, t, _, 0, _, rfl, rfl, SqT.of (s2 _ _ et), rfl, rfl, _, rfl, ?_⟩
        rw [decide_eq_true rfl]
        refine iteT ⟨_, rfl, t, _, 2, _, rfl, rfl, SqT.of (s2 _ _ et), rfl, ?_⟩
        refine ⟨_, rfl, t, _, 0, _, rfl, rfl, SqT.of (s2 _ _ et), rfl, rfl, _, rfl, ?_⟩
        rw [decide_eq_false (show ¬ V.str "vote" = V.str "tell" by decide)]
        refine iteF ⟨_, rfl, ?_⟩
        refine nm_tail (X := X) (lq := lq) (qss := ss) _ (s2 _ _ ev) (a1.grow (GroX.same s2)) (s2 _ _ e1) q3 q10 nlen fun lf' H' o4' o5' s' e' => ⟨⟨lf', _, _, _, _, rfl, ?_⟩, fun b o e => s' _ _ (s2 _ _ (s1 _ _ e))⟩
        rw [nmi]
        exact e'
      | tellS p =>
        obtain ⟨l1, _, et, a1⟩ := st1
        refine ⟨_, rfl, t, _, 0, _, rfl, rfl, SqT.of et, rfl, rfl, _, rfl, ?_⟩
        rw [decide_eq_false (show ¬ V.str "tell" = V.str "if" by decide)]
        refine iteF ⟨by decide, fun ls0 nls0 => ?_⟩
        have s2 : Same H1 (upd H1 ls0 (.lst [])) := fun b o e => (upd_ne (ne_of_none e nls0)).trans e
        refine ⟨_, rfl, t, _, 0, _, rfl, rfl, SqT.of (s2 _ _ et), rfl, rfl, _, rfl, ?_⟩
        rw [decide_eq_false (show ¬ V.str "tell" = V.str "vote" by decide)]
        refine iteF ⟨_, rfl, ?_⟩
        refine ⟨_, rfl, t, _, 0, _, rfl, rfl, SqT.of (s2 _ _ et), rfl, rfl, _, rfl, ?_⟩
        rw [decide_eq_true rfl]
        refine iteT ⟨_, rfl, t, _, 1, _, rfl, rfl, SqT.of (s2 _ _ et), rfl, (by show 1 ≤ sizeLine; decide), fun ls nls => ?_⟩
        have s3 : Same (upd H1 ls0 (.lst [])) (upd (upd H1 ls0 (.lst [])) ls (.lst [.ref l1])) := fun b o e => (upd_ne (ne_of_none e nls)).trans e
        refine nm_tail (X := X) (lq := [l1]) (qss := [p]) _ upd_same ⟨(a1.grow (GroX.same s2)).grow (GroX.same s3), trivial⟩ (s3 _ _ (s2 _ _ e1)) q3 q10 nlen fun lf' H' o4' o5' s' e' => ⟨⟨lf', _, _, _, _, rfl, ?_⟩, fun b o e => s' _ _ (s3 _ _ (s2 _ _ (s1 _ _ e)))⟩
        rw [nmi]
        exact e'
      | doubtS =>
        obtain ⟨_, et⟩ := st1
        refine ⟨_, rfl, t, _, 0, _, rfl, rfl, SqT.of et, rfl, rfl, _, rfl, ?_⟩
        rw [decide_eq_false (show ¬ V.str "doubt" = V.str "if" by decide)]
        refine iteF ⟨by decide, fun ls nls => ?_⟩
        have s2 : Same H1 (upd H1 ls (.lst [])) := fun b o e => (upd_ne (ne_of_none e nls)).trans e
        refine ⟨_, rfl, t, _, 0, _, rfl, rfl, SqT.of (s2 _ _ et), rfl, rfl, _, rfl, ?_⟩
        rw [decide_eq_false (show ¬ V.str "doubt" = V.str "vote" by decide)]
        refine iteF ⟨_, rfl, ?_⟩
        refine ⟨_, rfl, t, _, 0, _, rfl, rfl, SqT.of (s2 _ _ et), rfl, rfl, _, rfl, ?_⟩
        rw [decide_eq_false (show ¬ V.str "doubt" = V.str "tell" by decide)]
        refine iteF ⟨_, rfl, ?_⟩
        refine nm_tail (X := X) (lq := []) (qss := []) _ upd_same trivial (s2 _ _ e1) q3 q10 nlen fun lf' H' o4' o5' s' e' => ⟨⟨lf', _, _, _, _, rfl, ?_⟩, fun b o e => s' _ _ (s2 _ _ (s1 _ _ e))⟩
        rw [nmi]
        exact e'
    · rintro σ H1 ⟨⟨lf1, o2, o3, o4, o5, rfl, e1⟩, s1⟩
      rw [List.length_map, sl.len, List.take_length] at e1
      have nl := names_len ok
      refine ⟨_, rfl, lf1, namesS sts, rfl, SqL.of e1, by omega, fun a n na hn => ?_⟩
      refine ⟨a, _, n, rfl, upd_same, fun xs p h1 h2 h3 h4 np => ?_⟩
      refine ⟨p, xs.map V.str, rfl, .inl ⟨SqL.of upd_same, fun t nt => ?_⟩⟩
      have g1 : Same H1 (upd H1 a (SetT P w a (fun x => decide (x ∈ namesS sts)) n)) := fun b o e => (upd_ne (ne_of_none e na)).trans e
      have g2 : Same H1 (upd (upd H1 a (SetT P w a (fun x => decide (x ∈ namesS sts)) n)) p (.lst (xs.map V.str))) := fun b o e => (upd_ne (ne_of_none (g1 _ _ e) np)).trans (g1 _ _ e)
      exact k t xs _ (fun b o e => (upd_ne (ne_of_none (g2 _ _ (s1 _ _ e)) nt)).trans (g2 _ _ (s1 _ _ e))) upd_same ⟨h1, h2, fun z => (h3 z).trans decide_eq_true_iff⟩
end
end RV
/-! k47: one draw -/
namespace RV
open PySem L2 TL
section
variable {P : Program} {w : World} {K : PySem.W.Frag} {mg : Str → Option Value} {base : Heap} {CR CS : Addr}
theorem ok_right47 {f : Addr} {fd : FuncData} (F : Fun K "_law_right" "_law_right" s_right f fd) (T : Blt mg) (T2 : Blt2 mg) (RC : RClass K mg CR) (RK : RKinds K CR)
    (h_take : Fn P w K mg base "_law_take" 1 ["_law_spring_here", "_law_many"] (Irr sp_dip)) (h_titles : Fn P w K mg base "_law_titles" 2 ["_law_spring_here", "_law_many"] (Irr sp_names))
    (h_steps : Fn P w K mg base "_law_steps" 6 ["_law_spring_here", "_law_tags", "_law_many", "_law_wide"] (Irr sp_steps)) (h_line : Fn P w K mg base "_law_line" 2 ["_law_step"] (Irr sp_lineS)) (h_names_of : Fn P w K mg base "_law_names_of" 2 ["_law_steps_here"] (Irr sp_nmof))
    (h_Rule : Mkr P w K mg base "Rule" CR 14 (Irr (sp_Rule CR CS)) []) (h_RuleK : MkrK P w K mg base "Rule" CR 14 0 ["rows"] (Irr (sp_Rule CR CS)) gS) (h_read : ClsM P w K mg base CR "read" 16 ["cls", "text"] (Irr (sp_rread CR CS)))
    (h_rows : Prp P w K mg base CR "rows" 1 (Irr (sp_rrows CR))) (h_meters : Prp P w K mg base CR "meters" 3 (Irr (sp_rmet CR CS))) (h_len : OwnM P w K mg base CR "__len__" 1 (Irr (sp_rlen CR CS))) (h_str : OwnM P w K mg base CR "__str__" 1 (Irr (sp_rstr CR CS)))
    (o_R : OwnEq P w K mg base CR 1 (sp_req K CR CS)) (nb : PySem.W.findIn K (.ref CR) "__bool__" = some none) : FnG P w K mg base 18 f fd ["_law_spring_here"] sp_right47 := by
  refine gFun F sc_right (fun vs H Q E h => ?_) (fun cdv A outer s H vs Q E gs hr h => ?_)
  · obtain ⟨_, _, rfl, _⟩ := h
    rfl
  · obtain ⟨a, n, rfl, wl, hn, k⟩ := h
    refine ⟨_, (pss_cons (ps_set (i := 1) sc_right.nd rfl (Or.inl rfl) (pe_fn h_titles (hr.mono (by decide)) (pa_cons (pv 0) (pa_cons (pe_op op_add pe_int (pe_fn h_take (hr.mono (by decide)) (pa_cons (pv 0) (pa_cons pe_int pa_nil)))) pa_nil))))
      (pss_cons (ps_par (i := 2) (j := 3) (by rfl) sc_right.nd rfl rfl (by decide) rfl rfl (pa_cons (pe_fn h_steps (hr.mono (by decide)) (pa_cons (pv 0) (pa_cons (pv 1) (pa_cons pe_int (pa_cons (pe_op op_add (pe_op op_pow pe_int pe_int) pe_int) pa_nil))))) (pa_cons (pe_fn h_steps (hr.mono (by decide)) (pa_cons (pv 0) (pa_cons (pv 1) (pa_cons pe_int (pa_cons pe_int pa_nil))))) pa_nil)) (by rfl))
      (pss_cons (ps_par (i := 4) (j := 5) (by rfl) sc_right.nd rfl rfl (by decide) rfl rfl (pa_cons (pe_callTy call_tuple_of (by rfl) T2.b_tuple (by decide +kernel) (pa_cons (pe_lc (own := [("_law_step", 16)]) (g := gName 16) (tt := tYes) rfl sc_right.nd (pi_list (pv 2)) (blkOk_by (N := sc_right_N) (sc := defScope s_right) (by decide +kernel)) (fun _ _ _ _ _ => pg_name (i := 16) sc_right.nd rfl (Or.inl rfl)) (fun _ _ _ _ _ => pts_nil) (fun _ _ _ _ _ => (pe_fn h_line (hr.mono (by decide)) (pa_cons (pv 16) pa_nil)))) pa_nil)) (pa_cons (pe_callTy call_tuple_of (by rfl) T2.b_tuple (by decide +kernel) (pa_cons (pe_lc (own := [("_law_step", 16)]) (g := gName 16) (tt := tYes) rfl sc_right.nd (pi_list (pv 3)) (blkOk_by (N := sc_right_N) (sc := defScope s_right) (by decide +kernel)) (fun _ _ _ _ _ => pg_name (i := 16) sc_right.nd rfl (Or.inl rfl)) (fun _ _ _ _ _ => pts_nil) (fun _ _ _ _ _ => (pe_fn h_line (hr.mono (by decide)) (pa_cons (pv 16) pa_nil)))) pa_nil)) pa_nil)) (by rfl))
      (pss_cons (ps_set (i := 6) sc_right.nd rfl (Or.inl rfl) (pe_callB (call_reprD hr.units gs) (by rfl) T.b_repr (by decide +kernel) (pa_cons (pe_lst (pa_cons (pv 4) (pa_cons (pe_fn h_names_of (hr.mono (by decide)) (pa_cons (pv 2) pa_nil)) (pa_cons (pe_callB call_len_seq (by rfl) T.b_len (by decide +kernel) (pa_cons (pv 4) pa_nil)) (pa_cons (pe_bm PySem.F.plainAttrs_str PySem.F.slot_str_join PySem.F.type_str_join mt_join pe_str (pa_cons (pv 4) pa_nil)) pa_nil))))) pa_nil)))
      (pss_cons (ps_par (i := 7) (j := 8) (by rfl) sc_right.nd rfl rfl (by decide) rfl rfl (pa_cons (pe_mk h_Rule (hr.mono (by decide)) (pa_cons (pv 4) pa_nil)) (pa_cons (pe_cm h_read (hr.mono (by decide)) (pe_gC RC.k) (pa_cons (pe_bm PySem.F.plainAttrs_str PySem.F.slot_str_join PySem.F.type_str_join mt_join pe_str (pa_cons (pv 4) pa_nil)) pa_nil)) pa_nil)) (by rfl))
      (pss_cons (ps_par (i := 9) (j := 10) (by rfl) sc_right.nd rfl rfl (by decide) rfl rfl (pa_cons (pe_mkK0 h_RuleK (hr.mono (by decide)) (pk_cons (pv 4) pk_nil)) (pa_cons (pe_mk h_Rule (hr.mono (by decide)) (pa_cons (pv 5) pa_nil)) pa_nil)) (by rfl))
      (pss_cons (ps_set (i := 11) sc_right.nd rfl (Or.inl rfl) (pe_mk h_Rule (hr.mono (by decide)) (pa_cons (pe_op op_catA (pe_slice sl_tup (pv 4) po_none (po_some (pe_un un_neg pe_int))) (pe_tup (pa_cons (pe_ifExp (pt_cmpR op_eq (pe_ix ix_tup (pv 4) (pe_un un_neg pe_int) (fun _ _ => rfl)) pe_str (nomark _)) pe_str pe_str) pa_nil))) pa_nil)))
      (pss_cons (ps_for PassesOwn.never rfl (pi_list (pe_lst (pa_cons (pv 7) (pa_cons (pv 8) (pa_cons (pv 9) (pa_cons (pv 7) pa_nil)))))) (pg_name (i := 12) sc_right.nd rfl (Or.inl rfl)) (pss_one (ps_if (pt_cmpR op_ne (pe_callB (call_reprD hr.units gs) (by rfl) T.b_repr (by decide +kernel) (pa_cons (pe_lst (pa_cons (pe_propN h_rows (hr.mono (by decide)) (pv 12)) (pa_cons (pe_propN h_meters (hr.mono (by decide)) (pv 12)) (pa_cons (pe_callB (call_lenO h_len (hr.mono (by decide))) (by rfl) T.b_len (by decide +kernel) (pa_cons (pv 12) pa_nil)) (pa_cons (pe_callTy (call_strO h_str (hr.mono (by decide))) (by rfl) T.b_str (by decide +kernel) (pa_cons (pv 12) pa_nil)) pa_nil))))) pa_nil)) (pv 6) (nomark _)) (pss_one (ps_ret pe_bl)) pss_nil)))
      (pss_cons (ps_set (i := 13) sc_right.nd rfl (Or.inl rfl) (pe_cmpR (op_eqD hr.units) (pv 4) (pv 5) (nomark _)))
      (pss_cons (ps_set (i := 14) sc_right.nd rfl (Or.inl rfl) (pe_lst (pa_cons (pe_cmpR (op_eqOK o_R (hr.mono (by decide))) (pv 7) (pv 8) (nomark _)) (pa_cons (pe_cmpR (op_eqOK o_R (hr.mono (by decide))) (pv 8) (pv 7) (nomark _)) (pa_cons (pe_cmpR (op_neOK o_R (hr.mono (by decide))) (pv 7) (pv 9) (nomark _)) (pa_cons (pe_cmpR (op_eqOK o_R (hr.mono (by decide))) (pv 7) (pv 10) (nomark _)) (pa_cons (pe_cmpR (op_eqOK o_R (hr.mono (by decide))) (pv 10) (pv 7) (nomark _)) (pa_cons (pe_cmpR (op_neOK o_R (hr.mono (by decide))) (pv 7) (pv 10) (nomark _)) (pa_cons (pe_cmpR (op_eqOK o_R (hr.mono (by decide))) (pv 7) (pv 11) (nomark _)) pa_nil)))))))))
      (pss_cons (ps_set (i := 14) sc_right.nd rfl (Or.inl rfl) (pe_op op_cat (pv 14) (pe_lst (pa_cons (pe_cmpR (op_neOK o_R (hr.mono (by decide))) (pv 11) (pv 7) (nomark _)) (pa_cons (pe_cmpR (op_eqOK o_R (hr.mono (by decide))) (pv 7) (pv 4) (nomark _)) (pa_cons (pe_cmpR (op_neOK o_R (hr.mono (by decide))) (pv 7) (pe_callTy (call_strO h_str (hr.mono (by decide))) (by rfl) T.b_str (by decide +kernel) (pa_cons (pv 7) pa_nil)) (nomark _)) (pa_cons (pe_cmpR (op_eqOK o_R (hr.mono (by decide))) (pv 7) pe_non (nomark _)) (pa_cons (pe_callTy (call_boolLen h_len nb (hr.mono (by decide))) (by rfl) T2.b_bool (by decide +kernel) (pa_cons (pv 7) pa_nil)) (pa_cons (pe_callTy (call_boolLen h_len nb (hr.mono (by decide))) (by rfl) T2.b_bool (by decide +kernel) (pa_cons (pv 11) pa_nil)) pa_nil)))))))))
      (pss_cons (ps_set (i := 15) sc_right.nd rfl (Or.inl rfl) (pe_lst (pa_cons pe_bl (pa_cons pe_bl (pa_cons pe_bl (pa_cons (pv 13) (pa_cons (pv 13) (pa_cons (pe_not (pv 13)) (pa_cons pe_bl (pa_cons pe_bl (pa_cons pe_bl (pa_cons pe_bl (pa_cons pe_bl (pa_cons pe_bl (pa_cons pe_bl pa_nil)))))))))))))))
      (pss_one (ps_ret (pe_and (pe_cmpR op_eq (pe_callB (call_reprD hr.units gs) (by rfl) T.b_repr (by decide +kernel) (pa_cons (pv 14) pa_nil)) (pe_callB (call_reprD hr.units gs) (by rfl) T.b_repr (by decide +kernel) (pa_cons (pv 15) pa_nil)) (nomark _)) (pe_one (pe_cmpR op_eq (pe_callB (call_reprD hr.units gs) (by rfl) T.b_repr (by decide +kernel) (pa_cons (pe_lst (pa_cons (pe_propN h_rows (hr.mono (by decide)) (pv 10)) (pa_cons (pe_callB (call_lenO h_len (hr.mono (by decide))) (by rfl) T.b_len (by decide +kernel) (pa_cons (pv 10) pa_nil)) pa_nil))) pa_nil)) (pe_callB (call_reprD hr.units gs) (by rfl) T.b_repr (by decide +kernel) (pa_cons (pe_lst (pa_cons (pv 5) (pa_cons (pe_callB call_len_seq (by rfl) T.b_len (by decide +kernel) (pa_cons (pv 5) pa_nil)) pa_nil))) pa_nil)) (nomark _)))))))))))))))))), ?_⟩

    refine ⟨_, rfl, _, rfl, irr ⟨a, 6, n, rfl, wl, by omega, by decide, by decide, fun r H1 r0 r6 g1 w1 => ?_⟩⟩
    obtain ⟨rn, rfl⟩ : ∃ rn : Nat, r = (rn : Int) := ⟨r.toNat, by omega⟩
    refine ⟨_, _, rfl, rfl, irr ⟨a, n + 1, 1 + rn, by simp, w1, by omega, by omega, fun lt ts H2 _ lta g2 w2 elt tsl _ tn => ?_⟩⟩
    have t20 : ts.length ≤ 20 := by omega
    have laid : ∀ {H : Hp} {n : Nat}, WellAt H a n → Laid0 [a] a H := fun w => ⟨List.mem_singleton.mpr rfl, fun x hx e => by
      obtain rfl := List.mem_singleton.mp hx
      obtain ⟨p, q, r, e2, _⟩ := w
      rw [e2] at e
      cases e⟩
    have na : ∀ {b : Addr}, b ≠ a → b ∉ [a] := fun h m => h (List.mem_singleton.mp m)
    have am : a ∈ [a] := List.mem_singleton.mpr rfl
    dsimp only [gName]
    refine ⟨_, rfl, _, rfl, _, _, rfl, rfl, ⟨by decide, by decide, by decide⟩, _, _, rfl, rfl, irr ⟨a, lt, n + 1 + 200, 8, 10 ^ 19 + 7, ts, [a], rfl, w2, by omega, laid w2, na lta, elt, t20, by decide, by decide, by decide, fun l1 tl1 s1 H3 g3 w3 nl1 el1 sl1 ln1 so1 en1 => ?_⟩⟩
    refine ⟨_, rfl, _, rfl, irr ⟨a, lt, n + 1 + 200 + 20000, 8, 7, ts, [a], rfl, w3, by omega, laid w3, na lta, g3.x am lt _ (na lta) elt, t20, by decide, by decide, by decide, fun l2 tl2 s2 H4 g4 w4 nl2 el2 sl2 ln2 so2 en2 => ?_⟩⟩
    have ok1 := rows_of tn (by decide) ln1 so1 en1
    have ok2 := rows_of tn (by decide) ln2 so2 en2
    have x4 := g4.x am
    have el1' := x4 _ _ nl1 el1
    have sl1' := sl1.grow x4
    have gr : Grow a H H4 := g1.trans (g2.trans (g3.trans g4))
    refine ⟨_, _, rfl, ?_⟩
    dsimp only
    refine ⟨_, rfl, l1, rfl, ⟨_, SqL.of el1'⟩, fun D nD => lc_to (xs := tl1.map V.ref) ((lines s1).map V.str) (by rw [List.length_map, List.length_map, sl1.len, lines, List.length_map]) walk_list nD (by rw [List.length_map, sl1.len]; omega) (fun H' s' => SqL.of (s' _ _ el1')) (fun _ => rfl) (fun j v y hv hy H5 s5 R kR => ?_) fun H5 s5 eD => ?_⟩
    · rw [List.getElem?_map] at hv
      rw [lines, List.getElem?_map, List.getElem?_map] at hy
      cases hj : tl1[j]? with
      | none => rw [hj] at hv; cases hv
      | some t =>
      cases hk : s1[j]? with
      | none => rw [hk] at hy; cases hy
      | some st =>
      rw [hj] at hv
      rw [hk] at hy
      obtain rfl := Option.some.inj hv
      obtain rfl := Option.some.inj hy
      exact ⟨_, rfl, irr ⟨t, st, [a], ts, 10 ^ 19 + 7, j, s1.length, rfl, (sl1'.each j t st hj hk).grow (GroX.same s5), so1 j st hk, tn, by decide, ln1, fun H' s' => kR H' s'⟩⟩
    refine ⟨D, _, rfl, .inl ⟨SqL.of eD, fun tr1 nt1 => ?_⟩⟩
    have s6 : Same H4 (upd H5 tr1 (.tup ((lines s1).map V.str))) := fun b o e => (upd_ne (ne_of_none (s5 _ _ e) nt1)).trans (s5 _ _ e)
    have er1 : upd H5 tr1 (.tup ((lines s1).map V.str)) tr1 = some (.tup ((lines s1).map V.str)) := upd_same
    generalize upd H5 tr1 (.tup ((lines s1).map V.str)) = H6 at s6 er1 ⊢
    clear s5 eD nt1 nD
    refine ⟨_, rfl, l2, rfl, ⟨_, SqL.of (s6 _ _ el2)⟩, fun D2 nD2 => lc_to (xs := tl2.map V.ref) ((lines s2).map V.str) (by rw [List.length_map, List.length_map, sl2.len, lines, List.length_map]) walk_list nD2 (by rw [List.length_map, sl2.len]; omega) (fun H' s' => SqL.of (s' _ _ (s6 _ _ el2))) (fun _ => rfl) (fun j v y hv hy H7 s7 R kR => ?_) fun H7 s7 eD => ?_⟩
    · rw [List.getElem?_map] at hv
      rw [lines, List.getElem?_map, List.getElem?_map] at hy
      cases hj : tl2[j]? with
      | none => rw [hj] at hv; cases hv
      | some t =>
      cases hk : s2[j]? with
      | none => rw [hk] at hy; cases hy
      | some st =>
      rw [hj] at hv
      rw [hk] at hy
      obtain rfl := Option.some.inj hv
      obtain rfl := Option.some.inj hy
      exact ⟨_, rfl, irr ⟨t, st, [a], ts, 7, j, s2.length, rfl, ((sl2.each j t st hj hk).grow (GroX.same s6)).grow (GroX.same s7), so2 j st hk, tn, by decide, ln2, fun H' s' => kR H' s'⟩⟩
    refine ⟨D2, _, rfl, .inl ⟨SqL.of eD, fun tr2 nt2 => ⟨_, _, rfl, ?_⟩⟩⟩
    have s8 : Same H6 (upd H7 tr2 (.tup ((lines s2).map V.str))) := fun b o e => (upd_ne (ne_of_none (s7 _ _ e) nt2)).trans (s7 _ _ e)
    have er2 : upd H7 tr2 (.tup ((lines s2).map V.str)) tr2 = some (.tup ((lines s2).map V.str)) := upd_same
    generalize upd H7 tr2 (.tup ((lines s2).map V.str)) = H8 at s8 er2 ⊢
    clear s7 eD nt2 nD2
    have er1 := s8 _ _ er1
    have s8 : Same H4 H8 := fun b o e => s8 _ _ (s6 _ _ e)
    clear s6
    dsimp only
    refine ⟨_, rfl, _, rfl, irr ⟨l1, tl1, s1, [a], rfl, s8 _ _ el1', sl1'.grow (GroX.same s8), ok1, fun tn1 zs H9 s9 en1' sp1 => ?_⟩⟩
    have jf1 := join_fit ok1
    have er1 := s9 _ _ er1
    have er2 := s9 _ _ er2
    have s9 : Same H4 H9 := fun b o e => s9 _ _ (s8 _ _ e)
    clear s8
    refine ⟨_, rfl, tr1, _, rfl, .inr (SqT.of er1), ?_⟩
    rw [lines_len]
    refine ⟨rfl, _, rfl, _, tr1, lines s1, rfl, rfl, .inr (SqT.of er1), jf1, (by show 4 ≤ sizeLine; decide), fun ld nld => ?_⟩
    have s10 : Same H9 (upd H9 ld (.lst [.ref tr1, .ref tn1, .int (s1.length : Nat), .str (Txt.join "\n" (lines s1))])) := fun b o e => (upd_ne (ne_of_none e nld)).trans e
    refine rRepr_big (d := dU s1 zs) (.lst (SqL.of upd_same) (.cons (dp_dL (s10 _ _ er1)) (.cons (dp_dL (s10 _ _ en1')) (.cons (.int _) (.cons (.str _) .nil))))) (shw_U ok1 sp1) (by decide) ?_
    have er1 := s10 _ _ er1
    have er2 := s10 _ _ er2
    have s10 : Same H4 (upd H9 ld (.lst [.ref tr1, .ref tn1, .int (s1.length : Nat), .str (Txt.join "\n" (lines s1))])) := fun b o e => s10 _ _ (s9 _ _ e)
    generalize upd H9 ld (.lst [.ref tr1, .ref tn1, .int (s1.length : Nat), .str (Txt.join "\n" (lines s1))]) = H10 at s10 er1 er2 ⊢
    clear s9 nld en1'
    dsimp only [gName]
    refine ⟨_, rfl, fun r1 d1 hx1 hd1 ne1 => Rule_kp er1 ok1 hx1 hd1 ne1 fun H11 s11 rr1 => ?_⟩
    refine ⟨rfl, rfl, _, rfl, _, tr1, lines s1, rfl, rfl, .inr (SqT.of (s11 _ _ er1)), jf1, irr ⟨s1, rfl, ok1, fun r2 H12 s12 rr2 => ⟨_, _, rfl, ?_⟩⟩⟩
    have er1 := s12 _ _ (s11 _ _ er1)
    have er2 := s12 _ _ (s11 _ _ er2)
    have rr1 := rr1.ext s12
    have s12 : Same H4 H12 := fun b o e => s12 _ _ (s11 _ _ (s10 _ _ e))
    clear s10 s11 hx1 hd1 ne1
    dsimp only
    refine ⟨_, rfl, rfl, rfl, fun r3 d3 hx3 hd3 ne3 => Rule_kp er1 ok1 hx3 hd3 ne3 fun H13 s13 rr3 => ?_⟩
    have er1 := s13 _ _ er1
    have er2 := s13 _ _ er2
    have rr1 := rr1.ext s13
    have rr2 := rr2.ext s13
    have s13 : Same H4 H13 := fun b o e => s13 _ _ (s12 _ _ e)
    clear s12 hx3 hd3 ne3
    refine ⟨_, rfl, fun r4 d4 hx4 hd4 ne4 => Rule_kp er2 ok2 hx4 hd4 ne4 fun H14 s14 rr4 => ⟨_, _, rfl, ?_⟩⟩
    have er1 := s14 _ _ er1
    have er2 := s14 _ _ er2
    have rr1 := rr1.ext s14
    have rr2 := rr2.ext s14
    have rr3 := rr3.ext s14
    have s14 : Same H4 H14 := fun b o e => s14 _ _ (s13 _ _ e)
    clear s13 hx4 hd4 ne4
    dsimp only
    obtain ⟨sl, hl, _⟩ := ok1.fin
    have pos1 : 0 < ((lines s1).map V.str).length := by rw [lines_len]; exact ok1.pos
    refine ⟨_, rfl, _, rfl, _, rfl, tr1, _, rfl, SqT.of er1, not_whole pos1, fun tp ntp => ?_⟩
    rw [cutV_last]
    have g15 : Same H14 (upd H14 tp (.tup ((lines s1).map V.str).dropLast)) := fun b o e => (upd_ne (ne_of_none e ntp)).trans e
    have etp : upd H14 tp (.tup ((lines s1).map V.str).dropLast) tp = some (.tup ((lines s1).map V.str).dropLast) := upd_same
    generalize upd H14 tp (.tup ((lines s1).map V.str).dropLast) = H15 at g15 etp ⊢
    refine ⟨_, rfl, _, rfl, tr1, _, -1, _, rfl, rfl, SqT.of (g15 _ _ er1), at_last hl, rfl, _, rfl, ?_⟩
    refine if_str ?_
    refine ⟨(by show 1 ≤ sizeLine; decide), fun tq ntq => catA_of (SqT.of ((upd_ne (ne_of_none etp ntq)).trans etp)) upd_same (by simp) ?_ fun tr5 H17 s17 er5 => ?_⟩
    · rw [List.length_dropLast, lines_len]
      exact Nat.le_trans (show _ ≤ 10 by have := ok1.ln; simp; omega) (by decide)
    rw [← near_last hl] at er5
    refine fun r5 d5 hx5 hd5 ne5 => Rule_kp er5 (near_ok ok1) hx5 hd5 ne5 fun H18 s18 rr5 => ?_
    have s18 : Same H14 H18 := fun b o e => s18 _ _ (s17 _ _ ((upd_ne (ne_of_none (g15 _ _ e) ntq)).trans (g15 _ _ e)))
    clear s17 g15 etp ntp ntq er5 hx5 hd5 ne5
    have er1 := s18 _ _ er1
    have er2 := s18 _ _ er2
    have rr1 := rr1.ext s18
    have rr2 := rr2.ext s18
    have rr3 := rr3.ext s18
    have rr4 := rr4.ext s18
    have s18 : Same H4 H18 := fun b o e => s18 _ _ (s14 _ _ e)
    clear s14
    have okn := near_ok ok1
    dsimp only [gName]
    refine ⟨_, rfl, _, rfl, _, rfl, _, rfl, (by show 4 ≤ sizeLine; decide), fun lr nlr => ⟨lr, rfl, ⟨_, SqL.of upd_same⟩, ?_⟩⟩
    have g19 : Same H18 (upd H18 lr (.lst [.ref r1, .ref r2, .ref r3, .ref r1])) := fun b o e => (upd_ne (ne_of_none e nlr)).trans e
    have elr : upd H18 lr (.lst [.ref r1, .ref r2, .ref r3, .ref r1]) lr = some (.lst [.ref r1, .ref r2, .ref r3, .ref r1]) := upd_same
    generalize upd H18 lr (.lst [.ref r1, .ref r2, .ref r3, .ref r1]) = H19 at g19 elr ⊢
    refine for_list (xs := [.ref r1, .ref r2, .ref r3, .ref r1]) (fun i σ H' => (∃ o12, σ = [some (.ref a), some (.ref lt), some (.ref l1), some (.ref l2), some (.ref tr1), some (.ref tr2), some (.str (dU s1 zs).shown), some (.ref r1), some (.ref r2), some (.ref r3), some (.ref r4), some (.ref r5), o12, none, none, none, none]) ∧ Same H19 H') ⟨⟨_, rfl⟩, Same.refl _⟩ (fun i σ H' _ h => SqL.of (h.2 _ _ elr)) ?_ ?_
    · rintro i y σ H20 hy ⟨⟨o12, rfl⟩, s20⟩
      obtain ⟨x, rfl, rx⟩ : ∃ x, y = .ref x ∧ RuleR CR CS H18 x s1 := by
        have := List.mem_of_getElem? hy
        simp only [List.mem_cons, List.not_mem_nil, or_false] at this
        rcases this with rfl | rfl | rfl | rfl
        · exact ⟨_, rfl, rr1⟩
        · exact ⟨_, rfl, rr2⟩
        · exact ⟨_, rfl, rr3⟩
        · exact ⟨_, rfl, rr1⟩
      have rx := (rx.ext g19).ext s20
      obtain ⟨dx, ts', tr, tl, ex, _, _, er⟩ := id rx.ex
      dsimp only [gName]
      refine ⟨_, rfl, x, dx, _, rfl, ex, irr ⟨x, dx, ts', tr, rfl, ex, ?_⟩⟩
      refine ⟨_, rfl, x, dx, _, rfl, ex, irr ⟨x, s1, rfl, rx, ok1, fun tm zs' H21 s21 em sp2 => ?_⟩⟩
      obtain rfl := sp1.uniq sp2
      have rx1 := rx.ext s21
      have ex1 := s21 _ _ ex
      refine ⟨_, rfl, x, dx, _, rfl, ex1, irr ⟨x, s1, rfl, rx1, s1.length, rfl, by omega, ?_⟩⟩
      refine ⟨_, rfl, x, dx, _, rfl, ex1, irr ⟨x, s1, rfl, rx1, ok1, ?_⟩⟩
      refine ⟨_, rfl, (by show 4 ≤ sizeLine; decide), fun ld nld => ?_⟩
      have g22 : Same H21 (upd H21 ld (.lst [.ref tr, .ref tm, .int (s1.length : Nat), .str (ruleT s1)])) := fun b o e => (upd_ne (ne_of_none e nld)).trans e
      refine rRepr_big (d := dU s1 zs) (.lst (SqL.of upd_same) (.cons (dp_dL (g22 _ _ (s21 _ _ er))) (.cons (dp_dL (g22 _ _ em)) (.cons (.int _) (.cons (.str _) .nil))))) (shw_U ok1 sp1) (by decide) ⟨_, rfl, rfl, _, rfl, ?_⟩
      refine ite2 (fun h => ?_) fun _ => ?_
      · simp at h
      · exact ⟨⟨_, rfl⟩, fun b o e => g22 _ _ (s21 _ _ (s20 _ _ e))⟩
    · rintro σ H20 ⟨⟨o12, rfl⟩, s20⟩
      have s20 : Same H18 H20 := fun b o e => s20 _ _ (g19 _ _ e)
      have er1 := s20 _ _ er1
      have er2 := s20 _ _ er2
      have rr1 := rr1.ext s20
      have rr2 := rr2.ext s20
      have rr3 := rr3.ext s20
      have rr4 := rr4.ext s20
      have rr5 := rr5.ext s20
      have s20 : Same H4 H20 := fun b o e => s20 _ _ (s18 _ _ e)
      clear g19 s18 elr nlr
      refine ⟨_, rfl, _, rfl, dL (lines s1), dL (lines s2), dp_dL er1, dp_dL er2, shaped_dL fun z hz => strOk_128 (ok1.line z hz).2.1, shaped_dL fun z hz => strOk_128 (ok2.line z hz).2.1, ?_⟩
      rw [eqv_dL]
      have e21 : decide (lines s2 = lines s1) = decide (lines s1 = lines s2) := decide_eq_decide.mpr eq_comm
      generalize hb : decide (lines s1 = lines s2) = b12 at e21 ⊢
      dsimp only [gName]
      refine ⟨_, rfl, _, rfl, eqR_rule rr1 ok1 rr2 ok1 RK true (decide_eq_true rfl) ?_⟩
      refine ⟨_, rfl, _, rfl, eqR_rule rr2 ok1 rr1 ok1 RK true (decide_eq_true rfl) ?_⟩
      refine ⟨_, rfl, _, rfl, eqR_rule rr1 ok1 rr3 ok1 RK true (decide_eq_true rfl) ?_⟩
      refine ⟨_, rfl, _, rfl, eqR_rule rr1 ok1 rr4 ok2 RK b12 hb ?_⟩
      refine ⟨_, rfl, _, rfl, eqR_rule rr4 ok2 rr1 ok1 RK b12 e21 ?_⟩
      refine ⟨_, rfl, _, rfl, eqR_rule rr1 ok1 rr4 ok2 RK b12 hb ?_⟩
      refine ⟨_, rfl, _, rfl, eqR_rule rr1 ok1 rr5 okn RK false (decide_eq_false fun e => near_ne ok1 e.symm) ?_⟩
      refine ⟨(by show 7 ≤ sizeLine; decide), fun lc nlc => ?_⟩
      have g21 : Same H20 (upd H20 lc (.lst [.bl true, .bl true, .bl false, .bl b12, .bl b12, .bl (!b12), .bl false])) := fun b o e => (upd_ne (ne_of_none e nlc)).trans e
      have elc : upd H20 lc (.lst [.bl true, .bl true, .bl false, .bl b12, .bl b12, .bl (!b12), .bl false]) lc = some (.lst [.bl true, .bl true, .bl false, .bl b12, .bl b12, .bl (!b12), .bl false]) := upd_same
      have er1 := g21 _ _ er1
      have er2 := g21 _ _ er2
      have rr1 := rr1.ext g21
      have rr4 := rr4.ext g21
      have rr5 := rr5.ext g21
      have s21 : Same H4 (upd H20 lc (.lst [.bl true, .bl true, .bl false, .bl b12, .bl b12, .bl (!b12), .bl false])) := fun b o e => g21 _ _ (s20 _ _ e)
      change tSeq _ _ _ _ (upd H20 lc (.lst [.bl true, .bl true, .bl false, .bl b12, .bl b12, .bl (!b12), .bl false]))
      generalize upd H20 lc (.lst [.bl true, .bl true, .bl false, .bl b12, .bl b12, .bl (!b12), .bl false]) = H21 at s21 er1 er2 rr1 rr4 rr5 elc ⊢
      clear g21 nlc s20 rr2 rr3
      obtain ⟨d1, f1, ex1⟩ := rr1.ins
      obtain ⟨d5, f5, ex5⟩ := rr5.ins
      have ln1' : s1.length < 100000 := by omega
      have ln5' : (nearS s1).length < 100000 := by have := okn.ln; omega
      refine ⟨_, rfl, _, rfl, _, rfl, eqR_rule rr5 okn rr1 ok1 RK false (decide_eq_false (near_ne ok1)) ?_⟩
      refine ⟨_, rfl, _, rfl, eqR_other rr1 ok1 (.tup er1) (.base (.tup er1)) RK.nT RK.kT ?_⟩
      refine ⟨_, rfl, _, rfl, r1, d1, _, rfl, ex1, irr ⟨r1, s1, rfl, rr1, ok1, _, rfl, eqR_other rr1 ok1 (.str _) (.base (.str _)) RK.nX RK.kX ?_⟩⟩
      refine ⟨_, rfl, eqR_other rr1 ok1 .non (.base .non) RK.nN RK.kN ?_⟩
      refine ⟨_, rfl, r1, d1, _, rfl, ex1, irr ⟨r1, s1, rfl, rr1, s1.length, rfl, ln1', ?_⟩⟩
      refine ⟨_, rfl, r5, d5, _, rfl, ex5, irr ⟨r5, nearS s1, rfl, rr5, (nearS s1).length, rfl, ln5', ?_⟩⟩
      have t1 : ((s1.length : Nat) : Int) != 0 := by
        have := ok1.pos
        exact bne_iff_ne.mpr (by omega)
      have t5 : (((nearS s1).length : Nat) : Int) != 0 := by
        have := okn.pos
        exact bne_iff_ne.mpr (by omega)
      rw [t1, t5]
      refine ⟨(by show 6 ≤ sizeLine; decide), fun le nle => ?_⟩
      have g22 : Same H21 (upd H21 le (.lst [.bl true, .bl false, .bl true, .bl false, .bl true, .bl true])) := fun b o e => (upd_ne (ne_of_none e nle)).trans e
      refine ⟨lc, le, _, _, rfl, rfl, g22 _ _ elc, upd_same, (by show 13 ≤ sizeLine; decide), fun lo nlo => ?_⟩
      have g23 : Same H21 (upd (upd H21 le (.lst [.bl true, .bl false, .bl true, .bl false, .bl true, .bl true])) lo (.lst [.bl true, .bl true, .bl false, .bl b12, .bl b12, .bl (!b12), .bl false, .bl true, .bl false, .bl true, .bl false, .bl true, .bl true])) := fun b o e => (upd_ne (ne_of_none (g22 _ _ e) nlo)).trans (g22 _ _ e)
      change tSeq _ _ _ _ (upd (upd H21 le (.lst [.bl true, .bl false, .bl true, .bl false, .bl true, .bl true])) lo (.lst [.bl true, .bl true, .bl false, .bl b12, .bl b12, .bl (!b12), .bl false, .bl true, .bl false, .bl true, .bl false, .bl true, .bl true]))
      have elo : upd (upd H21 le (.lst [.bl true, .bl false, .bl true, .bl false, .bl true, .bl true])) lo (.lst [.bl true, .bl true, .bl false, .bl b12, .bl b12, .bl (!b12), .bl false, .bl true, .bl false, .bl true, .bl false, .bl true, .bl true]) lo = some (.lst [.bl true, .bl true, .bl false, .bl b12, .bl b12, .bl (!b12), .bl false, .bl true, .bl false, .bl true, .bl false, .bl true, .bl true]) := upd_same
      have er2 := g23 _ _ er2
      have rr4 := rr4.ext g23
      generalize upd (upd H21 le (.lst [.bl true, .bl false, .bl true, .bl false, .bl true, .bl true])) lo (.lst [.bl true, .bl true, .bl false, .bl b12, .bl b12, .bl (!b12), .bl false, .bl true, .bl false, .bl true, .bl false, .bl true, .bl true]) = H22 at g23 elo er2 rr4 ⊢
      have s22 : Same H4 H22 := fun b o e => g23 _ _ (s21 _ _ e)
      clear g23 g22 nlo nle s21 rr1 rr5 er1 elc
      refine ⟨_, rfl, _, rfl, _, rfl, _, rfl, (by show 13 ≤ sizeLine; decide), fun lw nlw => ?_⟩
      have g24 : Same H22 (upd H22 lw (.lst [.bl true, .bl true, .bl false, .bl b12, .bl b12, .bl (!b12), .bl false, .bl true, .bl false, .bl true, .bl false, .bl true, .bl true])) := fun b o e => (upd_ne (ne_of_none e nlw)).trans e
      dsimp only [gName]
      have shb : Shw (.list [.bool true, .bool true, .bool false, .bool b12, .bool b12, .bool (!b12), .bool false, .bool true, .bool false, .bool true, .bool false, .bool true, .bool true]) 60 2000 := (shw_list (n := 0) (k := 100) fun d hd => by
        simp only [List.mem_cons, List.not_mem_nil, or_false] at hd
        rcases hd with rfl | rfl | rfl | rfl | rfl | rfl | rfl | rfl | rfl | rfl | rfl | rfl | rfl <;> exact (short_bl _).shw).mono (by decide) (by simp)
      have dpb : ∀ {H : Hp} {l : Addr}, H l = some (.lst [.bl true, .bl true, .bl false, .bl b12, .bl b12, .bl (!b12), .bl false, .bl true, .bl false, .bl true, .bl false, .bl true, .bl true]) → Dp K H (.ref l) (.list [.bool true, .bool true, .bool false, .bool b12, .bool b12, .bool (!b12), .bool false, .bool true, .bool false, .bool true, .bool false, .bool true, .bool true]) := fun e =>
        .lst (SqL.of e) (.cons (.bl _) (.cons (.bl _) (.cons (.bl _) (.cons (.bl _) (.cons (.bl _) (.cons (.bl _) (.cons (.bl _) (.cons (.bl _) (.cons (.bl _) (.cons (.bl _) (.cons (.bl _) (.cons (.bl _) (.cons (.bl _) .nil)))))))))))))
      refine ⟨_, rfl, rRepr_big (dpb (g24 _ _ elo)) shb (by decide) ⟨_, rfl, rRepr_big (dpb upd_same) shb (by decide) ?_⟩⟩
      refine ⟨rfl, _, rfl, ?_⟩
      rw [decide_eq_true rfl]
      have s24 : Same H4 (upd H22 lw (.lst [.bl true, .bl true, .bl false, .bl b12, .bl b12, .bl (!b12), .bl false, .bl true, .bl false, .bl true, .bl false, .bl true, .bl true])) := fun b o e => g24 _ _ (s22 _ _ e)
      have er2 := g24 _ _ er2
      have rr4 := rr4.ext g24
      generalize upd H22 lw (.lst [.bl true, .bl true, .bl false, .bl b12, .bl b12, .bl (!b12), .bl false, .bl true, .bl false, .bl true, .bl false, .bl true, .bl true]) = H24 at s24 er2 rr4 ⊢
      obtain ⟨d4, ts4, tr4, tl4, ex4, _, _, er4⟩ := id rr4.ex
      have ln2' : s2.length < 100000 := by omega
      refine iteT ⟨_, rfl, r4, d4, _, rfl, ex4, irr ⟨r4, d4, ts4, tr4, rfl, ex4, ?_⟩⟩
      refine ⟨_, rfl, r4, d4, _, rfl, ex4, irr ⟨r4, s2, rfl, rr4, s2.length, rfl, ln2', ?_⟩⟩
      refine ⟨(by show 2 ≤ sizeLine; decide), fun lx nlx => ?_⟩
      have g25 : Same H24 (upd H24 lx (.lst [.ref tr4, .int (s2.length : Nat)])) := fun b o e => (upd_ne (ne_of_none e nlx)).trans e
      refine rRepr_big (d := dU2 s2) (.lst (SqL.of upd_same) (.cons (dp_dL (g25 _ _ er4)) (.cons (.int _) .nil))) (shw_U2 ok2) (by decide) ?_
      refine ⟨_, rfl, _, rfl, tr2, _, rfl, .inr (SqT.of (g25 _ _ er2)), ?_⟩
      rw [lines_len]
      refine ⟨(by show 2 ≤ sizeLine; decide), fun ly nly => ?_⟩
      have g26 : Same H24 (upd (upd H24 lx (.lst [.ref tr4, .int (s2.length : Nat)])) ly (.lst [.ref tr2, .int (s2.length : Nat)])) := fun b o e => (upd_ne (ne_of_none (g25 _ _ e) nly)).trans (g25 _ _ e)
      refine rRepr_big (d := dU2 s2) (.lst (SqL.of upd_same) (.cons (dp_dL (g26 _ _ er2)) (.cons (.int _) .nil))) (shw_U2 ok2) (by decide) ⟨rfl, ?_⟩
      rw [decide_eq_true rfl]
      exact k _ fun b o n e => g26 _ _ (s24 _ _ (gr b o n e))
end
end RV
/-! k47: the law -/
namespace RV
open PySem L2 TL
section
variable {P : Program} {w : World} {K : PySem.W.Frag} {mg : Str → Option Value} {base : Heap} {CR CS : Addr}
theorem ok_law47 {f : Addr} {fd : FuncData} (F : Fun K "law" "law" s_law f fd) (T : Blt mg) (RC : RClass K mg CR) (h_spring : Fn P w K mg base "_law_spring" 1 ["_law_script", "_law_k"] (Irr (sp_spring K))) (h_right : FnGd P w K mg base "_law_right" 18 ["_law_spring_here"] sp_right47)
    (h_Rule : Mkr P w K mg base "Rule" CR 14 (Irr (sp_Rule CR CS)) []) (h_meters : Prp P w K mg base CR "meters" 3 (Irr (sp_rmet CR CS))) (h_len : OwnM P w K mg base CR "__len__" 1 (Irr (sp_rlen CR CS))) : FnG P w K mg base 19 f fd ["_law_script"] (spLaw K) := by
  refine gFun F sc_law (fun vs H Q E h => ?_) (fun cdv A outer s H vs Q E gs hr h => ?_)
  · obtain ⟨_, _, rfl, _⟩ := h
    rfl
  · obtain ⟨c, ns, rfl, hS, hl, k⟩ := h
    refine ⟨_, (pss_cons (ps_set (i := 1) sc_law.nd rfl (Or.inl rfl) (pe_mk h_Rule (hr.mono (by decide)) (pa_cons (pe_tup (pa_cons pe_str (pa_cons pe_str (pa_cons pe_str pa_nil)))) pa_nil)))
      (pss_cons (ps_set (i := 2) sc_law.nd rfl (Or.inl rfl) (pe_lst (pa_cons (pe_mk h_Rule (hr.mono (by decide)) (pa_cons (pe_tup (pa_cons pe_str pa_nil)) pa_nil)) (pa_cons (pe_mk h_Rule (hr.mono (by decide)) (pa_cons (pe_tup (pa_cons pe_str pa_nil)) pa_nil)) (pa_cons (pe_mk h_Rule (hr.mono (by decide)) (pa_cons (pe_op op_catA (pe_tup (pa_cons pe_str pa_nil)) (pe_op op_repT (pe_tup (pa_cons pe_str pa_nil)) pe_int)) pa_nil)) pa_nil)))))
      (pss_cons (ps_set (i := 3) sc_law.nd rfl (Or.inl rfl) (pe_mk h_Rule (hr.mono (by decide)) (pa_cons (pe_tup (pa_cons (pe_op op_add_str (pe_op op_add_str (pe_op op_add_str (pe_op op_add_str pe_str (pe_op op_repS pe_str pe_int)) pe_str) (pe_op op_repS pe_str pe_int)) (pe_slice sl_str pe_str po_none (po_some pe_int))) (pa_cons pe_str pa_nil))) pa_nil)))
      (pss_cons (ps_set (i := 4) sc_law.nd rfl (Or.inl rfl) (pe_lst (pa_cons (pe_callB (call_lenO h_len (hr.mono (by decide))) (by rfl) T.b_len (by decide +kernel) (pa_cons (pv 1) pa_nil)) (pa_cons (pe_propN h_meters (hr.mono (by decide)) (pv 1)) (pa_cons (pe_lc (own := [("_law_one", 5)]) (g := gName 5) (tt := tYes) rfl sc_law.nd (pi_list (pv 2)) (blkOk_by (N := sc_law_N) (sc := defScope s_law) (by decide +kernel)) (fun _ _ _ _ _ => pg_name (i := 5) sc_law.nd rfl (Or.inl rfl)) (fun _ _ _ _ _ => pts_nil) (fun _ _ _ _ _ => (pe_propN h_meters (hr.mono (by decide)) (pv 5)))) (pa_cons (pe_lc (own := [("_law_one", 5)]) (g := gName 5) (tt := tYes) rfl sc_law.nd (pi_list (pv 2)) (blkOk_by (N := sc_law_N) (sc := defScope s_law) (by decide +kernel)) (fun _ _ _ _ _ => pg_name (i := 5) sc_law.nd rfl (Or.inl rfl)) (fun _ _ _ _ _ => pts_nil) (fun _ _ _ _ _ => (pe_callB (call_lenO h_len (hr.mono (by decide))) (by rfl) T.b_len (by decide +kernel) (pa_cons (pv 5) pa_nil)))) (pa_cons (pe_propN h_meters (hr.mono (by decide)) (pv 3)) (pa_cons (pe_callB (call_lenO h_len (hr.mono (by decide))) (by rfl) T.b_len (by decide +kernel) (pa_cons (pv 3) pa_nil)) pa_nil))))))))
      (pss_cons (ps_if (pt_cmpR op_ne (pe_callB (call_reprD hr.units gs) (by rfl) T.b_repr (by decide +kernel) (pa_cons (pv 4) pa_nil)) (pe_callB (call_reprD hr.units gs) (by rfl) T.b_repr (by decide +kernel) (pa_cons (pe_lst (pa_cons pe_int (pa_cons (pe_tup (pa_cons pe_str (pa_cons pe_str (pa_cons pe_str (pa_cons pe_str (pa_cons pe_str pa_nil)))))) (pa_cons (pe_lst (pa_cons (pe_tup pa_nil) (pa_cons (pe_tup pa_nil) (pa_cons (pe_tup (pa_cons pe_str (pa_cons pe_str pa_nil))) pa_nil)))) (pa_cons (pe_lst (pa_cons pe_int (pa_cons pe_int (pa_cons pe_int pa_nil)))) (pa_cons (pe_tup (pa_cons pe_str (pa_cons pe_str (pa_cons pe_str (pa_cons pe_str pa_nil))))) (pa_cons pe_int pa_nil))))))) pa_nil)) (nomark _)) (pss_one (ps_ret pe_bl)) pss_nil)
      (pss_one (ps_ret (pe_callB (cr_all rfl) (by rfl) T.b_all (by decide +kernel) (pa_cons (pe_lc (own := [("_law_k", 6)]) (g := gName 6) (tt := tYes) rfl sc_law.nd (pi_range1 rfl T.b_range (pa_cons (pe_callB (call_max2 rfl) (by rfl) T.b_max (by decide +kernel) (pa_cons pe_int (pa_cons (pe_callB (call_min2 rfl) (by rfl) T.b_min (by decide +kernel) (pa_cons (pe_callB call_len_seq (by rfl) T.b_len (by decide +kernel) (pa_cons (pv 0) pa_nil)) (pa_cons pe_int pa_nil))) pa_nil))) pa_nil)) (blkOk_by (N := sc_law_N) (sc := defScope s_law) (by decide +kernel)) (fun _ _ _ _ _ => pg_name (i := 6) sc_law.nd rfl (Or.inl rfl)) (fun _ _ _ _ _ => pts_nil) (fun _ _ _ _ _ => (pe_fnG h_right gs (hr.mono (by decide)) (pa_cons (pe_fn h_spring (hr.mono (by decide)) (pa_cons (pv 0) (pa_cons (pv 6) pa_nil))) pa_nil)))) pa_nil))))))))), ?_⟩
    have mk : ∀ {H : Hp} {t : Addr} {xs : List V} {sts : List Stp}, (lines sts).map V.str = xs → upd H t (.tup xs) t = some (.tup ((lines sts).map V.str)) := fun e => by
      rw [e]
      exact upd_same
    have up : ∀ {H : Hp} {t : Addr} {o : HO}, H t = none → Same H (upd H t o) := fun n b o e => (upd_ne (ne_of_none e n)).trans e
    refine ⟨(by show 3 ≤ sizeLine; decide), fun t1 n1 x1 d1 hx1 hd1 ne1 => Rule_kp (mk tA) okA hx1 hd1 ne1 fun H1 s1 rr1 => ?_⟩
    have s1 : Same H H1 := (up n1).trans s1
    clear n1 hx1 hd1 ne1
    dsimp only [gName]
    refine ⟨(by show 1 ≤ sizeLine; decide), fun t2 n2 x2 d2 hx2 hd2 ne2 => Rule_kp (mk tB) okB hx2 hd2 ne2 fun H2 s2 rr2 => ?_⟩
    have rr1 := rr1.ext ((up n2).trans s2)
    have s2 : Same H H2 := s1.trans ((up n2).trans s2)
    clear s1 n2 hx2 hd2 ne2
    refine ⟨(by show 1 ≤ sizeLine; decide), fun t3 n3 x3 d3 hx3 hd3 ne3 => Rule_kp (mk tC') okC' hx3 hd3 ne3 fun H3 s3 rr3 => ?_⟩
    have rr1 := rr1.ext ((up n3).trans s3)
    have rr2 := rr2.ext ((up n3).trans s3)
    have s3 : Same H H3 := s2.trans ((up n3).trans s3)
    clear s2 n3 hx3 hd3 ne3
    refine ⟨(by show 1 ≤ sizeLine; decide), fun t4 n4 => ⟨(by show 1 ≤ sizeLine; decide), fun t5 n5 => ⟨t5, 7, _, rfl, rfl, SqT.of upd_same, by simp, by decide, by decide, by decide, fun t6 n6 => catA_of (SqT.of ((up n6).trans (Same.refl _) _ _ ((up n5) _ _ upd_same))) upd_same (by decide) (by decide) fun t7 H4 s4 e4 x4 d4 hx4 hd4 ne4 => Rule_kp (tD ▸ e4) okD hx4 hd4 ne4 fun H5 s5 rr4 => ?_⟩⟩⟩
    have g5 := ((up n4).trans ((up n5).trans (up n6))).trans (s4.trans s5)
    have rr1 := rr1.ext g5
    have rr2 := rr2.ext g5
    have rr3 := rr3.ext g5
    have s5 : Same H H5 := s3.trans g5
    clear g5 s4 e4 s3 n4 n5 n6 hx4 hd4 ne4
    refine ⟨(by show 3 ≤ sizeLine; decide), fun lf nlf => ?_⟩
    have g6 := up (o := .lst [.ref x2, .ref x3, .ref x4]) nlf
    have ef : upd H5 lf (.lst [.ref x2, .ref x3, .ref x4]) lf = some (.lst [.ref x2, .ref x3, .ref x4]) := upd_same
    generalize upd H5 lf (.lst [.ref x2, .ref x3, .ref x4]) = H6 at g6 ef ⊢
    dsimp only [gName]
    refine ⟨_, _, rfl, rfl, by decide +kernel, by decide, by decide, _, _, rfl, rfl, by decide +kernel, _, _, rfl, rfl, by decide +kernel, _, _, rfl, rfl, by decide +kernel, by decide, by decide, _, _, rfl, rfl, by decide +kernel, _, rfl, _, rfl, by decide +kernel, _, _, rfl, rfl, by decide +kernel, (by show 2 ≤ sizeLine; decide), fun t8 n8 x5 d5 hx5 hd5 ne5 => Rule_kp (mk tE) okE hx5 hd5 ne5 fun H7 s7 rr5 => ?_⟩
    have g7 := g6.trans ((up n8).trans s7)
    have rr1 := rr1.ext g7
    have rr2 := rr2.ext g7
    have rr3 := rr3.ext g7
    have rr4 := rr4.ext g7
    have ef := s7 _ _ ((up n8) _ _ ef)
    have s7 : Same H H7 := s5.trans g7
    clear g7 g6 s5 n8 hx5 hd5 ne5 nlf
    obtain ⟨e1, f1, ex1⟩ := rr1.ins
    obtain ⟨e2, f2, ex2⟩ := rr2.ins
    obtain ⟨e3, f3, ex3⟩ := rr3.ins
    obtain ⟨e4, f4, ex4⟩ := rr4.ins
    obtain ⟨e5, f5, ex5⟩ := rr5.ins
    refine ⟨_, rfl, x1, e1, _, rfl, ex1, irr ⟨x1, rA, rfl, rr1, rA.length, rfl, by decide, ?_⟩⟩
    refine ⟨_, rfl, x1, e1, _, rfl, ex1, irr ⟨x1, rA, rfl, rr1, okA, fun tm zs H8 s8 em sp => ?_⟩⟩
    obtain rfl := nA.uniq sp
    clear sp
    have q2 := rr2.ext s8
    have q3 := rr3.ext s8
    have q4 := rr4.ext s8
    have q5 := rr5.ext s8
    have ef8 := s8 _ _ ef
    refine ⟨_, rfl, lf, rfl, ⟨_, SqL.of ef8⟩, fun D1 nD1 => lc_new (β := Addr) (xs := [.ref x2, .ref x3, .ref x4]) V.ref (fun j t H' => ∃ zs : List Str, ([[], [], ["go", "if"]] : List (List Str))[j]? = some zs ∧ H' t = some (.tup (zs.map V.str))) walk_list nD1 (by show 3 ≤ 1000; decide) (fun H' s' => SqL.of (s' _ _ ef8)) (fun _ => rfl) (fun j t H' H'' s' z => ?_) (fun j t H' acc acc' e z => ?_) (fun j x hx H9 s9 hD R kR => ?_) fun bs H9 s9 bl bp eD1 => ?_⟩
    · obtain ⟨zs, a, b⟩ := z
      exact ⟨zs, a, s' _ _ b⟩
    · obtain ⟨zs, a, b⟩ := z
      refine ⟨zs, a, (upd_ne fun z => ?_).trans b⟩
      rw [z, e] at b
      cases b
    · rcases j with _ | _ | _ | j
      · obtain rfl := Option.some.inj hx
        exact ⟨_, rfl, x2, e2, _, rfl, s9 _ _ (s8 _ _ ex2), irr ⟨x2, rB, rfl, q2.ext s9, okB, fun t zs H' s' em sp => by
          obtain rfl := nB.uniq sp
          exact kR t H' s' ⟨_, rfl, em⟩⟩⟩
      · obtain rfl := Option.some.inj hx
        exact ⟨_, rfl, x3, e3, _, rfl, s9 _ _ (s8 _ _ ex3), irr ⟨x3, rC, rfl, q3.ext s9, okC', fun t zs H' s' em sp => by
          obtain rfl := nC.uniq sp
          exact kR t H' s' ⟨_, rfl, em⟩⟩⟩
      · obtain rfl := Option.some.inj hx
        exact ⟨_, rfl, x4, e4, _, rfl, s9 _ _ (s8 _ _ ex4), irr ⟨x4, rD, rfl, q4.ext s9, okD, fun t zs H' s' em sp => by
          obtain rfl := nD.uniq sp
          exact kR t H' s' ⟨_, rfl, em⟩⟩⟩
      · cases hx
    obtain ⟨b0, b1, b2, rfl⟩ : ∃ b0 b1 b2, bs = [b0, b1, b2] := by
      match bs, bl with
      | [b0, b1, b2], _ => exact ⟨b0, b1, b2, rfl⟩
    have k0 : H9 b0 = some (.tup (([] : List Str).map V.str)) := by
      obtain ⟨zs, a, b⟩ := bp 0 b0 rfl
      obtain rfl := Option.some.inj a
      exact b
    have k1 : H9 b1 = some (.tup (([] : List Str).map V.str)) := by
      obtain ⟨zs, a, b⟩ := bp 1 b1 rfl
      obtain rfl := Option.some.inj a
      exact b
    have k2 : H9 b2 = some (.tup ((["go", "if"] : List Str).map V.str)) := by
      obtain ⟨zs, a, b⟩ := bp 2 b2 rfl
      obtain rfl := Option.some.inj a
      exact b
    clear bp bl
    have s89 := s8.trans s9
    refine ⟨_, rfl, lf, rfl, ⟨_, SqL.of (s9 _ _ ef8)⟩, fun D2 nD2 => lc_to (xs := [.ref x2, .ref x3, .ref x4]) [.int 1, .int 1, .int 8] rfl walk_list nD2 (by show 3 ≤ 1000; decide) (fun H' s' => SqL.of (s' _ _ (s9 _ _ ef8))) (fun _ => rfl) (fun j x y hx hy H10 s10 R kR => ?_) fun H10 s10 eD2 => ?_⟩
    · rcases j with _ | _ | _ | j
      · obtain rfl := Option.some.inj hx
        obtain rfl := Option.some.inj hy
        exact ⟨_, rfl, x2, e2, _, rfl, s10 _ _ (s89 _ _ ex2), irr ⟨x2, rB, rfl, (q2.ext s9).ext s10, rB.length, rfl, by decide, kR H10 (Same.refl _)⟩⟩
      · obtain rfl := Option.some.inj hx
        obtain rfl := Option.some.inj hy
        exact ⟨_, rfl, x3, e3, _, rfl, s10 _ _ (s89 _ _ ex3), irr ⟨x3, rC, rfl, (q3.ext s9).ext s10, rC.length, rfl, by decide, kR H10 (Same.refl _)⟩⟩
      · obtain rfl := Option.some.inj hx
        obtain rfl := Option.some.inj hy
        exact ⟨_, rfl, x4, e4, _, rfl, s10 _ _ (s89 _ _ ex4), irr ⟨x4, rD, rfl, (q4.ext s9).ext s10, rD.length, rfl, by decide, kR H10 (Same.refl _)⟩⟩
      · cases hx
    have s810 := s89.trans s10
    refine ⟨_, rfl, x5, e5, _, rfl, s810 _ _ ex5, irr ⟨x5, rE, rfl, rr5.ext s810, okE, fun tn zs H11 s11 en sp => ?_⟩⟩
    obtain rfl := nE.uniq sp
    clear sp
    refine ⟨_, rfl, x5, e5, _, rfl, s11 _ _ (s810 _ _ ex5), irr ⟨x5, rE, rfl, (rr5.ext s810).ext s11, rE.length, rfl, by decide, ?_⟩⟩
    refine ⟨(by show 6 ≤ sizeLine; decide), fun TL nTL => ?_⟩
    have g12 := up (o := .lst [.int 3, .ref tm, .ref D1, .ref D2, .ref tn, .int 2]) nTL
    have s9t : Same H9 (upd H11 TL (.lst [.int 3, .ref tm, .ref D1, .ref D2, .ref tn, .int 2])) := s10.trans (s11.trans g12)
    dsimp only [gName]
    refine ⟨_, rfl, rRepr_big (d := dLaw) (.lst (SqL.of upd_same) (.cons (.int _) (.cons (dp_dL (s9t _ _ (s9 _ _ em))) (.cons (.lst (SqL.of (s9t _ _ eD1)) (.cons (dp_dL (s9t _ _ k0)) (.cons (dp_dL (s9t _ _ k1)) (.cons (dp_dL (s9t _ _ k2)) .nil)))) (.cons (.lst (SqL.of (g12 _ _ (s11 _ _ eD2))) (.cons (.int _) (.cons (.int _) (.cons (.int _) .nil)))) (.cons (dp_dL (g12 _ _ en)) (.cons (.int _) .nil))))))) shw_law (by decide) ?_⟩
    have s12 : Same H (upd H11 TL (.lst [.int 3, .ref tm, .ref D1, .ref D2, .ref tn, .int 2])) := s7.trans (s8.trans (s9.trans s9t))
    clear k0 k1 k2 en em s9t g12 eD1 eD2 q2 q3 q4 q5
    change tCB _ _ _ (upd H11 TL (.lst [.int 3, .ref tm, .ref D1, .ref D2, .ref tn, .int 2])) _
    generalize upd H11 TL (.lst [.int 3, .ref tm, .ref D1, .ref D2, .ref tn, .int 2]) = H12 at s12 ⊢
    refine ⟨(by show 5 ≤ sizeLine; decide), fun u1 n1 => ⟨by decide, fun u2 n2 => ⟨by decide, fun u3 n3 => ⟨(by show 2 ≤ sizeLine; decide), fun u4 n4 => ⟨(by show 3 ≤ sizeLine; decide), fun u5 n5 => ⟨(by show 3 ≤ sizeLine; decide), fun u6 n6 => ⟨(by show 4 ≤ sizeLine; decide), fun u7 n7 => ⟨(by show 6 ≤ sizeLine; decide), fun u8 n8 => ?_⟩⟩⟩⟩⟩⟩⟩⟩
    have h1 := (Cel.start H12).new (o := .tup ((["m1", "m2", "m3", "m4", "m5"] : List Str).map V.str)) n1
    have h2 := h1.new (o := .tup (([] : List Str).map V.str)) n2
    have h3 := h2.new (o := .tup (([] : List Str).map V.str)) n3
    have h4 := h3.new (o := .tup ((["go", "if"] : List Str).map V.str)) n4
    have h5 := h4.new (o := .lst [.ref u2, .ref u3, .ref u4]) n5
    have h6 := h5.new (o := .lst [.int 1, .int 1, .int 8]) n6
    have h7 := h6.new (o := .tup ((["a", "b1234567", "z", "zz"] : List Str).map V.str)) n7
    have h8 := h7.new (o := .lst [.int 3, .ref u1, .ref u5, .ref u6, .ref u7, .int 2]) n8
    have m1 : ∀ {p a : Addr × HO} {r : List (Addr × HO)}, p ∈ r → p ∈ a :: r := fun h => List.mem_cons_of_mem _ h
    have z : ∀ {a : Addr × HO} {r : List (Addr × HO)}, a ∈ a :: r := List.mem_cons_self
    refine rRepr_big (d := dLaw) (.lst (SqL.of (h8.at z)) (.cons (.int _) (.cons (dp_dL (h8.at (m1 (m1 (m1 (m1 (m1 (m1 (m1 z))))))))) (.cons (.lst (SqL.of (h8.at (m1 (m1 (m1 z))))) (.cons (dp_dL (h8.at (m1 (m1 (m1 (m1 (m1 (m1 z)))))))) (.cons (dp_dL (h8.at (m1 (m1 (m1 (m1 (m1 z))))))) (.cons (dp_dL (h8.at (m1 (m1 (m1 (m1 z)))))) .nil)))) (.cons (.lst (SqL.of (h8.at (m1 (m1 z)))) (.cons (.int _) (.cons (.int _) (.cons (.int _) .nil)))) (.cons (dp_dL (h8.at (m1 z))) (.cons (.int _) .nil))))))) shw_law (by decide) ?_
    refine ⟨rfl, _, rfl, ?_⟩
    rw [decide_eq_true rfl]
    refine iteF ?_
    have s15 : Same H (upd (upd (upd (upd (upd (upd (upd (upd H12 u1 (.tup [.str "m1", .str "m2", .str "m3", .str "m4", .str "m5"])) u2 (.tup [])) u3 (.tup [])) u4 (.tup [.str "go", .str "if"])) u5 (.lst [.ref u2, .ref u3, .ref u4])) u6 (.lst [.int 1, .int 1, .int 8])) u7 (.tup [.str "a", .str "b1234567", .str "z", .str "zz"])) u8 (.lst [.int 3, .ref u1, .ref u5, .ref u6, .ref u7, .int 2])) := s12.trans h8.sm
    clear h8 h7 h6 h5 h4 h3 h2 h1 m1 z
    revert s15
    generalize upd _ u8 (.lst [.int 3, .ref u1, .ref u5, .ref u6, .ref u7, .int 2]) = H15
    intro s15
    clear s12
    have hS15 := hS.ext s15
    dsimp only
    refine ⟨_, rfl, c, _, rfl, .inl hS15, _, _, rfl, _, _, rfl, ?_⟩
    rw [List.length_map]
    generalize hj : (if (if (5 : Int) < (ns.length : Int) then (5 : Int) else (ns.length : Int)) > 2 then (if (5 : Int) < (ns.length : Int) then (5 : Int) else (ns.length : Int)) else 2) = j
    have hj2 : 2 ≤ j ∧ j ≤ 5 := by
      subst hj
      constructor <;> (repeat' split) <;> omega
    clear hj
    refine ⟨j, rfl, by omega, by omega, fun D nD => lc_range (lo := 0) (n := j.toNat) (fun i H' => Same H15 H' ∧ H' D = some (.lst ((List.replicate i true).map V.bl))) ⟨fun b o e => (upd_ne (ne_of_none e nD)).trans e, upd_same⟩ ?_ ?_⟩
    · rintro i H3 hi ⟨s3, e3⟩
      refine ⟨rfl, _, rfl, _, rfl, irr ⟨c, ns, i, by rw [Int.zero_add]; rfl, hS15.ext s3, hl, by omega, fun a H4 na s4 w4 => ⟨a, _, rfl, w4, by omega, fun H5 g5 => ?_⟩⟩⟩
      have aD : D ≠ a := fun e => by rw [← e, e3] at na; cases na
      have e5 := g5 _ _ aD (s4 _ _ e3)
      refine ⟨_, e5, ?_, fun b o e => ?_, ?_⟩
      · rw [List.length_map, List.length_replicate]
        exact Nat.lt_of_lt_of_le (show i < 9 by omega) (by decide)
      · rw [upd_ne (ne_of_none e nD)]
        exact g5 _ _ (fun z => by rw [z] at e; have := s3 _ _ e; rw [na] at this; cases this) (s4 _ _ (s3 _ _ e))
      · rw [upd_same, List.replicate_succ', List.map_append]
        rfl
    · rintro H3 ⟨s3, e3⟩
      refine ⟨D, _, rfl, SqL.of e3, ?_⟩
      rw [show (List.replicate j.toNat true).all id = true from List.all_eq_true.mpr fun b hb => List.eq_of_mem_replicate hb]
      exact k H3
end
end RV
namespace RV
open PySem L2
/-- Rule(rows=..) -/
theorem kbRu {f : Addr} {K : PySem.W.Frag} {fd : FuncData} (F : Fun K "__init__" "Rule.__init__" s_Rule___init__ f fd) : KBn K fd ["self", "rows"] 1 ["rows"] gS' gS := by
  refine ⟨fun s us ws X h1 h2 => ?_, gS_rel⟩
  obtain ⟨oc, od, kV, doc, pm, an, cdv, ct, osl, rfl, lk, hcd⟩ := F.ex
  match us, h1, ws, h2 with
  | [x], _, [t], _ => exact BindsTo.of_eq rfl
end RV
namespace RV
open PySem L2
theorem all_mk {l : PySem.W.OpenLaw} {w : World} {K : PySem.W.Frag} {h : Heap} {mg : Str → Option Value} {fa : Addr} (X : K.In h) (G : h.Ns mainGlobals mg) (hfa : mg "law" = some (.ref fa))
    {tkA : Tok}
    {tkB : Tok}
    {tkC : Tok}
    {tkD : Tok}
    {tkE : Tok}
    {fIn : Addr}
    {odIn anIn : Option Addr} {slIn : Array (Option Value)} {ocIn kVIn dcIn pmIn cdIn ctIn : Value}
    {fNu : Addr}
    {odNu anNu : Option Addr} {slNu : Array (Option Value)} {ocNu kVNu dcNu pmNu cdNu ctNu : Value}
    {fWn : Addr}
    {odWn anWn : Option Addr} {slWn : Array (Option Value)} {ocWn kVWn dcWn pmWn cdWn ctWn : Value}
    {fIt : Addr}
    {odIt anIt : Option Addr} {slIt : Array (Option Value)} {ocIt kVIt dcIt pmIt cdIt ctIt : Value}
    {fCk : Addr}
    {odCk anCk : Option Addr} {slCk : Array (Option Value)} {ocCk kVCk dcCk pmCk cdCk ctCk : Value}
    {fCo : Addr}
    {odCo anCo : Option Addr} {slCo : Array (Option Value)} {ocCo kVCo dcCo pmCo cdCo ctCo : Value}
    {fWs : Addr}
    {odWs anWs : Option Addr} {slWs : Array (Option Value)} {ocWs kVWs dcWs pmWs cdWs ctWs : Value}
    {fWf : Addr}
    {odWf anWf : Option Addr} {slWf : Array (Option Value)} {ocWf kVWf dcWf pmWf cdWf ctWf : Value}
    {fWt : Addr}
    {odWt anWt : Option Addr} {slWt : Array (Option Value)} {ocWt kVWt dcWt pmWt cdWt ctWt : Value}
    {CS : Addr}
    {fSi : Addr}
    {tD : Addr}
    {odSi anSi odT : Option Addr} {slSi slT : Array (Option Value)} {ocSi kVSi dcSi pmSi cdSi ctSi : Value} {nT : Nat}
    {t0 : Addr}
    {fSs : Addr}
    {odSs anSs : Option Addr} {slSs : Array (Option Value)} {ocSs kVSs dcSs pmSs cdSs ctSs : Value}
    {pSt : Addr}
    {fSt : Addr}
    {rSt : List Value}
    {odSt anSt : Option Addr} {slSt : Array (Option Value)} {ocSt kVSt dcSt pmSt cdSt ctSt : Value}
    {fDg : Addr}
    {odDg anDg : Option Addr} {slDg : Array (Option Value)} {ocDg kVDg dcDg pmDg cdDg ctDg : Value}
    {fRn : Addr}
    {odRn anRn : Option Addr} {slRn : Array (Option Value)} {ocRn kVRn dcRn pmRn cdRn ctRn : Value}
    {fAp : Addr}
    {odAp anAp : Option Addr} {slAp : Array (Option Value)} {ocAp kVAp dcAp pmAp cdAp ctAp : Value}
    {fRt : Addr}
    {odRt anRt : Option Addr} {slRt : Array (Option Value)} {ocRt kVRt dcRt pmRt cdRt ctRt : Value}
    {fTi : Addr}
    {odTi anTi : Option Addr} {slTi : Array (Option Value)} {ocTi kVTi dcTi pmTi cdTi ctTi : Value}
    {pSr : Addr}
    {fSr : Addr}
    {rSr : List Value}
    {odSr anSr : Option Addr} {slSr : Array (Option Value)} {ocSr kVSr dcSr pmSr cdSr ctSr : Value}
    {tkP : Tok}
    {tkQ : Tok}
    {tkR : Tok}
    {tkS : Tok}
    {tkT : Tok}
    {tkU : Tok}
    {tkV : Tok}
    {CR : Addr}
    {fRd : Addr}
    {odRd anRd : Option Addr} {slRd : Array (Option Value)} {ocRd kVRd dcRd pmRd cdRd ctRd : Value}
    {fSp : Addr}
    {odSp anSp : Option Addr} {slSp : Array (Option Value)} {ocSp kVSp dcSp pmSp cdSp ctSp : Value}
    {fTe : Addr}
    {odTe anTe : Option Addr} {slTe : Array (Option Value)} {ocTe kVTe dcTe pmTe cdTe ctTe : Value}
    {fVo : Addr}
    {odVo anVo : Option Addr} {slVo : Array (Option Value)} {ocVo kVVo dcVo pmVo cdVo ctVo : Value}
    {fRo : Addr}
    {odRo anRo : Option Addr} {slRo : Array (Option Value)} {ocRo kVRo dcRo pmRo cdRo ctRo : Value}
    {fNs : Addr}
    {odNs anNs : Option Addr} {slNs : Array (Option Value)} {ocNs kVNs dcNs pmNs cdNs ctNs : Value}
    {fRi : Addr}
    {odRi anRi : Option Addr} {slRi : Array (Option Value)} {ocRi kVRi dcRi pmRi cdRi ctRi : Value}
    {prr : Addr}
    {frr : Addr}
    {rrr : List Value}
    {odrr anrr : Option Addr} {slrr : Array (Option Value)} {ocrr kVrr dcrr pmrr cdrr ctrr : Value}
    {prm : Addr}
    {frm : Addr}
    {rrm : List Value}
    {odrm anrm : Option Addr} {slrm : Array (Option Value)} {ocrm kVrm dcrm pmrm cdrm ctrm : Value}
    {fRl : Addr}
    {odRl anRl : Option Addr} {slRl : Array (Option Value)} {ocRl kVRl dcRl pmRl cdRl ctRl : Value}
    {fRs : Addr}
    {odRs anRs : Option Addr} {slRs : Array (Option Value)} {ocRs kVRs dcRs pmRs cdRs ctRs : Value}
    {fRq : Addr}
    {odRq anRq : Option Addr} {slRq : Array (Option Value)} {ocRq kVRq dcRq pmRq cdRq ctRq : Value}
    {pRx : Addr}
    {fRx : Addr}
    {rRx : List Value}
    {odRx anRx : Option Addr} {slRx : Array (Option Value)} {ocRx kVRx dcRx pmRx cdRx ctRx : Value}
    {fSg : Addr}
    {odSg anSg : Option Addr} {slSg : Array (Option Value)} {ocSg kVSg dcSg pmSg cdSg ctSg : Value}
    {fTa : Addr}
    {odTa anTa : Option Addr} {slTa : Array (Option Value)} {ocTa kVTa dcTa pmTa cdTa ctTa : Value}
    {fTl : Addr}
    {odTl anTl : Option Addr} {slTl : Array (Option Value)} {ocTl kVTl dcTl pmTl cdTl ctTl : Value}
    {fTm : Addr}
    {odTm anTm : Option Addr} {slTm : Array (Option Value)} {ocTm kVTm dcTm pmTm cdTm ctTm : Value}
    {fTo : Addr}
    {odTo anTo : Option Addr} {slTo : Array (Option Value)} {ocTo kVTo dcTo pmTo cdTo ctTo : Value}
    {fPk : Addr}
    {odPk anPk : Option Addr} {slPk : Array (Option Value)} {ocPk kVPk dcPk pmPk cdPk ctPk : Value}
    {fLs : Addr}
    {odLs anLs : Option Addr} {slLs : Array (Option Value)} {ocLs kVLs dcLs pmLs cdLs ctLs : Value}
    {fSx : Addr}
    {odSx anSx : Option Addr} {slSx : Array (Option Value)} {ocSx kVSx dcSx pmSx cdSx ctSx : Value}
    {fTd : Addr}
    {odTd anTd : Option Addr} {slTd : Array (Option Value)} {ocTd kVTd dcTd pmTd cdTd ctTd : Value}
    {fLi : Addr}
    {odLi anLi : Option Addr} {slLi : Array (Option Value)} {ocLi kVLi dcLi pmLi cdLi ctLi : Value}
    {fNo : Addr}
    {odNo anNo : Option Addr} {slNo : Array (Option Value)} {ocNo kVNo dcNo pmNo cdNo ctNo : Value}
    {fRt2 : Addr}
    {odRt2 anRt2 : Option Addr} {slRt2 : Array (Option Value)} {ocRt2 kVRt2 dcRt2 pmRt2 cdRt2 ctRt2 : Value}
    {fLa : Addr}
    {odLa anLa : Option Addr} {slLa : Array (Option Value)} {ocLa kVLa dcLa pmLa cdLa ctLa : Value}
    (b_len : PySem.W.nsIn K mainGlobals "len" = some none)
    (b_int : PySem.W.nsIn K mainGlobals "int" = some none)
    (b_abs : PySem.W.nsIn K mainGlobals "abs" = some none)
    (b_max : PySem.W.nsIn K mainGlobals "max" = some none)
    (b_min : PySem.W.nsIn K mainGlobals "min" = some none)
    (b_all : PySem.W.nsIn K mainGlobals "all" = some none)
    (b_any : PySem.W.nsIn K mainGlobals "any" = some none)
    (b_repr : PySem.W.nsIn K mainGlobals "repr" = some none)
    (b_range : PySem.W.nsIn K mainGlobals "range" = some none)
    (b_divmod : PySem.W.nsIn K mainGlobals "divmod" = some none)
    (b_isinstance : PySem.W.nsIn K mainGlobals "isinstance" = some none)
    (b_str : PySem.W.nsIn K mainGlobals "str" = some none)
    (b_sum : PySem.W.nsIn K mainGlobals "sum" = some none)
    (b_sorted : PySem.W.nsIn K mainGlobals "sorted" = some none)
    (b_set : PySem.W.nsIn K mainGlobals "set" = some none)
    (b_tuple : PySem.W.nsIn K mainGlobals "tuple" = some none)
    (b_enumerate : PySem.W.nsIn K mainGlobals "enumerate" = some none)
    (b_bool : PySem.W.nsIn K mainGlobals "bool" = some none)
    (g__LETTERS : PySem.W.nsIn K mainGlobals "_LETTERS" = some (some (.str "abcdefghijklmnopqrstuvwxyz" tkA)))
    (g__DIGITS : PySem.W.nsIn K mainGlobals "_DIGITS" = some (some (.str "0123456789" tkB)))
    (g__LONGEST_NAME : PySem.W.nsIn K mainGlobals "_LONGEST_NAME" = some (some (.int 8 tkC)))
    (g__PIECE_WORTH : PySem.W.nsIn K mainGlobals "_PIECE_WORTH" = some (some (.int 10000000000000000000000000000000000000000000000000000000000000000 tkD)))
    (g__PIECE : PySem.W.nsIn K mainGlobals "_PIECE" = some (some (.int 64 tkE)))
    (aIn : PySem.W.nsIn K mainGlobals "is_name" = some (some (.ref fIn)))
    (lIn : K.lookup fIn = some ⟨ocIn, odIn, .func (PySem.W.fnOf "is_name" "is_name" (defArgs s_is_name) (defBody s_is_name) (defScope s_is_name) .none kVIn dcIn pmIn anIn cdIn ctIn), slIn⟩)
    (cIn : PySem.W.codeIn K cdIn "is_name" = true)
    (kIn : PySem.W.keepIn K (.ref fIn) = true)
    (aNu : PySem.W.nsIn K mainGlobals "is_number" = some (some (.ref fNu)))
    (lNu : K.lookup fNu = some ⟨ocNu, odNu, .func (PySem.W.fnOf "is_number" "is_number" (defArgs s_is_number) (defBody s_is_number) (defScope s_is_number) .none kVNu dcNu pmNu anNu cdNu ctNu), slNu⟩)
    (cNu : PySem.W.codeIn K cdNu "is_number" = true)
    (kNu : PySem.W.keepIn K (.ref fNu) = true)
    (aWn : PySem.W.nsIn K mainGlobals "written_number" = some (some (.ref fWn)))
    (lWn : K.lookup fWn = some ⟨ocWn, odWn, .func (PySem.W.fnOf "written_number" "written_number" (defArgs s_written_number) (defBody s_written_number) (defScope s_written_number) .none kVWn dcWn pmWn anWn cdWn ctWn), slWn⟩)
    (cWn : PySem.W.codeIn K cdWn "written_number" = true)
    (kWn : PySem.W.keepIn K (.ref fWn) = true)
    (aIt : PySem.W.nsIn K mainGlobals "_is_term" = some (some (.ref fIt)))
    (lIt : K.lookup fIt = some ⟨ocIt, odIt, .func (PySem.W.fnOf "_is_term" "_is_term" (defArgs s_is_term) (defBody s_is_term) (defScope s_is_term) .none kVIt dcIt pmIt anIt cdIt ctIt), slIt⟩)
    (cIt : PySem.W.codeIn K cdIt "_is_term" = true)
    (kIt : PySem.W.keepIn K (.ref fIt) = true)
    (aCk : PySem.W.nsIn K mainGlobals "_check_terms" = some (some (.ref fCk)))
    (lCk : K.lookup fCk = some ⟨ocCk, odCk, .func (PySem.W.fnOf "_check_terms" "_check_terms" (defArgs s_check_terms) (defBody s_check_terms) (defScope s_check_terms) .none kVCk dcCk pmCk anCk cdCk ctCk), slCk⟩)
    (cCk : PySem.W.codeIn K cdCk "_check_terms" = true)
    (kCk : PySem.W.keepIn K (.ref fCk) = true)
    (aCo : PySem.W.nsIn K mainGlobals "_collected" = some (some (.ref fCo)))
    (lCo : K.lookup fCo = some ⟨ocCo, odCo, .func (PySem.W.fnOf "_collected" "_collected" (defArgs s_collected) (defBody s_collected) (defScope s_collected) .none kVCo dcCo pmCo anCo cdCo ctCo), slCo⟩)
    (cCo : PySem.W.codeIn K cdCo "_collected" = true)
    (kCo : PySem.W.keepIn K (.ref fCo) = true)
    (aWs : PySem.W.nsIn K mainGlobals "_without_sign" = some (some (.ref fWs)))
    (lWs : K.lookup fWs = some ⟨ocWs, odWs, .func (PySem.W.fnOf "_without_sign" "_without_sign" (defArgs s_without_sign) (defBody s_without_sign) (defScope s_without_sign) .none kVWs dcWs pmWs anWs cdWs ctWs), slWs⟩)
    (cWs : PySem.W.codeIn K cdWs "_without_sign" = true)
    (kWs : PySem.W.keepIn K (.ref fWs) = true)
    (aWf : PySem.W.nsIn K mainGlobals "_written_further" = some (some (.ref fWf)))
    (lWf : K.lookup fWf = some ⟨ocWf, odWf, .func (PySem.W.fnOf "_written_further" "_written_further" (defArgs s_written_further) (defBody s_written_further) (defScope s_written_further) .none kVWf dcWf pmWf anWf cdWf ctWf), slWf⟩)
    (cWf : PySem.W.codeIn K cdWf "_written_further" = true)
    (kWf : PySem.W.keepIn K (.ref fWf) = true)
    (aWt : PySem.W.nsIn K mainGlobals "_written_terms" = some (some (.ref fWt)))
    (lWt : K.lookup fWt = some ⟨ocWt, odWt, .func (PySem.W.fnOf "_written_terms" "_written_terms" (defArgs s_written_terms) (defBody s_written_terms) (defScope s_written_terms) .none kVWt dcWt pmWt anWt cdWt ctWt), slWt⟩)
    (cWt : PySem.W.codeIn K cdWt "_written_terms" = true)
    (kWt : PySem.W.keepIn K (.ref fWt) = true)
    (nS : PySem.W.nsIn K mainGlobals "Sum" = some (some (.ref CS)))
    (pgS : PySem.W.plainGet K CS Str.empty = true)
    (hdS : PySem.W.hasDictIn K CS = true)
    (poS : PySem.W.plainOver K CS = true)
    (saS : PySem.W.findIn K (.ref CS) "__setattr__" = some (some (.builtin "object.__setattr__")))
    (mkS : PySem.W.makesIn K CS = true)
    (kcS : PySem.W.keepIn K (.ref CS) = true)
    (haS : PySem.W.findIn K (.ref CS) "__class__" = some (some (.builtin "object.__class__")))
    (hmS : PySem.W.mroIn K CS (.type "object") = some true)
    (tyS : PySem.W.typeIn K (.ref CS) = some (.type "type"))
    (suS : PySem.W.subIn K (.ref CS) (.ref CS) = some true)
    (obS : PySem.W.subIn K (.ref CS) (.type "object") = some true)
    (noS0 : PySem.W.findIn K (.ref CS) "_terms" = some none)
    (hn : PySem.W.specialIn K (.builtin "object.__class__") "__get__" = some (some (.builtin "getset_descriptor.__get__")))
    (htk : PySem.W.takesIn K (.builtin "object.__class__") = some true)
    (aSi : PySem.W.findIn K (.ref CS) "__init__" = some (some (.ref fSi)))
    (iSi : PySem.W.isFn K (.ref fSi) = true)
    (lSi : K.lookup fSi = some ⟨ocSi, odSi, .func (PySem.W.fnOf "__init__" "Sum.__init__" (defArgs s_Sum___init__) (defBody s_Sum___init__) (defScope s_Sum___init__) (.ref tD) kVSi dcSi pmSi anSi cdSi ctSi), slSi⟩)
    (cSi : PySem.W.codeIn K cdSi "Sum.__init__" = true)
    (kSi : PySem.W.keepIn K (.ref fSi) = true)
    (lT : K.lookup tD = some ⟨.type "tuple", odT, .seq #[.ref t0] nT, slT⟩)
    (aSs : PySem.W.findIn K (.ref CS) "__str__" = some (some (.ref fSs)))
    (iSs : PySem.W.isFn K (.ref fSs) = true)
    (lSs : K.lookup fSs = some ⟨ocSs, odSs, .func (PySem.W.fnOf "__str__" "Sum.__str__" (defArgs s_Sum___str__) (defBody s_Sum___str__) (defScope s_Sum___str__) .none kVSs dcSs pmSs anSs cdSs ctSs), slSs⟩)
    (cSs : PySem.W.codeIn K cdSs "Sum.__str__" = true)
    (kSs : PySem.W.keepIn K (.ref fSs) = true)
    (fiSs : PySem.W.fnIn K fSs = true)
    (aSt : PySem.W.findIn K (.ref CS) "terms" = some (some (.ref pSt)))
    (gSt : PySem.W.specialIn K (.ref pSt) "__get__" = some (some (.builtin "property.__get__")))
    (tSt : PySem.W.takesIn K (.ref pSt) = some true)
    (rSt_ : PySem.W.recIn K pSt "property" = some (.ref fSt :: rSt))
    (lSt : K.lookup fSt = some ⟨ocSt, odSt, .func (PySem.W.fnOf "terms" "Sum.terms" (defArgs s_Sum_terms) (defBody s_Sum_terms) (defScope s_Sum_terms) .none kVSt dcSt pmSt anSt cdSt ctSt), slSt⟩)
    (cSt : PySem.W.codeIn K cdSt "Sum.terms" = true)
    (kSt : PySem.W.keepIn K (.ref fSt) = true)
    (b_zip : PySem.W.nsIn K mainGlobals "zip" = some none)
    (aDg : PySem.W.nsIn K mainGlobals "is_digits" = some (some (.ref fDg)))
    (lDg : K.lookup fDg = some ⟨ocDg, odDg, .func (PySem.W.fnOf "is_digits" "is_digits" (defArgs s_is_digits) (defBody s_is_digits) (defScope s_is_digits) .none kVDg dcDg pmDg anDg cdDg ctDg), slDg⟩)
    (cDg : PySem.W.codeIn K cdDg "is_digits" = true)
    (kDg : PySem.W.keepIn K (.ref fDg) = true)
    (aRn : PySem.W.nsIn K mainGlobals "read_number" = some (some (.ref fRn)))
    (lRn : K.lookup fRn = some ⟨ocRn, odRn, .func (PySem.W.fnOf "read_number" "read_number" (defArgs s_read_number) (defBody s_read_number) (defScope s_read_number) .none kVRn dcRn pmRn anRn cdRn ctRn), slRn⟩)
    (cRn : PySem.W.codeIn K cdRn "read_number" = true)
    (kRn : PySem.W.keepIn K (.ref fRn) = true)
    (aAp : PySem.W.nsIn K mainGlobals "_with_sign_apart" = some (some (.ref fAp)))
    (lAp : K.lookup fAp = some ⟨ocAp, odAp, .func (PySem.W.fnOf "_with_sign_apart" "_with_sign_apart" (defArgs s_with_sign_apart) (defBody s_with_sign_apart) (defScope s_with_sign_apart) .none kVAp dcAp pmAp anAp cdAp ctAp), slAp⟩)
    (cAp : PySem.W.codeIn K cdAp "_with_sign_apart" = true)
    (kAp : PySem.W.keepIn K (.ref fAp) = true)
    (aRt : PySem.W.nsIn K mainGlobals "_read_term" = some (some (.ref fRt)))
    (lRt : K.lookup fRt = some ⟨ocRt, odRt, .func (PySem.W.fnOf "_read_term" "_read_term" (defArgs s_read_term) (defBody s_read_term) (defScope s_read_term) .none kVRt dcRt pmRt anRt cdRt ctRt), slRt⟩)
    (cRt : PySem.W.codeIn K cdRt "_read_term" = true)
    (kRt : PySem.W.keepIn K (.ref fRt) = true)
    (aTi : PySem.W.nsIn K mainGlobals "_terms_in" = some (some (.ref fTi)))
    (lTi : K.lookup fTi = some ⟨ocTi, odTi, .func (PySem.W.fnOf "_terms_in" "_terms_in" (defArgs s_terms_in) (defBody s_terms_in) (defScope s_terms_in) .none kVTi dcTi pmTi anTi cdTi ctTi), slTi⟩)
    (cTi : PySem.W.codeIn K cdTi "_terms_in" = true)
    (kTi : PySem.W.keepIn K (.ref fTi) = true)
    (rdS : PySem.W.readsIn K CS (.type "type") = true)
    (gaS : PySem.W.specialIn K (.ref CS) "__getattribute__" = some (some (.builtin "type.__getattribute__")))
    (aSr : PySem.W.findCls K (.ref CS) (.type "type") "read" = some (.get (.builtin "classmethod.__get__") (.ref pSr) .none (.ref CS)))
    (rSr_ : PySem.W.recIn K pSr "classmethod" = some (.ref fSr :: rSr))
    (fiSr : PySem.W.fnIn K fSr = true)
    (lSr : K.lookup fSr = some ⟨ocSr, odSr, .func (PySem.W.fnOf "read" "Sum.read" (defArgs s_Sum_read) (defBody s_Sum_read) (defScope s_Sum_read) .none kVSr dcSr pmSr anSr cdSr ctSr), slSr⟩)
    (cSr : PySem.W.codeIn K cdSr "Sum.read" = true)
    (kSr : PySem.W.keepIn K (.ref fSr) = true)
    (g_IF : PySem.W.nsIn K mainGlobals "IF" = some (some (.str "if" tkP)))
    (g_VOTE : PySem.W.nsIn K mainGlobals "VOTE" = some (some (.str "vote" tkQ)))
    (g_TELL : PySem.W.nsIn K mainGlobals "TELL" = some (some (.str "tell" tkR)))
    (g_DOUBT : PySem.W.nsIn K mainGlobals "DOUBT" = some (some (.str "doubt" tkS)))
    (g_MOST_ROWS : PySem.W.nsIn K mainGlobals "MOST_ROWS" = some (some (.int 8 tkT)))
    (g_MOST_SUMS : PySem.W.nsIn K mainGlobals "MOST_SUMS" = some (some (.int 10 tkU)))
    (g_MOST_FAULTS : PySem.W.nsIn K mainGlobals "MOST_FAULTS" = some (some (.int 3 tkV)))
    (nR : PySem.W.nsIn K mainGlobals "Rule" = some (some (.ref CR)))
    (pgR : PySem.W.plainGet K CR Str.empty = true)
    (hdR : PySem.W.hasDictIn K CR = true)
    (poR : PySem.W.plainOver K CR = true)
    (saR : PySem.W.findIn K (.ref CR) "__setattr__" = some (some (.builtin "object.__setattr__")))
    (mkR : PySem.W.makesIn K CR = true)
    (kcR : PySem.W.keepIn K (.ref CR) = true)
    (haR : PySem.W.findIn K (.ref CR) "__class__" = some (some (.builtin "object.__class__")))
    (hmR : PySem.W.mroIn K CR (.type "object") = some true)
    (tyR : PySem.W.typeIn K (.ref CR) = some (.type "type"))
    (suR : PySem.W.subIn K (.ref CR) (.ref CR) = some true)
    (obR : PySem.W.subIn K (.ref CR) (.type "object") = some true)
    (noR0 : PySem.W.findIn K (.ref CR) "_steps" = some none)
    (noR1 : PySem.W.findIn K (.ref CR) "_rows" = some none)
    (neR : PySem.W.findIn K (.ref CR) "__ne__" = some (some (.builtin "object.__ne__")))
    (nbR : PySem.W.findIn K (.ref CR) "__bool__" = some none)
    (z_ft : PySem.W.notFirst K CR (.type "tuple") = true)
    (z_st : PySem.W.subIn K (.type "tuple") (.ref CR) = some false)
    (z_fx : PySem.W.notFirst K CR (.type "str") = true)
    (z_sx : PySem.W.subIn K (.type "str") (.ref CR) = some false)
    (z_fn : PySem.W.notFirst K CR (.type "NoneType") = true)
    (z_sn : PySem.W.subIn K (.type "NoneType") (.ref CR) = some false)
    (aRd : PySem.W.nsIn K mainGlobals "_read_digit" = some (some (.ref fRd)))
    (lRd : K.lookup fRd = some ⟨ocRd, odRd, .func (PySem.W.fnOf "_read_digit" "_read_digit" (defArgs s_read_digit) (defBody s_read_digit) (defScope s_read_digit) .none kVRd dcRd pmRd anRd cdRd ctRd), slRd⟩)
    (cRd : PySem.W.codeIn K cdRd "_read_digit" = true)
    (kRd : PySem.W.keepIn K (.ref fRd) = true)
    (aSp : PySem.W.nsIn K mainGlobals "_step" = some (some (.ref fSp)))
    (lSp : K.lookup fSp = some ⟨ocSp, odSp, .func (PySem.W.fnOf "_step" "_step" (defArgs s_step) (defBody s_step) (defScope s_step) .none kVSp dcSp pmSp anSp cdSp ctSp), slSp⟩)
    (cSp : PySem.W.codeIn K cdSp "_step" = true)
    (kSp : PySem.W.keepIn K (.ref fSp) = true)
    (aTe : PySem.W.nsIn K mainGlobals "_read_test" = some (some (.ref fTe)))
    (lTe : K.lookup fTe = some ⟨ocTe, odTe, .func (PySem.W.fnOf "_read_test" "_read_test" (defArgs s_read_test) (defBody s_read_test) (defScope s_read_test) .none kVTe dcTe pmTe anTe cdTe ctTe), slTe⟩)
    (cTe : PySem.W.codeIn K cdTe "_read_test" = true)
    (kTe : PySem.W.keepIn K (.ref fTe) = true)
    (aVo : PySem.W.nsIn K mainGlobals "_read_vote" = some (some (.ref fVo)))
    (lVo : K.lookup fVo = some ⟨ocVo, odVo, .func (PySem.W.fnOf "_read_vote" "_read_vote" (defArgs s_read_vote) (defBody s_read_vote) (defScope s_read_vote) .none kVVo dcVo pmVo anVo cdVo ctVo), slVo⟩)
    (cVo : PySem.W.codeIn K cdVo "_read_vote" = true)
    (kVo : PySem.W.keepIn K (.ref fVo) = true)
    (aRo : PySem.W.nsIn K mainGlobals "_read_row" = some (some (.ref fRo)))
    (lRo : K.lookup fRo = some ⟨ocRo, odRo, .func (PySem.W.fnOf "_read_row" "_read_row" (defArgs s_read_row) (defBody s_read_row) (defScope s_read_row) .none kVRo dcRo pmRo anRo cdRo ctRo), slRo⟩)
    (cRo : PySem.W.codeIn K cdRo "_read_row" = true)
    (kRo : PySem.W.keepIn K (.ref fRo) = true)
    (aNs : PySem.W.nsIn K mainGlobals "_steps_in" = some (some (.ref fNs)))
    (lNs : K.lookup fNs = some ⟨ocNs, odNs, .func (PySem.W.fnOf "_steps_in" "_steps_in" (defArgs s_steps_in) (defBody s_steps_in) (defScope s_steps_in) .none kVNs dcNs pmNs anNs cdNs ctNs), slNs⟩)
    (cNs : PySem.W.codeIn K cdNs "_steps_in" = true)
    (kNs : PySem.W.keepIn K (.ref fNs) = true)
    (aRi : PySem.W.findIn K (.ref CR) "__init__" = some (some (.ref fRi)))
    (iRi : PySem.W.isFn K (.ref fRi) = true)
    (lRi : K.lookup fRi = some ⟨ocRi, odRi, .func (PySem.W.fnOf "__init__" "Rule.__init__" (defArgs s_Rule___init__) (defBody s_Rule___init__) (defScope s_Rule___init__) .none kVRi dcRi pmRi anRi cdRi ctRi), slRi⟩)
    (cRi : PySem.W.codeIn K cdRi "Rule.__init__" = true)
    (kRi : PySem.W.keepIn K (.ref fRi) = true)
    (arr : PySem.W.findIn K (.ref CR) "rows" = some (some (.ref prr)))
    (grr : PySem.W.specialIn K (.ref prr) "__get__" = some (some (.builtin "property.__get__")))
    (trr : PySem.W.takesIn K (.ref prr) = some true)
    (rrr_ : PySem.W.recIn K prr "property" = some (.ref frr :: rrr))
    (lrr : K.lookup frr = some ⟨ocrr, odrr, .func (PySem.W.fnOf "rows" "Rule.rows" (defArgs s_Rule_rows) (defBody s_Rule_rows) (defScope s_Rule_rows) .none kVrr dcrr pmrr anrr cdrr ctrr), slrr⟩)
    (crr : PySem.W.codeIn K cdrr "Rule.rows" = true)
    (krr : PySem.W.keepIn K (.ref frr) = true)
    (arm : PySem.W.findIn K (.ref CR) "meters" = some (some (.ref prm)))
    (grm : PySem.W.specialIn K (.ref prm) "__get__" = some (some (.builtin "property.__get__")))
    (trm : PySem.W.takesIn K (.ref prm) = some true)
    (rrm_ : PySem.W.recIn K prm "property" = some (.ref frm :: rrm))
    (lrm : K.lookup frm = some ⟨ocrm, odrm, .func (PySem.W.fnOf "meters" "Rule.meters" (defArgs s_Rule_meters) (defBody s_Rule_meters) (defScope s_Rule_meters) .none kVrm dcrm pmrm anrm cdrm ctrm), slrm⟩)
    (crm : PySem.W.codeIn K cdrm "Rule.meters" = true)
    (krm : PySem.W.keepIn K (.ref frm) = true)
    (aRl : PySem.W.findIn K (.ref CR) "__len__" = some (some (.ref fRl)))
    (iRl : PySem.W.isFn K (.ref fRl) = true)
    (lRl : K.lookup fRl = some ⟨ocRl, odRl, .func (PySem.W.fnOf "__len__" "Rule.__len__" (defArgs s_Rule___len__) (defBody s_Rule___len__) (defScope s_Rule___len__) .none kVRl dcRl pmRl anRl cdRl ctRl), slRl⟩)
    (cRl : PySem.W.codeIn K cdRl "Rule.__len__" = true)
    (kRl : PySem.W.keepIn K (.ref fRl) = true)
    (fiRl : PySem.W.fnIn K fRl = true)
    (aRs : PySem.W.findIn K (.ref CR) "__str__" = some (some (.ref fRs)))
    (iRs : PySem.W.isFn K (.ref fRs) = true)
    (lRs : K.lookup fRs = some ⟨ocRs, odRs, .func (PySem.W.fnOf "__str__" "Rule.__str__" (defArgs s_Rule___str__) (defBody s_Rule___str__) (defScope s_Rule___str__) .none kVRs dcRs pmRs anRs cdRs ctRs), slRs⟩)
    (cRs : PySem.W.codeIn K cdRs "Rule.__str__" = true)
    (kRs : PySem.W.keepIn K (.ref fRs) = true)
    (fiRs : PySem.W.fnIn K fRs = true)
    (aRq : PySem.W.findIn K (.ref CR) "__eq__" = some (some (.ref fRq)))
    (iRq : PySem.W.isFn K (.ref fRq) = true)
    (lRq : K.lookup fRq = some ⟨ocRq, odRq, .func (PySem.W.fnOf "__eq__" "Rule.__eq__" (defArgs s_Rule___eq__) (defBody s_Rule___eq__) (defScope s_Rule___eq__) .none kVRq dcRq pmRq anRq cdRq ctRq), slRq⟩)
    (cRq : PySem.W.codeIn K cdRq "Rule.__eq__" = true)
    (kRq : PySem.W.keepIn K (.ref fRq) = true)
    (fiRq : PySem.W.fnIn K fRq = true)
    (rdR : PySem.W.readsIn K CR (.type "type") = true)
    (gaR : PySem.W.specialIn K (.ref CR) "__getattribute__" = some (some (.builtin "type.__getattribute__")))
    (aRx : PySem.W.findCls K (.ref CR) (.type "type") "read" = some (.get (.builtin "classmethod.__get__") (.ref pRx) .none (.ref CR)))
    (rRx_ : PySem.W.recIn K pRx "classmethod" = some (.ref fRx :: rRx))
    (fiRx : PySem.W.fnIn K fRx = true)
    (lRx : K.lookup fRx = some ⟨ocRx, odRx, .func (PySem.W.fnOf "read" "Rule.read" (defArgs s_Rule_read) (defBody s_Rule_read) (defScope s_Rule_read) .none kVRx dcRx pmRx anRx cdRx ctRx), slRx⟩)
    (cRx : PySem.W.codeIn K cdRx "Rule.read" = true)
    (kRx : PySem.W.keepIn K (.ref fRx) = true)
    (aSg : PySem.W.nsIn K mainGlobals "_law_spring" = some (some (.ref fSg)))
    (lSg : K.lookup fSg = some ⟨ocSg, odSg, .func (PySem.W.fnOf "_law_spring" "_law_spring" (defArgs s_spring) (defBody s_spring) (defScope s_spring) .none kVSg dcSg pmSg anSg cdSg ctSg), slSg⟩)
    (cSg : PySem.W.codeIn K cdSg "_law_spring" = true)
    (kSg : PySem.W.keepIn K (.ref fSg) = true)
    (aTa : PySem.W.nsIn K mainGlobals "_law_take" = some (some (.ref fTa)))
    (lTa : K.lookup fTa = some ⟨ocTa, odTa, .func (PySem.W.fnOf "_law_take" "_law_take" (defArgs s_take) (defBody s_take) (defScope s_take) .none kVTa dcTa pmTa anTa cdTa ctTa), slTa⟩)
    (cTa : PySem.W.codeIn K cdTa "_law_take" = true)
    (kTa : PySem.W.keepIn K (.ref fTa) = true)
    (aTl : PySem.W.nsIn K mainGlobals "_law_titles" = some (some (.ref fTl)))
    (lTl : K.lookup fTl = some ⟨ocTl, odTl, .func (PySem.W.fnOf "_law_titles" "_law_titles" (defArgs s_titles) (defBody s_titles) (defScope s_titles) .none kVTl dcTl pmTl anTl cdTl ctTl), slTl⟩)
    (cTl : PySem.W.codeIn K cdTl "_law_titles" = true)
    (kTl : PySem.W.keepIn K (.ref fTl) = true)
    (aTm : PySem.W.nsIn K mainGlobals "_law_times" = some (some (.ref fTm)))
    (lTm : K.lookup fTm = some ⟨ocTm, odTm, .func (PySem.W.fnOf "_law_times" "_law_times" (defArgs s_times) (defBody s_times) (defScope s_times) .none kVTm dcTm pmTm anTm cdTm ctTm), slTm⟩)
    (cTm : PySem.W.codeIn K cdTm "_law_times" = true)
    (kTm : PySem.W.keepIn K (.ref fTm) = true)
    (aTo : PySem.W.nsIn K mainGlobals "_law_total" = some (some (.ref fTo)))
    (lTo : K.lookup fTo = some ⟨ocTo, odTo, .func (PySem.W.fnOf "_law_total" "_law_total" (defArgs s_total) (defBody s_total) (defScope s_total) .none kVTo dcTo pmTo anTo cdTo ctTo), slTo⟩)
    (cTo : PySem.W.codeIn K cdTo "_law_total" = true)
    (kTo : PySem.W.keepIn K (.ref fTo) = true)
    (aPk : PySem.W.nsIn K mainGlobals "_law_pick" = some (some (.ref fPk)))
    (lPk : K.lookup fPk = some ⟨ocPk, odPk, .func (PySem.W.fnOf "_law_pick" "_law_pick" (defArgs s_pick) (defBody s_pick) (defScope s_pick) .none kVPk dcPk pmPk anPk cdPk ctPk), slPk⟩)
    (cPk : PySem.W.codeIn K cdPk "_law_pick" = true)
    (kPk : PySem.W.keepIn K (.ref fPk) = true)
    (aLs : PySem.W.nsIn K mainGlobals "_law_last" = some (some (.ref fLs)))
    (lLs : K.lookup fLs = some ⟨ocLs, odLs, .func (PySem.W.fnOf "_law_last" "_law_last" (defArgs s_last) (defBody s_last) (defScope s_last) .none kVLs dcLs pmLs anLs cdLs ctLs), slLs⟩)
    (cLs : PySem.W.codeIn K cdLs "_law_last" = true)
    (kLs : PySem.W.keepIn K (.ref fLs) = true)
    (aSx : PySem.W.nsIn K mainGlobals "_law_steps" = some (some (.ref fSx)))
    (lSx : K.lookup fSx = some ⟨ocSx, odSx, .func (PySem.W.fnOf "_law_steps" "_law_steps" (defArgs s_steps) (defBody s_steps) (defScope s_steps) .none kVSx dcSx pmSx anSx cdSx ctSx), slSx⟩)
    (cSx : PySem.W.codeIn K cdSx "_law_steps" = true)
    (kSx : PySem.W.keepIn K (.ref fSx) = true)
    (aTd : PySem.W.nsIn K mainGlobals "_law_told" = some (some (.ref fTd)))
    (lTd : K.lookup fTd = some ⟨ocTd, odTd, .func (PySem.W.fnOf "_law_told" "_law_told" (defArgs s_told) (defBody s_told) (defScope s_told) .none kVTd dcTd pmTd anTd cdTd ctTd), slTd⟩)
    (cTd : PySem.W.codeIn K cdTd "_law_told" = true)
    (kTd : PySem.W.keepIn K (.ref fTd) = true)
    (aLi : PySem.W.nsIn K mainGlobals "_law_line" = some (some (.ref fLi)))
    (lLi : K.lookup fLi = some ⟨ocLi, odLi, .func (PySem.W.fnOf "_law_line" "_law_line" (defArgs s_line) (defBody s_line) (defScope s_line) .none kVLi dcLi pmLi anLi cdLi ctLi), slLi⟩)
    (cLi : PySem.W.codeIn K cdLi "_law_line" = true)
    (kLi : PySem.W.keepIn K (.ref fLi) = true)
    (aNo : PySem.W.nsIn K mainGlobals "_law_names_of" = some (some (.ref fNo)))
    (lNo : K.lookup fNo = some ⟨ocNo, odNo, .func (PySem.W.fnOf "_law_names_of" "_law_names_of" (defArgs s_names_of) (defBody s_names_of) (defScope s_names_of) .none kVNo dcNo pmNo anNo cdNo ctNo), slNo⟩)
    (cNo : PySem.W.codeIn K cdNo "_law_names_of" = true)
    (kNo : PySem.W.keepIn K (.ref fNo) = true)
    (aRt2 : PySem.W.nsIn K mainGlobals "_law_right" = some (some (.ref fRt2)))
    (lRt2 : K.lookup fRt2 = some ⟨ocRt2, odRt2, .func (PySem.W.fnOf "_law_right" "_law_right" (defArgs s_right) (defBody s_right) (defScope s_right) .none kVRt2 dcRt2 pmRt2 anRt2 cdRt2 ctRt2), slRt2⟩)
    (cRt2 : PySem.W.codeIn K cdRt2 "_law_right" = true)
    (kRt2 : PySem.W.keepIn K (.ref fRt2) = true)
    (aLa : PySem.W.nsIn K mainGlobals "law" = some (some (.ref fLa)))
    (lLa : K.lookup fLa = some ⟨ocLa, odLa, .func (PySem.W.fnOf "law" "law" (defArgs s_law) (defBody s_law) (defScope s_law) .none kVLa dcLa pmLa anLa cdLa ctLa), slLa⟩)
    (cLa : PySem.W.codeIn K cdLa "law" = true)
    (kLa : PySem.W.keepIn K (.ref fLa) = true)
    : ∃ fd : FuncData, (∀ (s : Shared) (v : Value), BindsTo s fd ⟨[v], []⟩ [("_law_script", v)]) ∧ ∀ base : Heap, K.In base → base.Ns mainGlobals mg → FnG l.prog w K mg base 19 fa fd ["_law_script"] (spLaw K) := by
  have e := hfa.symm.trans (PySem.W.mg_of X G aLa)
  cases e
  have T : Blt mg := ⟨PySem.W.mg_none_of X G b_len, PySem.W.mg_none_of X G b_int, PySem.W.mg_none_of X G b_abs, PySem.W.mg_none_of X G b_max, PySem.W.mg_none_of X G b_min, PySem.W.mg_none_of X G b_all, PySem.W.mg_none_of X G b_any, PySem.W.mg_none_of X G b_repr, PySem.W.mg_none_of X G b_range, PySem.W.mg_none_of X G b_divmod, PySem.W.mg_none_of X G b_isinstance, PySem.W.mg_none_of X G b_str⟩
  have T2 : Blt2 mg := ⟨PySem.W.mg_none_of X G b_sum, PySem.W.mg_none_of X G b_sorted, PySem.W.mg_none_of X G b_set, PySem.W.mg_none_of X G b_tuple, PySem.W.mg_none_of X G b_enumerate, PySem.W.mg_none_of X G b_bool⟩
  have Cs : Cst mg := ⟨⟨_, PySem.W.mg_of X G g__LETTERS, _, rfl⟩, ⟨_, PySem.W.mg_of X G g__DIGITS, _, rfl⟩, ⟨_, PySem.W.mg_of X G g__LONGEST_NAME, _, rfl⟩⟩
  have Cs2 : Cst2 mg := ⟨⟨_, PySem.W.mg_of X G g__PIECE_WORTH, _, rfl⟩, ⟨_, PySem.W.mg_of X G g__PIECE, _, rfl⟩⟩
  have FIn := fun_mk (st := s_is_name) lIn cIn kIn
  have bIn : Binds K _ ["value"] [] := FIn.binds (ps := ["value"]) fun _ _ _ _ _ _ us hl => match us, hl with | [_], _ => rfl
  have FNu := fun_mk (st := s_is_number) lNu cNu kNu
  have bNu : Binds K _ ["value"] [] := FNu.binds (ps := ["value"]) fun _ _ _ _ _ _ us hl => match us, hl with | [_], _ => rfl
  have FWn := fun_mk (st := s_written_number) lWn cWn kWn
  have bWn : Binds K _ ["number"] [] := FWn.binds (ps := ["number"]) fun _ _ _ _ _ _ us hl => match us, hl with | [_], _ => rfl
  have FIt := fun_mk (st := s_is_term) lIt cIt kIt
  have bIt : Binds K _ ["value"] [] := FIt.binds (ps := ["value"]) fun _ _ _ _ _ _ us hl => match us, hl with | [_], _ => rfl
  have FCk := fun_mk (st := s_check_terms) lCk cCk kCk
  have bCk : Binds K _ ["terms"] [] := FCk.binds (ps := ["terms"]) fun _ _ _ _ _ _ us hl => match us, hl with | [_], _ => rfl
  have FCo := fun_mk (st := s_collected) lCo cCo kCo
  have bCo : Binds K _ ["terms"] [] := FCo.binds (ps := ["terms"]) fun _ _ _ _ _ _ us hl => match us, hl with | [_], _ => rfl
  have FWs := fun_mk (st := s_without_sign) lWs cWs kWs
  have bWs : Binds K _ ["name", "number"] [] := FWs.binds (ps := ["name", "number"]) fun _ _ _ _ _ _ us hl => match us, hl with | [_, _], _ => rfl
  have FWf := fun_mk (st := s_written_further) lWf cWf kWf
  have bWf : Binds K _ ["name", "number"] [] := FWf.binds (ps := ["name", "number"]) fun _ _ _ _ _ _ us hl => match us, hl with | [_, _], _ => rfl
  have FWt := fun_mk (st := s_written_terms) lWt cWt kWt
  have bWt : Binds K _ ["terms"] [] := FWt.binds (ps := ["terms"]) fun _ _ _ _ _ _ us hl => match us, hl with | [_], _ => rfl
  have clS : Cls K CS := ⟨pgS, hdS, poS, saS⟩
  have SC : SClass K mg CS := ⟨⟨clS, haS, hn, htk, hmS⟩, PySem.W.mg_of X G nS, noS0, kit_self K CS⟩
  have FSi : FunD K "__init__" "Sum.__init__" (defArgs s_Sum___init__) (defBody s_Sum___init__) (defScope s_Sum___init__) [.ref t0] [] fSi _ := ⟨⟨_, _, _, _, _, _, _, _, _, _, rfl, lSi, cSi, .inr ⟨by simp, tD, _, [.ref t0], nT, rfl, lT, rfl, .cons rfl .nil⟩, .inl rfl⟩, kSi⟩
  obtain ⟨dsB, vdB, bB⟩ := chainB FSi
  have MkS : Mk K CS fSi := ⟨mkS, aSi, iSi, kcS⟩
  have FSs := fun_mk (st := s_Sum___str__) lSs cSs kSs
  have bSs : Binds K _ ["self"] [] := FSs.binds (ps := ["self"]) fun _ _ _ _ _ _ us hl => match us, hl with | [_], _ => rfl
  have FSt := fun_mk (st := s_Sum_terms) lSt cSt kSt
  have bSt : Binds K _ ["self"] [] := FSt.binds (ps := ["self"]) fun _ _ _ _ _ _ us hl => match us, hl with | [_], _ => rfl
  have hz : mg "zip" = none := PySem.W.mg_none_of X G b_zip
  have FDg := fun_mk (st := s_is_digits) lDg cDg kDg
  have bDg : Binds K _ ["text"] [] := FDg.binds (ps := ["text"]) fun _ _ _ _ _ _ us hl => match us, hl with | [_], _ => rfl
  have FRn := fun_mk (st := s_read_number) lRn cRn kRn
  have bRn : Binds K _ ["digits"] [] := FRn.binds (ps := ["digits"]) fun _ _ _ _ _ _ us hl => match us, hl with | [_], _ => rfl
  have FAp := fun_mk (st := s_with_sign_apart) lAp cAp kAp
  have bAp : Binds K _ ["text"] [] := FAp.binds (ps := ["text"]) fun _ _ _ _ _ _ us hl => match us, hl with | [_], _ => rfl
  have FRt := fun_mk (st := s_read_term) lRt cRt kRt
  have bRt : Binds K _ ["sign", "word"] [] := FRt.binds (ps := ["sign", "word"]) fun _ _ _ _ _ _ us hl => match us, hl with | [_, _], _ => rfl
  have FTi := fun_mk (st := s_terms_in) lTi cTi kTi
  have bTi : Binds K _ ["text"] [] := FTi.binds (ps := ["text"]) fun _ _ _ _ _ _ us hl => match us, hl with | [_], _ => rfl
  have RS : ClX.CRead K CS (.type "type") := ⟨rdS, gaS⟩
  have FSr := fun_mk (st := s_Sum_read) lSr cSr kSr
  have bSr : Binds K _ ["cls", "text"] [] := FSr.binds (ps := ["cls", "text"]) fun _ _ _ _ _ _ us hl => match us, hl with | [_, _], _ => rfl
  have Cr : CstR mg := ⟨⟨_, PySem.W.mg_of X G g_IF, _, rfl⟩, ⟨_, PySem.W.mg_of X G g_VOTE, _, rfl⟩, ⟨_, PySem.W.mg_of X G g_TELL, _, rfl⟩, ⟨_, PySem.W.mg_of X G g_DOUBT, _, rfl⟩, ⟨_, PySem.W.mg_of X G g_MOST_ROWS, _, rfl⟩, ⟨_, PySem.W.mg_of X G g_MOST_SUMS, _, rfl⟩, ⟨_, PySem.W.mg_of X G g_MOST_FAULTS, _, rfl⟩⟩
  have clR : Cls K CR := ⟨pgR, hdR, poR, saR⟩
  have RC : RClass K mg CR := ⟨⟨clR, haR, hn, htk, hmR⟩, PySem.W.mg_of X G nR, noR0, noR1, kit_self K CR⟩
  have RK : RKinds K CR := ⟨nf_self _ _, z_ft, z_fx, z_fn, kit_sub hdR tyR suR z_st, kit_sub hdR tyR suR z_sx, kit_sub hdR tyR suR z_sn⟩
  have FRd := fun_mk (st := s_read_digit) lRd cRd kRd
  have bRd : Binds K _ ["word", "least", "most"] [] := FRd.binds (ps := ["word", "least", "most"]) fun _ _ _ _ _ _ us hl => match us, hl with | [_, _, _], _ => rfl
  have FSp := fun_mk (st := s_step) lSp cSp kSp
  have bSp : Binds K _ ["kind", "number", "texts"] [] := FSp.binds (ps := ["kind", "number", "texts"]) fun _ _ _ _ _ _ us hl => match us, hl with | [_, _, _], _ => rfl
  have FTe := fun_mk (st := s_read_test) lTe cTe kTe
  have bTe : Binds K _ ["text", "least", "most"] [] := FTe.binds (ps := ["text", "least", "most"]) fun _ _ _ _ _ _ us hl => match us, hl with | [_, _, _], _ => rfl
  have FVo := fun_mk (st := s_read_vote) lVo cVo kVo
  have bVo : Binds K _ ["text"] [] := FVo.binds (ps := ["text"]) fun _ _ _ _ _ _ us hl => match us, hl with | [_], _ => rfl
  have FRo := fun_mk (st := s_read_row) lRo cRo kRo
  have bRo : Binds K _ ["row", "index", "many"] [] := FRo.binds (ps := ["row", "index", "many"]) fun _ _ _ _ _ _ us hl => match us, hl with | [_, _, _], _ => rfl
  have FNs := fun_mk (st := s_steps_in) lNs cNs kNs
  have bNs : Binds K _ ["rows"] [] := FNs.binds (ps := ["rows"]) fun _ _ _ _ _ _ us hl => match us, hl with | [_], _ => rfl
  have FRi := fun_mk (st := s_Rule___init__) lRi cRi kRi
  have bRi : Binds K _ ["self", "rows"] [] := FRi.binds (ps := ["self", "rows"]) fun _ _ _ _ _ _ us hl => match us, hl with | [_, _], _ => rfl
  have MkR : Mk K CR fRi := ⟨mkR, aRi, iRi, kcR⟩
  have Frr := fun_mk (st := s_Rule_rows) lrr crr krr
  have brr : Binds K _ ["self"] [] := Frr.binds (ps := ["self"]) fun _ _ _ _ _ _ us hl => match us, hl with | [_], _ => rfl
  have Frm := fun_mk (st := s_Rule_meters) lrm crm krm
  have brm : Binds K _ ["self"] [] := Frm.binds (ps := ["self"]) fun _ _ _ _ _ _ us hl => match us, hl with | [_], _ => rfl
  have FRl := fun_mk (st := s_Rule___len__) lRl cRl kRl
  have bRl : Binds K _ ["self"] [] := FRl.binds (ps := ["self"]) fun _ _ _ _ _ _ us hl => match us, hl with | [_], _ => rfl
  have FRs := fun_mk (st := s_Rule___str__) lRs cRs kRs
  have bRs : Binds K _ ["self"] [] := FRs.binds (ps := ["self"]) fun _ _ _ _ _ _ us hl => match us, hl with | [_], _ => rfl
  have FRq := fun_mk (st := s_Rule___eq__) lRq cRq kRq
  have bRq : Binds K _ ["self", "other"] [] := FRq.binds (ps := ["self", "other"]) fun _ _ _ _ _ _ us hl => match us, hl with | [_, _], _ => rfl
  have RR : ClX.CRead K CR (.type "type") := ⟨rdR, gaR⟩
  have FRx := fun_mk (st := s_Rule_read) lRx cRx kRx
  have bRx : Binds K _ ["cls", "text"] [] := FRx.binds (ps := ["cls", "text"]) fun _ _ _ _ _ _ us hl => match us, hl with | [_, _], _ => rfl
  have FSg := fun_mk (st := s_spring) lSg cSg kSg
  have bSg : Binds K _ ["_law_script", "_law_k"] [] := FSg.binds (ps := ["_law_script", "_law_k"]) fun _ _ _ _ _ _ us hl => match us, hl with | [_, _], _ => rfl
  have FTa := fun_mk (st := s_take) lTa cTa kTa
  have bTa : Binds K _ ["_law_spring_here", "_law_many"] [] := FTa.binds (ps := ["_law_spring_here", "_law_many"]) fun _ _ _ _ _ _ us hl => match us, hl with | [_, _], _ => rfl
  have FTl := fun_mk (st := s_titles) lTl cTl kTl
  have bTl : Binds K _ ["_law_spring_here", "_law_many"] [] := FTl.binds (ps := ["_law_spring_here", "_law_many"]) fun _ _ _ _ _ _ us hl => match us, hl with | [_, _], _ => rfl
  have FTm := fun_mk (st := s_times) lTm cTm kTm
  have bTm : Binds K _ ["_law_spring_here", "_law_wide"] [] := FTm.binds (ps := ["_law_spring_here", "_law_wide"]) fun _ _ _ _ _ _ us hl => match us, hl with | [_, _], _ => rfl
  have FTo := fun_mk (st := s_total) lTo cTo kTo
  have bTo : Binds K _ ["_law_spring_here", "_law_tags", "_law_many", "_law_wide"] [] := FTo.binds (ps := ["_law_spring_here", "_law_tags", "_law_many", "_law_wide"]) fun _ _ _ _ _ _ us hl => match us, hl with | [_, _, _, _], _ => rfl
  have FPk := fun_mk (st := s_pick) lPk cPk kPk
  have bPk : Binds K _ ["_law_spring_here", "_law_some", "_law_tags", "_law_wide"] [] := FPk.binds (ps := ["_law_spring_here", "_law_some", "_law_tags", "_law_wide"]) fun _ _ _ _ _ _ us hl => match us, hl with | [_, _, _, _], _ => rfl
  have FLs := fun_mk (st := s_last) lLs cLs kLs
  have bLs : Binds K _ ["_law_spring_here", "_law_some", "_law_tags", "_law_wide"] [] := FLs.binds (ps := ["_law_spring_here", "_law_some", "_law_tags", "_law_wide"]) fun _ _ _ _ _ _ us hl => match us, hl with | [_, _, _, _], _ => rfl
  have FSx := fun_mk (st := s_steps) lSx cSx kSx
  have bSx : Binds K _ ["_law_spring_here", "_law_tags", "_law_many", "_law_wide"] [] := FSx.binds (ps := ["_law_spring_here", "_law_tags", "_law_many", "_law_wide"]) fun _ _ _ _ _ _ us hl => match us, hl with | [_, _, _, _], _ => rfl
  have FTd := fun_mk (st := s_told) lTd cTd kTd
  have bTd : Binds K _ ["_law_pairs"] [] := FTd.binds (ps := ["_law_pairs"]) fun _ _ _ _ _ _ us hl => match us, hl with | [_], _ => rfl
  have FLi := fun_mk (st := s_line) lLi cLi kLi
  have bLi : Binds K _ ["_law_step"] [] := FLi.binds (ps := ["_law_step"]) fun _ _ _ _ _ _ us hl => match us, hl with | [_], _ => rfl
  have FNo := fun_mk (st := s_names_of) lNo cNo kNo
  have bNo : Binds K _ ["_law_steps_here"] [] := FNo.binds (ps := ["_law_steps_here"]) fun _ _ _ _ _ _ us hl => match us, hl with | [_], _ => rfl
  have FRt2 := fun_mk (st := s_right) lRt2 cRt2 kRt2
  have bRt2 : Binds K _ ["_law_spring_here"] [] := FRt2.binds (ps := ["_law_spring_here"]) fun _ _ _ _ _ _ us hl => match us, hl with | [_], _ => rfl
  refine ⟨PySem.W.fnOf "law" "law" (defArgs s_law) (defBody s_law) (defScope s_law) .none kVLa dcLa pmLa anLa cdLa ctLa, fun s v => .of_eq rfl, fun base _ _ => ?_⟩
  have GIn : Fn l.prog w K mg base "is_name" 1 ["value"] (sp_is_name K) := ⟨_, _, PySem.W.mg_of X G aIn, kIn, bIn, ok_is_name FIn T Cs⟩
  have GNu : Fn l.prog w K mg base "is_number" 1 ["value"] (sp_is_number K) := ⟨_, _, PySem.W.mg_of X G aNu, kNu, bNu, ok_is_number FNu T T2⟩
  have GWn : Fn l.prog w K mg base "written_number" 1 ["number"] (sp_written) := ⟨_, _, PySem.W.mg_of X G aWn, kWn, bWn, ok_written_number FWn T Cs2⟩
  have GIt : Fn l.prog w K mg base "_is_term" 2 ["value"] (sp_is_term K) := ⟨_, _, PySem.W.mg_of X G aIt, kIt, bIt, ok_is_term FIt T T2 GIn.irr GNu.irr⟩
  have GCk : Fn l.prog w K mg base "_check_terms" 3 ["terms"] (sp_check_terms K) := ⟨_, _, PySem.W.mg_of X G aCk, kCk, bCk, ok_check_terms FCk T T2 GIt.irr⟩
  have GCo : Fn l.prog w K mg base "_collected" 1 ["terms"] (sp_collected K) := ⟨_, _, PySem.W.mg_of X G aCo, kCo, bCo, ok_collected FCo T2⟩
  have GWs : Fn l.prog w K mg base "_without_sign" 2 ["name", "number"] (sp_without) := ⟨_, _, PySem.W.mg_of X G aWs, kWs, bWs, ok_without_sign FWs T GWn.irr⟩
  have GWf : Fn l.prog w K mg base "_written_further" 3 ["name", "number"] (sp_further) := ⟨_, _, PySem.W.mg_of X G aWf, kWf, bWf, ok_written_further FWf GWs.irr⟩
  have GWt : Fn l.prog w K mg base "_written_terms" 4 ["terms"] (sp_wterms K) := ⟨_, _, PySem.W.mg_of X G aWt, kWt, bWt, ok_written_terms FWt GWs.irr GWf.irr⟩
  have OSi : FnOk l.prog w K mg base CX0 4 fSi _ ["self", "terms"] (sp_Sum K CS) := ok_Sum_i FSi SC GCk.irr GCo.irr
  have S1 : Mkr l.prog w K mg base "Sum" CS 4 (sp_Sum K CS) [] := ⟨SC.k, _, _, _, dsB, MkS, bB, vdB, OSi⟩
  have GSs : OwnM l.prog w K mg base CS "__str__" 5 (sp_text CS) := ⟨_, _, _, aSs, iSs, fiSs, bSs, ok_Sum_s FSs SC GWt.irr⟩
  have GSt : Prp l.prog w K mg base CS "terms" 1 (sp_terms CS) := ⟨clS, _, _, _, _, ⟨aSt, gSt, tSt, _, rSt_⟩, bSt, ok_Sum_t FSt SC⟩
  have GDg : Fn l.prog w K mg base "is_digits" 1 ["text"] (sp_digits) := ⟨_, _, PySem.W.mg_of X G aDg, kDg, bDg, ok_is_digits FDg ⟩
  have GRn : Fn l.prog w K mg base "read_number" 1 ["digits"] (sp_readnum) := ⟨_, _, PySem.W.mg_of X G aRn, kRn, bRn, ok_read_number FRn T Cs2⟩
  have GAp : Fn l.prog w K mg base "_with_sign_apart" 1 ["text"] (sp_apart) := ⟨_, _, PySem.W.mg_of X G aAp, kAp, bAp, ok_with_sign_apart FAp ⟩
  have GRt : Fn l.prog w K mg base "_read_term" 2 ["sign", "word"] (sp_rterm K) := ⟨_, _, PySem.W.mg_of X G aRt, kRt, bRt, ok_read_term FRt GIn.irr GDg.irr GRn.irr⟩
  have GTi : Fn l.prog w K mg base "_terms_in" 3 ["text"] (sp_termsin K) := ⟨_, _, PySem.W.mg_of X G aTi, kTi, bTi, ok_terms_in FTi hz T2 GAp.irr GRt.irr⟩
  have OSr := ok_Sum_r (P := l.prog) (w := w) (mg := mg) (base := base) FSr T S1.irr GTi.irr GSs.irr
  have GSr : ClsM l.prog w K mg base CS "read" 8 ["cls", "text"] (sp_read CS) := ⟨.type "type", pSr, fSr, _, RS, ⟨aSr, ⟨_, rSr_⟩, fiSr⟩, bSr, OSr⟩
  have GRd : Fn l.prog w K mg base "_read_digit" 1 ["word", "least", "most"] (sp_rdig) := ⟨_, _, PySem.W.mg_of X G aRd, kRd, bRd, ok_rdig (K := K) FRd T⟩
  have GSp : Fn l.prog w K mg base "_step" 10 ["kind", "number", "texts"] (sp_stp CS) := ⟨_, _, PySem.W.mg_of X G aSp, kSp, bSp, ok_stp FSp T2 SC GSr.irr⟩
  have GTe : Fn l.prog w K mg base "_read_test" 11 ["text", "least", "most"] (sp_rtest CS) := ⟨_, _, PySem.W.mg_of X G aTe, kTe, bTe, ok_rtest FTe T Cr GRd.irr GSp.irr⟩
  have GVo : Fn l.prog w K mg base "_read_vote" 11 ["text"] (sp_rvote CS) := ⟨_, _, PySem.W.mg_of X G aVo, kVo, bVo, ok_rvote FVo T Cr GRd.irr GSp.irr⟩
  have GRo : Fn l.prog w K mg base "_read_row" 12 ["row", "index", "many"] (sp_rrow CS) := ⟨_, _, PySem.W.mg_of X G aRo, kRo, bRo, ok_rrow FRo T Cr GSp.irr GVo.irr GTe.irr⟩
  have GNs : Fn l.prog w K mg base "_steps_in" 13 ["rows"] (sp_stin CS) := ⟨_, _, PySem.W.mg_of X G aNs, kNs, bNs, ok_stin FNs T T2 Cr GRo.irr⟩
  have ORi : FnOk l.prog w K mg base CX0 14 fRi _ ["self", "rows"] (sp_Rule CR CS) := ok_Rule_i FRi RC GNs.irr
  have R1 : Mkr l.prog w K mg base "Rule" CR 14 (sp_Rule CR CS) [] := ⟨RC.k, _, _, _, [], MkR, bRi, .nil, ORi⟩
  have R2 : MkrK l.prog w K mg base "Rule" CR 14 0 ["rows"] (sp_Rule CR CS) gS := ⟨RC.k, _, _, _, _, MkR, kbRu FRi, ORi⟩
  have Grr : Prp l.prog w K mg base CR "rows" 1 (sp_rrows CR) := ⟨clR, _, _, _, _, ⟨arr, grr, trr, _, rrr_⟩, brr, ok_Rule_r Frr RC⟩
  have Grm : Prp l.prog w K mg base CR "meters" 3 (sp_rmet CR CS) := ⟨clR, _, _, _, _, ⟨arm, grm, trm, _, rrm_⟩, brm, ok_Rule_m Frm RC T T2 GSt.irr⟩
  have GRl : OwnM l.prog w K mg base CR "__len__" 1 (sp_rlen CR CS) := ⟨_, _, _, aRl, iRl, fiRl, bRl, ok_Rule_l FRl RC T⟩
  have GRs : OwnM l.prog w K mg base CR "__str__" 1 (sp_rstr CR CS) := ⟨_, _, _, aRs, iRs, fiRs, bRs, ok_Rule_s FRs RC⟩
  have GRq : OwnM l.prog w K mg base CR "__eq__" 1 (sp_req K CR CS) := ⟨_, _, _, aRq, iRq, fiRq, bRq, ok_Rule_q FRq RC T⟩
  have qR : OwnEq l.prog w K mg base CR 1 (sp_req K CR CS) := ⟨⟨_, _, _, aRq, iRq, bRq, ok_Rule_q FRq RC T⟩, neR, obR⟩
  have ORx := ok_Rule_rd (P := l.prog) (w := w) (mg := mg) (base := base) FRx T T2 R1.irr
  have GRx : ClsM l.prog w K mg base CR "read" 16 ["cls", "text"] (sp_rread CR CS) := ⟨.type "type", pRx, fRx, _, RR, ⟨aRx, ⟨_, rRx_⟩, fiRx⟩, bRx, ORx⟩
  have GSg : Fn l.prog w K mg base "_law_spring" 1 ["_law_script", "_law_k"] (sp_spring K) := ⟨_, _, PySem.W.mg_of X G aSg, kSg, bSg, ok_spring FSg T⟩
  have GTa : Fn l.prog w K mg base "_law_take" 1 ["_law_spring_here", "_law_many"] (sp_dip) := ⟨_, _, PySem.W.mg_of X G aTa, kTa, bTa, ok_take FTa T⟩
  have GTl : Fn l.prog w K mg base "_law_titles" 2 ["_law_spring_here", "_law_many"] (sp_names) := ⟨_, _, PySem.W.mg_of X G aTl, kTl, bTl, ok_titles FTl T GTa.irr⟩
  have GTm : Fn l.prog w K mg base "_law_times" 2 ["_law_spring_here", "_law_wide"] (sp_tms) := ⟨_, _, PySem.W.mg_of X G aTm, kTm, bTm, ok_times FTm GTa.irr⟩
  have GTo : Fn l.prog w K mg base "_law_total" 3 ["_law_spring_here", "_law_tags", "_law_many", "_law_wide"] (sp_totl) := ⟨_, _, PySem.W.mg_of X G aTo, kTo, bTo, ok_total FTo T T2 GTa.irr GTm.irr⟩
  have GPk : Fn l.prog w K mg base "_law_pick" 4 ["_law_spring_here", "_law_some", "_law_tags", "_law_wide"] (sp_pick) := ⟨_, _, PySem.W.mg_of X G aPk, kPk, bPk, ok_pick FPk GTa.irr GTo.irr⟩
  have GLs : Fn l.prog w K mg base "_law_last" 5 ["_law_spring_here", "_law_some", "_law_tags", "_law_wide"] (sp_lasts) := ⟨_, _, PySem.W.mg_of X G aLs, kLs, bLs, ok_last FLs GTa.irr GPk.irr⟩
  have GSx : Fn l.prog w K mg base "_law_steps" 6 ["_law_spring_here", "_law_tags", "_law_many", "_law_wide"] (sp_steps) := ⟨_, _, PySem.W.mg_of X G aSx, kSx, bSx, ok_steps FSx T GTa.irr GTo.irr GPk.irr GLs.irr⟩
  have GTd : Fn l.prog w K mg base "_law_told" 1 ["_law_pairs"] (sp_sumtext K) := ⟨_, _, PySem.W.mg_of X G aTd, kTd, bTd, ok_told FTd T⟩
  have GLi : Fn l.prog w K mg base "_law_line" 2 ["_law_step"] (sp_lineS) := ⟨_, _, PySem.W.mg_of X G aLi, kLi, bLi, ok_line FLi T GTd.irr⟩
  have GNo : Fn l.prog w K mg base "_law_names_of" 2 ["_law_steps_here"] (sp_nmof) := ⟨_, _, PySem.W.mg_of X G aNo, kNo, bNo, ok_nmof FNo T T2⟩
  have GRt2 : FnGd l.prog w K mg base "_law_right" 18 ["_law_spring_here"] (sp_right47) := ⟨_, _, PySem.W.mg_of X G aRt2, kRt2, bRt2, ok_right47 FRt2 T T2 RC RK GTa.irr GTl.irr GSx.irr GLi.irr GNo.irr R1.irr R2.irr GRx.irr Grr.irr Grm.irr GRl.irr GRs.irr qR nbR⟩
  exact ok_law47 (fun_mk (st := s_law) lLa cLa kLa) T RC GSg.irr GRt2 R1.irr Grm.irr GRl.irr
end RV
open PySem PySem.W PyProof.Rows in
set_option maxRecDepth 100000 in
set_option maxHeartbeats 0 in
theorem PySem.Challenge.cw_ringvotes_k47_rules_made_holds : PySem.Challenge.rw_ringvotes_k47_rules_made.Holds := by
  w_on; o_law; k_head; (case hw => w_witness2)
  k_fill
  refine RV.walkGx "_law_script" 19 (l := PySem.Challenge.rw_ringvotes_k47_rules_made) ⟨rfl, by decide, by decide⟩ rfl rfl (fun w h Y => PySem.W.kIn_of Y) ?F
  case F =>
    intro w mg fa h KX G hmg
    refine' RV.all_mk KX G hmg ?b_len ?b_int ?b_abs ?b_max ?b_min ?b_all ?b_any ?b_repr ?b_range ?b_divmod ?b_isinstance ?b_str ?b_sum ?b_sorted ?b_set ?b_tuple ?b_enumerate ?b_bool ?g__LETTERS ?g__DIGITS ?g__LONGEST_NAME ?g__PIECE_WORTH ?g__PIECE ?aIn ?lIn ?cIn ?kIn ?aNu ?lNu ?cNu ?kNu ?aWn ?lWn ?cWn ?kWn ?aIt ?lIt ?cIt ?kIt ?aCk ?lCk ?cCk ?kCk ?aCo ?lCo ?cCo ?kCo ?aWs ?lWs ?cWs ?kWs ?aWf ?lWf ?cWf ?kWf ?aWt ?lWt ?cWt ?kWt ?nS ?pgS ?hdS ?poS ?saS ?mkS ?kcS ?haS ?hmS ?tyS ?suS ?obS ?noS0 ?hn ?htk ?aSi ?iSi ?lSi ?cSi ?kSi ?lT ?aSs ?iSs ?lSs ?cSs ?kSs ?fiSs ?aSt ?gSt ?tSt ?rSt_ ?lSt ?cSt ?kSt ?b_zip ?aDg ?lDg ?cDg ?kDg ?aRn ?lRn ?cRn ?kRn ?aAp ?lAp ?cAp ?kAp ?aRt ?lRt ?cRt ?kRt ?aTi ?lTi ?cTi ?kTi ?rdS ?gaS ?aSr ?rSr_ ?fiSr ?lSr ?cSr ?kSr ?g_IF ?g_VOTE ?g_TELL ?g_DOUBT ?g_MOST_ROWS ?g_MOST_SUMS ?g_MOST_FAULTS ?nR ?pgR ?hdR ?poR ?saR ?mkR ?kcR ?haR ?hmR ?tyR ?suR ?obR ?noR0 ?noR1 ?neR ?nbR ?z_ft ?z_st ?z_fx ?z_sx ?z_fn ?z_sn ?aRd ?lRd ?cRd ?kRd ?aSp ?lSp ?cSp ?kSp ?aTe ?lTe ?cTe ?kTe ?aVo ?lVo ?cVo ?kVo ?aRo ?lRo ?cRo ?kRo ?aNs ?lNs ?cNs ?kNs ?aRi ?iRi ?lRi ?cRi ?kRi ?arr ?grr ?trr ?rrr_ ?lrr ?crr ?krr ?arm ?grm ?trm ?rrm_ ?lrm ?crm ?krm ?aRl ?iRl ?lRl ?cRl ?kRl ?fiRl ?aRs ?iRs ?lRs ?cRs ?kRs ?fiRs ?aRq ?iRq ?lRq ?cRq ?kRq ?fiRq ?rdR ?gaR ?aRx ?rRx_ ?fiRx ?lRx ?cRx ?kRx ?aSg ?lSg ?cSg ?kSg ?aTa ?lTa ?cTa ?kTa ?aTl ?lTl ?cTl ?kTl ?aTm ?lTm ?cTm ?kTm ?aTo ?lTo ?cTo ?kTo ?aPk ?lPk ?cPk ?kPk ?aLs ?lLs ?cLs ?kLs ?aSx ?lSx ?cSx ?kSx ?aTd ?lTd ?cTd ?kTd ?aLi ?lLi ?cLi ?kLi ?aNo ?lNo ?cNo ?kNo ?aRt2 ?lRt2 ?cRt2 ?kRt2 ?aLa ?lLa ?cLa ?kLa
    (case b_len => k_is)
    (case b_int => k_is)
    (case b_abs => k_is)
    (case b_max => k_is)
    (case b_min => k_is)
    (case b_all => k_is)
    (case b_any => k_is)
    (case b_repr => k_is)
    (case b_range => k_is)
    (case b_divmod => k_is)
    (case b_isinstance => k_is)
    (case b_str => k_is)
    (case b_sum => k_is)
    (case b_sorted => k_is)
    (case b_set => k_is)
    (case b_tuple => k_is)
    (case b_enumerate => k_is)
    (case b_bool => k_is)
    (case g__LETTERS => k_is)
    (case g__DIGITS => k_is)
    (case g__LONGEST_NAME => k_is)
    (case g__PIECE_WORTH => k_is)
    (case g__PIECE => k_is)
    (case aIn => k_is)
    (case lIn => k_is)
    (case cIn => k_is)
    (case kIn => k_is)
    (case aNu => k_is)
    (case lNu => k_is)
    (case cNu => k_is)
    (case kNu => k_is)
    (case aWn => k_is)
    (case lWn => k_is)
    (case cWn => k_is)
    (case kWn => k_is)
    (case aIt => k_is)
    (case lIt => k_is)
    (case cIt => k_is)
    (case kIt => k_is)
    (case aCk => k_is)
    (case lCk => k_is)
    (case cCk => k_is)
    (case kCk => k_is)
    (case aCo => k_is)
    (case lCo => k_is)
    (case cCo => k_is)
    (case kCo => k_is)
    (case aWs => k_is)
    (case lWs => k_is)
    (case cWs => k_is)
    (case kWs => k_is)
    (case aWf => k_is)
    (case lWf => k_is)
    (case cWf => k_is)
    (case kWf => k_is)
    (case aWt => k_is)
    (case lWt => k_is)
    (case cWt => k_is)
    (case kWt => k_is)
    (case nS => k_is)
    (case pgS => k_is)
    (case hdS => k_is)
    (case poS => k_is)
    (case saS => k_is)
    (case mkS => k_is)
    (case kcS => k_is)
    (case haS => k_is)
    (case hmS => k_is)
    (case tyS => k_is)
    (case suS => k_is)
    (case obS => k_is)
    (case noS0 => k_is)
    (case hn => k_is)
    (case htk => k_is)
    (case aSi => k_is)
    (case iSi => k_is)
    (case lSi => k_is)
    (case cSi => k_is)
    (case kSi => k_is)
    (case lT => k_is)
    (case aSs => k_is)
    (case iSs => k_is)
    (case lSs => k_is)
    (case cSs => k_is)
    (case kSs => k_is)
    (case fiSs => k_is)
    (case aSt => k_is)
    (case gSt => k_is)
    (case tSt => k_is)
    (case rSt_ => k_is)
    (case lSt => k_is)
    (case cSt => k_is)
    (case kSt => k_is)
    (case b_zip => k_is)
    (case aDg => k_is)
    (case lDg => k_is)
    (case cDg => k_is)
    (case kDg => k_is)
    (case aRn => k_is)
    (case lRn => k_is)
    (case cRn => k_is)
    (case kRn => k_is)
    (case aAp => k_is)
    (case lAp => k_is)
    (case cAp => k_is)
    (case kAp => k_is)
    (case aRt => k_is)
    (case lRt => k_is)
    (case cRt => k_is)
    (case kRt => k_is)
    (case aTi => k_is)
    (case lTi => k_is)
    (case cTi => k_is)
    (case kTi => k_is)
    (case rdS => k_is)
    (case gaS => k_is)
    (case aSr => k_is)
    (case rSr_ => k_is)
    (case fiSr => k_is)
    (case lSr => k_is)
    (case cSr => k_is)
    (case kSr => k_is)
    (case g_IF => k_is)
    (case g_VOTE => k_is)
    (case g_TELL => k_is)
    (case g_DOUBT => k_is)
    (case g_MOST_ROWS => k_is)
    (case g_MOST_SUMS => k_is)
    (case g_MOST_FAULTS => k_is)
    (case nR => k_is)
    (case pgR => k_is)
    (case hdR => k_is)
    (case poR => k_is)
    (case saR => k_is)
    (case mkR => k_is)
    (case kcR => k_is)
    (case haR => k_is)
    (case hmR => k_is)
    (case tyR => k_is)
    (case suR => k_is)
    (case obR => k_is)
    (case noR0 => k_is)
    (case noR1 => k_is)
    (case neR => k_is)
    (case nbR => k_is)
    (case z_ft => k_is)
    (case z_st => k_is)
    (case z_fx => k_is)
    (case z_sx => k_is)
    (case z_fn => k_is)
    (case z_sn => k_is)
    (case aRd => k_is)
    (case lRd => k_is)
    (case cRd => k_is)
    (case kRd => k_is)
    (case aSp => k_is)
    (case lSp => k_is)
    (case cSp => k_is)
    (case kSp => k_is)
    (case aTe => k_is)
    (case lTe => k_is)
    (case cTe => k_is)
    (case kTe => k_is)
    (case aVo => k_is)
    (case lVo => k_is)
    (case cVo => k_is)
    (case kVo => k_is)
    (case aRo => k_is)
    (case lRo => k_is)
    (case cRo => k_is)
    (case kRo => k_is)
    (case aNs => k_is)
    (case lNs => k_is)
    (case cNs => k_is)
    (case kNs => k_is)
    (case aRi => k_is)
    (case iRi => k_is)
    (case lRi => k_is)
    (case cRi => k_is)
    (case kRi => k_is)
    (case arr => k_is)
    (case grr => k_is)
    (case trr => k_is)
    (case rrr_ => k_is)
    (case lrr => k_is)
    (case crr => k_is)
    (case krr => k_is)
    (case arm => k_is)
    (case grm => k_is)
    (case trm => k_is)
    (case rrm_ => k_is)
    (case lrm => k_is)
    (case crm => k_is)
    (case krm => k_is)
    (case aRl => k_is)
    (case iRl => k_is)
    (case lRl => k_is)
    (case cRl => k_is)
    (case kRl => k_is)
    (case fiRl => k_is)
    (case aRs => k_is)
    (case iRs => k_is)
    (case lRs => k_is)
    (case cRs => k_is)
    (case kRs => k_is)
    (case fiRs => k_is)
    (case aRq => k_is)
    (case iRq => k_is)
    (case lRq => k_is)
    (case cRq => k_is)
    (case kRq => k_is)
    (case fiRq => k_is)
    (case rdR => k_is)
    (case gaR => k_is)
    (case aRx => k_is)
    (case rRx_ => k_is)
    (case fiRx => k_is)
    (case lRx => k_is)
    (case cRx => k_is)
    (case kRx => k_is)
    (case aSg => k_is)
    (case lSg => k_is)
    (case cSg => k_is)
    (case kSg => k_is)
    (case aTa => k_is)
    (case lTa => k_is)
    (case cTa => k_is)
    (case kTa => k_is)
    (case aTl => k_is)
    (case lTl => k_is)
    (case cTl => k_is)
    (case kTl => k_is)
    (case aTm => k_is)
    (case lTm => k_is)
    (case cTm => k_is)
    (case kTm => k_is)
    (case aTo => k_is)
    (case lTo => k_is)
    (case cTo => k_is)
    (case kTo => k_is)
    (case aPk => k_is)
    (case lPk => k_is)
    (case cPk => k_is)
    (case kPk => k_is)
    (case aLs => k_is)
    (case lLs => k_is)
    (case cLs => k_is)
    (case kLs => k_is)
    (case aSx => k_is)
    (case lSx => k_is)
    (case cSx => k_is)
    (case kSx => k_is)
    (case aTd => k_is)
    (case lTd => k_is)
    (case cTd => k_is)
    (case kTd => k_is)
    (case aLi => k_is)
    (case lLi => k_is)
    (case cLi => k_is)
    (case kLi => k_is)
    (case aNo => k_is)
    (case lNo => k_is)
    (case cNo => k_is)
    (case kNo => k_is)
    (case aRt2 => k_is)
    (case lRt2 => k_is)
    (case cRt2 => k_is)
    (case kRt2 => k_is)
    (case aLa => k_is)
    (case lLa => k_is)
    (case cLa => k_is)
    (case kLa => k_is)
