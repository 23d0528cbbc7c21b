import PyProof.Rows.All
import Wide.All
import OpenK.AllK
import Wide.FinOn
import HandS.ForMost
import HandS.WideBits
import HandS.Wide
import HandS.IsInst
import HandS.Property
import HandS.MakeKwOnly
import HandS.Defaults
import HandS.OwnEq
import HandS.Steps
import HandS.TupLe
import KE.GoesMore
import HandS.TupSets
import HandS.SetFor
import HandS.Strs
import PyProof.Rows.SortShellAny
import HandS.Words
import HandS.Style
import HandS.WordsDict
import HandS.More
import PyProof.Rows.RegStrFacts
import HandS.RaiseMore
import HandS.Text
import HandS.StrMore
import HandS.FStr
import KE.KCallOwn
import PyProof.EqKinds
import PyProof.Raises
import HandS.ClsMeth
import HandS.CallLocal
import HandS.Walk
import HandS.Iter
import KE.KOpsOwn
import PyProof.TwoTypes
import HandS.TupAny
import HandS.Star
import HandS.Zip
import KE.KTupSum
import HandS.SetBool
import KE.GoesNew
import HandS.DictComp
import HandS.SortRule
import KE.KSortedM
import KE.KSortTupG
import KE.KDictZip
import KE.KDictItemsList
import KE.OsRun
import PySem.Challenge.RW_ringvotes_k55_whole_explanations
set_option Elab.async false
set_option maxRecDepth 100000
set_option maxHeartbeats 8000000
/-! What every law of this program shares: the well from which it draws, what is known of the heap, the end. -/
namespace RV
open PySem L2

/-! ### what is known of the heap -/
/-- a list of three ints from which numbers are drawn, at a; at most n draws so far -/
def WellAt (H : Hp) (a : Addr) (n : Nat) : Prop :=
  ∃ x y z : Int, H a = some (.lst [.int x, .int y, .int z]) ∧ (0 ≤ x ∧ x < 2147483629) ∧ 0 ≤ y ∧ (0 ≤ z ∧ z ≤ n)
/-- all but the well stands as it stood -/
def Grow (a : Addr) (H H' : Hp) : Prop := ∀ b o, b ≠ a → H b = some o → H' b = some o
theorem Grow.refl (a : Addr) (H : Hp) : Grow a H H := fun _ _ _ h => h
theorem Grow.trans {a : Addr} {H H1 H2 : Hp} (g : Grow a H H1) (k : Grow a H1 H2) : Grow a H H2 := fun b o n h => k b o n (g b o n h)
theorem Grow.new {a p : Addr} {H : Hp} {o : HO} (np : H p = none) : Grow a H (upd H p o) := fun b u _ h => by
  rw [upd_ne (ne_of_none h np)]
  exact h
/-- from the heap H0 on all but the well at a is kept; the well; things that stand elsewhere -/
structure Has (H0 : Hp) (a : Addr) (n : Nat) (L : List (Addr × HO)) (H : Hp) : Prop where
  gr : Grow a H0 H
  well : WellAt H a n
  here : ∀ p ∈ L, p.1 ≠ a ∧ H p.1 = some p.2
section
variable {a p : Addr} {n m : Nat} {L : List (Addr × HO)} {H0 H H' : Hp} {o : HO}
end

/-! ### the end -/
def spLaw (K : PySem.W.Frag) : Sp := fun vs H Q _ => ∃ (a : Addr) (ns : List Int), vs = [.ref a] ∧ SqL K H a (ns.map V.int) ∧ ns.length ≤ 63 ∧ ∀ H', Q (.bl true) H'
end RV
namespace RV
open PySem L2
section
variable {σ : L2.St} {H : Hp} {t : TT} {ta tb : TE} {Q : VK} {b : Bool}
/-- an int on either way: what follows is shown once -/
theorem tif_int (ht : Ans t σ H b) (ha : b = true → ∃ z : Int, Val ta σ H (.int z)) (hb : b = false → ∃ z : Int, Val tb σ H (.int z)) (k : ∀ z : Int, Q (.int z) H) : tIf t ta tb σ H Q := by
  refine ht _ ?_
  cases b with
  | true => exact iteT (let ⟨z, h⟩ := ha rfl; h _ (k z))
  | false => exact iteF (let ⟨z, h⟩ := hb rfl; h _ (k z))
end
/-- a function of the module, as its callers see it -/
def Fn (P : Program) (w : World) (K : PySem.W.Frag) (mg : Str → Option Value) (base : Heap) (x : Str) (k : Nat) (ps : List Str) (sp : Sp) : Prop :=
  ∃ f fd, mg x = some (.ref f) ∧ PySem.W.keepIn K (.ref f) = true ∧ Binds K fd ps [] ∧ FnOk P w K mg base CX0 k f fd ps sp
section
variable {X : Cx} {x : Str} {k : Nat} {ps : List Str} {sp : Sp} {e : Expr} {es : List Expr} {t : TA} {p pos : Pos}
theorem pe_fn (h : Fn X.prog X.w X.K X.mg X.base x k ps sp) (hr : Room k X.A) (ha : PA X (e :: es) t) (hg : Gl X x := by rfl) (hdb : (x == ("__debug__" : Str)) = false := by decide)
    (he : starEach (e :: es) X.env = (false, eval e X.env) :: starEach es X.env := by rfl) (hpl : (backTo pos (starEach es X.env)).any (·.1) = false := by rfl) :
    PE X (.Call (.Name x p) (e :: es) [] pos) (tCall sp [] E0 t) := by
  obtain ⟨f, fd, hm, hk, hb, F⟩ := h
  exact pe_call F hr hg hm hk hb .nil pass0 ha hdb he hpl
/-- a text, an int of the module's top -/
theorem pe_gS {z : Str} (h : ∃ u, X.mg x = some u ∧ RelV (.str z) u) (hg : Gl X x := by rfl) (hd : (x == ("__debug__" : Str)) = false := by decide) : PE X (.Name x pos) (tC (.str z)) := by
  obtain ⟨u, hm, r⟩ := h
  exact pe_glob hg hm r hd
theorem pe_gI {z : Int} (h : ∃ u, X.mg x = some u ∧ RelV (.int z) u) (hg : Gl X x := by rfl) (hd : (x == ("__debug__" : Str)) = false := by decide) : PE X (.Name x pos) (tC (.int z)) := by
  obtain ⟨u, hm, r⟩ := h
  exact pe_glob hg hm r hd
theorem pe_gC {C : Addr} (hm : X.mg x = some (.ref C)) (hg : Gl X x := by rfl) (hd : (x == ("__debug__" : Str)) = false := by decide) : PE X (.Name x pos) (tC (.ref C)) := pe_glob hg hm rfl hd
end
end RV
namespace RV
open PySem L2
/-! the same rules where the written part is a letter (within a comprehension's block) -/
section
variable {X : Cx} {K : PySem.W.Frag}
theorem op_inK (h : X.K = K := by rfl) : OpR X (compareOp .In) (rIn K false) := h ▸ op_in_seq
theorem op_notInK (h : X.K = K := by rfl) : OpR X (compareOp .NotIn) (rIn K true) := h ▸ op_notIn_seq
theorem ix_listK (h : X.K = K := by rfl) : IxR X (rIxL K) := h ▸ ix_list
theorem ix_tupK (h : X.K = K := by rfl) : IxR X (rIxT K) := h ▸ ix_tup
def rLenQ (K : PySem.W.Frag) : List V → Hp → VK → Prop := fun xs H Q => ∃ p ys, xs = [.ref p] ∧ (SqL K H p ys ∨ SqT K H p ys) ∧ Q (.int ys.length) H
theorem call_lenK (h : X.K = K := by rfl) : CallR X (.builtin "len") (rLenQ K) := h ▸ call_len_seq
end
end RV
/-! Names: what they are, by their signs. -/
namespace RV
open PySem L2
def lowC (c : Nat) : Bool := decide (97 ≤ c) && decide (c ≤ 122)
def digC (c : Nat) : Bool := decide (48 ≤ c) && decide (c ≤ 57)
def tailC (c : Nat) : Bool := lowC c || digC c
/-- one to eight signs, letters and digits, a letter first -/
def isNm : List Nat → Bool
  | [] => false
  | c :: r => lowC c && r.all tailC && decide (r.length ≤ 7)
def IsNm (x : Str) : Prop := isNm x.cps.toList = true
abbrev cd (x : Str) : List Nat := x.cps.toList
theorem cd_inj {x y : Str} (h : cd x = cd y) : x = y := PyProof.Rows.ext_toList h
theorem cd_app (x y : Str) : cd (x ++ y) = cd x ++ cd y := by
  show (x ++ y).cps.toList = _
  exact Array.toList_append
theorem cd_len (x : Str) : x.length = (cd x).length := by
  show x.cps.size = x.cps.toList.length
  rw [Array.length_toList]
theorem cd_one (c : Nat) : cd ⟨#[c]⟩ = [c] := rfl
theorem isNm_iff {l : List Nat} : isNm l = true ↔ ∃ c r, l = c :: r ∧ lowC c = true ∧ r.all tailC = true ∧ r.length ≤ 7 := by
  cases l with
  | nil => simp [isNm]
  | cons c r =>
    constructor
    · intro h
      simp only [isNm, Bool.and_eq_true, decide_eq_true_eq] at h
      exact ⟨c, r, rfl, h.1.1, h.1.2, h.2⟩
    · rintro ⟨c', r', e, h1, h2, h3⟩
      cases e
      simp [isNm, h1, h2, h3]
theorem isNm_len {l : List Nat} (h : isNm l = true) : 1 ≤ l.length ∧ l.length ≤ 8 := by
  obtain ⟨c, r, rfl, _, _, h3⟩ := isNm_iff.mp h
  simp
  omega
theorem isNm_snoc {l : List Nat} {c : Nat} (h : isNm l = true) (hl : l.length ≤ 7) (hc : tailC c = true) : isNm (l ++ [c]) = true := by
  obtain ⟨d, r, rfl, h1, h2, _⟩ := isNm_iff.mp h
  refine isNm_iff.mpr ⟨d, r ++ [c], rfl, h1, ?_, ?_⟩
  · rw [List.all_append, h2]
    simp [hc]
  · simp at hl ⊢
    omega
theorem tail_of_low {c : Nat} (h : lowC c = true) : tailC c = true := by simp [tailC, h]
theorem isNm_all {l : List Nat} (h : isNm l = true) : l.all tailC = true := by
  obtain ⟨d, r, rfl, h1, h2, _⟩ := isNm_iff.mp h
  simp only [List.all_cons, tail_of_low h1, h2, Bool.and_self]
theorem all_take {l : List Nat} {k : Nat} (h : l.all tailC = true) : (l.take k).all tailC = true := by
  rw [List.all_eq_true] at h ⊢
  exact fun x hx => h x (List.mem_of_mem_take hx)
/-- the first signs of a name with more signs behind it -/
theorem isNm_cut {l m : List Nat} {k : Nat} (h : isNm l = true) (hm : m.all tailC = true) (h1 : 1 ≤ k) (h8 : k ≤ 8) : isNm ((l ++ m).take k) = true := by
  obtain ⟨d, r, rfl, a1, a2, _⟩ := isNm_iff.mp h
  obtain ⟨j, rfl⟩ : ∃ j, k = j + 1 := ⟨k - 1, by omega⟩
  refine isNm_iff.mpr ⟨d, (r ++ m).take j, by simp, a1, all_take ?_, ?_⟩
  · rw [List.all_append, a2, hm]
    rfl
  · rw [List.length_take]
    omega
theorem isNm_take {l : List Nat} {k : Nat} (h : isNm l = true) (h1 : 1 ≤ k) (h8 : k ≤ 8) : isNm (l.take k) = true := by
  have := isNm_cut (m := []) h rfl h1 h8
  rwa [List.append_nil] at this
def signs : Str := "abcdefghijklmnopqrstuvwxyz0123456789"
theorem cd_signs : cd signs = [97, 98, 99, 100, 101, 102, 103, 104, 105, 106, 107, 108, 109, 110, 111, 112, 113, 114, 115, 116, 117, 118, 119, 120, 121, 122, 48, 49, 50, 51, 52, 53, 54, 55, 56, 57] := by decide +kernel
theorem sign_low : ∀ i : Fin 26, ∃ c, (cd signs)[i.val]? = some c ∧ lowC c = true := by
  rw [cd_signs]
  intro i
  have h : ∀ i : Fin 26, (match ([97, 98, 99, 100, 101, 102, 103, 104, 105, 106, 107, 108, 109, 110, 111, 112, 113, 114, 115, 116, 117, 118, 119, 120, 121, 122, 48, 49, 50, 51, 52, 53, 54, 55, 56, 57] : List Nat)[i.val]? with | some c => lowC c | none => false) = true := by decide
  have hi := h i
  split at hi
  · rename_i c e
    exact ⟨c, e, hi⟩
  · cases hi
theorem sign_tail : ∀ i : Fin 36, ∃ c, (cd signs)[i.val]? = some c ∧ tailC c = true := by
  rw [cd_signs]
  intro i
  have h : ∀ i : Fin 36, (match ([97, 98, 99, 100, 101, 102, 103, 104, 105, 106, 107, 108, 109, 110, 111, 112, 113, 114, 115, 116, 117, 118, 119, 120, 121, 122, 48, 49, 50, 51, 52, 53, 54, 55, 56, 57] : List Nat)[i.val]? with | some c => tailC c | none => false) = true := by decide
  have hi := h i
  split at hi
  · rename_i c e
    exact ⟨c, e, hi⟩
  · cases hi
theorem at_low {r : Int} (h0 : 0 ≤ r) (h : r < 26) : ∃ c, atI (cd signs) r = some c ∧ lowC c = true := by
  obtain ⟨n, rfl⟩ := Int.eq_ofNat_of_zero_le h0
  obtain ⟨c, e, hc⟩ := sign_low ⟨n, by omega⟩
  exact ⟨c, atI_nat e, hc⟩
theorem at_tail {r : Int} (h0 : 0 ≤ r) (h : r < 36) : ∃ c, atI (cd signs) r = some c ∧ tailC c = true := by
  obtain ⟨n, rfl⟩ := Int.eq_ofNat_of_zero_le h0
  obtain ⟨c, e, hc⟩ := sign_tail ⟨n, by omega⟩
  exact ⟨c, atI_nat e, hc⟩
/-! slices of texts -/
theorem cd_cutS (z : Str) (lo hi : Option Int) : cd (cutS z lo hi) = ((cd z).drop (HT.sIx z.length 0 lo)).take (HT.sIx z.length z.length hi - HT.sIx z.length 0 lo) := by
  show (((z.cps.toList.drop _).take _).toArray).toList = _
  rfl
theorem sIx_some (n d : Nat) (k : Nat) : HT.sIx n d (some (k : Int)) = min k n := by
  unfold HT.sIx
  simp
  omega
theorem sIx_none (n d : Nat) : HT.sIx n d none = d := rfl
theorem cd_pre (z : Str) (k : Nat) : cd (cutS z none (some (k : Int))) = (cd z).take k := by
  rw [cd_cutS, sIx_none, sIx_some, List.drop_zero, Nat.sub_zero, cd_len]
  rw [← List.take_take, List.take_length]
theorem inV_str (x : Str) (xs : List Str) : inV (.str x) (xs.map V.str) = decide (x ∈ xs) := by
  induction xs with
  | nil => rfl
  | cons y ys ih =>
    show (eqV (.str y) (.str x) || inV (.str x) (ys.map V.str)) = _
    rw [ih]
    show ((y == x) || decide (x ∈ ys)) = _
    by_cases e : y = x
    · subst e
      simp
    · have e' : ¬ x = y := fun h => e h.symm
      simp [e, e']
theorem flat_str (xs : List Str) : (xs.map V.str).all flatV = true := by
  rw [List.all_eq_true]
  intro v hv
  obtain ⟨x, _, rfl⟩ := List.mem_map.mp hv
  rfl
/-- of more different things than a list has one is not in it -/
theorem one_free {α : Type} [DecidableEq α] : ∀ {ys xs : List α}, ys.Nodup → xs.length < ys.length → ∃ y ∈ ys, y ∉ xs
  | [], xs, _, h => by simp at h
  | y :: ys, xs, hn, h => by
    by_cases hy : y ∈ xs
    · obtain ⟨hy', hn'⟩ := List.nodup_cons.mp hn
      have hl : (xs.erase y).length < ys.length := by
        rw [List.length_erase_of_mem hy]
        have : 0 < xs.length := List.length_pos_of_mem hy
        simp at h
        omega
      obtain ⟨z, hz, hzx⟩ := one_free hn' hl
      refine ⟨z, List.mem_cons_of_mem _ hz, fun q => hzx ?_⟩
      have hne : z ≠ y := fun e => hy' (e ▸ hz)
      exact (List.mem_erase_of_ne hne).mpr q
    · exact ⟨y, List.mem_cons_self, hy⟩
/-! walks over any thing that is walked in order -/
theorem lc_it {J : It} {n : Nat} {g : TG} {tt : TT} {te : TE} {vs : List Nat} {σ : L2.St} {H1 : Hp} {D : Addr} {Qd : Hp → Prop} (Pv : Nat → Hp → Prop)
    (hgo : ∀ i H, i < n → Pv i H → J.go i H) (hst : ∀ H, Pv n H → J.stop n H) (h0 : Pv 0 (upd H1 D (.lst [])))
    (hs : ∀ i x H H', i < n → Pv i H → J.yld i H x H' → g x (wipe σ vs) H' fun σ2 H2 => wipe σ2 vs = wipe σ vs ∧ tt σ2 H2 fun b H3 =>
      if b = true then te σ2 H3 fun y H4 => ∃ acc, H4 D = some (.lst acc) ∧ acc.length < sizeLine ∧ Pv (i + 1) (upd H4 D (.lst (acc ++ [y]))) else Pv (i + 1) H3) (hd : ∀ H, Pv n H → Qd H) :
    ∃ W : Nat → Nat → Hp → Prop, (∃ m, W 0 m (upd H1 D (.lst []))) ∧ ∀ i m H, W i m H →
      (J.stop i H ∧ Qd H) ∨ (J.go i H ∧ ∃ Nx : Hp → Prop, (∀ H', Nx H' → ∃ m', m' < m ∧ W (i + 1) m' H') ∧ ∀ x H', J.yld i H x H' → g x (wipe σ vs) H' fun σ2 H2 => wipe σ2 vs = wipe σ vs ∧ tt σ2 H2 fun b H3 =>
        if b = true then te σ2 H3 fun y H4 => ∃ acc, H4 D = some (.lst acc) ∧ acc.length < sizeLine ∧ Nx (upd H4 D (.lst (acc ++ [y]))) else Nx H3) := by
  refine ⟨fun i m H => m = n - i ∧ i ≤ n ∧ Pv i H, ⟨n, by simp, Nat.zero_le _, h0⟩, ?_⟩
  rintro i m H ⟨rfl, hi, p⟩
  by_cases hlt : i < n
  · refine .inr ⟨hgo i H hlt p, Pv (i + 1), fun H' p' => ⟨n - (i + 1), by omega, rfl, hlt, p'⟩, fun x H' y => ?_⟩
    exact hs i x H H' hlt p y
  · have e : i = n := by omega
    subst e
    exact .inl ⟨hst H p, hd H p⟩
theorem lc_str {z : Str} {g : TG} {tt : TT} {te : TE} {vs : List Nat} {σ : L2.St} {H1 : Hp} {D : Addr} {Qd : Hp → Prop} (Pv : Nat → Hp → Prop) (h0 : Pv 0 (upd H1 D (.lst [])))
    (hs : ∀ i c H, (cd z)[i]? = some c → Pv i H → g (.str ⟨#[c]⟩) (wipe σ vs) H fun σ2 H2 => wipe σ2 vs = wipe σ vs ∧ tt σ2 H2 fun b H3 =>
      if b = true then te σ2 H3 fun y H4 => ∃ acc, H4 D = some (.lst acc) ∧ acc.length < sizeLine ∧ Pv (i + 1) (upd H4 D (.lst (acc ++ [y]))) else Pv (i + 1) H3) (hd : ∀ H, Pv (cd z).length H → Qd H) :
    ∃ W : Nat → Nat → Hp → Prop, (∃ m, W 0 m (upd H1 D (.lst []))) ∧ ∀ i m H, W i m H →
      ((Its z).stop i H ∧ Qd H) ∨ ((Its z).go i H ∧ ∃ Nx : Hp → Prop, (∀ H', Nx H' → ∃ m', m' < m ∧ W (i + 1) m' H') ∧ ∀ x H', (Its z).yld i H x H' → g x (wipe σ vs) H' fun σ2 H2 => wipe σ2 vs = wipe σ vs ∧ tt σ2 H2 fun b H3 =>
        if b = true then te σ2 H3 fun y H4 => ∃ acc, H4 D = some (.lst acc) ∧ acc.length < sizeLine ∧ Nx (upd H4 D (.lst (acc ++ [y]))) else Nx H3) :=
  lc_it (J := Its z) (n := (cd z).length) Pv (fun i _ h _ => by
    show i < z.cps.size
    rwa [← Array.length_toList]) (fun _ _ => by
    show z.cps.size ≤ (cd z).length
    rw [← Array.length_toList]
    exact Nat.le_refl _) h0 (fun i x H H' hi p y => by
    obtain ⟨e, c, hc, ex⟩ := y
    subst e ex
    exact hs i c H' (by rw [← hc]; exact Array.getElem?_toList ..) p) hd
end RV
namespace RV
open PySem L2
/-- what follows a statement is shown once, from what the statement leaves -/
theorem seq_of {t R : TS} {D : Ends} {σ : L2.St} {H : Hp} (mid : L2.St → Hp → Prop) (h2 : ∀ σ' H', mid σ' H' → R D σ' H') (h1 : ∀ N : L2.St → Hp → Prop, (∀ σ' H', mid σ' H' → N σ' H') → t { D with nx := N } σ H) : tSeq t R D σ H := h1 (R D) h2
theorem szn {n : Nat} (h : n ≤ 1000) : n ≤ sizeLine := Nat.le_trans h (by decide)
/-- texts as data -/
theorem dps {K : PySem.W.Frag} {H : Hp} : ∀ xs : List Str, DpAll K H (xs.map V.str) (xs.map PyData.str)
  | [] => .nil
  | x :: xs => .cons (.str x) (dps xs)
end RV
/-! Rules for own classes: ==, !=, truth; repr of data. -/
namespace PySem.W
open PySem PySem.Calls PyProof.Rows Builtin
section
variable {prog : Program} {w : World} {A : Around} {E : Value → Shared → Prop} {s : Shared} {K : Frag} {x C L f : Addr} {h₀ : Heap} {m : Str → Option Value} {ox : Obj} {od : Option Obj} {b tb : Value}
/-- the default !=, by the class's own == that gives a bool -/
theorem rv_ne_K {Q : Value → Shared → Prop} (hu : A.units + 1 < cLine) (F : Fr h₀ L s.heap m) (X₀ : K.In h₀) (I : InstAt s.heap x ox C od) (hb : Looks (model prog w) s.heap (typeOf b) tb) (hn : notFirst K C tb = true)
    (hs : findIn K (.ref C) "__eq__" = some (some (.ref f))) (hf : isFn K (.ref f) = true) (hne : findIn K (.ref C) "__ne__" = some (some (.builtin "object.__ne__"))) (hob : subIn K (.ref C) (.type "object") = some true)
    (h : wpAny (model prog w) A.in1 (call (.ref f) [.ref x, b]) (fun v s' => ∃ c, v = .bool c ∧ Q (.bool (!c)) s') E s) : wpAny (model prog w) A (richCompare .NotEq (.ref x) b) Q E s := by
  have X := X₀.keeps F.keep
  have entry : wpAny (model prog w) A.in1 (Builtin.«object.__ne__» ⟨[.ref x, b], []⟩) (fun fin s' => ∃ v, fin = .done (.ret v) ∧ ∃ c, v = .bool (!c) ∧ Q (.bool (!c)) s') E s := by
    unfold Builtin.«object.__ne__»
    refine wpAny_bind (m := slotArgs "__ne__" 1 _) (wpAny_pure ?_)
    refine wpAny_bind (wpAny_cRoomFor (show A.units + 1 < cLine from hu) ?_)
    refine wpAny_bind (m := callSpecialIfBound? (.ref x) (Str.ofString "__eq__") [b]) (ifBound_K X I hs hf (wpAny_mono h (fun v s' hv => ?_) fun _ _ e => e))
    obtain ⟨c, rfl, hq⟩ := hv
    refine wpAny_bind (m := truthy (.bool c)) (wpAny_truthy_bool ?_)
    exact wpAny_pure ⟨_, rfl, c, rfl, hq⟩
  have chk : wpAny (model prog w) A.in1 (checkBuiltinCall "object.__ne__" ⟨[.ref x, b], []⟩) (fun _ s1 => s1 = s) E s := by
    simp only [checkBuiltinCall, PySem.F.cmpKind_ne, PySem.F.cmpSplit_ne]
    refine wpAny_bind ?_
    unfold isInstance
    refine wpAny_bind (I.type.here ?_)
    refine (looks_subIn X hob).here ?_
    have ha : argsOk "object.__ne__" ⟨[.ref x, b], []⟩ := PySem.F.cmpArgs_ne _ _
    cases hsig : Manifest.signature? "object.__ne__" with
    | none => exact wpAny_pure rfl
    | some sig =>
      simp only [argsOk, hsig] at ha
      have h2 : Bind.checkArgs "object.__ne__" sig ⟨[.ref x, b], []⟩ = pure () := ha
      show wpAny _ A.in1 (Bind.checkArgs "object.__ne__" sig ⟨[.ref x, b], []⟩) _ E _
      rw [h2]
      exact wpAny_pure rfl
  have callne : wpAny (model prog w) A (call (.builtin "object.__ne__") [.ref x, b]) (fun v s' => ∃ c, v = .bool (!c) ∧ Q (.bool (!c)) s') E s := by
    refine wpAny_call (codeAny_call_builtin PySem.F.slot_object_ne.plain PySem.F.cmpEntry_ne (wpAny_mono chk (fun _ s1 e => ?_) fun _ _ e => e))
    subst e
    refine wpAny_mono entry (fun fin s' hq => ?_) fun _ _ e => e
    obtain ⟨v, rfl, c, rfl, q⟩ := hq
    exact ⟨c, rfl, q⟩
  have one : wpAny (model prog w) A (tryCompare (.ref x) "__ne__" b) (fun r s' => ∃ v, r = some v ∧ Q v s') E s := by
    unfold tryCompare
    refine wpAny_bind (m := callSpecialIfBound? (.ref x) (Str.ofString "__ne__") [b]) ?_
    simp only [callSpecialIfBound?, bindSpecialIfBound?]
    refine wpAny_holding (wpAny_bind (wpAny_bind (wpAny_bind (I.type.here ((looks_findIn X hne).here ?_)))))
    simp only [PySem.F.slot_object_ne.bind]
    refine wpAny_bind (wpAny_askSetting (wpAny_ite ?_))
    have fin : ∀ R : Option Value → Shared → Prop, (∀ (c : Bool) s', Q (.bool (!c)) s' → R (some (.bool (!c))) s') → wpAny (model prog w) A (call (.builtin "object.__ne__") ([.ref x] ++ [b]) >>= fun v => pure (some v)) R E s := by
      intro R hR
      refine wpAny_bind (wpAny_mono callne (fun v s' hq => ?_) fun _ _ e => e)
      obtain ⟨c, rfl, q⟩ := hq
      exact wpAny_pure (hR c s' q)
    split
    · exact wpAny_bind (wpAny_pure (wpAny_pure (fin _ fun c s' q => wpAny_pure ⟨_, rfl, q⟩)))
    · exact wpAny_tryCatch (wpAny_bind (wpAny_pure (wpAny_pure (fin _ fun c s' q => wpAny_pure ⟨_, rfl, q⟩))))
  unfold richCompare
  simp only [oneThing_ref]
  refine wpAny_holding (wpAny_bind (wpAny_cRoomFor (Nat.lt_of_succ_lt hu) ?_))
  rw [cmpInfo_NotEq]
  dsimp only
  refine wpAny_bind (I.type.here (wpAny_bind (hb.here ?_)))
  split
  · rename_i q
    have e : subIn K tb (.ref C) = some false := by
      rcases Bool.or_eq_true_iff.mp hn with e | e
      · rw [beq_iff_eq.mp e] at q; simp at q
      · exact beq_iff_eq.mp e
    refine wpAny_bind ((looks_subIn X e).here ?_)
    simp only [Bool.false_eq_true, if_false]
    refine wpAny_bind (wpAny_mono one (fun r s' z => ?_) fun _ _ e => e)
    obtain ⟨v, rfl, hq⟩ := z
    exact wpAny_pure hq
  · refine wpAny_bind (wpAny_pure ?_)
    simp only [Bool.false_eq_true, if_false]
    refine wpAny_bind (wpAny_mono one (fun r s' z => ?_) fun _ _ e => e)
    obtain ⟨v, rfl, hq⟩ := z
    exact wpAny_pure hq
end
end PySem.W

namespace RV
open PySem L2
/-- the kind of a value, for a comparison -/
inductive TyL (H : Hp) : V → Value → Prop where
  | non : TyL H .non (.type "NoneType")
  | bl (b : Bool) : TyL H (.bl b) (.type "bool")
  | int (i : Int) : TyL H (.int i) (.type "int")
  | str (x : Str) : TyL H (.str x) (.type "str")
  | lst {a : Addr} {xs : List V} (e : H a = some (.lst xs)) : TyL H (.ref a) (.type "list")
  | tup {a : Addr} {xs : List V} (e : H a = some (.tup xs)) : TyL H (.ref a) (.type "tuple")
  | dK {a : Addr} {kvs : List (Key × V)} (e : H a = some (.dK kvs)) : TyL H (.ref a) (.type "dict")
  | ins {a C dx : Addr} {fs : List (Str × V)} (e : H a = some (.ins C dx fs)) : TyL H (.ref a) (.ref C)
section
variable {X : Cx} {pins : List (Addr × Obj)} {σ : L2.St} {H : Hp} {s : Shared}
/-- the class C has an own == that promises sp, and no own != -/
structure OwnEq (P : Program) (w : World) (K : PySem.W.Frag) (mg : Str → Option Value) (base : Heap) (C : Addr) (k : Nat) (sp : Sp) : Prop where
  fn : ∃ f fd ps, PySem.W.findIn K (.ref C) "__eq__" = some (some (.ref f)) ∧ PySem.W.isFn K (.ref f) = true ∧ Binds K fd ps [] ∧ FnOk P w K mg base CX0 k f fd ps sp
  ne : PySem.W.findIn K (.ref C) "__ne__" = some (some (.builtin "object.__ne__"))
  ob : PySem.W.subIn K (.ref C) (.type "object") = some true
@[irreducible] def rEqO (neg : Bool) (K : PySem.W.Frag) (C : Addr) (sp : Sp) : R2 := fun x y H Q => ∃ a dx fs t, x = .ref a ∧ H a = some (.ins C dx fs) ∧ TyL H y t ∧ PySem.W.notFirst K C t = true ∧
  sp [x, y] H (fun v H' => ∃ b, v = .bl b ∧ Q (.bl (if neg then !b else b)) H') E0
variable {P : Program} {w : World} {K : PySem.W.Frag} {mg : Str → Option Value} {base : Heap} {C : Addr} {k : Nat} {sp : Sp}
/-- an instance of a class without a truth or a length of its own is true -/
def rTrO (C : Addr) : V → Hp → (Bool → Hp → Prop) → Prop := fun x H Q => ∃ a dx fs, x = .ref a ∧ H a = some (.ins C dx fs) ∧ Q true H
/-! ### repr -/
mutual
theorem Dp.noDict {K : PySem.W.Frag} {H : Hp} : ∀ {v : V} {d : PyData}, Dp K H v d → d.hasDict = false
  | _, _, .non => by simp [PyData.hasDict]
  | _, _, .bl _ => by simp [PyData.hasDict]
  | _, _, .int _ => by simp [PyData.hasDict]
  | _, _, .str _ => by simp [PyData.hasDict]
  | _, _, .lst _ h => by simp [PyData.hasDict, DpAll.noDict h]
  | _, _, .tup _ h => by simp [PyData.hasDict, DpAll.noDict h]
theorem DpAll.noDict {K : PySem.W.Frag} {H : Hp} : ∀ {vs : List V} {ds : List PyData}, DpAll K H vs ds → PyData.hasDictAll ds = false
  | _, _, .nil => by simp [PyData.hasDictAll]
  | _, _, .cons h t => by simp [PyData.hasDictAll, Dp.noDict h, DpAll.noDict t]
end
@[irreducible] def rRepr (K : PySem.W.Frag) : List V → Hp → VK → Prop := fun xs H Q => ∃ a d, xs = [.ref a] ∧ Dp K H (.ref a) d ∧ d.showable = true ∧ d.depth ≤ 60 ∧ d.shown.length ≤ sizeLine ∧ Q (.str d.shown) H
theorem call_reprD (hu : X.A.units + 64 < cLine) (hg : X.A.guards = some []) : CallR X (.builtin "repr") (rRepr X.K) := by
  intro pins s σ H xs us Q I r h
  unfold rRepr at h
  obtain ⟨a, d, rfl, hd, hs, hdp, hsz, q⟩ := h
  obtain ⟨as, rd⟩ := Dp.reads I d _ _ hd (rfl : RelV (.ref a) (.ref a))
  have eu : us = [.ref a] := by
    cases r with
    | cons r1 r2 => cases r2; cases r1; rfl
  subst eu
  have nod : d.hasDict = true → sysModules ∉ as := fun hh => by
    rw [Dp.noDict hd] at hh
    cases hh
  refine repr_of_reads' rd hs nod hg (by omega) (fun _ _ e => e) (fun h' u tk hk => ⟨.str d.shown, H, I.kept hk, ⟨u, rfl⟩, q⟩) hsz
end
end RV
/-! Defs that must not run within a repr: as FnOk, but only where no repr is under way. -/
namespace RV
open PySem L2 PyProof.Rows
section
variable {P : Program} {w : World} {K : PySem.W.Frag} {mg : Str → Option Value} {base : Heap}
structure FnG (P : Program) (w : World) (K : PySem.W.Frag) (mg : Str → Option Value) (base : Heap) (k : Nat) (f : Addr) (fd : FuncData) (ps : List Str) (sp : Sp) : Prop where
  len : ∀ vs H Q E, sp vs H Q E → vs.length = ps.length
  run : ∀ (A : Around) (outer : List Env) (s : Shared) (H : Hp) (args : Args) (us : List Value) (vs : List V) (Q : VK) (E : XK), A.guards = some [] → Room k A → Env0 P w K mg base A outer s H → BindsTo s fd args (ps.zip us) → Vals vs us → sp vs H Q E →
    codeAny (model P w) A (.call (.ref f) args) (CR CX0 outer P w H s Q E) s
theorem gFun {x qual : Str} {st : Stmt} {f : Addr} {fd : FuncData} {N ps : List Str} {k : Nat} {sp : Sp} (F : Fun K x qual st f fd) (S : FnScope N ps (defScope st)) (len : ∀ vs H Q E, sp vs H Q E → vs.length = ps.length)
    (hbody : ∀ (cdv : Value) (A : Around) (outer : List Env) (s : Shared) (H : Hp) (vs : List V) (Q : VK) (E : XK), (A.deeper (envOfC qual (defScope st) s.heap.objs.size f cdv)).guards = some [] → Room k (A.deeper (envOfC qual (defScope st) s.heap.objs.size f cdv)) → sp vs H Q E →
      ∃ t, PSs (cxOf CX0 P w K mg base N qual (defScope st) f cdv A outer s H E).nox (defBody st) t ∧ t { nx := fun _ H' => Q .non H', rt := Q } (start N vs) H) : FnG P w K mg base (k + 1) f fd ps sp := by
  refine ⟨len, fun A outer s H args us vs Q E gs hr e0 hb r hsp => ?_⟩


  obtain ⟨oc, od, kV, doc, pm, an, cdv, ct, osl, rfl, lk, hcd⟩ := F.ex
  have hl := len _ _ _ _ hsp
  have KX : K.In s.heap := e0.mod.kin.keeps fun b o e => (e0.bs b o e).1
  have lim := e0.mod.nolimit.keeps fun b o e => (e0.bs b o e).1
  refine codeAny_call_function hr.depth (KX _ _ lk) rfl S.co S.gen rfl (PySem.W.codeRec_of KX hcd) (hb _ _ _ _ ?_)
  refine wpAny_newFunctionEnv_cells S.kind (fun y hy => ?_) fun env he s1 x => ?_
  · have hin : y.1 ∈ ps := by
      obtain ⟨n, v⟩ := y
      exact (List.of_mem_zip hy).1
    exact (S.par _ hin).imp id fun q => ⟨q, PySem.W.cellsFrom_some _ _ _ (.inl q)⟩
  subst he
  refine ⟨lim.keeps x.toInCall.keep, codeAny_func ?_⟩
  obtain ⟨t, ht, hq⟩ := hbody cdv A outer s H vs Q E gs (hr.deeper _) hsp
  have I := inv_start (CX := CX0) (cd := cdv) (E := E) S hr.hd e0 hl r x
  refine wpAny_mono (ht.nox.run [] s1 (start N vs) H _ I hq) (fun fl s' hs => ?_) fun _ _ hs => hs
  match fl, hs with
  | .ret u, ⟨v, _, H', J, rv, q⟩ => exact ⟨v, H', J.os, J.bare, J.base, J.hok, rv, q⟩
  | .next, ⟨_, H', J, q⟩ => exact ⟨V.non, H', J.os, J.bare, J.base, J.hok, rfl, q⟩
  | .brk, ⟨_, _, _, q⟩ => exact q.elim
  | .cont, ⟨_, _, _, q⟩ => exact q.elim
/-- such a function of the module, as its callers see it -/
def FnGd (P : Program) (w : World) (K : PySem.W.Frag) (mg : Str → Option Value) (base : Heap) (x : Str) (k : Nat) (ps : List Str) (sp : Sp) : Prop :=
  ∃ f fd, mg x = some (.ref f) ∧ PySem.W.keepIn K (.ref f) = true ∧ Binds K fd ps [] ∧ FnG P w K mg base k f fd ps sp
end
section
variable {X : Cx} {x : Str} {k : Nat} {ps : List Str} {sp : Sp} {e : Expr} {es : List Expr} {t : TA} {p pos : Pos}
theorem pe_fnG (h : FnGd X.prog X.w X.K X.mg X.base x k ps sp) (gs : X.A.guards = some []) (hr : Room k X.A) (ha : PA X (e :: es) t) (hg : Gl X x := by rfl) (hdb : (x == ("__debug__" : Str)) = false := by decide)
    (he : starEach (e :: es) X.env = (false, eval e X.env) :: starEach es X.env := by rfl) (hpl : (backTo pos (starEach es X.env)).any (·.1) = false := by rfl) :
    PE X (.Call (.Name x p) (e :: es) [] pos) (tCall sp [] E0 t) := by
  obtain ⟨f, fd, hm, hk, hb, F⟩ := h
  refine ⟨fun pins s σ H Q I h => wpAny_Call_Name_kw (ld_glob I hg hm ?_ hdb)⟩
  refine PySem.W.callWith_K (h₀ := X.base) I.ok.mod.kin hk (thn (ha.run pos pins s σ H _ I h) fun us s1 ⟨vs, H1, I1, r, q⟩ => ⟨I1.kIn, ?_⟩) he hpl
  have q' : sp vs H1 Q E0 := by rw [← List.append_nil vs]; exact q
  have hl : us.length = ps.length := r.length ▸ F.len _ _ _ _ q'
  have hbb : BindsTo s1 fd ⟨us, []⟩ (ps.zip us) := by
    have z := hb s1 us I1.kIn (by rw [List.append_nil]; exact hl)
    rwa [List.append_nil] at z
  refine wpAny_call (codeAny_mono (F.run X.A X.stack s1 H1 ⟨us, []⟩ us vs Q E0 gs hr I1.env0 hbb r q') fun res s' hq => ?_)
  match res, hq with
  | .ok (.ret u), hq => exact I1.after hq
  | .ok .next, hq => exact False.elim hq
  | .ok .brk, hq => exact False.elim hq
  | .ok .cont, hq => exact False.elim hq
  | .error e, hq => exact False.elim hq
end
/-- the law's own call: nothing is tracked but the script -/
theorem callG {P : Program} {w : World} {K : PySem.W.Frag} {mg mb : Str → Option Value} {k : Nat} {fa a : Addr} {fd : FuncData} {x : Str} {sp : Sp} {s₁ : Shared} {vs : List Value} {ns : List Int}
    (KX : K.In s₁.heap) (hns : s₁.heap.Ns mainGlobals mg) (hb : s₁.heap.Ns builtinsNs mb) (hbb : ∀ x : Str, x ≠ "__name__" → mb x = bootBuiltins x) (hlim : s₁.heap.NoLimit) (hg : s₁.gens = #[])
    (ha : s₁.heap.get? a = some { cls := .type "list", data := .seq vs.toArray }) (hi : IntsAre vs ns) (hl : ns.length ≤ sizeLine) (hr : Room k callerA)
    (F : ∀ base : Heap, K.In base → base.Ns mainGlobals mg → FnG P w K mg base k fa fd [x] sp) (hbind : ∀ (s : Shared) (u : Value), BindsTo s fd ⟨[u], []⟩ [(x, u)])
    (hsp : ∀ H : Hp, SqL K H a (ns.map V.int) → sp [.ref a] H (fun v _ => v = .bl true) E0) :
    codeAny (model P w) callerA (.call (.ref fa) ⟨[.ref a], []⟩) (fun r s' => r = .ok (.ret (.bool true)) ∧ OldK s₁.heap s'.heap ∧ s'.os = s₁.os ∧ AllBare s'.gens) s₁ := by
  have rv := vals_ints hi
  let scr : Obj := { cls := .type "list", data := .seq vs.toArray }
  -- H tracks at most the script, locked
  have core : ∀ H : Hp, (∀ b u, H b = some u → b = a ∧ u = .frz scr (.lst (ns.map V.int)) ∧ K.lookup a = none) → SqL K H a (ns.map V.int) →
      codeAny (model P w) callerA (.call (.ref fa) ⟨[.ref a], []⟩) (fun r s' => r = .ok (.ret (.bool true)) ∧ OldK s₁.heap s'.heap ∧ s'.os = s₁.os ∧ AllBare s'.gens) s₁ := by
    intro H hO hS
    have hok : HOk P w H s₁.heap := fun b u e => by
      obtain ⟨rfl, rfl, _⟩ := hO b u e
      exact ⟨ha, by rw [List.length_map]; exact hl, vs, _, rv, ha⟩
    have other : ∀ {b : Addr} {o : Obj}, s₁.heap.get? b = some o → o ≠ scr → H b = none := fun {b o} e d => by
      cases q : H b with
      | none => rfl
      | some u =>
        obtain ⟨rfl, _, _⟩ := hO b u q
        rw [ha] at e
        exact absurd (Option.some.inj e).symm d
    have spaces : ∀ {b : Addr} {m : Str → Option Value}, s₁.heap.Ns b m → (hidT s₁.heap H).Ns b m := fun {b m} z => by
      obtain ⟨o, es, ep, e, d, r⟩ := z
      refine ⟨o, es, ep, hidT_get e (other e fun q => ?_), d, r⟩
      subst q
      obtain ⟨_, d'⟩ := d
    have kin : K.In (hidT s₁.heap H) := fun b o e => hidT_get (KX b o e) (by
      cases q : H b with
      | none => rfl
      | some u =>
        obtain ⟨rfl, _, z⟩ := hO b u q
        rw [z] at e
        cases e)
    obtain ⟨mc, l1, l2⟩ := hlim
    have e0 : Env0 P w K mg (hidT s₁.heap H) callerA [] s₁ H :=
      { frames := rfl, mod := ⟨kin, spaces hns, ⟨mb, spaces hb, hbb⟩, ⟨mc, spaces l1, l2⟩⟩, bs := fun _ _ e => of_hidT e, bsz := Nat.le_of_eq (hidT_size _ _), funs := trivial, frf := fun _ hb => (nomatch hb), hok := hok, bare := .of_eq hg }
    refine codeAny_mono ((F _ kin (spaces hns)).run callerA [] s₁ H ⟨[.ref a], []⟩ [.ref a] [.ref a] _ _ rfl hr e0 (hbind s₁ (.ref a)) (.cons rfl .nil) (hsp H hS)) fun res s' z => ?_
    match res, z with
    | .ok (.ret u), ⟨v, H', os, bare, un, hok', rel, ev⟩ =>
      have ev' : v = .bl true := ev
      subst ev'
      have eu : u = Value.bool true := rel
      subst eu
      refine ⟨rfl, OldK.of_keep fun b o e => ?_, os, bare⟩
      cases q : H b with
      | none => exact un.keep b o e q (fun z => nomatch z) (fun z => nomatch z)
      | some u =>
        obtain ⟨rfl, rfl, _⟩ := hO b u q
        have z1 := (hok' b _ (un.frzs b _ _ q)).1
        rw [ha] at e
        rw [← e]
        exact z1
    | .ok .next, z => exact False.elim z
    | .ok .brk, z => exact False.elim z
    | .ok .cont, z => exact False.elim z
    | .error e, z => exact False.elim z
  cases hk : K.lookup a with
  | some o =>
    have e := KX a o hk
    rw [ha] at e
    cases e
    exact core (fun _ => none) (fun _ _ z => nomatch z) (.inr ⟨_, vs.toArray, _, hk, rfl, rfl, rfl, by rw [List.size_toArray, hi.length]; exact hl, by simpa using rv⟩)
  | none =>
    refine core (fun b => if b = a then some (.frz scr (.lst (ns.map V.int))) else none) (fun b u z => ?_) (.inl (.inr ⟨scr, if_pos rfl⟩))
    by_cases hb : b = a
    · rw [if_pos hb] at z
      exact ⟨hb, (Option.some.inj z).symm, hk⟩
    · rw [if_neg hb] at z
      cases z
theorem walkG (k : Nat) {l : PySem.W.OpenLaw} {q : Program} {loose : List Str} {XP : (Str → Option Value) → Heap → Prop} {YP : World → Heap → Prop} {d : DefRec} {K : Params → PySem.W.Frag} (hr : Room k callerA) (hn : l.most = some 63) (hdf : d.params.defaults = [])
    (hY : ∀ (w : World) (h : Heap), YP w h → (K w.params).In h)
    (F : ∀ (w : World) (mg : Str → Option Value) (fa : Addr) (h : Heap), (K w.params).In h → h.Ns mainGlobals mg → mg d.name = some (.ref fa) →
      ∃ fd : FuncData, (∀ (s : Shared) (u : Value), BindsTo s fd ⟨[u], []⟩ [("_law_cells", u)]) ∧ ∀ base : Heap, (K w.params).In base → base.Ns mainGlobals mg → FnG l.prog w (K w.params) mg base k fa fd ["_law_cells"] (spLaw (K w.params))) :
    PySem.W.WalkO q loose XP YP l.row.toRowW d [] (fun f vs => PySem.call f vs) := by
  refine Att.attach_call hn hdf fun w s₀ s₁ mg mb fa o pm cd doc a vs ns G Y ho hd hcd hmg hobj hints hlen hg => ?_
  obtain ⟨fd, hb, hF⟩ := F w mg fa _ (hY w _ Y) G.T.g hmg
  exact callG (hY w _ Y) G.T.g G.T.b G.T.builtins G.T.nolimit hg hobj hints (Nat.le_trans hlen (by decide)) hr hF hb fun H hS => ⟨a, ns, rfl, hS, hlen, fun _ => rfl⟩
end RV
/-! Classes of the text, as their callers see them. -/
namespace RV
open PySem L2 PyProof.Rows
/-- the class x of the module stands at C; C(..) of positional values, the defaults dvs behind them -/
def Mkr (P : Program) (w : World) (K : PySem.W.Frag) (mg : Str → Option Value) (base : Heap) (x : Str) (C : Addr) (k : Nat) (sp : Sp) (dvs : List V) : Prop :=
  mg x = some (.ref C) ∧ ∃ f fd ps ds, Mk K C f ∧ Binds K fd ps ds ∧ Vals dvs ds ∧ FnOk P w K mg base CX0 k f fd ps sp
def MkrK (P : Program) (w : World) (K : PySem.W.Frag) (mg : Str → Option Value) (base : Heap) (x : Str) (C : Addr) (k n : Nat) (ks : List Str) (sp : Sp) (gV : List V → List V → List V) : Prop :=
  mg x = some (.ref C) ∧ ∃ f fd ps g, Mk K C f ∧ KBn K fd ps (n + 1) ks g gV ∧ FnOk P w K mg base CX0 k f fd ps sp
/-- what isinstance asks of a class of the text -/
structure ClsX (K : PySem.W.Frag) (C : Addr) : Prop where
  cl : Cls K C
  ha : PySem.W.findIn K (.ref C) "__class__" = some (some (.builtin "object.__class__"))
  hn : PySem.W.specialIn K (.builtin "object.__class__") "__get__" = some (some (.builtin "getset_descriptor.__get__"))
  htk : PySem.W.takesIn K (.builtin "object.__class__") = some true
  hm : PySem.W.mroIn K C (.type "object") = some true
theorem ClsX.ty {K : PySem.W.Frag} {C a dx : Addr} {H : Hp} {fs : List (Str × V)} (c : ClsX K C) (e : H a = some (.ins C dx fs)) : TyX K H (.ref a) (.ref C) := .base (.ins e c.cl c.ha c.hn c.htk c.hm)
/-- a property -/
def Prp (P : Program) (w : World) (K : PySem.W.Frag) (mg : Str → Option Value) (base : Heap) (C : Addr) (f : Str) (k : Nat) (sp : Sp) : Prop :=
  Cls K C ∧ ∃ p g fd ps, PropOf K C f p g ∧ Binds K fd ps [] ∧ FnOk P w K mg base CX0 k g fd ps sp
section
variable {X : Cx} {x f : Str} {C : Addr} {k n : Nat} {ks : List Str} {sp : Sp} {dvs : List V} {gV : List V → List V → List V} {e : Expr} {es : List Expr} {kws : List Keyword} {t tk : TA} {ta : TE} {p pos : Pos}
theorem pe_mk (h : Mkr X.prog X.w X.K X.mg X.base x C k sp dvs) (hr : Room (k + 1) X.A) (ha : PA X (e :: es) t) (hg : Gl X x := by rfl) (hdb : (x == ("__debug__" : Str)) = false := by decide)
    (he : starEach (e :: es) X.env = (false, eval e X.env) :: starEach es X.env := by rfl) (hpl : (backTo pos (starEach es X.env)).any (·.1) = false := by rfl) : PE X (.Call (.Name x p) (e :: es) [] pos) (tMake C sp dvs E0 t) := by
  obtain ⟨hm, f, fd, ps, ds, M, hb, hd, F⟩ := h
  exact pe_make M F hr hg hm hb hd pass0 ha hdb he hpl
theorem pe_mkK (h : MkrK X.prog X.w X.K X.mg X.base x C k n ks sp gV) (hr : Room (k + 1) X.A) (ha : PA X (e :: es) t) (hkw : PK X kws tk) (hg : Gl X x := by rfl)
    (hall : (backToKw pos (keywordEach kws X.env)).all (·.1.isSome) = true := by rfl) (hks : (backToKw pos (keywordEach kws X.env)).filterMap (·.1) = ks := by rfl) (hdb : (x == ("__debug__" : Str)) = false := by decide)
    (he : starEach (e :: es) X.env = (false, eval e X.env) :: starEach es X.env := by rfl) (hpl : ((backTo pos (starEach (e :: es) X.env)).any (·.1) || (backToKw pos (keywordEach kws X.env)).any (·.1.isNone)) = false := by rfl) :
    PE X (.Call (.Name x p) (e :: es) kws pos) (tMakeK C n ks.length sp gV E0 t tk) := by
  obtain ⟨hm, f, fd, ps, g, M, hb, F⟩ := h
  exact pe_makeK M F hr hg hm hb pass0 ha hkw hall hks hdb he hpl
theorem pe_propN (h : Prp X.prog X.w X.K X.mg X.base C f k sp) (hr : Room (k + 1) X.A) (he : PE X e ta) (hab : attributeBase e f X.env (eval e X.env) = eval e X.env := by rfl) : PE X (.Attribute e f pos) (tProp C sp [] E0 ta) := by
  obtain ⟨c, q, g, fd, ps, hp, hb, F⟩ := h
  exact pe_prop he c hp F hr hb .nil pass0 hab
end
end RV
/-! What is known of the heap, step by step; repr of lists of short things. -/
namespace RV
open PySem L2 PyProof.Rows
/-- the built-in names that the text uses are still the built-ins -/
structure Blt (mg : Str → Option Value) : Prop where
  b_len : mg "len" = none
  b_int : mg "int" = none
  b_abs : mg "abs" = none
  b_max : mg "max" = none
  b_min : mg "min" = none
  b_all : mg "all" = none
  b_any : mg "any" = none
  b_repr : mg "repr" = none
  b_range : mg "range" = none
  b_divmod : mg "divmod" = none
  b_isinstance : mg "isinstance" = none
  b_str : mg "str" = none

/-! ### the well -/
def sp_well (K : PySem.W.Frag) : Sp := fun vs H Q _ => ∃ (c : Addr) (ns : List Int) (k : Nat), vs = [.ref c, .int k] ∧ SqL K H c (ns.map V.int) ∧ ns.length ≤ 63 ∧ k ≤ 100 ∧
  ∀ a H', H a = none → Same H H' → WellAt H' a 0 → Q (.ref a) H'
def sp_dip : Sp := fun vs H Q _ => ∃ (a : Addr) (m : Int) (n : Nat), vs = [.ref a, .int m] ∧ WellAt H a n ∧ n < 1000000 ∧ 0 < m ∧ m ≤ 10 ^ 60 ∧
  ∀ (r : Int) H', 0 ≤ r → r < m → Grow a H H' → WellAt H' a (n + 1) → Q (.int r) H'
theorem WellAt.mono {H : Hp} {a : Addr} {n m : Nat} (w : WellAt H a n) (h : n ≤ m) : WellAt H a m := by
  obtain ⟨x, y, z, e, hx, hy, hz⟩ := w
  exact ⟨x, y, z, e, hx, hy, by omega, by omega⟩
theorem WellAt.new {H : Hp} {a p : Addr} {n : Nat} {o : HO} (w : WellAt H a n) (np : H p = none) : WellAt (upd H p o) a n := by
  obtain ⟨x, y, z, e, hx, hy, hz⟩ := w
  exact ⟨x, y, z, by rw [upd_ne (ne_of_none e np)]; exact e, hx, hy, hz⟩
theorem WellAt.ne {H : Hp} {a p : Addr} {n : Nat} (w : WellAt H a n) (np : H p = none) : a ≠ p := by
  obtain ⟨x, y, z, e, _⟩ := w
  exact ne_of_none e np
def sp_name : Sp := fun vs H Q _ => ∃ (a : Addr) (n : Nat), vs = [.ref a] ∧ WellAt H a n ∧ n < 900000 ∧
  ∀ (x : Str) H', IsNm x → Grow a H H' → WellAt H' a (n + 10) → Q (.str x) H'
def sp_fresh : Sp := fun vs H Q _ => ∃ (a t : Addr) (n : Nat) (xs : List Str), vs = [.ref a, .ref t] ∧ WellAt H a n ∧ n < 800000 ∧ H t = some (.lst (xs.map V.str)) ∧ t ≠ a ∧ (∀ x ∈ xs, IsNm x) ∧ xs.length ≤ 35 ∧
  ∀ (x : Str) H', IsNm x → x ∉ xs → Grow a H H' → WellAt H' a (n + 13) → Q (.str x) H'
/-- the names that differ from x in their last sign alone -/
def cands (x : Str) : List Str := (cd signs).map fun c => cutS x none (some 7) ++ ⟨#[c]⟩
theorem cand_cd (x : Str) (c : Nat) : cd (cutS x none (some 7) ++ ⟨#[c]⟩) = (cd x).take 7 ++ [c] := by
  rw [cd_app, cd_one]
  exact congrArg (· ++ [c]) (cd_pre x 7)
theorem cands_nm {x : Str} (h : IsNm x) : ∀ y ∈ cands x, IsNm y := by
  intro y hy
  obtain ⟨c, hc, rfl⟩ := List.mem_map.mp hy
  have ht : tailC c = true := by
    have : ((cd signs).all tailC) = true := by rw [cd_signs]; decide
    exact List.all_eq_true.mp this c hc
  show isNm (cd _) = true
  rw [cand_cd]
  exact isNm_snoc (isNm_take h (by decide) (by decide)) (by rw [List.length_take]; omega) ht
theorem nodup_map {α β : Type} {f : α → β} (hf : ∀ a b, f a = f b → a = b) : ∀ {l : List α}, l.Nodup → (l.map f).Nodup
  | [], _ => List.nodup_nil
  | a :: l, h => by
    obtain ⟨h1, h2⟩ := List.nodup_cons.mp h
    rw [List.map_cons, List.nodup_cons]
    refine ⟨fun hm => ?_, nodup_map hf h2⟩
    obtain ⟨b, hb, e⟩ := List.mem_map.mp hm
    exact h1 (hf _ _ e ▸ hb)
theorem cands_nodup (x : Str) : (cands x).Nodup := by
  refine nodup_map (fun a b e => ?_) (by rw [cd_signs]; decide)
  have e2 := congrArg cd e
  rw [cand_cd, cand_cd] at e2
  have e3 := List.append_cancel_left e2
  exact (List.cons.inj e3).1
theorem cands_len (x : Str) : (cands x).length = 36 := by
  unfold cands
  rw [List.length_map, cd_signs]
  rfl
/-- what is_name says of any value whose kind is known -/
def sp_is_name (K : PySem.W.Frag) : Sp := fun vs H Q _ => ∃ v, vs = [v] ∧ ((∃ x : Str, v = .str x ∧ x.length ≤ sizeLine ∧ ∀ H', Same H H' → Q (.bl (isNm (cd x))) H') ∨
  (∃ t, TyX K H v t ∧ PySem.W.kitOne K t (.type "str") = some false ∧ Q (.bl false) H))
structure Cst (mg : Str → Option Value) : Prop where
  c__LETTERS : ∃ u, mg "_LETTERS" = some u ∧ RelV (.str "abcdefghijklmnopqrstuvwxyz") u
  c__DIGITS : ∃ u, mg "_DIGITS" = some u ∧ RelV (.str "0123456789") u
  c__LONGEST_NAME : ∃ u, mg "_LONGEST_NAME" = some u ∧ RelV (.int 8) u
theorem cd_letters : cd "abcdefghijklmnopqrstuvwxyz" = [97, 98, 99, 100, 101, 102, 103, 104, 105, 106, 107, 108, 109, 110, 111, 112, 113, 114, 115, 116, 117, 118, 119, 120, 121, 122] := by decide +kernel
theorem cd_digits : cd "0123456789" = [48, 49, 50, 51, 52, 53, 54, 55, 56, 57] := by decide +kernel
theorem low_in (c : Nat) : decide (c ∈ cd "abcdefghijklmnopqrstuvwxyz") = lowC c := by
  rw [cd_letters]
  simp only [lowC]
  by_cases h : 97 ≤ c ∧ c ≤ 122
  · have : c = 97 ∨ c = 98 ∨ c = 99 ∨ c = 100 ∨ c = 101 ∨ c = 102 ∨ c = 103 ∨ c = 104 ∨ c = 105 ∨ c = 106 ∨ c = 107 ∨ c = 108 ∨ c = 109 ∨ c = 110 ∨ c = 111 ∨ c = 112 ∨ c = 113 ∨ c = 114 ∨ c = 115 ∨ c = 116 ∨ c = 117 ∨ c = 118 ∨ c = 119 ∨ c = 120 ∨ c = 121 ∨ c = 122 := by omega
    rcases this with e | e | e | e | e | e | e | e | e | e | e | e | e | e | e | e | e | e | e | e | e | e | e | e | e | e <;> subst e <;> decide
  · have h1 : (decide (97 ≤ c) && decide (c ≤ 122)) = false := by
      simp only [Bool.and_eq_false_iff, decide_eq_false_iff_not]
      omega
    rw [h1]
    simp only [decide_eq_false_iff_not, List.mem_cons, List.not_mem_nil, or_false]
    omega
theorem tail_in (c : Nat) : decide (c ∈ cd (("abcdefghijklmnopqrstuvwxyz" : Str) ++ ("0123456789" : Str))) = tailC c := by
  rw [cd_app]
  have h2 : decide (c ∈ cd "0123456789") = digC c := by
    rw [cd_digits]
    simp only [digC]
    by_cases h : 48 ≤ c ∧ c ≤ 57
    · have : c = 48 ∨ c = 49 ∨ c = 50 ∨ c = 51 ∨ c = 52 ∨ c = 53 ∨ c = 54 ∨ c = 55 ∨ c = 56 ∨ c = 57 := by omega
      rcases this with e | e | e | e | e | e | e | e | e | e <;> subst e <;> decide
    · have h1 : (decide (48 ≤ c) && decide (c ≤ 57)) = false := by
        simp only [Bool.and_eq_false_iff, decide_eq_false_iff_not]
        omega
      rw [h1]
      simp only [decide_eq_false_iff_not, List.mem_cons, List.not_mem_nil, or_false]
      omega
  rw [tailC, ← low_in, ← h2]
  by_cases a : c ∈ cd "abcdefghijklmnopqrstuvwxyz" <;> by_cases b : c ∈ cd "0123456789" <;> simp [a, b]
/-- a promise that the unifier does not open -/
@[irreducible] def Irr (sp : Sp) : Sp := sp
theorem irr {sp : Sp} {vs : List V} {H : Hp} {Q : VK} {E : XK} (h : sp vs H Q E) : Irr sp vs H Q E := by unfold Irr; exact h
theorem irr_of {sp : Sp} {vs : List V} {H : Hp} {Q : VK} {E : XK} (h : Irr sp vs H Q E) : sp vs H Q E := by unfold Irr at h; exact h
theorem Fn.irr {P : Program} {w : World} {K : PySem.W.Frag} {mg : Str → Option Value} {base : Heap} {x : Str} {k : Nat} {ps : List Str} {sp : Sp} (h : Fn P w K mg base x k ps sp) : Fn P w K mg base x k ps (Irr sp) := by
  obtain ⟨f, fd, a, b, c, F⟩ := h
  exact ⟨f, fd, a, b, c, F.imp fun _ _ _ _ z => irr_of z⟩
theorem Mkr.irr {P : Program} {w : World} {K : PySem.W.Frag} {mg : Str → Option Value} {base : Heap} {x : Str} {C : Addr} {k : Nat} {sp : Sp} {dvs : List V} (h : Mkr P w K mg base x C k sp dvs) : Mkr P w K mg base x C k (Irr sp) dvs := by
  obtain ⟨m, f, fd, ps, ds, a, b, c, F⟩ := h
  exact ⟨m, f, fd, ps, ds, a, b, c, F.imp fun _ _ _ _ z => irr_of z⟩
theorem MkrK.irr {P : Program} {w : World} {K : PySem.W.Frag} {mg : Str → Option Value} {base : Heap} {x : Str} {C : Addr} {k n : Nat} {ks : List Str} {sp : Sp} {gV : List V → List V → List V} (h : MkrK P w K mg base x C k n ks sp gV) : MkrK P w K mg base x C k n ks (Irr sp) gV := by
  obtain ⟨m, f, fd, ps, g, a, b, F⟩ := h
  exact ⟨m, f, fd, ps, g, a, b, F.imp fun _ _ _ _ z => irr_of z⟩
section
variable {a p x : Addr} {n m : Nat} {L : List (Addr × HO)} {H0 H : Hp} {o : HO} {Q : VK} {E : XK}
end
/-! ### short data -/
structure Short (d : PyData) : Prop where
  sh : d.showable = true
  dp : d.depth = 0
  ln : d.shown.length ≤ 100
theorem short_nm {x : Str} (h : IsNm x) : Short (.str x) := by
  refine ⟨by simp [PyData.showable], by simp [PyData.depth], ?_⟩
  have h1 := StrLaws.reprText_len x (fun c hc => by
    have q := List.all_eq_true.mp (isNm_all h) c hc
    simp only [tailC, lowC, digC, Bool.or_eq_true, Bool.and_eq_true, decide_eq_true_eq] at q
    omega)
  have h2 := isNm_len h
  rw [← cd_len] at h2
  have : (PyData.str x).shown = reprText x := by simp only [PyData.shown]
  rw [this]
  omega
end RV
/-! for i, x in enumerate(t), t a tuple. -/
namespace PySem
open AutoSeq1 (wpAny_loadPart')
set_option maxHeartbeats 4000000 in
theorem rv_meets_enum_tuple (l : Addr) (items : Array Value) (n : Nat) (dct : Option Addr) (sl : Array (Option Value)) :
    Meets (Builtin.«enumerate.__new__» ⟨[.type "enumerate", .ref l], []⟩) (fun _ R s => s.heap.get? l = some { cls := .type "tuple", dict := dct, data := .seq items n, slots := sl } ∧
      R (.ok (.ret (.ref (s.heap.push { cls := .type "tuple_iterator", data := .fields #[.ref l, .int 0 0] }).objs.size)))
        { s with heap := (s.heap.push { cls := .type "tuple_iterator", data := .fields #[.ref l, .int 0 0] }).push { cls := .type "enumerate", data := .fields #[.none, .bool false, .ref s.heap.objs.size, rawInt 0, .none, .none] } }) :=
  .of_wp fun prog w A R s h => by
    obtain ⟨hp, g, d, tk, os⟩ := s
    obtain ⟨hl, h⟩ := h
    have q := sub_enumerate
    have hT : Heap.IsTuple (Shared.heap ⟨hp, g, d, tk, os⟩) l items := ⟨_, hl, rfl, n, rfl⟩
    wp_walk using wpAny_loadPart' hl
    refine wpAny_stack_any fun st => wpAny_pure ?_
    split
    · rename_i c _ _ _ _ _
      cases (c == Value.type "enumerate") <;> (wp_walk using wpAny_loadPart' hl, wpAny_pyIter_tuple hT; exact ⟨_, rfl, h⟩)
    · wp_walk using wpAny_loadPart' hl, wpAny_pyIter_tuple hT
      exact ⟨_, rfl, h⟩
section
variable {prog : Program} {w : World} {A : Around} {E : Value → Shared → Prop} {s : Shared}
theorem rv_call_enum_tuple {l : Addr} {items : Array Value} {Q : Value → Shared → Prop} (hT : s.heap.IsTuple l items)
    (h : ∀ h', IsEnum h' (s.heap.objs.size + 1) s.heap.objs.size 0 .none → h'.IsTupleIter s.heap.objs.size l 0 → h'.objs.size = s.heap.objs.size + 2 → (∀ b o, s.heap.get? b = some o → h'.get? b = some o) → Q (.ref (s.heap.objs.size + 1)) { s with heap := h' }) :
    wpAny (model prog w) A (call (.type "enumerate") [.ref l]) Q E s := by
  obtain ⟨⟨c, dct, dt, sl⟩, hl, hc, n, hd⟩ := hT
  obtain rfl : c = .type "tuple" := hc
  obtain rfl : dt = .seq items n := hd
  refine callType_new F.called_enumerate (by decide) (F.typeCall_enumerate_1 _) (F.newCall_enumerate_1 _) (fun obj => F.args_object_init_2 obj _) F.entry_enumerate_new (rv_meets_enum_tuple l items n dct sl) ⟨hl, ?_⟩
  let h1 := s.heap.push { cls := .type "tuple_iterator", data := .fields #[.ref l, .int 0 0] }
  have z1 : h1.objs.size = s.heap.objs.size + 1 := Heap.size_push ..
  show _ ∧ _
  rw [show (s.heap.push { cls := .type "tuple_iterator", data := .fields #[.ref l, .int 0 0] }).objs.size = s.heap.objs.size + 1 from z1]
  have he : IsEnum (h1.push { cls := .type "enumerate", data := .fields #[.none, .bool false, .ref s.heap.objs.size, rawInt 0, .none, .none] }) (s.heap.objs.size + 1) s.heap.objs.size 0 .none := by
    have t := Heap.get?_push_size h1 (o := { cls := .type "enumerate", data := .fields #[.none, .bool false, .ref s.heap.objs.size, rawInt 0, .none, .none] }) rfl
    rw [z1] at t
    exact t
  exact ⟨⟨_, he, rfl⟩, h _ he ⟨_, Heap.get?_push_of_some _ (Heap.get?_push_size _ rfl), rfl, rfl⟩ (by rw [Heap.size_push, z1]) fun b o x => Heap.get?_push_of_some _ (Heap.get?_push_of_some _ x)⟩
end
end PySem
namespace RV
open PySem L2 PyProof.Rows
/-- the tuple at a, each item in a new pair with its number -/
def Iet (K : PySem.W.Frag) (a : Addr) : It :=
  ⟨fun i H => ∃ (xs : List V) (x : V), SqT K H a xs ∧ xs[i]? = some x, fun i H v H' => ∃ T x, v = .ref T ∧ H T = none ∧ H' = upd H T (.tup [.int (i : Nat), x]) ∧ ∀ xs, SqT K H a xs → xs[i]? = some x, fun i H => ∃ xs : List V, SqT K H a xs ∧ xs.length = i⟩
theorem turn_enumT {P : Program} {w : World} {K : PySem.W.Frag} {elts : List Expr} {kk : Nat} {tpos : Pos} (a e it : Addr) :
    Turn P w K (.Tuple elts kk tpos) (Iet K a) [e, it] e (fun i h => (∃ old, IsEnum h e it ((i : Nat) : Int) old) ∧ h.IsTupleIter it a i ∧ e ≠ it) where
  mem := List.Mem.head _
  obj := fun i h st b hb => by
    obtain ⟨⟨old, he⟩, ⟨o, ho, hc, hd⟩, _⟩ := st
    rcases (by simpa using hb : b = e ∨ b = it) with rfl | rfl
    · exact ⟨_, he, fun v q => nomatch q⟩
    · exact ⟨o, ho, fun v q => by rw [hd] at q; cases q⟩
  keep := fun i h h' st k => by
    obtain ⟨⟨old, he⟩, hi, hne⟩ := st
    exact ⟨⟨old, k e (List.Mem.head _) _ he⟩, hi.at fun o q => k it (.tail _ (.head _)) o q, hne⟩
  item := by
    intro X hP hw hK hc i pins s σ H E I hf st hg
    subst hP hw hK
    obtain ⟨⟨old, he⟩, hit, hne⟩ := st
    obtain ⟨xs, x, hq, hx⟩ := hg
    obtain ⟨its, rv, p, hz⟩ := I.tuple hq
    obtain ⟨u, hu, ru⟩ := rv.get hx
    have hel : e < s.heap.objs.size := Heap.lt_size he
    have hil : it < s.heap.objs.size := by obtain ⟨_, q, _⟩ := hit; exact Heap.lt_size q
    have pt : s.heap.IsTuple a its.toArray := p
    have ait : a ≠ it := fun z => by
      obtain ⟨o, ho, hc, _⟩ := hit
      obtain ⟨o', ho', hc', _⟩ := pt
      rw [z, ho] at ho'
      cases ho'
      rw [hc] at hc'
      injection hc' with q
      exact absurd q (by decide)
    have ae : a ≠ e := fun z => by
      obtain ⟨o', ho', hc', _⟩ := pt
      rw [z, he] at ho'
      cases ho'
      injection hc' with q
      exact absurd q (by decide)
    have lt : i < its.toArray.size := by
      have := (List.getElem?_eq_some_iff.mp hu).1
      simpa using this
    refine wpAny_pyNext_enum_itemD (Draws.tuple (A := X.A.in1) (I.ok.hd hc) it a ait its.toArray) he ⟨hit, pt⟩ lt hne (by simp [hne, ae.symm]) fun y h' tk hy ho hst hT hsz hk => ?_
    have ey : y = u := by
      have e1 : its.toArray[i]? = some u := by simpa using hu
      rw [e1] at hy
      exact (Option.some.inj hy).symm
    subst ey
    refine ⟨_, rfl, wpAny_letOwnedTupleGo_enum (s := { s with heap := h', toks := tk + 1 }) ho fun h'' he' sb => ?_⟩
    have hT2 : h''.get? s.heap.objs.size = some { cls := .type "tuple", data := .seq #[.int i tk, y] } := (sb.2 _ (Nat.ne_of_gt hel)).trans hT
    have new : ObjOk X.prog X.w (upd H s.heap.objs.size (.tup [.int (i : Nat), x])) h'' s.heap.objs.size (.tup [.int (i : Nat), x]) :=
      ⟨by show 2 ≤ sizeLine; decide, [.int i tk, y], .cons ⟨_, rfl⟩ (.cons ru .nil), ⟨_, hT2, rfl, _, rfl⟩⟩
    have I1 : Inv X pins σ (upd H s.heap.objs.size (.tup [.int (i : Nat), x])) { s with heap := h'', toks := tk + 1 } :=
      I.turnedNew (ch := [e, it]) (fun b ob hb q => (sb.2 b (fun z => hb (by simp [z]))).trans (hk b ob (fun z => hb (by simp [z])) (fun z => hb (by simp [z])) q)) hf (Nat.le_refl _) new
    refine ⟨.ref s.heap.objs.size, _, I1, rfl, ⟨_, x, rfl, I.hok.fresh (Nat.le_refl _), rfl, fun ys hy => by rw [I.tuple_inj hy hq]; exact hx⟩, ⟨⟨y, ?_⟩, hst.1.at fun o q => (sb.2 it (Ne.symm hne)).trans q, hne⟩, fun b hb => ?_⟩
    · rw [show ((i + 1 : Nat) : Int) = (i : Int) + 1 by omega]
      exact he'
    · have hb' : b < s.heap.objs.size := by
        rcases (by simpa using hb : b = e ∨ b = it) with rfl | rfl
        · exact hel
        · exact hil
      rw [upd_ne (Nat.ne_of_lt hb')]
      exact (hf b hb).1
  done := by
    intro X hP hw hK hc i pins s σ H E I hf st hg
    subst hP hw hK
    obtain ⟨⟨old, he⟩, hit, hne⟩ := st
    obtain ⟨xs, hq, hx⟩ := hg
    obtain ⟨its, rv, p, hz⟩ := I.tuple hq
    obtain ⟨f0, f1, f2, f3, f4, f5⟩ := hf it (by simp)
    have pt : s.heap.IsTuple a its.toArray := p
    have ait : a ≠ it := fun z => by
      obtain ⟨o, ho, hc, _⟩ := hit
      obtain ⟨o', ho', hc', _⟩ := pt
      rw [z, ho] at ho'
      cases ho'
      rw [hc] at hc'
      injection hc' with q
      exact absurd q (by decide)
    have en : i = its.toArray.size := by
      rw [List.size_toArray, ← rv.length]
      exact hx.symm
    subst en
    exact wpAny_pyNext_enum_endD (Draws.tuple (A := X.A.in1) (I.ok.hd hc) it a ait its.toArray) he ⟨hit, pt⟩ fun h' eb => ⟨rfl, I.turned (t' := s.toks) (fun b o hb q => eb b o hb q) f0 f1 f3 f4 f5⟩
  self := fun A i s Q E st h => let ⟨⟨_, he⟩, _⟩ := st; wpAny_pyIter_enum he h
def iEnumT (K : PySem.W.Frag) (ta : TA) : TI := fun σ H R => ta σ H fun vs H1 => ∃ a xs, vs = [.ref a] ∧ SqT K H1 a xs ∧ R (Iet K a) H1
theorem pi_enumT {X : Cx} {e : Expr} {ta : TA} {p pos tpos : Pos} {elts : List Expr} {kk : Nat} (hg : Gl X "enumerate") (hm : X.mg "enumerate" = none) (ha : PA X [e] ta) (hs : starEach [e] X.env = [(false, eval e X.env)] := by rfl) :
    PI X (.Tuple elts kk tpos) (.Call (.Name "enumerate" p) [e] [] pos) (iEnumT X.K ta) := by
  refine ⟨fun pins s σ H R I h => ?_⟩
  refine Call_ (ld_blt I hg hm boot_enumerate (PyProof.Rows.callWith_type1 (thn (ha.run pos pins s σ H _ I h) fun us s1 ⟨vs, H1, I1, r1, q1⟩ => ?_) hs rfl))
  obtain ⟨a, xs, ex, hq, q⟩ := q1
  subst ex
  have eu : us = [.ref a] := by
    cases r1 with
    | cons r2 r3 => cases r3; cases r2; rfl
  subst eu
  obtain ⟨its, rv, p', hz⟩ := I1.tuple hq
  refine rv_call_enum_tuple (show s1.heap.IsTuple a its.toArray from p') fun h' he hit hsz hk => wpAny_pyIter_enum he ?_
  have I2 : Inv X pins σ H1 { s1 with heap := h' } := I1.kept (t' := s1.toks) hk
  refine ⟨s1.heap.objs.size + 1, [s1.heap.objs.size + 1, s1.heap.objs.size], _, _, H1, rfl, I2, turn_enumT a (s1.heap.objs.size + 1) s1.heap.objs.size, ⟨⟨.none, he⟩, hit, Nat.succ_ne_self _⟩, fun b hb => ?_, q⟩
  have hle : s1.heap.objs.size ≤ b := by
    rcases (by simpa using hb : b = s1.heap.objs.size + 1 ∨ b = s1.heap.objs.size) with rfl | rfl
    · exact Nat.le_succ _
    · exact Nat.le_refl _
  exact I1.fpOk hle (I1.hok.fresh hle)
/-- a loop over the numbered items of a tuple that stands still -/
theorem for_enumT {K : PySem.W.Frag} {a : Addr} {xs : List V} {g : TG} {tb : TS} {D : Ends} {σ : L2.St} {H : Hp} (Pv : Nat → L2.St → Hp → Prop) (h0 : Pv 0 σ H) (hl : ∀ i σ H, i ≤ xs.length → Pv i σ H → SqT K H a xs)
    (hs : ∀ i x σ H T, xs[i]? = some x → Pv i σ H → H T = none → g (.ref T) σ (upd H T (.tup [.int (i : Nat), x])) fun σ2 H2 => tb { D with nx := Pv (i + 1), ct := Pv (i + 1), bk := D.nx } σ2 H2) (hd : ∀ σ H, Pv xs.length σ H → D.nx σ H) :
    ∃ W : Nat → Nat → L2.St → Hp → Prop, (∃ m, W 0 m σ H) ∧ ∀ i m σ H, W i m σ H →
      ((Iet K a).stop i H ∧ D.nx σ H) ∨ ((Iet K a).go i H ∧ ∃ N : L2.St → Hp → Prop, (∀ σ' H', N σ' H' → ∃ m', m' < m ∧ W (i + 1) m' σ' H') ∧ ∀ x H', (Iet K a).yld i H x H' → g x σ H' fun σ2 H2 => tb { D with nx := N, ct := N, bk := D.nx } σ2 H2) := by
  refine ⟨fun i m σ H => m = xs.length - i ∧ i ≤ xs.length ∧ Pv i σ H, ⟨xs.length, by simp, Nat.zero_le _, h0⟩, ?_⟩
  rintro i m σ H ⟨rfl, hi, p⟩
  have q := hl i σ H hi p
  by_cases hlt : i < xs.length
  · refine .inr ⟨⟨xs, xs[i], q, List.getElem?_eq_getElem hlt⟩, Pv (i + 1), fun σ' H' p' => ⟨xs.length - (i + 1), by omega, rfl, hlt, p'⟩, fun x H' y => ?_⟩
    obtain ⟨T, y, rfl, hT, rfl, hy⟩ := y
    exact hs i y σ H T (hy xs q) p hT
  · have e : i = xs.length := by omega
    subst e
    exact .inl ⟨⟨xs, q, rfl⟩, hd σ H p⟩
end RV
set_option linter.all false
/-! Sets of keys of one kind that can be walked and sorted: set(list of texts), sorted(set of texts). -/
namespace RV
open PySem L2 PySem.Spec PyProof.Rows
section
variable {P : Program} {w : World} {κ : Type} [DecidableEq κ] {knd : KeyKind P w κ}
/-- no two of them are the same key -/
def Apart (knd : KeyKind P w κ) (l : List (Int × Value)) : Prop := l.Pairwise fun e f => ∀ k, ¬ (knd.is k e.2 = true ∧ knd.is k f.2 = true)
/-- a set at a with the members S, n of them, whose table rises -/
def SetX (knd : KeyKind P w κ) (h : Heap) (a : Addr) (S : κ → Bool) (n : Nat) : Prop :=
  ∃ o es ep t, (h.get? a = some o ∧ o.ExactSet ∧ o.data = .set es ep t) ∧ (ElemsOf knd es.toList ∧ Apart knd es.toList ∧ ∀ k, S k = true ↔ ∃ e ∈ es.toList, knd.is k e.2 = true) ∧
    es.size < scanBound ∧ t.fits es.size = true ∧ es.size = n ∧ Ris t.place.toList ∧ (w.params.followText "set-order" = true ∨ t.led = true)
theorem Apart.perm {l l' : List (Int × Value)} (h : Apart knd l) (p : l'.Perm l) : Apart knd l' :=
  (p.pairwise_iff (fun {_ _} z k q => z k ⟨q.2, q.1⟩)).mpr h
theorem SetX.at {h h' : Heap} {a : Addr} {S : κ → Bool} {n : Nat} (R : SetX knd h a S n) (k : ∀ o, h.get? a = some o → h'.get? a = some o) : SetX knd h' a S n := by
  obtain ⟨o, es, ep, t, ⟨ho, r1⟩, r⟩ := R
  exact ⟨o, es, ep, t, ⟨k o ho, r1⟩, r⟩
theorem SetX.fresh {h : Heap} {a : Addr} (ho : h.get? a = some { cls := .type "set", dict := none, data := .set #[] 0 (.fresh 0 0 (!w.params.followText "set-order")) }) : SetX knd h a (fun _ => false) 0 := by
  refine ⟨_, #[], 0, _, ⟨ho, ⟨rfl, rfl, rfl⟩, rfl⟩, ⟨fun e he => (by simp at he), List.Pairwise.nil, fun k => (by simp)⟩, by decide, rfl, rfl, List.Pairwise.nil, ?_⟩
  show _ ∨ (!w.params.followText "set-order") = true
  cases w.params.followText "set-order" <;> simp
variable {A : Around} {E : Value → Shared → Prop} {s : Shared} {a : Addr}
/-- what is stored once the new entry has its place -/
theorem setX_store {g : Bool → Sem Unit} (hg : ∀ (b : Bool) (s₁ : Shared) (Q' : Unit → Shared → Prop), Q' () s₁ → wpAny (model P w) A (g b) Q' E s₁)
    {o : Obj} {es es1 : Array (Int × Value)} {ep : Nat} {t t1 : SetTable} {S' : κ → Bool} (ho : s.heap.get? a = some o ∧ o.ExactSet ∧ o.data = .set es ep t)
    (hm : ElemsOf knd es1.toList ∧ Apart knd es1.toList ∧ ∀ k, S' k = true ↔ ∃ e ∈ es1.toList, knd.is k e.2 = true) (hb : es1.size < scanBound) (hf : t1.fits es1.size = true)
    (hr : Ris t1.place.toList) (hl : w.params.followText "set-order" = true ∨ t1.led = true) {wasDummy : Bool} {R : Option Bool → Shared → Prop}
    (hR : ∀ h', Heap.SameBut a s.heap h' → SetX knd h' a S' es1.size → R (some true) { s with heap := h' }) :
    wpAny (model P w) A (do
        storeSet a es1 t1
        if (!wasDummy && t1.tooFull) = true then do
            g (relayAll t1 es1 (SetTable.grown es1.size)).2.2
            storeSet a (relayAll t1 es1 (SetTable.grown es1.size)).1 (relayAll t1 es1 (SetTable.grown es1.size)).2.1
            pure (some true)
          else pure (some true)) R E s := by
  obtain ⟨ho, hex, hd⟩ := ho
  obtain ⟨hel, hap, hmem⟩ := hm
  have same := Heap.SameBut.update s.heap a (Obj.putSet es1 t1)
  have o1 := store_at (es' := es1) (t' := t1) ho hd
  refine wpAny_bind (wpAny_storeSet_of ho hd ?_ (fits_of_scanBound hb))
  split
  · obtain ⟨p, f, r, l⟩ := (⟨relayAll_perm t1 es1 (SetTable.grown es1.size), relayAll_fits t1 es1 (SetTable.grown es1.size), relayAll_ris t1 es1 (SetTable.grown es1.size), relayAll_led t1 es1 (SetTable.grown es1.size)⟩ : _ ∧ _ ∧ _ ∧ _)
    generalize relayAll t1 es1 (SetTable.grown es1.size) = Z at p f r l ⊢
    obtain ⟨es2, t2, gv⟩ := Z
    dsimp only at p f r l ⊢
    have sz : es2.size = es1.size := by rw [← Array.length_toList, p.length_eq, Array.length_toList]
    have hb2 : es2.size < scanBound := by omega
    refine wpAny_bind (hg _ _ _ (wpAny_bind (wpAny_storeSet_of o1 rfl ?_ (fits_of_scanBound hb2))))
    refine wpAny_pure (hR _ (same.trans (Heap.SameBut.update _ a _)) ⟨_, es2, _, t2, ⟨store_at o1 rfl, hex, rfl⟩, ⟨hel.perm p, hap.perm p, fun k => (hmem k).trans ?_⟩, hb2, f, sz, r, hl.imp id fun z => by rw [l]; exact z⟩)
    exact ⟨fun ⟨e, he, q⟩ => ⟨e, p.mem_iff.mpr he, q⟩, fun ⟨e, he, q⟩ => ⟨e, p.mem_iff.mp he, q⟩⟩
  · exact wpAny_pure (hR _ same ⟨_, es1, _, t1, ⟨o1, hex, rfl⟩, ⟨hel, hap, hmem⟩, hb, hf, rfl, hr, hl⟩)
theorem setX_add {S : κ → Bool} {n : Nat} {k : κ} {x : Value} {Q : Bool → Shared → Prop} (hk : knd.is k x = true) (hs : x.scannable = true) (R : SetX knd s.heap a S n) (room : n + 1 < scanBound)
    (hQ : ∀ h', Heap.SameBut a s.heap h' → SetX knd h' a (fun j => S j || decide (j = k)) (if S k = true then n else n + 1) → Q (!S k) { s with heap := h' }) :
    wpAny (model P w) A (setAddHashed a x (knd.hash k)) Q E s := by
  obtain ⟨o, es, ep, t, ⟨ho, hex, hd⟩, ⟨hel, hap, hmem⟩, hb, hf, hn, hr, hl⟩ := R
  unfold setAddHashed setAddHashedIn
  refine wpAny_holding (wpAny_bind (wpAny_setState_of ho hd hf ?_))
  dsimp only
  rw [byScan_of hs hb hel]
  simp only [↓reduceIte]
  unfold setAddByScan
  refine wpAny_bind (wpAny_bind (wpAny_rule (wpAny_bind (wpAny_setScan_of hk ho hd hf hel ?_))))
  cases hfi : List.findIdx? (fun e => knd.is k e.2) es.toList with
  | some j =>
    dsimp only
    obtain ⟨hj, pj, _⟩ := List.findIdx?_eq_some_iff_getElem.mp hfi
    have hSk : S k = true := (hmem k).2 ⟨_, List.getElem_mem hj, pj⟩
    have q := hQ s.heap (Heap.SameBut.refl a s.heap)
    rw [if_pos hSk, hSk] at q
    refine wpAny_pure (wpAny_pure (q ⟨o, es, ep, t, ⟨ho, hex, hd⟩, ⟨hel, hap, fun i => ?_⟩, hb, hf, hn, hr, hl⟩))
    rw [← hmem i, Bool.or_eq_true, decide_eq_true_eq]
    exact ⟨fun z => z.elim id fun e => e ▸ hSk, .inl⟩
  | none =>
    dsimp only
    have out : ∀ e ∈ es.toList, knd.is k e.2 = false := fun e he => by
      have := List.findIdx?_eq_none_iff.mp hfi e he
      simpa using this
    have hSk : S k = false := by
      cases q : S k with
      | false => rfl
      | true =>
        obtain ⟨e, he, z⟩ := (hmem k).1 q
        rw [out e he] at z
        cases z
    have gw : ∀ (b : Bool) {s₁ : Shared} {Q' : Unit → Shared → Prop}, Q' () s₁ → wpAny (model P w) A (match b with | true => rule "set.scan.the-table-gave-way" | false => pure ()) Q' E s₁ := fun b _ _ q => by
      cases b <;> first | exact wpAny_pure q | exact wpAny_rule q
    obtain ⟨p, f, r, l⟩ := (⟨layNew_perm t es (knd.hash k) x, layNew_fits t es (knd.hash k) x, layNew_ris t es (knd.hash k) x hr, layNew_led t es (knd.hash k) x⟩ : _ ∧ _ ∧ _ ∧ _)
    generalize layNew t es (knd.hash k) x = Z at p f r l ⊢
    obtain ⟨es1, t1, wasDummy, gv⟩ := Z
    dsimp only at p f r l ⊢
    rw [Array.toList_push] at p
    have pc : es1.toList.Perm ((knd.hash k, x) :: es.toList) := p.trans (List.perm_append_singleton _ _)
    have hm1 : ElemsOf knd es1.toList ∧ Apart knd es1.toList ∧ ∀ i, (S i || decide (i = k)) = true ↔ ∃ e ∈ es1.toList, knd.is i e.2 = true := by
      refine ⟨(hel.push hk hs).perm p, Apart.perm (List.pairwise_cons.mpr ⟨fun e he i z => ?_, hap⟩) pc, mem_push_iff hk hmem p⟩
      have ei : i = k := knd.inj x i k z.1 hk
      have q := z.2
      rw [ei, out e he] at q
      cases q
    have sz : es1.size = n + 1 := by rw [← Array.length_toList, pc.length_eq, List.length_cons, Array.length_toList, hn]
    have fin : ∀ h', Heap.SameBut a s.heap h' → SetX knd h' a (fun j => S j || decide (j = k)) es1.size → Q true { s with heap := h' } := fun h' sb r => by
      have q := hQ h' sb
      rw [hSk, if_neg (by decide)] at q
      exact q (sz ▸ r)
    have hl1 : w.params.followText "set-order" = true ∨ t1.led = true := hl.imp id fun z => by rw [l]; exact z
    refine wpAny_bind (gw _ ?_)
    split
    · refine wpAny_bind ?_
      rw [hashByValue_scannable 8 hs]
      refine wpAny_pure (setX_store (fun b s₁ Q' q => ?_) ⟨ho, hex, hd⟩ hm1 (by omega) ?_ ?_ ?_ fun h' sb r => ?_)
      · cases b <;> first | exact wpAny_pure q | exact wpAny_rule q
      · first | (split <;> first | exact f | exact SetTable.fits_plain_off f) | exact f
      · first | (split <;> exact r) | exact r
      · first | (split <;> exact hl1) | exact hl1
      · dsimp only
        exact wpAny_pure (fin h' sb r)
    · refine wpAny_bind (wpAny_pure ?_)
      simp only [↓reduceIte]
      refine setX_store (fun b s₁ Q' q => ?_) ⟨ho, hex, hd⟩ hm1 (by omega) f r hl1 fun h' sb r => ?_
      · cases b <;> first | exact wpAny_pure q | exact wpAny_rule q
      · dsimp only
        exact wpAny_pure (fin h' sb r)
end
end RV
set_option linter.all false
/-! set(list of texts), sorted(set of texts). -/
namespace RV
open PySem L2 PySem.Spec PyProof.Rows
section
variable {P : Program} {w : World} {A : Around} {E : Value → Shared → Prop} {s : Shared}
abbrev SetS (P : Program) (w : World) (h : Heap) (a : Addr) (S : Str → Bool) (n : Nat) : Prop := SetX (PySem.strKind P w) h a S n
abbrev emptySet (w : World) : Obj := { cls := .type "set", dict := none, data := .set #[] 0 (.fresh 0 0 (!w.params.followText "set-order")) }
set_option maxHeartbeats 8000000 in
end
end RV
set_option linter.all false
/-! the rules: set(list of texts), sorted(set of texts) -/
namespace RV
open PySem L2 PySem.Spec PyProof.Rows
section
variable {P : Program} {w : World} {A : Around} {E : Value → Shared → Prop} {s : Shared}
theorem str_of_is {k : Str} {v : Value} (h : (PySem.strKind P w).is k v = true) : ∃ t, v = .str k t := by
  cases v <;> simp [PySem.strKind, Value.isStrOf] at h
  subst h
  exact ⟨_, rfl⟩
theorem strsAre_of : ∀ {vs : List Value}, (∀ v ∈ vs, ∃ k t, v = Value.str k t) → ∃ xs, StrsAre vs xs
  | [], _ => ⟨[], .nil⟩
  | v :: vs, h => by
    obtain ⟨k, t, rfl⟩ := h v List.mem_cons_self
    obtain ⟨xs, r⟩ := strsAre_of fun u hu => h u (List.mem_cons_of_mem _ hu)
    exact ⟨k :: xs, .cons k t r⟩
theorem strsAre_mem : ∀ {vs : List Value} {xs : List Str}, StrsAre vs xs → ∀ x, x ∈ xs ↔ ∃ t, Value.str x t ∈ vs
  | _, _, .nil, x => by simp
  | _, _, .cons k t r, x => by
    rw [List.mem_cons, strsAre_mem r x]
    constructor
    · rintro (rfl | ⟨t', h⟩)
      · exact ⟨t, List.mem_cons_self⟩
      · exact ⟨t', List.mem_cons_of_mem _ h⟩
    · rintro ⟨t', h⟩
      rcases List.mem_cons.mp h with e | h
      · injection e with e1 e2
        exact .inl e1
      · exact .inr ⟨t', h⟩
theorem strsAre_nodup : ∀ {vs : List Value} {xs : List Str}, StrsAre vs xs → vs.Pairwise (fun u v => ∀ k t t', ¬ (u = Value.str k t ∧ v = Value.str k t')) → xs.Nodup
  | _, _, .nil, _ => List.nodup_nil
  | _, _, .cons k t r, h => by
    obtain ⟨h1, h2⟩ := List.pairwise_cons.mp h
    refine List.nodup_cons.mpr ⟨fun hm => ?_, strsAre_nodup r h2⟩
    obtain ⟨t', ht⟩ := (strsAre_mem r k).mp hm
    exact h1 _ ht k t t' ⟨rfl, rfl⟩
theorem sorted_of_set {a : Addr} {S : Str → Bool} {n : Nat} {Q : Value → Shared → Prop} (R : SetS P w s.heap a S n) (hh : A.handled = none)
    (hQ : ∀ s' p (out : Array Value) (c : Nat) (xs : List Str), (∀ b o, s.heap.get? b = some o → s'.heap.get? b = some o) → s'.gens = s.gens → s'.os = s.os → s.heap.objs.size ≤ p →
      s'.heap.get? p = some (seqObj "list" out c) → StrsAre out.toList xs → sortedS xs = true → xs.Nodup → (∀ k, k ∈ xs ↔ S k = true) → xs.length = n → Q (.ref p) s') :
    wpAny (model P w) A (call (.builtin "sorted") [.ref a]) Q E s := by
  obtain ⟨o, es, ep, t, ⟨ho, hex, hd⟩, ⟨hel, hap, hmem⟩, hb, hf, hn, hr, hl⟩ := R
  refine Calls.call_function_entry kind_sorted plain_sorted entry_sorted (args_sorted1 _) ?_
  unfold Builtin.«sorted»
  refine wpAny_bind (m := checkCount "sorted" 1 1 _) (wpAny_pure ?_)
  refine wpAny_bind (collect_set (A := A.in1) hh ⟨o, ho, hex.1, hd⟩ hf hb hr hl fun s1 vs k1 hz g1 o1 pm => ?_)
  have hvl : vs.length = n := by rw [pm.length_eq, List.length_map, Array.length_toList]; exact hn
  have hsz : vs.length ≤ sizeLine := by rw [hvl, ← hn]; exact fits_of_scanBound hb
  obtain ⟨xs, hS⟩ := strsAre_of (vs := vs) fun v hv => by
    obtain ⟨e, he, q⟩ := List.mem_map.mp (pm.mem_iff.mp hv)
    obtain ⟨⟨k, hk, _⟩, _⟩ := hel e he
    obtain ⟨tk, ek⟩ := str_of_is hk
    exact ⟨k, tk, by rw [← q]; exact ek⟩
  have hnd : xs.Nodup := by
    refine strsAre_nodup hS ((pm.pairwise_iff (fun {_ _} z k t t' q => z k t' t ⟨q.2, q.1⟩)).mpr ?_)
    rw [List.pairwise_map]
    refine hap.imp fun z k t t' q => z k ?_
    rw [q.1, q.2]
    exact ⟨strKind_is _ _ _ _, strKind_is _ _ _ _⟩
  have hin : ∀ k, k ∈ xs ↔ S k = true := fun k => by
    rw [strsAre_mem hS k, hmem k]
    constructor
    · rintro ⟨t', h⟩
      obtain ⟨e, he, q⟩ := List.mem_map.mp (pm.mem_iff.mp h)
      exact ⟨e, he, by rw [q]; exact strKind_is _ _ _ _⟩
    · rintro ⟨e, he, q⟩
      obtain ⟨t', et⟩ := str_of_is q
      exact ⟨t', pm.mem_iff.mpr (List.mem_map.mpr ⟨e, he, et⟩)⟩
  refine wpAny_bind (wpAny_newList ?_ hsz)
  have hoL : (s1.heap.push (seqObj "list" vs.toArray 0)).get? s1.heap.objs.size = some (seqObj "list" vs.toArray 0) := Heap.get?_push_size _ rfl
  refine wpAny_bind (wpAny_holding (wpAny_call_entry slot_list_sort ⟨_, hoL, rfl⟩ entry_list_sort (list_sort_treeKAny PyProof.Rows.strKind_oneLt hoL hS.keysOf (fun v₁ v₂ rest e => keyKind_strs (by rw [← e]; exact hS)) hsz fun st' hp hs => ⟨_, rfl, ?_⟩) (args_list_sort _)))
  obtain ⟨ys, q1, q2, q3⟩ := sorted_out_str hS hp hs
  obtain ⟨c, hc⟩ := sortedHeap_at (vs := vs) (out := (arrOf st').map (·.2)) hoL
  refine wpAny_pure ⟨_, rfl, hQ _ s1.heap.objs.size _ c ys (fun b u e => ?_) g1 o1 hz hc q1 q3 (q2.nodup_iff.mpr hnd) (fun k => q2.mem_iff.trans (hin k)) ?_⟩
  · have q := k1 b u e
    have hlt := Heap.lt_size q
    show (sortedHeap (s1.heap.push (seqObj "list" vs.toArray 0)) s1.heap.objs.size vs _).get? b = some u
    rw [sortedHeap_old (Nat.ne_of_lt hlt) (by rw [size_push']; exact Nat.lt_succ_of_lt hlt)]
    exact Heap.get?_push_of_some _ q
  · rw [q2.length_eq, ← hS.len_eq]
    exact hvl
end
/-- a set of texts in the ledger -/
def SetT (P : Program) (w : World) (a : Addr) (S : Str → Bool) (n : Nat) : HO := .ext fun h => SetS P w h a S n
section
variable {X : Cx}
theorem setT_new {w : World} {P : Program} {H : Hp} {h : Heap} {a : Addr} {S : Str → Bool} {n : Nat} (R : SetS P w h a S n) : ObjOk P w H h a (SetT P w a S n) := by
  obtain ⟨o, es, ep, t, ⟨ho, _⟩, _⟩ := id R
  exact ⟨R, ⟨o, ho⟩, fun h1 h2 p k => p.at k⟩
theorem vals_strsAre : ∀ {xs : List Str} {us : List Value}, StrsAre us xs → Vals (xs.map V.str) us
  | _, _, .nil => .nil
  | _, _, .cons k t r => .cons ⟨t, rfl⟩ (vals_strsAre r)
def rSetS (K : PySem.W.Frag) (P : Program) (w : World) : List V → Hp → VK → Prop := fun vs H Q => ∃ (l : Addr) (xs : List Str), vs = [V.ref l] ∧ SqL K H l (xs.map V.str) ∧ xs.length < 4000 ∧
  ∀ a n, H a = none → n ≤ xs.length → Q (.ref a) (upd H a (SetT P w a (fun x => decide (x ∈ xs)) n))
def rSortS (P : Program) (w : World) : List V → Hp → VK → Prop := fun vs H Q => ∃ (a : Addr) (S : Str → Bool) (n : Nat), vs = [V.ref a] ∧ H a = some (SetT P w a S n) ∧
  ∀ (xs : List Str) (p : Addr), sortedS xs = true → xs.Nodup → (∀ k, k ∈ xs ↔ S k = true) → xs.length = n → H p = none → Q (.ref p) (upd H p (.lst (xs.map V.str)))
theorem cr_sortS (hc : X.calm = true) : CallR X (.builtin "sorted") (rSortS X.prog X.w) := by
  intro pins s σ H vs us Q I r h
  obtain ⟨a, S, n, rfl, ha, q⟩ := h
  have R : SetS X.prog X.w s.heap a S n := (I.hok a _ ha).1
  rw [Vals.ref1 r]
  have hb : n ≤ sizeLine := by
    obtain ⟨o, es, ep, t, _, _, hb, _, hn, _⟩ := id R
    rw [← hn]
    exact fits_of_scanBound hb
  refine sorted_of_set R (I.ok.hd hc) fun s' p out c xs k g o hp hg hS h1 h2 h3 h4 => ?_
  have hn : H p = none := I.hok.fresh hp
  have J : Inv X pins σ (upd H p (.lst (xs.map V.str))) { s with heap := s'.heap, gens := s'.gens, drawn := s'.drawn, toks := s'.toks } :=
    I.call (ch := []) (Un.laid k hp hn) (I.hok.laid k hp ⟨by rw [List.length_map, h4]; exact hb, out.toList, c, vals_strsAre hS, hg⟩) (by rw [g]; exact I.bare) (fun _ z => nomatch z)
  have e : s' = { s with heap := s'.heap, gens := s'.gens, drawn := s'.drawn, toks := s'.toks } := by
    cases s'
    cases s
    cases o
    rfl
  rw [e]
  exact ⟨.ref p, _, J, rfl, q xs p h1 h2 h3 h4 hn⟩
end
end RV
/-! promises of the laws about sums; pairs of a name and an integer -/
namespace RV
open PySem L2
structure Blt2 (mg : Str → Option Value) : Prop where
  b_sum : mg "sum" = none
  b_sorted : mg "sorted" = none
  b_set : mg "set" = none
  b_tuple : mg "tuple" = none
  b_enumerate : mg "enumerate" = none
  b_bool : mg "bool" = none
def big : Int := 10 ^ 30
def sp_number : Sp := fun vs H Q _ => ∃ (a : Addr) (n : Nat), vs = [.ref a] ∧ WellAt H a n ∧ n < 900000 ∧
  ∀ (z : Int) H', -big < z → z < big → Grow a H H' → WellAt H' a (n + 5) → Q (.int z) H'
theorem pg_tupK {X : Cx} {K : PySem.W.Frag} {es : List Expr} {k : Nat} {t : TGs} {n : Nat} {pos : Pos} (hc : X.calm = true) (h : PGs X es t)
    (hn : (assignEach es X.env).length = n := by rfl) (hst : (assignEach es X.env).findIdx? (·.1) = none := by rfl) (hK : X.K = K := by rfl) : PG X (.Tuple es k pos) (gTup K n t) := hK ▸ pg_tup hc h hn hst
/-! ### lists of pairs of a text and an integer, each at its address -/
abbrev TP := Addr × Str × Int
def vP (us : List TP) : List V := us.map fun u => .ref u.1
def prs (us : List TP) : List (Str × Int) := us.map (·.2)
def oP (q : Str × Int) : HO := .tup [.str q.1, .int q.2]
def lP (us : List TP) : List (Addr × HO) := us.map fun u => (u.1, oP u.2)
def TPs (K : PySem.W.Frag) (H : Hp) (us : List TP) : Prop := ∀ u ∈ us, SqT K H u.1 [.str u.2.1, .int u.2.2]
abbrev gPr (K : PySem.W.Frag) (i j : Nat) : TG := gTup K 2 (gCons (gName i) (gCons (gName j) gNil))
/-! ### how great they are -/
def tot (qs : List (Str × Int)) : Nat := (qs.map fun q => q.2.natAbs).sum
end RV
/-! drawn pairs -/
namespace RV
open PySem L2
structure Pairs (us : List TP) (m : Nat) : Prop where
  nm : ∀ q ∈ prs us, IsNm q.1
  gr : (tot (prs us) : Int) ≤ big * 2 ^ m
  ln : us.length ≤ m
/-- drawn pairs; at most ten -/
def sp_pairs : Sp := fun vs H Q _ => ∃ (a : Addr) (n m : Nat), vs = [.ref a, .int m] ∧ WellAt H a n ∧ n < 700000 ∧ m ≤ 20 ∧
  ∀ (us : List TP) (l : Addr) H', Pairs us m → (∀ p ∈ (l, HO.lst (vP us)) :: lP us, p.1 ≠ a ∧ H' p.1 = some p.2) → H l = none → Grow a H H' → WellAt H' a (n + 1000) → Q (.ref l) H'
end RV
namespace RV
open PySem L2
end RV
/-! the order of texts; sums as ascending pairs; things made by a function that keeps all that stood -/
namespace RV
open PySem L2
open PySem.Spec (ltCps)
open PyProof.Rows (sortedS risingS)
theorem lt_irr : ∀ a : List Nat, ltCps a a = false
  | [] => rfl
  | c :: r => by simp [ltCps, lt_irr r]
theorem lt_tr : ∀ {a b c : List Nat}, ltCps a b = true → ltCps b c = true → ltCps a c = true
  | [], [], _, h, _ => by simp [ltCps] at h
  | [], _ :: _, [], _, h => by simp [ltCps] at h
  | [], _ :: _, _ :: _, _, _ => rfl
  | _ :: _, [], _, h, _ => by simp [ltCps] at h
  | _ :: _, _ :: _, [], _, h => by simp [ltCps] at h
  | x :: a, y :: b, z :: c, h, k => by
    simp only [ltCps, Bool.or_eq_true, decide_eq_true_eq, Bool.and_eq_true, beq_iff_eq] at h k ⊢
    rcases h with h | ⟨h, h'⟩ <;> rcases k with k | ⟨k, k'⟩
    · exact .inl (by omega)
    · exact .inl (by omega)
    · exact .inl (by omega)
    · exact .inr ⟨by omega, lt_tr h' k'⟩
theorem lt_tri : ∀ {a b : List Nat}, ltCps a b = false → ltCps b a = false → a = b
  | [], [], _, _ => rfl
  | [], _ :: _, h, _ => by simp [ltCps] at h
  | _ :: _, [], _, h => by simp [ltCps] at h
  | x :: a, y :: b, h, k => by
    simp only [ltCps, Bool.or_eq_false_iff, decide_eq_false_iff_not, Bool.and_eq_false_iff, beq_eq_false_iff_ne] at h k
    have e : x = y := by omega
    subst e
    rw [lt_tri (h.2.resolve_left fun z => z rfl) (k.2.resolve_left fun z => z rfl)]
def Lt (a b : Str) : Prop := ltCps (cd a) (cd b) = true
theorem Lt.irr (a : Str) : ¬ Lt a a := fun h => by rw [Lt, lt_irr] at h; cases h
theorem Lt.tr {a b c : Str} (h : Lt a b) (k : Lt b c) : Lt a c := lt_tr h k
theorem asc_of : ∀ {xs : List Str}, sortedS xs = true → xs.Nodup → xs.Pairwise Lt
  | [], _, _ => .nil
  | [x], _, _ => List.pairwise_cons.mpr ⟨fun _ h => (nomatch h), .nil⟩
  | x :: y :: r, h, d => by
    have h' : (!ltCps (cd y) (cd x) && risingS y r) = true := h
    rw [Bool.and_eq_true] at h'
    obtain ⟨d1, d2⟩ := List.nodup_cons.mp d
    have ih := asc_of (xs := y :: r) h'.2 d2
    have lt : Lt x y := by
      cases e : ltCps (cd x) (cd y) with
      | true => exact e
      | false =>
        have e2 : ltCps (cd y) (cd x) = false := by simpa using h'.1
        exact absurd (cd_inj (lt_tri e e2) ▸ List.mem_cons_self) d1
    refine List.pairwise_cons.mpr ⟨fun z hz => ?_, ih⟩
    rcases List.mem_cons.mp hz with rfl | hz
    · exact lt
    · exact lt.tr ((List.pairwise_cons.mp ih).1 z hz)
theorem asc_uniq {α : Type} {R : α → α → Prop} (irr : ∀ a, ¬ R a a) (tr : ∀ {a b c}, R a b → R b c → R a c) : ∀ {l m : List α}, l.Pairwise R → m.Pairwise R → (∀ x, x ∈ l ↔ x ∈ m) → l = m
  | [], [], _, _, _ => rfl
  | [], y :: m, _, _, h => nomatch (h y).2 List.mem_cons_self
  | x :: l, [], _, _, h => nomatch (h x).1 List.mem_cons_self
  | x :: l, y :: m, hl, hm, h => by
    obtain ⟨a1, a2⟩ := List.pairwise_cons.mp hl
    obtain ⟨b1, b2⟩ := List.pairwise_cons.mp hm
    have e : x = y := by
      rcases List.mem_cons.mp ((h x).1 List.mem_cons_self) with e | hx
      · exact e
      rcases List.mem_cons.mp ((h y).2 List.mem_cons_self) with e | hy
      · exact e.symm
      exact absurd (tr (a1 y hy) (b1 x hx)) (irr x)
    subst e
    have : l = m := asc_uniq irr tr a2 b2 fun z => by
      constructor
      · intro hz
        rcases List.mem_cons.mp ((h z).1 (List.mem_cons_of_mem _ hz)) with e | h'
        · exact absurd (e ▸ a1 z hz) (irr x)
        · exact h'
      · intro hz
        rcases List.mem_cons.mp ((h z).2 (List.mem_cons_of_mem _ hz)) with e | h'
        · exact absurd (e ▸ b1 z hz) (irr x)
        · exact h'
    rw [this]
/-! ### the coefficient of a name -/
def co (qs : List (Str × Int)) (x : Str) : Int := ((qs.filter fun q => decide (q.1 = x)).map fun q => q.2).sum
/-- ascending pairs, none with 0 -/
structure Nrm (rs : List (Str × Int)) : Prop where
  asc : (rs.map (·.1)).Pairwise Lt
  no0 : ∀ q ∈ rs, q.2 ≠ 0
/-! ### what a function that keeps all that stood leaves -/
structure Kp (H0 : Hp) (L : List (Addr × HO)) (H : Hp) : Prop where
  sm : Same H0 H
  nw : ∀ p ∈ L, H0 p.1 = none ∧ H p.1 = some p.2
section
variable {H0 H H' : Hp} {L L' : List (Addr × HO)} {p q a : Addr} {o o' : HO} {n : Nat}
theorem Kp.at (h : Kp H0 L H) (hp : (p, o) ∈ L) : H p = some o := (h.nw _ hp).2
end
/-! ### merged -/
def sp_merged (K : PySem.W.Frag) : Sp := fun vs H Q _ => ∃ (l : Addr) (us : List TP), vs = [.ref l] ∧ SqL K H l (vP us) ∧ TPs K H us ∧ us.length ≤ 120 ∧
  ∀ (ds : List TP) (m : Addr) H', Nrm (prs ds) → (∀ x, co (prs ds) x = co (prs us) x) → (∀ q ∈ prs ds, q.1 ∈ (prs us).map (·.1)) → ds.length ≤ us.length → Kp H ((m, .lst (vP ds)) :: lP ds) H' → Q (.ref m) H'
end RV
/-! numbers, terms, what a sum makes of its terms -/
namespace RV
open PySem L2
theorem tyx_tup {K : PySem.W.Frag} {H : Hp} {a : Addr} {xs : List V} (h : SqT K H a xs) : TyX K H (.ref a) (.type "tuple") := by
  rcases h with (h | ⟨o, h⟩) | ⟨o, its, n, h, hc, _⟩
  · exact .base (.tup h)
  · exact .fTuple h
  · exact .kTuple h hc
def sp_is_number (K : PySem.W.Frag) : Sp := fun vs H Q _ => ∃ v, vs = [v] ∧ ((∃ z : Int, v = .int z ∧ Q (.bl true) H) ∨ (∃ b : Bool, v = .bl b ∧ Q (.bl false) H) ∨
  (∃ t, TyX K H v t ∧ PySem.W.kitOne K t (.type "int") = some false ∧ Q (.bl false) H))
/-- a pair of a name and an integer -/
def sp_is_term (K : PySem.W.Frag) : Sp := fun vs H Q _ => ∃ (t : Addr) (x : Str) (z : Int), vs = [.ref t] ∧ SqT K H t [.str x, .int z] ∧ IsNm x ∧ ∀ H', Same H H' → Q (.bl true) H'
/-- a tuple of such pairs -/
def sp_check_terms (K : PySem.W.Frag) : Sp := fun vs H Q _ => ∃ (t : Addr) (us : List TP), vs = [.ref t] ∧ SqT K H t (vP us) ∧ TPs K H us ∧ (∀ q ∈ prs us, IsNm q.1) ∧ us.length ≤ 120 ∧ ∀ H', Same H H' → Q .non H'
/-- at most 120, with at most 60 different names -/
def Few (qs : List (Str × Int)) : Prop := qs.length ≤ 120 ∧ ∃ pool : List Str, pool.length ≤ 60 ∧ ∀ q ∈ qs, q.1 ∈ pool
theorem nodup_len : ∀ {xs ys : List Str}, xs.Nodup → (∀ x ∈ xs, x ∈ ys) → xs.length ≤ ys.length
  | [], _, _, _ => Nat.zero_le _
  | x :: xs, ys, h, s => by
    rw [List.nodup_cons] at h
    have hx := s x List.mem_cons_self
    have := nodup_len (ys := ys.erase x) h.2 fun y hy => (List.mem_erase_of_ne (fun e => h.1 (by rw [← e]; exact hy))).mpr (s y (List.mem_cons_of_mem _ hy))
    rw [List.length_erase_of_mem hx] at this
    have := List.length_pos_of_mem hx
    rw [List.length_cons]
    omega
def sp_collected (K : PySem.W.Frag) : Sp := fun vs H Q _ => ∃ (t : Addr) (us : List TP), vs = [.ref t] ∧ SqT K H t (vP us) ∧ TPs K H us ∧ Few (prs us) ∧
  ∀ (ds : List TP) (m : Addr) H', Nrm (prs ds) → (∀ x, co (prs ds) x = co (prs us) x) → (∀ q ∈ prs ds, q.1 ∈ (prs us).map (·.1)) → ds.length ≤ us.length → Kp H ((m, .tup (vP ds)) :: lP ds) H' → Q (.ref m) H'
end RV
/-! a dict that counts -/
namespace RV
open PySem L2
structure Dct (kvs : List (Key × V)) (qs : List (Str × Int)) (ks : List Str) : Prop where
  keys : kvs.map (·.1) = ks.map Sum.inr
  nd : ks.Nodup
  mem : ∀ x, x ∈ ks ↔ x ∈ qs.map (·.1)
  val : ∀ x, valV kvs (.inr x) = if x ∈ ks then some (.int (co qs x)) else none
  ln : ks.length ≤ qs.length
end RV
/-! what an own class says of len, x in o, o[x], truth -/
namespace RV
open PySem L2 PyProof.Rows
/-- the class C has an own method m that promises sp -/
def OwnM (P : Program) (w : World) (K : PySem.W.Frag) (mg : Str → Option Value) (base : Heap) (C : Addr) (m : String) (k : Nat) (sp : Sp) : Prop :=
  ∃ f fd ps, PySem.W.findIn K (.ref C) m = some (some (.ref f)) ∧ PySem.W.isFn K (.ref f) = true ∧ PySem.W.fnIn K f = true ∧ Binds K fd ps [] ∧ FnOk P w K mg base CX0 k f fd ps sp
section
variable {X : Cx} {pins : List (Addr × Obj)} {σ : L2.St} {H : Hp} {s : Shared} {C : Addr} {k : Nat} {sp : Sp}
theorem call_owns {A : Around} {f : Addr} {fd : FuncData} {ps : List Str} {Q : VK} {xs : List V} {us : List Value} (F : FnOk X.prog X.w X.K X.mg X.base CX0 k f fd ps sp) (hb : Binds X.K fd ps []) (hr : Room k A) (hf : A.frames = X.A.frames)
    (I : Inv X pins σ H s) (rx : Vals xs us) (hsp : sp xs H Q E0) : wpAny (model X.prog X.w) A (call (.ref f) us) (EP X pins σ Q) X.xe s := by
  have e0 : Env0 X.prog X.w X.K X.mg X.base A X.stack s H := by
    have e := I.env0
    exact ⟨by rw [hf]; exact e.frames, e.mod, e.bs, e.bsz, e.funs, e.frf, e.hok, e.bare⟩
  have hl := F.len _ _ _ _ hsp
  refine wpAny_call (codeAny_mono (F.run A X.stack s H ⟨us, []⟩ us xs _ E0 hr e0 (by
    have := hb s us I.kIn (by rw [List.append_nil, ← rx.length]; exact hl)
    simpa using this) rx hsp) fun r s' hq => ?_)
  cases r with
  | error e => exact (hq : False).elim
  | ok fl =>
    cases fl with
    | ret w => exact I.after hq
    | next => exact False.elim hq
    | brk => exact False.elim hq
    | cont => exact False.elim hq
def rLenO (C : Addr) (sp : Sp) : List V → Hp → VK → Prop := fun xs H Q => ∃ a dx fs, xs = [.ref a] ∧ H a = some (.ins C dx fs) ∧ sp [.ref a] H (fun v H' => ∃ n : Nat, v = .int n ∧ n < 100000 ∧ Q (.int n) H') E0
def rInO (neg : Bool) (C : Addr) (sp : Sp) : R2 := fun x y H Q => ∃ a dx fs, y = .ref a ∧ H a = some (.ins C dx fs) ∧ sp [.ref a, x] H (fun v H' => ∃ b, v = .bl b ∧ Q (.bl (if neg then !b else b)) H') E0
/-- truth by the class's own __bool__ -/
def rTrM (C : Addr) (sp : Sp) : V → Hp → (Bool → Hp → Prop) → Prop := fun x H Q => ∃ a dx fs, x = .ref a ∧ H a = some (.ins C dx fs) ∧ sp [.ref a] H (fun v H' => ∃ b, v = .bl b ∧ Q b H') E0
def rIxO (C : Addr) (sp : Sp) : R2 := fun x y H Q => ∃ a dx fs, x = .ref a ∧ H a = some (.ins C dx fs) ∧ sp [.ref a, y] H Q E0
end
end RV
/-! sums as they stand in the heap, and what their methods promise -/
namespace RV
open PySem L2
/-- the things of a sum at a whose terms are the tuple at t -/
def lS (C a dx t : Addr) (us : List TP) : List (Addr × HO) := (a, .ins C dx [("_terms", .ref t)]) :: (t, .tup (vP us)) :: lP us
def SumR (C : Addr) (H : Hp) (a : Addr) (qs : List (Str × Int)) : Prop := ∃ dx t us, prs us = qs ∧ ∀ p ∈ lS C a dx t us, H p.1 = some p.2
structure SClass (K : PySem.W.Frag) (mg : Str → Option Value) (C : Addr) : Prop where
  x : ClsX K C
  k : mg "Sum" = some (.ref C)
  n1 : NoAttr K C "_terms"
  me : PySem.W.kitOne K (.ref C) (.ref C) = some true
/-- terms that may be given -/
structure Trm (K : PySem.W.Frag) (H : Hp) (t : Addr) (us : List TP) : Prop where
  tp : SqT K H t (vP us)
  ps : TPs K H us
  nm : ∀ q ∈ prs us, IsNm q.1
  ln : us.length ≤ 60
structure TrmF (K : PySem.W.Frag) (H : Hp) (t : Addr) (us : List TP) : Prop where
  tp : SqT K H t (vP us)
  ps : TPs K H us
  nm : ∀ q ∈ prs us, IsNm q.1
  ln : Few (prs us)
/-- what a sum of these terms is -/
structure Mad (qs rs : List (Str × Int)) : Prop where
  nr : Nrm rs
  co : ∀ x, co rs x = co qs x
  nm : ∀ q ∈ rs, q.1 ∈ qs.map (·.1)
  ln : rs.length ≤ qs.length
def sp_Sum (K : PySem.W.Frag) (C : Addr) : Sp := fun vs H Q _ => ∃ (x dx t : Addr) (us : List TP), vs = [.ref x, .ref t] ∧ H x = some (.ins C dx []) ∧ TrmF K H t us ∧
  ∀ (ds : List TP) (m dx' : Addr) H', Mad (prs us) (prs ds) → (∀ b o, b ≠ x → H b = some o → H' b = some o) → (∀ p ∈ (m, HO.tup (vP ds)) :: lP ds, H p.1 = none) → (∀ p ∈ lS C x dx' m ds, H' p.1 = some p.2) → Q .non H'
def sp_len (C : Addr) : Sp := fun vs H Q _ => ∃ (a : Addr) (qs : List (Str × Int)), vs = [.ref a] ∧ SumR C H a qs ∧ Q (.int (qs.length : Nat)) H
def sp_yes : Sp := fun vs H Q _ => ∃ (a : Addr), vs = [.ref a] ∧ Q (.bl true) H
def sp_terms (C : Addr) : Sp := fun vs H Q _ => ∃ (a dx t : Addr) (us : List TP), vs = [.ref a] ∧ (∀ p ∈ lS C a dx t us, H p.1 = some p.2) ∧ Q (.ref t) H
def sp_get (C : Addr) : Sp := fun vs H Q _ => ∃ (a : Addr) (x : Str) (qs : List (Str × Int)), vs = [.ref a, .str x] ∧ IsNm x ∧ SumR C H a qs ∧ Nrm qs ∧ ∀ H', Same H H' → Q (.int (co qs x)) H'
def sp_has (C : Addr) : Sp := fun vs H Q _ => ∃ (a : Addr) (x : Str) (qs : List (Str × Int)), vs = [.ref a, .str x] ∧ IsNm x ∧ SumR C H a qs ∧ Nrm qs ∧ ∀ H', Same H H' → Q (.bl (!decide (co qs x = 0))) H'
end RV
/-! pairs as data -/
namespace RV
open PySem L2
def dq (q : Str × Int) : PyData := .tuple [.str q.1, .int q.2]
def dQ (qs : List (Str × Int)) : PyData := .tuple (qs.map dq)
def sp_eqS (K : PySem.W.Frag) (C : Addr) : Sp := fun vs H Q _ => ∃ (a : Addr) (y : V) (qs : List (Str × Int)), vs = [.ref a, y] ∧ SumR C H a qs ∧ (∀ q ∈ qs, IsNm q.1) ∧
  ((∃ b rs, y = .ref b ∧ SumR C H b rs ∧ (∀ q ∈ rs, IsNm q.1) ∧ Q (.bl (decide (qs = rs))) H) ∨ (∃ t, TyX K H y t ∧ PySem.W.kitOne K t (.ref C) = some false ∧ Q (.bl false) H))
end RV
/-! the same pairs in another order, some in two parts -/
namespace RV
open PySem L2
structure Oth (us vs : List TP) : Prop where
  co : ∀ x, co (prs vs) x = co (prs us) x
  nm : ∀ q ∈ prs vs, q.1 ∈ (prs us).map (·.1)
  ln : vs.length ≤ 2 * us.length
def sp_parted : Sp := fun vs H Q _ => ∃ (a l : Addr) (n : Nat) (us : List TP), vs = [.ref a, .ref l] ∧ WellAt H a n ∧ n < 600000 ∧ us.length ≤ 20 ∧ (∀ p ∈ (l, HO.lst (vP us)) :: lP us, p.1 ≠ a ∧ H p.1 = some p.2) ∧
  ∀ (vs : List TP) (m : Addr) H', Oth us vs → H m = none → Has H a (n + 1000) ((m, .lst (vP vs)) :: lP vs) H' → Q (.ref m) H'
end RV
/-! texts of pairs -/
namespace RV
open PySem L2 PyProof.Rows
/-- a sum shows these pairs, a list of them -/
def sp_shows (K : PySem.W.Frag) (C : Addr) : Sp := fun vs H Q _ => ∃ (a l : Addr) (ds : List TP), vs = [.ref a, .ref l] ∧ SumR C H a (prs ds) ∧ SqL K H l (vP ds) ∧ TPs K H ds ∧ Nrm (prs ds) ∧ (∀ q ∈ prs ds, IsNm q.1) ∧ tot (prs ds) ≤ 10 ^ 45 ∧ ds.length ≤ 60 ∧
  ∀ H', Same H H' → Q (.bl true) H'
/-- names that are much like a name -/
def nearL (x : Str) : List Str := [cutS x none (some (-1)), cutS (x ++ "a") none (some 8), cutS (x ++ "0") none (some 8), ("z" : Str) ++ cutS x (some 1) none]
end RV
/-! written numbers and terms -/
namespace RV
open PySem L2
structure Cst2 (mg : Str → Option Value) : Prop where
  worth : ∃ u, mg "_PIECE_WORTH" = some u ∧ RelV (.int (10 ^ 64)) u
  piece : ∃ u, mg "_PIECE" = some u ∧ RelV (.int 64) u
def num (z : Int) : Str := Str.ofString (toString z)
/-- a written number of at most 64 digits -/
def sp_written : Sp := fun vs H Q _ => ∃ z : Int, vs = [.int z] ∧ 0 ≤ z ∧ z < 10 ^ 64 ∧ ∀ H', Same H H' → Q (.str (num z)) H'
def ab (z : Int) : Int := if z < 0 then -z else z
/-- a term without its sign -/
def wo (x : Str) (z : Int) : Str := if ab z = 1 then x else ((Str.empty ++ num (ab z)) ++ ("*" : Str)) ++ x
/-- a term that is not the first -/
def fu (q : Str × Int) : Str := (((Str.empty ++ (" " : Str)) ++ (if q.2 < 0 then ("-" : Str) else "+")) ++ (" " : Str)) ++ wo q.1 q.2
def fi (q : Str × Int) : Str := (if q.2 < 0 then ("-" : Str) else "") ++ wo q.1 q.2
def pieces : List (Str × Int) → List Str
  | [] => ["0"]
  | q :: qs => fi q :: qs.map fu
/-- the text of a sum -/
def txt (qs : List (Str × Int)) : Str := Txt.join "" (pieces qs)
theorem sl_app (a b : Str) : (a ++ b).length = a.length + b.length := by rw [cd_len, cd_app, List.length_append, ← cd_len, ← cd_len]
def sp_without : Sp := fun vs H Q _ => ∃ (x : Str) (z : Int), vs = [.str x, .int z] ∧ IsNm x ∧ z.natAbs < 10 ^ 64 ∧ ∀ H', Same H H' → Q (.str (wo x z)) H'
def sp_further : Sp := fun vs H Q _ => ∃ (q : Str × Int), vs = [.str q.1, .int q.2] ∧ IsNm q.1 ∧ q.2.natAbs < 10 ^ 64 ∧ ∀ H', Same H H' → Q (.str (fu q)) H'
def sp_wterms (K : PySem.W.Frag) : Sp := fun vs H Q _ => ∃ (t : Addr) (us : List TP), vs = [.ref t] ∧ SqT K H t (vP us) ∧ TPs K H us ∧ (∀ q ∈ prs us, IsNm q.1 ∧ q.2.natAbs < 10 ^ 64) ∧ us.length ≤ 100 ∧
  ∀ m H', Kp H [(m, .lst ((pieces (prs us)).map V.str))] H' → Q (.ref m) H'
def sp_text (C : Addr) : Sp := fun vs H Q _ => ∃ (a : Addr) (qs : List (Str × Int)), vs = [.ref a] ∧ SumR C H a qs ∧ (∀ q ∈ qs, IsNm q.1 ∧ q.2.natAbs < 10 ^ 64) ∧ qs.length ≤ 100 ∧ ∀ H', Same H H' → Q (.str (txt qs)) H'
end RV
/-! str(o) of an own class -/
namespace RV
open PySem L2 PyProof.Rows
section
variable {X : Cx} {C : Addr} {k : Nat} {sp : Sp}
def rStrO (C : Addr) (sp : Sp) : List V → Hp → VK → Prop := fun xs H Q => ∃ a dx fs, xs = [.ref a] ∧ H a = some (.ins C dx fs) ∧ sp [.ref a] H (fun v H' => ∃ y : Str, v = .str y ∧ Q (.str y) H') E0
theorem call_strO (h : OwnM X.prog X.w X.K X.mg X.base C "__str__" k sp) (hr : Room (k + 2) X.A) : CallR X (.type "str") (rStrO C sp) := by
  intro pins s σ H xs us Q I rx hq
  obtain ⟨a, dx, fs, rfl, ha, hsp⟩ := hq
  obtain ⟨f, fd, ps, hs, hf, _, hb, F⟩ := h
  obtain rfl : us = [.ref a] := Vals.ref1 rx
  obtain ⟨mA, J, _⟩ := ins_get I.hok ha
  obtain ⟨od, J, _⟩ := J.look
  refine PySem.W.kso_call (hr.in1.in1.units0) I.kIn J hs hf (wpAny_mono (call_owns (A := X.A.in1.in1) F hb hr.in1.in1 rfl I rx hsp) (fun r s' z => ?_) fun _ _ x => x)
  obtain ⟨v, H', I', rv, y, rfl, q⟩ := z
  obtain ⟨t, rfl⟩ := rv
  exact ⟨.str y, H', I', ⟨_, rfl⟩, q⟩
end
end RV
/-! sums made -/
namespace RV
open PySem L2
end RV
/-! an int == an own object: the class's own == answers -/
namespace PySem
open AutoSeq1 (wpAny_loadPart')
set_option maxHeartbeats 4000000 in
theorem rv_int_eq_inst (b : Int) (u : Tok) (l C dx : Addr) :
    Meets (Builtin.«int.__eq__» ⟨[.int b u, .ref l], []⟩) (fun _ R s => s.heap.get? l = some (PySem.W.instObj C dx) ∧ R (.ok (.ret .notImplemented)) s) :=
  .of_wp fun prog w A R s h => by
    obtain ⟨hp, g, d, tk, os⟩ := s
    obtain ⟨hl, h⟩ := h
    unfold PySem.W.instObj at hl
    wp_walk using wpAny_loadPart' hl, wpAny_load hl
    exact ⟨_, rfl, h⟩
end PySem
namespace RV
open PySem L2 PyProof.Rows
section
variable {prog : Program} {w : World} {A : Around} {E : Value → Shared → Prop} {s : Shared} {K : PySem.W.Frag} {x C dx L f : Addr} {h₀ : Heap} {m : Str → Option Value} {od : Option Obj} {i : Int} {t : Tok}
open PySem.W in
end
section
variable {X : Cx} {C : Addr} {k : Nat} {sp : Sp}
/-- i == o -/
def rEqI (C : Addr) (sp : Sp) : R2 := fun x y H Q => ∃ (i : Int) (a dx : Addr) (fs : List (Str × V)), x = .int i ∧ y = .ref a ∧ H a = some (.ins C dx fs) ∧ sp [.ref a, .int i] H (fun v H' => ∃ b, v = .bl b ∧ Q (.bl b) H') E0
end
end RV
namespace RV
open PySem L2
def sp_rightS : Sp := fun vs H Q _ => ∃ (a : Addr) (n : Nat), vs = [.ref a] ∧ WellAt H a n ∧ n < 500000 ∧ ∀ H', Grow a H H' → WellAt H' a (n + 3000) → Q (.bl true) H'
def gS (vs zs : List V) : List V := match vs, zs with
  | [x], [t] => [x, t]
  | _, _ => []
/-- what sums and other values are to each other -/
structure SKinds (K : PySem.W.Frag) (C : Addr) : Prop where
  sI : PySem.W.subIn K (.ref C) (.type "int") = some false
  nS : PySem.W.notFirst K C (.ref C) = true
  nT : PySem.W.notFirst K C (.type "tuple") = true
  nX : PySem.W.notFirst K C (.type "str") = true
  nN : PySem.W.notFirst K C (.type "NoneType") = true
  kT : PySem.W.kitOne K (.type "tuple") (.ref C) = some false
  kX : PySem.W.kitOne K (.type "str") (.ref C) = some false
  kN : PySem.W.kitOne K (.type "NoneType") (.ref C) = some false
  kI : PySem.W.kitOne K (.type "int") (.ref C) = some false
section
variable {K : PySem.W.Frag} {C a : Addr} {H : Hp} {Q : VK} {neg : Bool} {qs rs : List (Str × Int)} {y : V} {t : Value}
end
end RV
/-! a ledger in parts; steps of the sums' own methods over it -/
namespace RV
open PySem L2
abbrev lT (l : Addr) (us : List TP) : List (Addr × HO) := (l, .lst (vP us)) :: lP us
/-- pairs that a sum shows -/
structure Due (qs : List (Str × Int)) : Prop where
  nr : Nrm qs
  nm : ∀ q ∈ qs, IsNm q.1
  tt : tot qs ≤ 10 ^ 45
  ln : qs.length ≤ 60
section
variable {K : PySem.W.Frag} {C a l x dx m t : Addr} {n n' : Nat} {L L' L2 : List (Addr × HO)} {H0 H H' : Hp} {us ds : List TP} {Q : VK} {E : XK}
end
theorem OwnM.irr {P : Program} {w : World} {K : PySem.W.Frag} {mg : Str → Option Value} {base : Heap} {C : Addr} {m : String} {k : Nat} {sp : Sp} (h : OwnM P w K mg base C m k sp) : OwnM P w K mg base C m k (Irr sp) := by
  obtain ⟨f, fd, ps, a, b, c, d, F⟩ := h
  exact ⟨f, fd, ps, a, b, c, d, F.imp fun _ _ _ _ z => irr_of z⟩
theorem Prp.irr {P : Program} {w : World} {K : PySem.W.Frag} {mg : Str → Option Value} {base : Heap} {C : Addr} {m : Str} {k : Nat} {sp : Sp} (h : Prp P w K mg base C m k sp) : Prp P w K mg base C m k (Irr sp) := by
  obtain ⟨c, p, g, fd, ps, a, b, F⟩ := h
  exact ⟨c, p, g, fd, ps, a, b, F.imp fun _ _ _ _ z => irr_of z⟩
theorem kit_self (K : PySem.W.Frag) (C : Addr) : PySem.W.kitOne K (.ref C) (.ref C) = some true := by
  unfold PySem.W.kitOne
  rw [if_pos (by simp)]
end RV
/-! rpartition; xs[i::2]; a class in a slot, called; class methods -/
namespace RV
open PySem L2 PyProof.Rows Builtin TL
section
variable {X : Cx} {pins : List (Addr × Obj)} {σ : L2.St} {H : Hp} {s : Shared}
end
/-! ### every other item of a list -/
def step2 {α : Type} (i : Nat) (xs : List α) : List α := (sliceRange (min i xs.length : Nat) xs.length 2).filterMap (xs[·]?)
def tSl2 (K : PySem.W.Frag) (i : Nat) (te : TE) : TE := fun σ H Q => te σ H fun x H1 => ∃ a xs, x = .ref a ∧ SqL K H1 a xs ∧ ∀ p, H1 p = none → Q (.ref p) (upd H1 p (.lst (step2 i xs)))
/-! ### a class in a slot -/
theorem pe_mkL {X : Cx} {C : Addr} {k i : Nat} {sp : Sp} {dvs : List V} {x y : Str} {p pos : Pos} {e : Expr} {es : List Expr} {t : TA} (h : Mkr X.prog X.w X.K X.mg X.base y C k sp dvs) (hr : Room (k + 1) X.A) (hN : X.N[i]? = some x) (hv : Vis X.env.scope x) (ha : PA X (e :: es) t)
    (hdb : (x == ("__debug__" : Str)) = false := by decide) (hcd : (x == ("__classdict__" : Str)) = false := by decide)
    (he : starEach (e :: es) X.env = (false, eval e X.env) :: starEach es X.env := by rfl) (hpl : (backTo pos (starEach es X.env)).any (·.1) = false := by rfl) : PE X (.Call (.Name x p) (e :: es) [] pos) (fun σ H Q => σ[i]? = some (some (.ref C)) ∧ tMake C sp dvs E0 t σ H Q) := by
  obtain ⟨_, f, fd, ps, ds, M, hb, hd, F⟩ := h
  refine ⟨fun pins s σ H Q I h => ?_⟩
  obtain ⟨hs, ht⟩ := h
  refine wpAny_Call_Name_kw (thn ((pe_var (pos := p) hN hv hdb hcd).run pins s σ H (fun v H1 => v = .ref C ∧ H1 = H) I ⟨.ref C, hs, rfl, rfl⟩) fun u s1 ⟨v, H1, I1, r1, q1⟩ => ?_)
  obtain ⟨rfl, rfl⟩ := q1
  cases r1
  refine PySem.W.callWith_K (h₀ := X.base) I.ok.mod.kin M.kp (thn (ha.run pos pins s1 σ _ _ I1 ht) fun us s2 ⟨vs, H2, I2, r, q⟩ => ⟨I2.kIn, ?_⟩) he hpl
  exact run_make M F hr hb hd pass0 I2 r q
end RV
/-! class methods; repr of a text; texts of sums, cut again -/
namespace RV
open PySem L2 PyProof.Rows ClX
/-- the class C has a class method m that promises sp -/
def ClsM (P : Program) (w : World) (K : PySem.W.Frag) (mg : Str → Option Value) (base : Heap) (C : Addr) (m : Str) (k : Nat) (ps : List Str) (sp : Sp) : Prop :=
  ∃ mc p g fd, CRead K C mc ∧ CMet K C mc m p g ∧ Binds K fd ps [] ∧ FnOk P w K mg base CX0 k g fd ps sp
/-- .. called by keywords -/
def ClsMK (P : Program) (w : World) (K : PySem.W.Frag) (mg : Str → Option Value) (base : Heap) (C : Addr) (m : Str) (k : Nat) (ks : List Str) (sp : Sp) (gV : List V → List V → List V) : Prop :=
  ∃ mc p g fd ps gg, CRead K C mc ∧ CMet K C mc m p g ∧ KBn K fd ps 1 ks gg gV ∧ FnOk P w K mg base CX0 k g fd ps sp
theorem ClsM.irr {P : Program} {w : World} {K : PySem.W.Frag} {mg : Str → Option Value} {base : Heap} {C : Addr} {m : Str} {k : Nat} {ps : List Str} {sp : Sp} (h : ClsM P w K mg base C m k ps sp) : ClsM P w K mg base C m k ps (Irr sp) := by
  obtain ⟨mc, p, g, fd, a, b, c, F⟩ := h
  exact ⟨mc, p, g, fd, a, b, c, F.imp fun _ _ _ _ z => irr_of z⟩
section
variable {X : Cx} {C : Addr} {k : Nat} {m : Str} {ps ks : List Str} {sp : Sp} {gV : List V → List V → List V} {o e : Expr} {es : List Expr} {kws : List Keyword} {t tk : TA} {ta : TE} {pos apos : Pos} {pl : Sem Bool}
theorem pe_cm (h : ClsM X.prog X.w X.K X.mg X.base C m k ps sp) (hr : Room k X.A) (he : PE X o ta) (ha : PA X (e :: es) t)
    (hst : starEach (e :: es) X.env = (false, eval e X.env) :: starEach es X.env := by rfl) (hpl : (backTo pos (starEach es X.env)).any (·.1) = false := by rfl)
    (ht : eval (.Call (.Attribute o m apos) (e :: es) [] pos) X.env = (do
      let ov ← eval o X.env
      standAt apos.atName
      let (f, first) ← holding [ov] (getMethod ov m pl)
      callWith pos f first (backTo pos (starEach (e :: es) X.env)) (backToKw pos (keywordEach [] X.env))) := by rfl) :
    PE X (.Call (.Attribute o m apos) (e :: es) [] pos) (tCMeth C sp E0 ta t) := by
  obtain ⟨mc, p, g, fd, r, c, hb, F⟩ := h
  exact pe_cmeth he r c ((FnOk.raw F hb .nil).imp fun vs H Q E z => by rw [List.append_nil]; exact z) hr pass0 ha hst hpl ht
def tCMethK (C : Addr) (n : Nat) (sp : Sp) (gV : List V → List V → List V) (ta : TE) (tk : TA) : TE := fun σ H Q => ta σ H fun x H1 => x = .ref C ∧ tk σ H1 fun zs H2 => zs.length = n ∧ sp (gV [.ref C] zs) H2 Q E0
@[irreducible] def rReprS : List V → Hp → VK → Prop := fun xs H Q => ∃ x : Str, xs = [.str x] ∧ (reprText x).length ≤ sizeLine ∧ Q (.str (reprText x)) H
end
end RV
/-! the text of a sum, cut into its words -/
namespace RV
open PySem L2 PyProof.Rows TL
def sgn (q : Str × Int) : Str := if q.2 < 0 then "-" else "+"
def parts (qs : List (Str × Int)) : List Str := qs.flatMap fun q => [sgn q, wo q.1 q.2]
def partsZ (qs : List (Str × Int)) : List Str := if qs = [] then ["+", "0"] else parts qs
def apart (z : Str) : Str := if Txt.startswith z "-" then ("- " : Str) ++ cutS z (some 1) none else ("+ " : Str) ++ z
theorem cd_em : cd Str.empty = [] := by decide +kernel
theorem cd_sp : cd " " = [32] := by decide +kernel
theorem cd_no : cd "" = [] := by decide +kernel
/-! the signs of words -/
def okC (c : Nat) : Bool := tailC c || c == 42
/-! a word, cut at its star -/
/-! every other of the words -/
end RV
/-! what reading a text promises -/
namespace RV
open PySem L2 PyProof.Rows TL
def sp_digits : Sp := fun vs H Q _ => ∃ z : Int, vs = [.str (num z)] ∧ 0 ≤ z ∧ Q (.bl true) H
def sp_readnum : Sp := fun vs H Q _ => ∃ z : Int, vs = [.str (num z)] ∧ 0 ≤ z ∧ z < 10 ^ 60 ∧ Q (.int z) H
def sp_apart : Sp := fun vs H Q _ => ∃ z : Str, vs = [.str z] ∧ z.length ≤ 1000000 ∧ Q (.str (apart z)) H
/-- a word of a sum's text -/
def sp_rterm (_K : PySem.W.Frag) : Sp := fun vs H Q _ => (∃ q : Str × Int, vs = [.str (sgn q), .str (wo q.1 q.2)] ∧ IsNm q.1 ∧ q.2.natAbs < 10 ^ 60 ∧ ∀ t H', Kp H [(t, oP q)] H' → Q (.ref t) H') ∨
  (vs = [.str "+", .str "0"] ∧ ∀ H', Same H H' → Q .non H')
def sp_termsin (_K : PySem.W.Frag) : Sp := fun vs H Q _ => ∃ qs : List (Str × Int), vs = [.str (txt qs)] ∧ Due qs ∧ ∀ (us : List TP) (m : Addr) H', prs us = qs → Kp H ((m, .tup (vP us)) :: lP us) H' → Q (.ref m) H'
def sp_read (C : Addr) : Sp := fun vs H Q _ => ∃ qs : List (Str × Int), vs = [.ref C, .str (txt qs)] ∧ Due qs ∧ ∀ (x dx m : Addr) (us : List TP) H', prs us = qs → Kp H (lS C x dx m us) H' → Q (.ref x) H'
end RV
/-! the text of a sum, term by term -/
namespace RV
open PySem L2 PyProof.Rows TL
/-- the line behind some terms -/
def line (qs : List (Str × Int)) : Str := if qs = [] then "" else txt qs
def sp_sumtext (K : PySem.W.Frag) : Sp := fun vs H Q _ => ∃ (l : Addr) (ds : List TP), vs = [.ref l] ∧ SqL K H l (vP ds) ∧ TPs K H ds ∧ Due (prs ds) ∧ Q (.str (txt (prs ds))) H
end RV
/-! steps over a ledger: sums read, texts shown -/
namespace RV
open PySem L2 PyProof.Rows TL
def gR (vs zs : List V) : List V := match vs, zs with
  | [x], [t] => [x, t]
  | _, _ => []
section
variable {K : PySem.W.Frag} {C a l x : Addr} {n : Nat} {L : List (Addr × HO)} {H0 H : Hp} {us ds : List TP} {Q : VK} {E : XK} {qs : List (Str × Int)}
end
end RV
/-! -o, o + p, o - p, o * n, n * o of own classes -/
namespace PySem
open AutoSeq1 (wpAny_loadPart')
set_option maxHeartbeats 4000000 in
theorem rv_int_mul_inst (b : Int) (u : Tok) (l C dx : Addr) :
    Meets (Builtin.«int.__mul__» ⟨[.int b u, .ref l], []⟩) (fun _ R s => s.heap.get? l = some (PySem.W.instObj C dx) ∧ R (.ok (.ret .notImplemented)) s) :=
  .of_wp fun prog w A R s h => by
    obtain ⟨hp, g, d, tk, os⟩ := s
    obtain ⟨hl, h⟩ := h
    unfold PySem.W.instObj at hl
    wp_walk using wpAny_loadPart' hl, wpAny_load hl
    exact ⟨_, rfl, h⟩
end PySem
namespace PySem.W
open PySem PySem.Calls PyProof.Rows
section
variable {prog : Program} {w : World} {A : Around} {E : Value → Shared → Prop} {s : Shared} {K : Frag} {x C dx L f g : Addr} {h₀ : Heap} {m : Str → Option Value} {od : Option Obj} {i : Int} {t : Tok} {fo ro : Option Value}
theorem rv_mulI {Q : Value → Shared → Prop} (F : Fr h₀ L s.heap m) (X₀ : K.In h₀) (I : InstAt s.heap x (instObj C dx) C od) (hc : selfFirst K C = true)
    (hs : findIn K (.ref C) (PySem.dunder "mul") = some (some (.ref f))) (hr : findIn K (.ref C) (dunderR "mul") = some (some (.ref g))) (hg : isFn K (.ref g) = true)
    (h1 : findIn K (.type "int") (PySem.dunder "mul") = some fo) (h2 : findIn K (.type "int") (dunderR "mul") = some ro) (hsub : subIn K (.ref C) (.type "int") = some false)
    (h : wpAny (model prog w) A (call (.ref g) [.ref x, .int i t]) (CmpBack Q) E s) : wpAny (model prog w) A (binaryOp .Mult (.int i t) (.ref x)) Q E s := by
  have X := X₀.keeps F.keep
  obtain ⟨cd, rest, hcd, hm⟩ := ksp_first hc
  have one := ksp_try X I hr hg h
  have decl : wpAny (model prog w) A (tryMethod (.int i t) (PySem.dunder "mul") (.ref x)) (fun r s' => r = none ∧ s' = s) E s :=
    wpAny_tryMethod_declines (Q := fun r s' => r = none ∧ s' = s) (typeIs_int _ _ _) PySem.F.slot_int_mul (call_meets PySem.F.slot_int_mul (typeIs_int _ _ _) PySem.F.entry_int_mul (PySem.F.args_int_mul_2 _ _) (PySem.rv_int_mul_inst i t x C dx) ⟨I.at_, rfl, rfl, rfl⟩)
  obtain ⟨hh, g', d, tt, os⟩ := s
  have L1 : Looks (model prog w) hh (typeOf (.int i t)) (.type "int") := Looks.of_pure rfl
  have L2 : Looks (model prog w) hh (typeOf (.ref x)) (.ref C) := I.type
  have L3 : Looks (model prog w) hh (fillsNumberSlot (.ref C) "mul") true := fills_K X hcd hm hs
  have L4 : Looks (model prog w) hh (fillsNumberSlot (.type "int") "mul") ((fo.isSome && !isSeqSlot fo) || (ro.isSome && !isSeqSlot ro)) := ksp_fillsT X h1 h2
  have L5 : Looks (model prog w) hh (isSubtype (.ref C) (.type "int")) false := looks_subIn X hsub
  have L7 : Looks (model prog w) hh (numberSlotInPython (.type "int") "mul") false := Looks.of_pure rfl
  generalize ((fo.isSome && !isSeqSlot fo) || (ro.isSome && !isSeqSlot ro)) = left at L4
  have hne : (Value.type "int" == Value.ref C) = false := Bool.eq_false_iff.mpr fun q => by cases beq_iff_eq.mp q
  simp only [binaryOp, show Operator.info .Mult = ("*", "mul") from rfl]
  refine wpAny_holding (wpAny_bind ?_)
  unfold binaryOp1
  refine wpAny_bind (L1.at (wpAny_bind (L2.at (wpAny_bind (L4.at ?_)))))
  simp only [hne, Bool.false_eq_true, if_false]
  cases left with
  | false =>
    ksp_lk
    refine wpAny_mono one (fun r s' hr' => ?_) fun _ _ e => e
    obtain ⟨v, rfl, hq⟩ := hr'
    ksp_lk
    exact hq
  | true =>
    ksp_lk
    refine wpAny_mono decl (fun r s' hd => ?_) fun _ _ e => e
    obtain ⟨rfl, rfl⟩ := hd
    ksp_lk
    refine wpAny_mono one (fun r s' hr' => ?_) fun _ _ e => e
    obtain ⟨v, rfl, hq⟩ := hr'
    ksp_lk
    exact hq
end
end PySem.W
namespace RV
open PySem L2 PyProof.Rows
section
variable {X : Cx} {C : Addr} {k : Nat} {sp : Sp}
@[irreducible] def rBinO (C : Addr) (sp : Sp) : R2 := fun x y H Q => ∃ a b dx fs dy gs, x = .ref a ∧ y = .ref b ∧ H a = some (.ins C dx fs) ∧ H b = some (.ins C dy gs) ∧ sp [.ref a, .ref b] H (fun v H' => ∃ p, v = .ref p ∧ Q (.ref p) H') E0
@[irreducible] def rMulO (C : Addr) (sp : Sp) : R2 := fun x y H Q => ∃ (a : Addr) (i : Int) (dx : Addr) (fs : List (Str × V)), x = .ref a ∧ y = .int i ∧ H a = some (.ins C dx fs) ∧ sp [.ref a, .int i] H (fun v H' => ∃ p, v = .ref p ∧ Q (.ref p) H') E0
@[irreducible] def rMulI (C : Addr) (sp : Sp) : R2 := fun x y H Q => ∃ (a : Addr) (i : Int) (dx : Addr) (fs : List (Str × V)), x = .int i ∧ y = .ref a ∧ H a = some (.ins C dx fs) ∧ sp [.ref a, .int i] H (fun v H' => ∃ p, v = .ref p ∧ Q (.ref p) H') E0
@[irreducible] def rNegO (C : Addr) (sp : Sp) : V → Hp → VK → Prop := fun x H Q => ∃ a dx fs, x = .ref a ∧ H a = some (.ins C dx fs) ∧ sp [.ref a] H Q E0
end
end RV
/-! sums by operators -/
namespace RV
open PySem L2 PyProof.Rows TL
def scl (i : Int) (qs : List (Str × Int)) : List (Str × Int) := qs.map fun q => (q.1, i * q.2)
/-- numbers small enough -/
structure Lit (qs : List (Str × Int)) : Prop where
  nm : ∀ q ∈ qs, IsNm q.1
  sm : ∀ q ∈ qs, q.2.natAbs < 10 ^ 60
  ln : qs.length ≤ 60
section
variable {K : PySem.W.Frag} {a D : Addr} {us : List TP} {i j : Nat} {te : TE} {vs : List Nat} {σ : L2.St} {H1 : Hp} {Qd : Hp → Prop}
end
/-- [(x, n * z) for x, z in xs] -/
def sp_times (K : PySem.W.Frag) : Sp := fun vs H Q _ => ∃ (l : Addr) (us : List TP) (i : Int), vs = [.ref l, .int i] ∧ SqL K H l (vP us) ∧ TPs K H us ∧ (∀ q ∈ prs us, q.2.natAbs < 10 ^ 60) ∧ us.length ≤ 60 ∧ i.natAbs < 10 ^ 60 ∧
  ∀ (ws : List TP) (m : Addr) H', prs ws = scl i (prs us) → Kp H (lT m ws) H' → Q (.ref m) H'
def sp_mulS (C : Addr) : Sp := fun vs H Q _ => ∃ (a : Addr) (qs : List (Str × Int)) (i : Int), vs = [.ref a, .int i] ∧ SumR C H a qs ∧ Lit qs ∧ i.natAbs < 10 ^ 60 ∧
  ∀ (x dx m : Addr) (ds : List TP) H', Mad (scl i qs) (prs ds) → Kp H (lS C x dx m ds) H' → Q (.ref x) H'
def sp_negS (C : Addr) : Sp := fun vs H Q _ => ∃ (a : Addr) (qs : List (Str × Int)), vs = [.ref a] ∧ SumR C H a qs ∧ Lit qs ∧
  ∀ (x dx m : Addr) (ds : List TP) H', Mad (scl (-1) qs) (prs ds) → Kp H (lS C x dx m ds) H' → Q (.ref x) H'
def sp_addS (C : Addr) : Sp := fun vs H Q _ => ∃ (a b : Addr) (qs rs : List (Str × Int)), vs = [.ref a, .ref b] ∧ SumR C H a qs ∧ SumR C H b rs ∧ (∀ q ∈ qs ++ rs, IsNm q.1) ∧ Few (qs ++ rs) ∧
  ∀ (x dx m : Addr) (ds : List TP) H', Mad (qs ++ rs) (prs ds) → Kp H (lS C x dx m ds) H' → Q (.ref x) H'
def sp_subS (C : Addr) : Sp := fun vs H Q _ => ∃ (a b : Addr) (qs rs : List (Str × Int)), vs = [.ref a, .ref b] ∧ SumR C H a qs ∧ SumR C H b rs ∧ (∀ q ∈ qs, IsNm q.1) ∧ Lit rs ∧ Few (qs ++ rs) ∧
  ∀ (x dx m : Addr) (ds : List TP) H', Mad (qs ++ scl (-1) rs) (prs ds) → Kp H (lS C x dx m ds) H' → Q (.ref x) H'
/-- a sum is the one of these pairs -/
def sp_is (K : PySem.W.Frag) (C : Addr) : Sp := fun vs H Q _ => ∃ (x l : Addr) (qs : List (Str × Int)) (us : List TP), vs = [.ref x, .ref l] ∧ SumR C H x qs ∧ Nrm qs ∧ SqL K H l (vP us) ∧ TPs K H us ∧ (∀ q ∈ prs us, IsNm q.1) ∧ us.length ≤ 60 ∧ tot (prs us) ≤ 10 ^ 42 ∧ (∀ y, co qs y = co (prs us) y) ∧
  ∀ H', Same H H' → Q (.bl true) H'
end RV
/-! sums of names -/
namespace RV
open PySem L2 PyProof.Rows ClX
def ones (ns : List Str) : List (Str × Int) := ns.map fun x => (x, 1)
def sp_ofB (K : PySem.W.Frag) (C : Addr) : Sp := fun vs H Q _ => ∃ (p : Addr) (ns : List Str), vs = [.ref C, .ref p] ∧ SqT K H p (ns.map V.str) ∧ (∀ x ∈ ns, IsNm x) ∧ ns.length ≤ 60 ∧
  ∀ (x dx m : Addr) (ds : List TP) H', Mad (ones ns) (prs ds) → Kp H (lS C x dx m ds) H' → Q (.ref x) H'
def sp_of (C : Addr) : Sp := fun vs H Q _ => ∃ ns : List Str, vs = .ref C :: ns.map V.str ∧ (∀ x ∈ ns, IsNm x) ∧ ns.length ≤ 60 ∧
  ∀ (x dx m : Addr) (ds : List TP) H', Mad (ones ns) (prs ds) → Kp H (lS C x dx m ds) H' → Q (.ref x) H'
/-- a class method that takes any number of values -/
def ClsR (P : Program) (w : World) (K : PySem.W.Frag) (mg : Str → Option Value) (base : Heap) (C : Addr) (m : Str) (k : Nat) (sp : Sp) : Prop :=
  ∃ mc p g, CRead K C mc ∧ CMet K C mc m p g ∧ FnR P w K mg base CX0 k g sp
end RV
/-! steps with sums over a heap that only grows -/
namespace RV
open PySem L2 PyProof.Rows TL
/-- pairs of names, so many, so great in all -/
structure Raw (qs : List (Str × Int)) (n b : Nat) : Prop where
  nm : ∀ q ∈ qs, IsNm q.1
  ln : qs.length ≤ n
  tt : tot qs ≤ b
/-- a sum of these pairs, as they were given -/
def Own (C : Addr) (H : Hp) (x : Addr) (qs : List (Str × Int)) : Prop := ∃ rs, SumR C H x rs ∧ Mad qs rs
section
variable {K : PySem.W.Frag} {C a b l x : Addr} {H H' : Hp} {qs rs : List (Str × Int)} {n m c d : Nat} {Q : VK} {E : XK} {us : List TP}
/-- a list of pairs -/
structure Lsp (K : PySem.W.Frag) (H : Hp) (l : Addr) (us : List TP) : Prop where
  hd : H l = some (.lst (vP us))
  ps : TPs K H us
end
def sp_mults : Sp := fun vs H Q _ => ∃ (a : Addr) (n : Nat), vs = [.ref a] ∧ WellAt H a n ∧ n < 800000 ∧ ∀ H', Grow a H H' → WellAt H' a (n + 100) → Q (.bl true) H'
end RV
/-! rows of sums beside their models -/
namespace RV
open PySem L2 PyProof.Rows TL
/-! ### data that are equal -/
/-! ### what stands, where a list is changed -/
section
variable {K : PySem.W.Frag} {C t p l x : Addr} {H H' : Hp} {xs ys : List V} {us : List TP} {qs : List (Str × Int)}
theorem SqT.gro (h : SqT K H t xs) (e : H p = some (.lst ys)) (g : Grow p H H') : SqT K H' t xs := by
  rcases h with h | h
  · refine .inl ?_
    rcases h with h | ⟨o, h⟩
    · exact .inl (g _ _ (fun z => by rw [z, e] at h; cases h) h)
    · exact .inr ⟨o, g _ _ (fun z => by rw [z, e] at h; cases h) h⟩
  · exact .inr h
theorem Grow.put {o : HO} : Grow p H (upd H p o) := fun _ _ n e => by rw [upd_ne n]; exact e
end
/-! ### a sum and its model -/
abbrev Rw := Addr × Addr × List TP
structure One (K : PySem.W.Frag) (C : Addr) (H : Hp) (r : Rw) : Prop where
  sr : SumR C H r.1 (prs r.2.2)
  ls : Lsp K H r.2.1 r.2.2
/-- no coefficient of a model is greater -/
def lim : Nat := 3 * 10 ^ 33
structure Fit (pool : List Str) (us : List TP) : Prop where
  nr : Nrm (prs us)
  nm : ∀ q ∈ prs us, IsNm q.1
  pl : ∀ q ∈ prs us, q.1 ∈ pool
  sm : ∀ q ∈ prs us, q.2.natAbs ≤ lim
section
variable {pool pool' : List Str} {us ds : List TP} {K : PySem.W.Frag} {C x : Addr} {H : Hp} {qs rs : List (Str × Int)}
end
/-! ### steps with greater sums -/
section
variable {K : PySem.W.Frag} {C a b : Addr} {H : Hp} {qs rs : List (Str × Int)} {n m c d : Nat} {Q : VK}
end
section
variable {K : PySem.W.Frag} {l D : Addr} {us : List TP} {i j : Nat} {te : TE} {vs : List Nat} {σ : L2.St} {H1 : Hp} {Qd : Hp → Prop}
end
def rTupOf (K : PySem.W.Frag) : List V → Hp → VK → Prop := fun xs H Q => ∃ p ys, xs = [V.ref p] ∧ ((SqL K H p ys ∧ ∀ l, H l = none → Q (.ref l) (upd H l (.tup ys))) ∨ (SqT K H p ys ∧ Q (.ref p) H))
theorem call_tuple_ofK {X : Cx} {K : PySem.W.Frag} (h : X.K = K := by rfl) : CallR X (.type "tuple") (rTupOf K) := h ▸ call_tuple_of
/-! ### promises -/
def vS (rs : List Rw) : List V := rs.map fun r => .ref r.1
def vM (rs : List Rw) : List V := rs.map fun r => .ref r.2.1
section
variable {K : PySem.W.Frag} {a D : Addr} {rs : List Rw} {i : Nat} {te : TE} {vs : List Nat} {σ : L2.St} {H1 : Hp} {Qd : Hp → Prop}
end
/-- the greatest size -/
def sp_much (K : PySem.W.Frag) : Sp := fun vs H Q _ => ∃ (l : Addr) (us : List TP), vs = [.ref l] ∧ Lsp K H l us ∧ us.length ≤ 60 ∧ ∀ (m : Int) H', (∀ q ∈ prs us, (q.2.natAbs : Int) ≤ m) → Same H H' → Q (.int m) H'
def sp_allr (K : PySem.W.Frag) (C : Addr) : Sp := fun vs H Q _ => ∃ (S M : Addr) (rs : List Rw), vs = [.ref S, .ref M] ∧ SqL K H S (vS rs) ∧ SqL K H M (vM rs) ∧ (∀ r ∈ rs, One K C H r ∧ Due (prs r.2.2)) ∧ rs.length ≤ 20 ∧ ∀ H', Same H H' → Q (.bl true) H'
def sp_turn (K : PySem.W.Frag) (C : Addr) : Sp := fun vs H Q _ => ∃ (a S M : Addr) (n : Nat) (rs : List Rw) (pool : List Str), vs = [.ref a, .ref S, .ref M] ∧ WellAt H a n ∧ n < 600000 ∧ S ≠ a ∧ M ≠ a ∧ H S = some (.lst (vS rs)) ∧ H M = some (.lst (vM rs)) ∧ rs.length = 4 ∧
  (∀ r ∈ rs, One K C H r ∧ Fit pool r.2.2 ∧ r.2.1 ≠ a) ∧ pool.length ≤ 57 ∧
  ∀ (p x l : Addr) (us : List TP) (new : List Str) H', H' p = some (.lst [.ref x, .ref l]) → Own C H' x (prs us) → Lsp K H' l us → us.length ≤ 120 → (∀ q ∈ prs us, IsNm q.1 ∧ q.1 ∈ pool ++ new) → new.length ≤ 3 → (∀ y, (co (prs us) y).natAbs ≤ lim) →
    Grow a H H' → WellAt H' a (n + 1010) → Q (.ref p) H'
def sp_row : Sp := fun vs H Q _ => ∃ (a : Addr) (n : Nat), vs = [.ref a] ∧ WellAt H a n ∧ n < 1000 ∧ ∀ H', Grow a H H' → Q (.bl true) H'
end RV
/-! a row: a list of sums and a list of their models, both changed in place; older ones -/
namespace RV
open PySem L2 PyProof.Rows TL
structure RowAt (K : PySem.W.Frag) (C : Addr) (H0 H : Hp) (a : Addr) (n : Nat) (S M : Addr) (rs os : List Rw) (pool : List Str) (L : List (Addr × HO)) : Prop where
  hs : Has H0 a n ((S, .lst (vS rs)) :: (M, .lst (vM rs)) :: L) H
  s0 : H0 S = none
  m0 : H0 M = none
  sm : S ≠ M
  off : ∀ p ∈ L, p.1 ≠ S ∧ p.1 ≠ M
  ln : rs.length = 4
  on : ∀ r ∈ rs ++ os, One K C H r ∧ Fit pool r.2.2 ∧ r.2.1 ≠ a ∧ r.2.1 ≠ S ∧ r.2.1 ≠ M
section
variable {K : PySem.W.Frag} {C : Addr} {H0 H H' : Hp} {a S M p : Addr} {n m : Nat} {rs os os' : List Rw} {pool pool' : List Str} {L L' : List (Addr × HO)} {o : HO}
end
end RV
/-! nets: pipes, meters, nets in the heap; promises of their methods -/
namespace RV
open PySem L2 PyProof.Rows TL
def sp_check (K : PySem.W.Frag) : Sp := fun vs H Q _ => ∃ (t : Addr) (xs : List Str), vs = [.ref t] ∧ SqT K H t (xs.map V.str) ∧ (∀ x ∈ xs, IsNm x) ∧ ∀ H', Same H H' → Q .non H'
theorem k12 : ¬ (("_name" : Str) = "_start") := by decide +kernel
theorem k13 : ¬ (("_name" : Str) = "_end") := by decide +kernel
theorem k23 : ¬ (("_start" : Str) = "_end") := by decide +kernel
theorem k14 : ¬ (("_name" : Str) = "_at") := by decide +kernel
theorem k15 : ¬ (("_name" : Str) = "_sealed") := by decide +kernel
theorem k45 : ¬ (("_at" : Str) = "_sealed") := by decide +kernel
def pipeF (n s e : Str) : List (Str × V) := putF "_end" (.str e) (putF "_start" (.str s) (putF "_name" (.str n) []))
theorem pipeF_n (n s e : Str) : (pipeF n s e).lookup ("_name" : Str) = some (.str n) := by
  unfold pipeF
  rw [lookup_putF, if_neg k13, lookup_putF, if_neg k12, lookup_putF, if_pos rfl]
theorem pipeF_s (n s e : Str) : (pipeF n s e).lookup ("_start" : Str) = some (.str s) := by
  unfold pipeF
  rw [lookup_putF, if_neg k23, lookup_putF, if_pos rfl]
theorem pipeF_e (n s e : Str) : (pipeF n s e).lookup ("_end" : Str) = some (.str e) := by
  unfold pipeF
  rw [lookup_putF, if_pos rfl]
theorem putF_len (f : Str) (v : V) : ∀ fs : List (Str × V), (putF f v fs).length ≤ fs.length + 1
  | [] => Nat.le_refl _
  | (g, x) :: r => by
    show (if g = f then (g, v) :: r else (g, x) :: putF f v r).length ≤ _
    split
    · simp
    · have := putF_len f v r
      simp only [List.length_cons]
      omega
def metF (n a : Str) (z : Bool) : List (Str × V) := putF "_sealed" (.bl z) (putF "_at" (.str a) (putF "_name" (.str n) []))
theorem metF_n (n a : Str) (z : Bool) : (metF n a z).lookup ("_name" : Str) = some (.str n) := by
  unfold metF
  rw [lookup_putF, if_neg k15, lookup_putF, if_neg k14, lookup_putF, if_pos rfl]
theorem metF_a (n a : Str) (z : Bool) : (metF n a z).lookup ("_at" : Str) = some (.str a) := by
  unfold metF
  rw [lookup_putF, if_neg k45, lookup_putF, if_pos rfl]
theorem metF_z (n a : Str) (z : Bool) : (metF n a z).lookup ("_sealed" : Str) = some (.bl z) := by
  unfold metF
  rw [lookup_putF, if_pos rfl]
def sp_Pipe (C : Addr) : Sp := fun vs H Q _ => ∃ (x dx : Addr) (n s e : Str), vs = [.ref x, .str n, .str s, .str e] ∧ H x = some (.ins C dx []) ∧ IsNm n ∧ IsNm s ∧ IsNm e ∧ e ≠ s ∧
  ∀ H', (∀ b o, b ≠ x → H b = some o → H' b = some o) → (∃ dx, H' x = some (.ins C dx (pipeF n s e))) → Q .non H'
def sp_Meter (C : Addr) : Sp := fun vs H Q _ => ∃ (x dx : Addr) (n a : Str) (z : Bool), vs = [.ref x, .str n, .str a, .bl z] ∧ H x = some (.ins C dx []) ∧ IsNm n ∧ IsNm a ∧
  ∀ H', (∀ b o, b ≠ x → H b = some o → H' b = some o) → (∃ dx, H' x = some (.ins C dx (metF n a z))) → Q .non H'
abbrev P3 := Str × Str × Str
abbrev M3 := Str × Str × Bool
def PipeAt (C : Addr) (H : Hp) (p : Addr) (q : P3) : Prop := ∃ dx, H p = some (.ins C dx (pipeF q.1 q.2.1 q.2.2))
def MetAt (C : Addr) (H : Hp) (p : Addr) (q : M3) : Prop := ∃ dx, H p = some (.ins C dx (metF q.1 q.2.1 q.2.2))
theorem PipeAt.ext {C p : Addr} {H H' : Hp} {q : P3} (h : PipeAt C H p q) (s : Same H H') : PipeAt C H' p q := h.imp fun _ e => s _ _ e
theorem MetAt.ext {C p : Addr} {H H' : Hp} {q : M3} (h : MetAt C H p q) (s : Same H H') : MetAt C H' p q := h.imp fun _ e => s _ _ e
theorem PipeAt.gro {C a p : Addr} {H H' : Hp} {q : P3} {ys : List V} (h : PipeAt C H p q) (e : H a = some (.lst ys)) (g : Grow a H H') : PipeAt C H' p q := by
  obtain ⟨dx, z⟩ := h
  exact ⟨dx, g _ _ (fun w => by rw [w, e] at z; cases z) z⟩
theorem MetAt.gro {C a p : Addr} {H H' : Hp} {q : M3} {ys : List V} (h : MetAt C H p q) (e : H a = some (.lst ys)) (g : Grow a H H') : MetAt C H' p q := by
  obtain ⟨dx, z⟩ := h
  exact ⟨dx, g _ _ (fun w => by rw [w, e] at z; cases z) z⟩
/-- a pipe's, a meter's own properties -/
def sp_pn (C : Addr) : Sp := fun vs H Q _ => ∃ (a : Addr) (q : P3), vs = [.ref a] ∧ PipeAt C H a q ∧ Q (.str q.1) H
def sp_ps (C : Addr) : Sp := fun vs H Q _ => ∃ (a : Addr) (q : P3), vs = [.ref a] ∧ PipeAt C H a q ∧ Q (.str q.2.1) H
def sp_pe (C : Addr) : Sp := fun vs H Q _ => ∃ (a : Addr) (q : P3), vs = [.ref a] ∧ PipeAt C H a q ∧ Q (.str q.2.2) H
def sp_mn (C : Addr) : Sp := fun vs H Q _ => ∃ (a : Addr) (q : M3), vs = [.ref a] ∧ MetAt C H a q ∧ Q (.str q.1) H
def sp_ma (C : Addr) : Sp := fun vs H Q _ => ∃ (a : Addr) (q : M3), vs = [.ref a] ∧ MetAt C H a q ∧ Q (.str q.2.1) H
def sp_mz (C : Addr) : Sp := fun vs H Q _ => ∃ (a : Addr) (q : M3), vs = [.ref a] ∧ MetAt C H a q ∧ Q (.bl q.2.2) H
/-- two of a kind are compared -/
def sp_Peq (C : Addr) : Sp := fun vs H Q _ => ∃ (a b : Addr) (q r : P3), vs = [.ref a, .ref b] ∧ PipeAt C H a q ∧ PipeAt C H b r ∧ Q (.bl (decide (q = r))) H
def sp_Meq (C : Addr) : Sp := fun vs H Q _ => ∃ (a b : Addr) (q r : M3), vs = [.ref a, .ref b] ∧ MetAt C H a q ∧ MetAt C H b r ∧ Q (.bl (decide (q = r))) H
structure PClass (K : PySem.W.Frag) (mg : Str → Option Value) (C : Addr) : Prop where
  x : ClsX K C
  k : mg "Pipe" = some (.ref C)
  n1 : NoAttr K C "_name"
  n2 : NoAttr K C "_start"
  n3 : NoAttr K C "_end"
  me : PySem.W.kitOne K (.ref C) (.ref C) = some true
structure MClass (K : PySem.W.Frag) (mg : Str → Option Value) (C : Addr) : Prop where
  x : ClsX K C
  k : mg "Meter" = some (.ref C)
  n1 : NoAttr K C "_name"
  n2 : NoAttr K C "_at"
  n3 : NoAttr K C "_sealed"
  me : PySem.W.kitOne K (.ref C) (.ref C) = some true
structure NClass (K : PySem.W.Frag) (mg : Str → Option Value) (C : Addr) : Prop where
  x : ClsX K C
  k : mg "Net" = some (.ref C)
  n1 : NoAttr K C "_pipes"
  n2 : NoAttr K C "_meters"
  me : PySem.W.kitOne K (.ref C) (.ref C) = some true
section
variable {H : Hp} {R : Hp → Prop} {E : XK} {C x dx : Addr} {n s e : Str} {z : Bool}
theorem Pipe_kp (h1 : IsNm n) (h2 : IsNm s) (h3 : IsNm e) (hne : e ≠ s) (hx : H x = none) (hd : H dx = none) (_ : dx ≠ x) (k : ∀ H', Same H H' → PipeAt C H' x (n, s, e) → R H') :
    Irr (sp_Pipe C) [.ref x, .str n, .str s, .str e] (upd (upd H dx (.own x)) x (.ins C dx [])) (fun v H2 => v = .non ∧ R H2) E :=
  irr ⟨x, dx, n, s, e, rfl, upd_same, h1, h2, h3, hne, fun H' g p => ⟨rfl, k H' (fun b o eb => g b o (ne_of_none eb hx) (by rw [upd_ne (ne_of_none eb hx), upd_ne (ne_of_none eb hd)]; exact eb)) p⟩⟩
theorem Meter_kp (h1 : IsNm n) (h2 : IsNm s) (hx : H x = none) (hd : H dx = none) (_ : dx ≠ x) (k : ∀ H', Same H H' → MetAt C H' x (n, s, z) → R H') :
    Irr (sp_Meter C) [.ref x, .str n, .str s, .bl z] (upd (upd H dx (.own x)) x (.ins C dx [])) (fun v H2 => v = .non ∧ R H2) E :=
  irr ⟨x, dx, n, s, z, rfl, upd_same, h1, h2, fun H' g p => ⟨rfl, k H' (fun b o eb => g b o (ne_of_none eb hx) (by rw [upd_ne (ne_of_none eb hx), upd_ne (ne_of_none eb hd)]; exact eb)) p⟩⟩
end
theorem strs_flat : ∀ xs : List Str, (xs.map V.str).all flatV = true
  | [] => rfl
  | x :: xs => by simp [flatV, strs_flat xs]
/-- a name is not among those in front of it -/
theorem nodup_take {α : Type} {f : α → Str} : ∀ {xs : List α} {i : Nat} {x : α}, (xs.map f).Nodup → xs[i]? = some x → f x ∉ (xs.take i).map f
  | [], _, _, _, h => by simp at h
  | y :: ys, 0, x, _, _ => by simp
  | y :: ys, i + 1, x, nd, h => by
    rw [List.map_cons, List.nodup_cons] at nd
    rw [List.getElem?_cons_succ] at h
    rw [List.take_succ_cons, List.map_cons, List.mem_cons]
    rintro (e | e)
    · exact nd.1 (by rw [← e]; exact List.mem_map.mpr ⟨x, List.mem_of_getElem? h, rfl⟩)
    · exact nodup_take nd.2 h e
/-! ### nets -/
theorem kPM : ¬ (("_pipes" : Str) = "_meters") := by decide +kernel
def netF (tp tm : Addr) : List (Str × V) := putF "_meters" (.ref tm) (putF "_pipes" (.ref tp) [])
theorem netF_p (tp tm : Addr) : (netF tp tm).lookup ("_pipes" : Str) = some (.ref tp) := by
  unfold netF
  rw [lookup_putF, if_neg kPM, lookup_putF, if_pos rfl]
theorem netF_m (tp tm : Addr) : (netF tp tm).lookup ("_meters" : Str) = some (.ref tm) := by
  unfold netF
  rw [lookup_putF, if_pos rfl]
abbrev PU := Addr × P3
abbrev MU := Addr × M3
def rf {α : Type} (us : List (Addr × α)) : List V := us.map fun u => .ref u.1
def sn {α : Type} (us : List (Addr × α)) : List α := us.map (·.2)
theorem rf_len {α : Type} (us : List (Addr × α)) : (rf us).length = us.length := List.length_map _
theorem sn_len {α : Type} (us : List (Addr × α)) : (sn us).length = us.length := List.length_map _
/-- a tuple of pipes, of meters -/
structure Tps (K : PySem.W.Frag) (C : Addr) (H : Hp) (t : Addr) (us : List PU) : Prop where
  t : SqT K H t (rf us)
  o : ∀ u ∈ us, PipeAt C H u.1 u.2
structure Tms (K : PySem.W.Frag) (C : Addr) (H : Hp) (t : Addr) (us : List MU) : Prop where
  t : SqT K H t (rf us)
  o : ∀ u ∈ us, MetAt C H u.1 u.2
theorem Tps.ext {K : PySem.W.Frag} {C t : Addr} {H H' : Hp} {us : List PU} (h : Tps K C H t us) (s : Same H H') : Tps K C H' t us := ⟨h.t.ext s, fun u hu => (h.o u hu).ext s⟩
theorem Tms.ext {K : PySem.W.Frag} {C t : Addr} {H H' : Hp} {us : List MU} (h : Tms K C H t us) (s : Same H H') : Tms K C H' t us := ⟨h.t.ext s, fun u hu => (h.o u hu).ext s⟩
/-- what a net's pipes, a net's meters are -/
structure POk (ps : List P3) : Prop where
  n0 : ps ≠ []
  ln : ps.length ≤ 12
  nm : ∀ p ∈ ps, IsNm p.1 ∧ IsNm p.2.1 ∧ IsNm p.2.2 ∧ p.2.2 ≠ p.2.1
  nd : (ps.map (·.1)).Nodup
structure MOk (ps : List P3) (ms : List M3) : Prop where
  ln : ms.length ≤ 12
  nm : ∀ m ∈ ms, IsNm m.1 ∧ IsNm m.2.1
  nd : (ms.map (·.1)).Nodup
  on : ∀ m ∈ ms, m.2.1 ∈ ps.map (·.1)
/-- a net in the heap -/
structure NetR (K : PySem.W.Frag) (CN CP CM : Addr) (H : Hp) (x : Addr) (ps : List P3) (ms : List M3) : Prop where
  ex : ∃ (dx tp tm : Addr) (pu : List PU) (mu : List MU), H x = some (.ins CN dx (netF tp tm)) ∧ Tps K CP H tp pu ∧ Tms K CM H tm mu ∧ sn pu = ps ∧ sn mu = ms
theorem NetR.ext {K : PySem.W.Frag} {CN CP CM x : Addr} {H H' : Hp} {ps : List P3} {ms : List M3} (h : NetR K CN CP CM H x ps ms) (s : Same H H') : NetR K CN CP CM H' x ps ms := by
  obtain ⟨dx, tp, tm, pu, mu, e, h1, h2, h3⟩ := h.ex
  exact ⟨dx, tp, tm, pu, mu, s _ _ e, h1.ext s, h2.ext s, h3⟩
def sp_index (K : PySem.W.Frag) (CP : Addr) : Sp := fun vs H Q _ => ∃ (t : Addr) (us : List PU) (y : Str), vs = [.ref t, .str y] ∧ Tps K CP H t us ∧ us.length ≤ 12 ∧ y ∈ (sn us).map (·.1) ∧ ∀ (i : Nat) H', ((sn us)[i]?).map (·.1) = some y → Same H H' → Q (.int (i : Nat)) H'
def sp_chkP (K : PySem.W.Frag) (CP : Addr) : Sp := fun vs H Q _ => ∃ (t : Addr) (us : List PU), vs = [.ref t] ∧ Tps K CP H t us ∧ POk (sn us) ∧ ∀ H', Same H H' → Q .non H'
def sp_chkM (K : PySem.W.Frag) (CP CM : Addr) : Sp := fun vs H Q _ => ∃ (t tp : Addr) (us : List MU) (pu : List PU), vs = [.ref t, .ref tp] ∧ Tms K CM H t us ∧ Tps K CP H tp pu ∧ pu.length ≤ 12 ∧ MOk (sn pu) (sn us) ∧ ∀ H', Same H H' → Q .non H'
def sp_Net (K : PySem.W.Frag) (CN CP CM : Addr) : Sp := fun vs H Q _ => ∃ (x dx tp tm : Addr) (pu : List PU) (mu : List MU), vs = [.ref x, .ref tp, .ref tm] ∧ H x = some (.ins CN dx []) ∧ Tps K CP H tp pu ∧ Tms K CM H tm mu ∧ POk (sn pu) ∧ MOk (sn pu) (sn mu) ∧
  ∀ H', (∀ b o, b ≠ x → H b = some o → H' b = some o) → (∃ dx, H' x = some (.ins CN dx (netF tp tm))) → Q .non H'
section
variable {K : PySem.W.Frag} {CN CP CM x dx tp tm : Addr} {H : Hp} {pu : List PU} {mu : List MU} {R : Hp → Prop} {E : XK}
theorem Net_kp (hp : Tps K CP H tp pu) (hm : Tms K CM H tm mu) (po : POk (sn pu)) (mo : MOk (sn pu) (sn mu)) (hx : H x = none) (hd : H dx = none) (_ : dx ≠ x) (k : ∀ H', Same H H' → NetR K CN CP CM H' x (sn pu) (sn mu) → R H') :
    Irr (sp_Net K CN CP CM) [.ref x, .ref tp, .ref tm] (upd (upd H dx (.own x)) x (.ins CN dx [])) (fun v H2 => v = .non ∧ R H2) E := by
  have s : Same H (upd (upd H dx (.own x)) x (.ins CN dx [])) := fun b o eb => by rw [upd_ne (ne_of_none eb hx), upd_ne (ne_of_none eb hd)]; exact eb
  refine irr ⟨x, dx, tp, tm, pu, mu, rfl, upd_same, hp.ext s, hm.ext s, po, mo, fun H' g p => ⟨rfl, ?_⟩⟩
  have s' : Same H H' := fun b o eb => g b o (ne_of_none eb hx) (s b o eb)
  obtain ⟨dx', p⟩ := p
  exact k H' s' ⟨dx', tp, tm, pu, mu, p, hp.ext s', hm.ext s', rfl, rfl⟩
end
end RV
/-! comprehensions: one thing for each item; the items that fit -/
namespace RV
open PySem L2 PyProof.Rows TL
section
variable {α β : Type} {K : PySem.W.Frag} {D : Addr} {xs : List V} {i : Nat} {te : TE} {tt : TT} {vs : List Nat} {σ : L2.St} {H1 : Hp} {Qd : Hp → Prop} {J : It} {GG : Hp → Prop}
/-- [f(x) for x in xs]: each turn gives a value of which something is known -/
theorem lc_new (val : β → V) (Pk : Nat → β → Hp → Prop) (wk : Walk J xs.length GG (YAt xs)) (nD : H1 D = none) (len : xs.length ≤ 1000) (hG : ∀ H', Same H1 H' → GG H') (hw : ∀ x, wipe ((wipe σ vs).set i x) vs = wipe σ vs)
    (ext : ∀ k b H H', Same H H' → Pk k b H → Pk k b H') (put : ∀ k b H acc acc', H D = some (.lst acc) → Pk k b H → Pk k b (upd H D (.lst acc')))
    (h : ∀ k x, xs[k]? = some x → ∀ H2, Same H1 H2 → (∃ acc, H2 D = some (.lst acc)) → ∀ R : VK, (∀ b H3, Same H2 H3 → Pk k b H3 → R (val b) H3) → te ((wipe σ vs).set i (some x)) H2 R)
    (k : ∀ (bs : List β) H', Same H1 H' → bs.length = xs.length → (∀ k b, bs[k]? = some b → Pk k b H') → H' D = some (.lst (bs.map val)) → Qd H') :
    ∃ W : Nat → Nat → Hp → Prop, (∃ m, W 0 m (upd H1 D (.lst []))) ∧ ∀ i' m H, W i' m H →
      (J.stop i' H ∧ Qd H) ∨ (J.go i' H ∧ ∃ Nx : Hp → Prop, (∀ H', Nx H' → ∃ m', m' < m ∧ W (i' + 1) m' H') ∧ ∀ x H', J.yld i' H x H' → gName i x (wipe σ vs) H' fun σ2 H2 => wipe σ2 vs = wipe σ vs ∧ tYes σ2 H2 fun b H3 =>
        if b = true then te σ2 H3 fun y H4 => ∃ acc, H4 D = some (.lst acc) ∧ acc.length < sizeLine ∧ Nx (upd H4 D (.lst (acc ++ [y]))) else Nx H3) := by
  refine L2.lc_it wk (fun i' H' => ∃ bs : List β, bs.length = i' ∧ Same H1 H' ∧ H' D = some (.lst (bs.map val)) ∧ ∀ k b, bs[k]? = some b → Pk k b H')
    ⟨[], rfl, fun b o e => (upd_ne (ne_of_none e nD)).trans e, upd_same, fun k b e => by simp at e⟩ (fun i' H' _ z => ?_) (fun i' x Ha Hb hi hv y => ?_) (fun H' hv => ?_)
  · obtain ⟨_, _, s, _⟩ := z
    exact hG _ s
  · obtain ⟨bs, hb, s, eD, hp⟩ := hv
    obtain ⟨rfl, hx⟩ := y
    have e0 : ∀ (σ : L2.St) (H : Hp) (R : Bool → Hp → Prop), R true H → tYes σ H R := fun _ _ _ r => r
    refine ⟨hw _, e0 _ _ _ ?_⟩
    simp only [↓reduceIte]
    refine h i' x hx Hb s ⟨_, eD⟩ _ fun b H3 s3 pb => ?_
    have eD3 := s3 _ _ eD
    refine ⟨_, eD3, ?_, bs ++ [b], by rw [List.length_append, hb]; rfl, fun c o e => ?_, by rw [upd_same, List.map_append]; rfl, fun k c e => ?_⟩
    · rw [List.length_map, hb]
      exact Nat.lt_of_lt_of_le (show i' < 1001 by omega) (by decide)
    · rw [upd_ne (ne_of_none e nD)]
      exact s3 _ _ (s _ _ e)
    · refine put _ _ _ _ _ eD3 ?_
      rw [List.getElem?_append] at e
      split at e
      · exact ext _ _ _ _ s3 (hp k c e)
      · rename_i hk
        have : k - bs.length = 0 := by
          have := (List.getElem?_eq_some_iff.mp e).1
          simp at this
          omega
        rw [this] at e
        obtain rfl : b = c := Option.some.inj e
        rw [show k = i' by omega]
        exact pb
  · obtain ⟨bs, hb, s, eD, hp⟩ := hv
    exact k bs H' s hb hp eD
/-- [f(x) for x in xs]: plain values -/
theorem lc_to (ys : List V) (hl : ys.length = xs.length) (wk : Walk J xs.length GG (YAt xs)) (nD : H1 D = none) (len : xs.length ≤ 1000) (hG : ∀ H', Same H1 H' → GG H') (hw : ∀ x, wipe ((wipe σ vs).set i x) vs = wipe σ vs)
    (h : ∀ (k : Nat) (x y : V), xs[k]? = some x → ys[k]? = some y → ∀ H2, Same H1 H2 → ∀ R : VK, (∀ H3, Same H2 H3 → R y H3) → te ((wipe σ vs).set i (some x)) H2 R)
    (k : ∀ H', Same H1 H' → H' D = some (.lst ys) → Qd H') :
    ∃ W : Nat → Nat → Hp → Prop, (∃ m, W 0 m (upd H1 D (.lst []))) ∧ ∀ i' m H, W i' m H →
      (J.stop i' H ∧ Qd H) ∨ (J.go i' H ∧ ∃ Nx : Hp → Prop, (∀ H', Nx H' → ∃ m', m' < m ∧ W (i' + 1) m' H') ∧ ∀ x H', J.yld i' H x H' → gName i x (wipe σ vs) H' fun σ2 H2 => wipe σ2 vs = wipe σ vs ∧ tYes σ2 H2 fun b H3 =>
        if b = true then te σ2 H3 fun y H4 => ∃ acc, H4 D = some (.lst acc) ∧ acc.length < sizeLine ∧ Nx (upd H4 D (.lst (acc ++ [y]))) else Nx H3) := by
  refine lc_new (β := V) id (fun (k : Nat) (b : V) (_ : Hp) => (ys[k]? : Option V) = some b) wk nD len hG hw (fun _ _ _ _ _ e => e) (fun _ _ _ _ _ _ e => e) (fun k x hx H2 s2 _ R r => ?_) fun bs H' s' bl bp eD => ?_
  · have hk := (List.getElem?_eq_some_iff.mp hx).1
    have e : ys[k]? = some (ys[k]'(by omega)) := List.getElem?_eq_getElem _
    exact h k x _ hx e H2 s2 R fun H3 s3 => r _ H3 s3 e
  · refine k H' s' ?_
    rw [eD, List.map_id]
    congr 2
    refine List.ext_getElem? fun j => ?_
    cases e : bs[j]? with
    | some b => rw [bp j b e]
    | none => rw [List.getElem?_eq_none_iff] at e; rw [List.getElem?_eq_none (by omega)]
/-- [x for x in xs if p(x)] over things at addresses -/
theorem lc_keep {us : List (Addr × α)} (p : Addr × α → Bool) (wk : Walk J (rf us).length GG (YAt (rf us))) (nD : H1 D = none) (len : us.length ≤ 1000) (hG : ∀ H', Same H1 H' → GG H') (hw : ∀ x, wipe ((wipe σ vs).set i x) vs = wipe σ vs)
    (ht : ∀ u ∈ us, ∀ H2, Same H1 H2 → ∀ R : Bool → Hp → Prop, (∀ H3, Same H2 H3 → R (p u) H3) → tt ((wipe σ vs).set i (some (.ref u.1))) H2 R)
    (he : ∀ u ∈ us, ∀ H2, ∀ R : VK, R (.ref u.1) H2 → te ((wipe σ vs).set i (some (.ref u.1))) H2 R)
    (k : ∀ H', Same H1 H' → H' D = some (.lst (rf (us.filter p))) → Qd H') :
    ∃ W : Nat → Nat → Hp → Prop, (∃ m, W 0 m (upd H1 D (.lst []))) ∧ ∀ i' m H, W i' m H →
      (J.stop i' H ∧ Qd H) ∨ (J.go i' H ∧ ∃ Nx : Hp → Prop, (∀ H', Nx H' → ∃ m', m' < m ∧ W (i' + 1) m' H') ∧ ∀ x H', J.yld i' H x H' → gName i x (wipe σ vs) H' fun σ2 H2 => wipe σ2 vs = wipe σ vs ∧ tt σ2 H2 fun b H3 =>
        if b = true then te σ2 H3 fun y H4 => ∃ acc, H4 D = some (.lst acc) ∧ acc.length < sizeLine ∧ Nx (upd H4 D (.lst (acc ++ [y]))) else Nx H3) := by
  refine L2.lc_it wk (fun i' H' => Same H1 H' ∧ H' D = some (.lst (rf ((us.take i').filter p))))
    ⟨fun b o e => (upd_ne (ne_of_none e nD)).trans e, upd_same⟩ (fun i' H' _ z => hG _ z.1) (fun i' x Ha Hb hi hv y => ?_) (fun H' hv => ?_)
  · obtain ⟨s, eD⟩ := hv
    obtain ⟨rfl, hx⟩ := y
    rw [rf, List.getElem?_map] at hx
    cases hu : us[i']? with
    | none => rw [hu] at hx; cases hx
    | some u =>
      rw [hu] at hx
      obtain rfl : V.ref u.1 = x := Option.some.inj hx
      have hm := List.mem_of_getElem? hu
      have et : us.take (i' + 1) = us.take i' ++ [u] := by rw [List.take_add_one, hu]; rfl
      refine ⟨hw _, ht u hm Hb s _ fun H3 s3 => ?_⟩
      have eD3 := s3 _ _ eD
      cases hp : p u with
      | false =>
        refine iteF ⟨fun b o e => s3 b o (s b o e), ?_⟩
        rw [eD3, et, List.filter_append, List.filter_cons_of_neg (by rw [hp]; decide), List.filter_nil, List.append_nil]
      | true =>
        refine iteT (he u hm H3 _ ⟨_, eD3, ?_, fun b o e => ?_, ?_⟩)
        · rw [rf_len]
          have l1 := List.length_filter_le p (us.take i')
          have l3 := List.length_take_le' i' us
          exact Nat.lt_of_le_of_lt (Nat.le_trans l1 (Nat.le_trans l3 len)) (by decide)
        · rw [upd_ne (ne_of_none e nD)]
          exact s3 _ _ (s _ _ e)
        · rw [upd_same, et, List.filter_append, List.filter_cons_of_pos hp, List.filter_nil, rf, rf, List.map_append]
          rfl
  · obtain ⟨s, eD⟩ := hv
    rw [rf_len, List.take_length] at eD
    exact k H' s eD
end
/-! ### the lines of a net -/
def pline (q : P3) : Str := Str.empty ++ "pipe " ++ q.1 ++ " " ++ q.2.1 ++ " " ++ q.2.2
def mseal (z : Bool) : Str := if z then " sealed" else ""
def mline (q : M3) : Str := Str.empty ++ "meter " ++ q.1 ++ " " ++ q.2.1 ++ mseal q.2.2
def netL (ps : List P3) (ms : List M3) : List Str := ps.map pline ++ ms.map mline
def netT (ps : List P3) (ms : List M3) : Str := Txt.join "\n" (netL ps ms)
def sp_pline (CP : Addr) : Sp := fun vs H Q _ => ∃ (a : Addr) (q : P3), vs = [.ref a] ∧ PipeAt CP H a q ∧ IsNm q.1 ∧ IsNm q.2.1 ∧ IsNm q.2.2 ∧ Q (.str (pline q)) H
def sp_mline (CM : Addr) : Sp := fun vs H Q _ => ∃ (a : Addr) (q : M3), vs = [.ref a] ∧ MetAt CM H a q ∧ IsNm q.1 ∧ IsNm q.2.1 ∧ Q (.str (mline q)) H
/-- names that a text is made of -/
def PNm (ps : List P3) : Prop := ∀ p ∈ ps, IsNm p.1 ∧ IsNm p.2.1 ∧ IsNm p.2.2
def MNm (ms : List M3) : Prop := ∀ p ∈ ms, IsNm p.1 ∧ IsNm p.2.1
def sp_lines (K : PySem.W.Frag) (CP CM : Addr) : Sp := fun vs H Q _ => ∃ (tp tm : Addr) (pu : List PU) (mu : List MU), vs = [.ref tp, .ref tm] ∧ Tps K CP H tp pu ∧ Tms K CM H tm mu ∧ PNm (sn pu) ∧ MNm (sn mu) ∧ pu.length ≤ 20 ∧ mu.length ≤ 20 ∧
  ∀ l H', Kp H [(l, .lst ((netL (sn pu) (sn mu)).map V.str))] H' → Q (.ref l) H'
def sp_nstr (K : PySem.W.Frag) (CN CP CM : Addr) : Sp := fun vs H Q _ => ∃ (x : Addr) (ps : List P3) (ms : List M3), vs = [.ref x] ∧ NetR K CN CP CM H x ps ms ∧ PNm ps ∧ MNm ms ∧ ps.length ≤ 20 ∧ ms.length ≤ 20 ∧ ∀ H', Same H H' → Q (.str (netT ps ms)) H'
theorem nm8 {x : Str} (h : IsNm x) : 1 ≤ x.length ∧ x.length ≤ 8 := by rw [cd_len]; exact isNm_len h
end RV
set_option linter.all false
/-! == of tuples of own objects: all equal, or one of them empty -/
namespace GQ
open PySem PySem.SeqAt
open AutoSeq1 (wpAny_loadPart')
open MeetsSeq MeetsSeq2 MeetsSeq3 SeqRoads2
section
variable {prog : Program} {w : World} {A : Around} {R : Result → Shared → Prop}
theorem rv_tuple_eq0 (l b : Addr) (items items2 : Array Value) (n n2 : Nat) (dd dd2 : Option Addr) (sl sl2 : Array (Option Value)) (h0 : items.size = 0 ∨ items2.size = 0) (hne : items.size ≠ items2.size)
    {s : Shared} (fin : R (.ok (.ret (.bool false))) s) (hl1 : s.heap.get? l = some { cls := .type "tuple", dict := dd, data := .seq items n, slots := sl }) (hb1 : s.heap.get? b = some { cls := .type "tuple", dict := dd2, data := .seq items2 n2, slots := sl2 }) :
    wpAny (model prog w) A.in1 (Builtin.«tuple.__eq__» ⟨[.ref l, .ref b], []⟩) (FinOf prog w A R) (fun e s' => R (.error e) s') s := by
  have f2 := AutoSeq1.sub_tuple_tuple
  have hZ : items.toList.zip items2.toList = [] := by
    rcases h0 with h | h
    · rw [show items = #[] from Array.eq_empty_of_size_eq_zero h]
      rfl
    · rw [show items2 = #[] from Array.eq_empty_of_size_eq_zero h]
      simp
  have hs : ∃ t, t = s := ⟨s, rfl⟩
  obtain ⟨t, ht⟩ := hs
  obtain ⟨hp, g, d, tk, os⟩ := s
  wp_walk using wpAny_loadPart' hl1, wpAny_loadPart' hb1, wpAny_forIn_list _ (fun rest b s' => b.1 = none ∧ rest = [] ∧ s' = t) _
  case turn =>
    rintro ⟨y, x⟩ rest b s' ⟨_, hz, _⟩
    cases hz
  case fin =>
    rintro ⟨b1, b2⟩ s' ⟨hb', _, hs'⟩
    simp only at hb'
    subst hb'
    subst hs'
    subst ht
    wp_walk
    have e : (items.size == items2.size) = false := by simpa using hne
    simp only [Builtin.Tuple.tupleCompareSizes]
    show R (.ok (.ret (.bool (items.size == items2.size)))) _
    rw [e]
    exact fin
  case h =>
    exact ⟨rfl, hZ, ht.symm⟩
end
section
variable {prog : Program} {w : World} {A : Around} {E : Value → Shared → Prop} {s : Shared}
theorem rv_rc_tup0 {l b : Addr} {items items2 : Array Value} {Q : Value → Shared → Prop} (h0 : items.size = 0 ∨ items2.size = 0) (hne : items.size ≠ items2.size) (hu : A.units < cLine)
    (hl : s.heap.IsTuple l items) (hb : s.heap.IsTuple b items2) (fin : Q (.bool false) s) : wpAny (model prog w) A (richCompare .Eq (.ref l) (.ref b)) Q E s := by
  obtain ⟨⟨cls, dd, data, sl⟩, ho, hc, n, hd⟩ := id hl
  obtain ⟨⟨cls2, dd2, data2, sl2⟩, ho2, hc2, n2, hd2⟩ := id hb
  simp only at hc hd hc2 hd2
  subst hc hd hc2 hd2
  refine wpAny_richCompare_same_room (op := .Eq) ⟨_, ho, rfl⟩ ⟨_, ho2, rfl⟩ F.slot_tuple_eq (call_here F.slot_tuple_eq ⟨_, ho, rfl⟩ F.entry_tuple_eq (F.args_tuple_eq_2 _ _) ?_) hu
  exact rv_tuple_eq0 (R := wants (fun v s' => v ≠ .notImplemented ∧ Q v s') E) l b items items2 n n2 dd dd2 sl sl2 h0 hne ⟨(fun x => nomatch x), fin⟩ ho ho2
end
end GQ
namespace RV
open PySem L2 PyProof.Rows
def rEqTup (K : PySem.W.Frag) (D : Eqv) : R2 := fun x y H Q => (DTup K D x y H ∧ ∀ H', Ext H H' → Q (.bl true) H') ∨
  (∃ a b xs ys, x = .ref a ∧ y = .ref b ∧ SqT K H a xs ∧ SqT K H b ys ∧ (xs.length = 0 ∨ ys.length = 0) ∧ xs.length ≠ ys.length ∧ Q (.bl false) H)
theorem op_eqTup {X : Cx} {n : Nat} {D : Eqv} (h : RcG X n (DTup X.K D)) (hr : Room n X.A) : OpR X (compareOp .Eq) (rEqTup X.K D) := by
  intro pins s σ H x y v u Q I rx ry hq
  rcases hq with hq | hq
  · exact op_eqG h hr pins s σ H x y v u Q I rx ry hq
  · obtain ⟨a, b, xs, ys, rfl, rfl, ha, hb, h0, hne, q⟩ := hq
    cases rx
    cases ry
    obtain ⟨its, r, e, z⟩ := I.tuple ha
    obtain ⟨its2, r2, e2, z2⟩ := I.tuple hb
    show wpAny (model X.prog X.w) X.A (richCompare .Eq (.ref a) (.ref b)) (EP X pins σ Q) X.xe s
    refine GQ.rv_rc_tup0 (items := its.toArray) (items2 := its2.toArray) ?_ ?_ hr.units0 e e2 ⟨.bl false, H, I, rfl, q⟩
    · rw [List.size_toArray, List.size_toArray, ← r.length, ← r2.length]
      exact h0
    · rw [List.size_toArray, List.size_toArray, ← r.length, ← r2.length]
      exact hne
/-- two of a kind that are equal -/
def SmP (C : Addr) : Addr → Addr → Hp → Prop := fun a b H => ∃ q, PipeAt C H a q ∧ PipeAt C H b q
def SmM (C : Addr) : Addr → Addr → Hp → Prop := fun a b H => ∃ q, MetAt C H a q ∧ MetAt C H b q
theorem rc_pipes {X : Cx} {C : Addr} (h : OwnEq X.prog X.w X.K X.mg X.base C 1 (sp_Peq C)) : RcG X 2 (DTup X.K (DIns C (SmP C))) := by
  obtain ⟨f, fd, ps, a, b, c, F⟩ := h.fn
  refine rcG_tup (mon_ins fun a b H H' e z => ?_) (eqG_ins (CX := CX0) (E := E0) (F.imp fun vs H Q E z => ?_) a b c pass0)
  · obtain ⟨q, h1, h2⟩ := z
    exact ⟨q, h1.ext e, h2.ext e⟩
  · obtain ⟨a, b, rfl, ⟨q, h1, h2⟩, k⟩ := z
    exact ⟨a, b, q, q, rfl, h1, h2, by rw [decide_eq_true rfl]; exact k H Ext.rfl'⟩
theorem rc_meters {X : Cx} {C : Addr} (h : OwnEq X.prog X.w X.K X.mg X.base C 1 (sp_Meq C)) : RcG X 2 (DTup X.K (DIns C (SmM C))) := by
  obtain ⟨f, fd, ps, a, b, c, F⟩ := h.fn
  refine rcG_tup (mon_ins fun a b H H' e z => ?_) (eqG_ins (CX := CX0) (E := E0) (F.imp fun vs H Q E z => ?_) a b c pass0)
  · obtain ⟨q, h1, h2⟩ := z
    exact ⟨q, h1.ext e, h2.ext e⟩
  · obtain ⟨a, b, rfl, ⟨q, h1, h2⟩, k⟩ := z
    exact ⟨a, b, q, q, rfl, h1, h2, by rw [decide_eq_true rfl]; exact k H Ext.rfl'⟩
/-- two nets with the same pipes: their meters the same, or one of them has none -/
def sp_Neq (K : PySem.W.Frag) (CN CP CM : Addr) : Sp := fun vs H Q _ => ∃ (a b : Addr) (ps : List P3) (ms ms' : List M3), vs = [.ref a, .ref b] ∧ NetR K CN CP CM H a ps ms ∧ NetR K CN CP CM H b ps ms' ∧ (ms = ms' ∨ ms = [] ∨ ms' = []) ∧ ∀ H', Same H H' → Q (.bl (decide (ms = ms'))) H'
theorem dtup_of {α : Type} {K : PySem.W.Frag} {C a b : Addr} {H : Hp} {R : Addr → Addr → Hp → Prop} {us vs : List (Addr × α)} (ha : SqT K H a (rf us)) (hb : SqT K H b (rf vs)) (e : sn us = sn vs)
    (hi : ∀ (i : Nat) (u v : Addr × α), us[i]? = some u → vs[i]? = some v → u.2 = v.2 → DIns C R (.ref u.1) (.ref v.1) H) : DTup K (DIns C R) (.ref a) (.ref b) H := by
  refine ⟨a, b, _, _, rfl, rfl, ha, hb, ?_, fun i x y hx hy => ?_⟩
  · rw [rf_len, rf_len, ← sn_len, e, sn_len]
  · rw [rf, List.getElem?_map] at hx hy
    cases hu : us[i]? with
    | none => rw [hu] at hx; cases hx
    | some u =>
      cases hv : vs[i]? with
      | none => rw [hv] at hy; cases hy
      | some v =>
        rw [hu] at hx
        rw [hv] at hy
        obtain rfl : V.ref u.1 = x := Option.some.inj hx
        obtain rfl : V.ref v.1 = y := Option.some.inj hy
        refine hi i u v hu hv ?_
        have h1 : (sn us)[i]? = some u.2 := by rw [sn, List.getElem?_map, hu]; rfl
        have h2 : (sn vs)[i]? = some v.2 := by rw [sn, List.getElem?_map, hv]; rfl
        rw [e, h2] at h1
        exact (Option.some.inj h1).symm
end RV
/-! a net's text, cut into rows -/
namespace RV
open PySem L2 PyProof.Rows TL
theorem pline_len {q : P3} (h1 : IsNm q.1) (h2 : IsNm q.2.1) (h3 : IsNm q.2.2) : (pline q).length ≤ 40 := by
  have l1 := nm8 h1
  have l2 := nm8 h2
  have l3 := nm8 h3
  have e1 : Str.length " " = 1 := by decide +kernel
  have e2 : Str.length Str.empty = 0 := by decide +kernel
  have e3 : Str.length "pipe " = 5 := by decide +kernel
  unfold pline
  rw [sl_app, sl_app, sl_app, sl_app, sl_app, sl_app, e1, e2, e3]
  omega
theorem mline_len {q : M3} (h1 : IsNm q.1) (h2 : IsNm q.2.1) : (mline q).length ≤ 40 := by
  have l1 := nm8 h1
  have l2 := nm8 h2
  have e1 : Str.length " " = 1 := by decide +kernel
  have e2 : Str.length Str.empty = 0 := by decide +kernel
  have e3 : Str.length "meter " = 6 := by decide +kernel
  have e4 : (mseal q.2.2).length ≤ 7 := by
    cases q.2.2
    · show Str.length "" ≤ 7
      decide +kernel
    · show Str.length " sealed" ≤ 7
      decide +kernel
  unfold mline
  rw [sl_app, sl_app, sl_app, sl_app, sl_app, e1, e2, e3]
  omega
theorem netL_sum {ps : List P3} {ms : List M3} (hp : PNm ps) (hm : MNm ms) : ((netL ps ms).map (·.length)).sum ≤ 40 * (ps.length + ms.length) := by
  have h : ∀ xs : List Str, (∀ x ∈ xs, x.length ≤ 40) → (xs.map (·.length)).sum ≤ 40 * xs.length := by
    intro xs
    induction xs with
    | nil => intro _; exact Nat.le_refl _
    | cons x xs ih =>
      intro h
      have a := h x List.mem_cons_self
      have b := ih fun y hy => h y (List.mem_cons_of_mem _ hy)
      simp only [List.map_cons, List.sum_cons, List.length_cons]
      omega
  have := h (netL ps ms) fun x hx => by
    rcases List.mem_append.mp hx with hx | hx
    · obtain ⟨q, hq, rfl⟩ := List.mem_map.mp hx
      exact pline_len (hp q hq).1 (hp q hq).2.1 (hp q hq).2.2
    · obtain ⟨q, hq, rfl⟩ := List.mem_map.mp hx
      exact mline_len (hm q hq).1 (hm q hq).2
  rw [netL, List.length_append, List.length_map, List.length_map] at this
  exact this
def prow (q : P3) : List Str := ["pipe", q.1, q.2.1, q.2.2]
def mrow (q : M3) : List Str := if q.2.2 then ["meter", q.1, q.2.1, "sealed"] else ["meter", q.1, q.2.1]
def rowsL (ps : List P3) (ms : List M3) : List (List Str) := ps.map prow ++ ms.map mrow
theorem nm_no {x : Str} (h : IsNm x) {c : Nat} (hc : tailC c = false) : c ∉ cd x := fun z => by
  have := List.all_eq_true.mp (isNm_all h) c z
  rw [hc] at this
  cases this
theorem cd_pipe : cd "pipe" = [112, 105, 112, 101] := by decide +kernel
theorem cd_pipe1 : cd "pipe " = [112, 105, 112, 101, 32] := by decide +kernel
theorem cd_meter : cd "meter" = [109, 101, 116, 101, 114] := by decide +kernel
theorem cd_meter1 : cd "meter " = [109, 101, 116, 101, 114, 32] := by decide +kernel
theorem cd_sealed : cd "sealed" = [115, 101, 97, 108, 101, 100] := by decide +kernel
theorem cd_sealed1 : cd " sealed" = [32, 115, 101, 97, 108, 101, 100] := by decide +kernel
theorem cd_nl : cd "\n" = [10] := by decide +kernel
theorem pline_cd (q : P3) : cd (pline q) = [112, 105, 112, 101, 32] ++ (cd q.1 ++ (32 :: (cd q.2.1 ++ (32 :: cd q.2.2)))) := by
  unfold pline
  repeat rw [cd_app]
  rw [cd_em, cd_pipe1, cd_sp]
  simp
theorem mline_cd (q : M3) : cd (mline q) = [109, 101, 116, 101, 114, 32] ++ (cd q.1 ++ (32 :: (cd q.2.1 ++ (if q.2.2 then [32, 115, 101, 97, 108, 101, 100] else [])))) := by
  unfold mline
  repeat rw [cd_app]
  rw [cd_em, cd_meter1, cd_sp]
  cases q.2.2
  · rw [show mseal false = "" from rfl, cd_no]
    simp
  · rw [show mseal true = " sealed" from rfl, cd_sealed1]
    simp
theorem pline_join (q : P3) : pline q = Txt.join " " (prow q) := cd_inj (by
  rw [pline_cd, join_eq, prow]
  show _ = tl _
  rw [tl_join]
  show _ = joinL (cd " ") [cd "pipe", cd q.1, cd q.2.1, cd q.2.2]
  rw [cd_sp, cd_pipe]
  simp [joinL])
theorem mline_join (q : M3) : mline q = Txt.join " " (mrow q) := cd_inj (by
  rw [mline_cd, join_eq, mrow]
  show _ = tl _
  rw [tl_join]
  cases q.2.2
  · show _ = joinL (cd " ") [cd "meter", cd q.1, cd q.2.1]
    rw [cd_sp, cd_meter]
    simp [joinL]
  · show _ = joinL (cd " ") [cd "meter", cd q.1, cd q.2.1, cd "sealed"]
    rw [cd_sp, cd_meter, cd_sealed]
    simp [joinL])
theorem split_pline {q : P3} (h1 : IsNm q.1) (h2 : IsNm q.2.1) (h3 : IsNm q.2.2) : Txt.split (pline q) " " = prow q := by
  rw [pline_join]
  refine split_join (s := 32) (S := []) cd_sp (by decide +kernel) (by simp [prow]) fun p hp => ?_
  simp only [prow, List.mem_cons, List.not_mem_nil, or_false] at hp
  rcases hp with rfl | rfl | rfl | rfl
  · decide +kernel
  · exact nm_no h1 (by decide)
  · exact nm_no h2 (by decide)
  · exact nm_no h3 (by decide)
theorem split_mline {q : M3} (h1 : IsNm q.1) (h2 : IsNm q.2.1) : Txt.split (mline q) " " = mrow q := by
  rw [mline_join]
  refine split_join (s := 32) (S := []) cd_sp (by decide +kernel) (by unfold mrow; split <;> simp) fun p hp => ?_
  unfold mrow at hp
  split at hp
  · simp only [List.mem_cons, List.not_mem_nil, or_false] at hp
    rcases hp with rfl | rfl | rfl | rfl
    · decide +kernel
    · exact nm_no h1 (by decide)
    · exact nm_no h2 (by decide)
    · decide +kernel
  · simp only [List.mem_cons, List.not_mem_nil, or_false] at hp
    rcases hp with rfl | rfl | rfl
    · decide +kernel
    · exact nm_no h1 (by decide)
    · exact nm_no h2 (by decide)
theorem split_netT {ps : List P3} {ms : List M3} (h0 : ps ≠ []) (hp : PNm ps) (hm : MNm ms) : Txt.split (netT ps ms) "\n" = netL ps ms := by
  refine split_join (s := 10) (S := []) cd_nl (by decide +kernel) (fun e => h0 (List.map_eq_nil_iff.mp (List.append_eq_nil_iff.mp e).1)) fun p hpp => ?_
  have n10 : ∀ {x : Str}, IsNm x → 10 ∉ cd x := fun h => nm_no h (by decide)
  rcases List.mem_append.mp hpp with h | h
  · obtain ⟨q, hq, rfl⟩ := List.mem_map.mp h
    show 10 ∉ cd (pline q)
    rw [pline_cd]
    have := n10 (hp q hq).1
    have := n10 (hp q hq).2.1
    have := n10 (hp q hq).2.2
    simp [*]
  · obtain ⟨q, hq, rfl⟩ := List.mem_map.mp h
    show 10 ∉ cd (mline q)
    rw [mline_cd]
    have := n10 (hm q hq).1
    have := n10 (hm q hq).2
    cases q.2.2 <;> simp [*]
theorem netT_len {ps : List P3} {ms : List M3} (hp : PNm ps) (hm : MNm ms) (pl : ps.length ≤ 20) (ml : ms.length ≤ 20) : (netT ps ms).length ≤ 5000 := by
  have h1 := netL_sum hp hm
  have e : ∀ xs : List Str, (Txt.join "\n" xs).length ≤ (xs.map (·.length)).sum + xs.length := by
    intro xs
    rw [join_eq, len_tl, tl_join, show tl "\n" = [10] from cd_nl]
    induction xs with
    | nil => simp [joinL]
    | cons x xs ih =>
      cases xs with
      | nil => simp [joinL, len_tl]
      | cons y ys =>
        show (tl x ++ ([10] ++ joinL [10] ((y :: ys).map tl))).length ≤ _
        rw [List.length_append, List.length_append]
        simp only [List.map_cons, List.sum_cons, List.length_cons, List.length_nil] at ih ⊢
        rw [← len_tl]
        omega
  have h2 : (netL ps ms).length = ps.length + ms.length := by rw [netL, List.length_append, List.length_map, List.length_map]
  have := e (netL ps ms)
  unfold netT
  omega
/-- lists of words, each at its address -/
abbrev RU := Addr × List Str
structure Rws (H : Hp) (l : Addr) (us : List RU) : Prop where
  l : H l = some (.lst (rf us))
  o : ∀ u ∈ us, H u.1 = some (.lst (u.2.map V.str))
structure TOk (ps : List P3) (ms : List M3) : Prop where
  n0 : ps ≠ []
  pn : PNm ps
  mn : MNm ms
  pl : ps.length ≤ 20
  ml : ms.length ≤ 20
def sp_rows : Sp := fun vs H Q _ => ∃ (ps : List P3) (ms : List M3), vs = [.str (netT ps ms)] ∧ TOk ps ms ∧ ∀ (l : Addr) (us : List RU) H', Same H H' → Rws H' l us → sn us = rowsL ps ms → Q (.ref l) H'
def sp_pin (K : PySem.W.Frag) (CP : Addr) : Sp := fun vs H Q _ => ∃ (ps : List P3) (ms : List M3), vs = [.str (netT ps ms)] ∧ TOk ps ms ∧ POk ps ∧ ∀ (t : Addr) (us : List PU) H', Same H H' → Tps K CP H' t us → sn us = ps → Q (.ref t) H'
def sp_min (K : PySem.W.Frag) (CM : Addr) : Sp := fun vs H Q _ => ∃ (ps : List P3) (ms : List M3), vs = [.str (netT ps ms)] ∧ TOk ps ms ∧ ∀ (t : Addr) (us : List MU) H', Same H H' → Tms K CM H' t us → sn us = ms → Q (.ref t) H'
def sp_nread (K : PySem.W.Frag) (CN CP CM : Addr) : Sp := fun vs H Q _ => ∃ (ps : List P3) (ms : List M3), vs = [.ref CN, .str (netT ps ms)] ∧ POk ps ∧ MOk ps ms ∧ ∀ (x : Addr) H', Same H H' → NetR K CN CP CM H' x ps ms → Q (.ref x) H'
theorem POk.pn {ps : List P3} (h : POk ps) : PNm ps := fun p hp => ⟨(h.nm p hp).1, (h.nm p hp).2.1, (h.nm p hp).2.2.1⟩
theorem MOk.mn {ps : List P3} {ms : List M3} (h : MOk ps ms) : MNm ms := h.nm
theorem TOk.of {ps : List P3} {ms : List M3} (h : POk ps) (k : MOk ps ms) : TOk ps ms := ⟨h.n0, h.pn, k.mn, Nat.le_trans h.ln (by decide), Nat.le_trans k.ln (by decide)⟩
/-- the rows of the pipes, of the meters -/
def isP (r : List Str) : Bool := decide (r[0]? = some ("pipe" : Str))
def isM (r : List Str) : Bool := decide (r[0]? = some ("meter" : Str))
theorem p_ne_m : ¬ (("pipe" : Str) = "meter") := by decide +kernel
theorem isP_p (q : P3) : isP (prow q) = true := decide_eq_true rfl
theorem isM_p (q : P3) : isM (prow q) = false := decide_eq_false fun h => p_ne_m (Option.some.inj h)
theorem isP_m (q : M3) : isP (mrow q) = false := by
  unfold isP mrow
  split
  · exact decide_eq_false fun h => p_ne_m (Option.some.inj h).symm
  · exact decide_eq_false fun h => p_ne_m (Option.some.inj h).symm
theorem isM_m (q : M3) : isM (mrow q) = true := by
  unfold isM mrow
  split
  · exact decide_eq_true rfl
  · exact decide_eq_true rfl
theorem rows_p (ps : List P3) (ms : List M3) : (rowsL ps ms).filter isP = ps.map prow := by
  rw [rowsL, List.filter_append, List.filter_eq_self.mpr, List.filter_eq_nil_iff.mpr, List.append_nil]
  · intro r hr
    obtain ⟨q, _, rfl⟩ := List.mem_map.mp hr
    rw [isP_m]
    decide
  · intro r hr
    obtain ⟨q, _, rfl⟩ := List.mem_map.mp hr
    exact isP_p q
theorem rows_m (ps : List P3) (ms : List M3) : (rowsL ps ms).filter isM = ms.map mrow := by
  rw [rowsL, List.filter_append, List.filter_eq_nil_iff.mpr, List.filter_eq_self.mpr, List.nil_append]
  · intro r hr
    obtain ⟨q, _, rfl⟩ := List.mem_map.mp hr
    exact isM_m q
  · intro r hr
    obtain ⟨q, _, rfl⟩ := List.mem_map.mp hr
    rw [isM_p]
    decide
theorem sn_filter {α : Type} (f : α → Bool) (us : List (Addr × α)) : sn (us.filter fun u => f u.2) = (sn us).filter f := by
  rw [sn, sn, List.filter_map]
  rfl
theorem sn_get {α : Type} {us : List (Addr × α)} {i : Nat} {u : Addr × α} (h : us[i]? = some u) : (sn us)[i]? = some u.2 := by rw [sn, List.getElem?_map, h]; rfl
theorem rf_get {α : Type} {us : List (Addr × α)} {i : Nat} {x : V} (h : (rf us)[i]? = some x) : ∃ u, us[i]? = some u ∧ x = .ref u.1 := by
  rw [rf, List.getElem?_map] at h
  cases e : us[i]? with
  | none => rw [e] at h; cases h
  | some u => rw [e] at h; exact ⟨u, rfl, (Option.some.inj h).symm⟩
def gM2 (vs zs : List V) : List V := match vs, zs with
  | [x, n, a], [z] => [x, n, a, z]
  | _, _ => []
end RV
/-! nets as a law lays them: rows of pipes, rows of meters -/
namespace RV
open PySem L2 PyProof.Rows TL
section
variable {X : Cx} {K : PySem.W.Frag} {o e : Expr} {to te : TE}
end
def oY (q : P3) : HO := .tup [.str q.1, .str q.2.1, .str q.2.2]
def oZ (q : M3) : HO := .tup [.str q.1, .str q.2.1, .bl q.2.2]
structure Lay (H : Hp) (l : Addr) (us : List PU) : Prop where
  l : H l = some (.lst (rf us))
  o : ∀ u ∈ us, H u.1 = some (oY u.2)
structure Fts (H : Hp) (l : Addr) (us : List MU) : Prop where
  l : H l = some (.lst (rf us))
  o : ∀ u ∈ us, H u.1 = some (oZ u.2)
def lY (us : List PU) : List (Addr × HO) := us.map fun u => (u.1, oY u.2)
def lZ (us : List MU) : List (Addr × HO) := us.map fun u => (u.1, oZ u.2)
/-- rows of pipes -/
structure LOk (ps : List P3) : Prop where
  nm : ∀ p ∈ ps, IsNm p.1 ∧ IsNm p.2.1 ∧ IsNm p.2.2 ∧ p.2.2 ≠ p.2.1
  nd : (ps.map (·.1)).Nodup
/-- laid(well, lo, hi) -/
def sp_laid : Sp := fun vs H Q _ => ∃ (a : Addr) (n lo hi : Nat), vs = [.ref a, .int lo, .int hi] ∧ WellAt H a n ∧ n < 600000 ∧ lo ≤ hi ∧ hi ≤ 12 ∧
  ∀ (l : Addr) (us : List PU) H', H l = none → l ≠ a → Grow a H H' → WellAt H' a (n + 1000) → Lay H' l us → LOk (sn us) → lo ≤ us.length → us.length ≤ hi → Q (.ref l) H'
/-- fits(well, laid, most) -/
def sp_fits : Sp := fun vs H Q _ => ∃ (a t : Addr) (n hi : Nat) (us : List PU), vs = [.ref a, .ref t, .int hi] ∧ WellAt H a n ∧ n < 600000 ∧ t ≠ a ∧ Lay H t us ∧ LOk (sn us) ∧ 1 ≤ us.length ∧ us.length ≤ 12 ∧ hi ≤ 12 ∧
  ∀ (l : Addr) (ms : List MU) H', H l = none → l ≠ a → Grow a H H' → WellAt H' a (n + 1000) → Fts H' l ms → MOk (sn us) (sn ms) → ms.length ≤ hi → Q (.ref l) H'
/-- net(laid, fits) -/
def sp_lnet (K : PySem.W.Frag) (CN CP CM : Addr) : Sp := fun vs H Q _ => ∃ (l m : Addr) (us : List PU) (ms : List MU), vs = [.ref l, .ref m] ∧ Lay H l us ∧ Fts H m ms ∧ POk (sn us) ∧ MOk (sn us) (sn ms) ∧
  ∀ (x : Addr) H', Same H H' → NetR K CN CP CM H' x (sn us) (sn ms) → Q (.ref x) H'
/-- net_text(laid, fits) -/
def sp_ltext : Sp := fun vs H Q _ => ∃ (l m : Addr) (us : List PU) (ms : List MU), vs = [.ref l, .ref m] ∧ Lay H l us ∧ Fts H m ms ∧ TOk (sn us) (sn ms) ∧ ∀ H', Same H H' → Q (.str (netT (sn us) (sn ms))) H'
/-- is(net, laid, fits): it is the one -/
def sp_isN (K : PySem.W.Frag) (CN CP CM : Addr) : Sp := fun vs H Q _ => ∃ (x l m : Addr) (us : List PU) (ms : List MU), vs = [.ref x, .ref l, .ref m] ∧ NetR K CN CP CM H x (sn us) (sn ms) ∧ Lay H l us ∧ Fts H m ms ∧ POk (sn us) ∧ MOk (sn us) (sn ms) ∧
  ∀ H', Same H H' → Q (.bl true) H'
theorem mline_app (q : M3) : ("meter " : Str) ++ q.1 ++ " " ++ q.2.1 ++ mseal q.2.2 = mline q := cd_inj (by
  unfold mline
  repeat rw [cd_app]
  rw [cd_em, List.nil_append])
theorem nodup_snoc {α : Type} {xs : List α} {x : α} (h : xs.Nodup) (hx : x ∉ xs) : (xs ++ [x]).Nodup := by
  rw [List.nodup_append]
  exact ⟨h, by simp, fun a ha b hb e => hx (by rw [List.mem_singleton.mp hb] at e; rw [← e]; exact ha)⟩
theorem nodup_get {α : Type} {xs : List α} (h : xs.Nodup) {i j : Nat} {hi : i < xs.length} {hj : j < xs.length} (e : xs[i] = xs[j]) : i = j := by
  have p := List.pairwise_iff_getElem.mp h
  rcases Nat.lt_trichotomy i j with z | z | z
  · exact absurd e (p i j hi hj z)
  · exact z
  · exact absurd e.symm (p j i hj hi z)
/-- another place -/
theorem step_ne {n i j : Nat} (hi : i < n) (hj : j + 1 < n) : (i + (1 + j)) % n ≠ i := by
  intro h
  rcases Nat.lt_or_ge (i + (1 + j)) n with z | z
  · rw [Nat.mod_eq_of_lt z] at h
    omega
  · rw [Nat.mod_eq_sub_mod z, Nat.mod_eq_of_lt (by omega)] at h
    omega
end RV
/-! nested data that can be shown -/
namespace RV
open PySem L2 PyProof.Rows TL
structure Shw (d : PyData) (n k : Nat) : Prop where
  ok : d.showable = true
  dp : d.depth ≤ n
  ln : d.shown.length ≤ k
theorem Short.shw {d : PyData} (h : Short d) : Shw d 0 100 := ⟨h.sh, Nat.le_of_eq h.dp, h.ln⟩
theorem shw_all {n k : Nat} : ∀ {ds : List PyData}, (∀ d ∈ ds, Shw d n k) → PyData.showableAll ds = true ∧ PyData.depthAll ds ≤ n ∧ ((PyData.shownAll ds).map (·.length)).sum ≤ k * ds.length ∧ (PyData.shownAll ds).length = ds.length
  | [], _ => by simp [PyData.showableAll, PyData.depthAll, PyData.shownAll]
  | d :: ds, h => by
    obtain ⟨a1, a2, a3⟩ := h d List.mem_cons_self
    obtain ⟨b1, b2, b3, b4⟩ := shw_all fun e he => h e (List.mem_cons_of_mem _ he)
    refine ⟨by simp [PyData.showableAll, a1, b1], ?_, ?_, by simp [PyData.shownAll, b4]⟩
    · simp only [PyData.depthAll]
      omega
    · simp only [PyData.shownAll, List.map_cons, List.sum_cons, List.length_cons]
      rw [Nat.mul_succ]
      omega
theorem shw_tuple {n k : Nat} {ds : List PyData} (h : ∀ d ∈ ds, Shw d n k) : Shw (.tuple ds) (n + 1) ((k + 2) * ds.length + 3) := by
  obtain ⟨a1, a2, a3, a4⟩ := shw_all h
  refine ⟨by simp only [PyData.showable, a1], by simp only [PyData.depth]; omega, ?_⟩
  have e : (PyData.tuple ds).shown = tupleText (PyData.shownAll ds) := by simp only [PyData.shown]
  rw [e]
  have := tupleText_len_le (PyData.shownAll ds)
  rw [Nat.add_mul]
  omega
theorem shw_list {n k : Nat} {ds : List PyData} (h : ∀ d ∈ ds, Shw d n k) : Shw (.list ds) (n + 1) ((k + 2) * ds.length + 3) := by
  obtain ⟨a1, a2, a3, a4⟩ := shw_all h
  refine ⟨by simp only [PyData.showable, a1], by simp only [PyData.depth]; omega, ?_⟩
  have e : (PyData.list ds).shown = listText (PyData.shownAll ds) := by simp only [PyData.shown]
  rw [e]
  have := listText_len_le (PyData.shownAll ds)
  rw [Nat.add_mul]
  omega
theorem Shw.mono {d : PyData} {n k m j : Nat} (h : Shw d n k) (a : n ≤ m) (b : k ≤ j) : Shw d m j := ⟨h.ok, Nat.le_trans h.dp a, Nat.le_trans h.ln b⟩
theorem rRepr_of {K : PySem.W.Frag} {a : Addr} {d : PyData} {H : Hp} {Q : VK} {k : Nat} (hd : Dp K H (.ref a) d) (h : Shw d 60 k) (hk : k ≤ 1000000) (q : Q (.str d.shown) H) : rRepr K [.ref a] H Q := by
  unfold rRepr
  exact ⟨a, d, rfl, hd, h.ok, h.dp, Nat.le_trans h.ln (Nat.le_trans hk (by decide)), q⟩
/-! ### rows of pipes and meters as data -/
def dY (q : P3) : PyData := .tuple [.str q.1, .str q.2.1, .str q.2.2]
def dZ (q : M3) : PyData := .tuple [.str q.1, .str q.2.1, .bool q.2.2]
def dN (ps : List P3) (ms : List M3) : PyData := .list [.list (ps.map dY), .list (ms.map dZ)]
end RV
/-! a net's text is plain; nets compared -/
namespace RV
open PySem L2 PyProof.Rows TL
/-- the law's row -/
def sp_rightN : Sp := fun vs H Q _ => ∃ (a : Addr) (n : Nat), vs = [.ref a] ∧ WellAt H a n ∧ n < 500000 ∧ ∀ H', Grow a H H' → WellAt H' a (n + 3000) → Q (.bl true) H'
end RV
/-! names of the laws over scripts -/
namespace RV
open PySem L2 PyProof.Rows TL
section
variable {D : Addr} {xs : List V} {i : Nat} {te : TE} {tt : TT} {vs : List Nat} {σ : L2.St} {H1 : Hp} {Qd : Hp → Prop} {J : It} {GG : Hp → Prop}
/-- [x for x in xs if p(x)]: the test makes no thing -/
theorem lc_keepV (p : V → Bool) (wk : Walk J xs.length GG (YAt xs)) (nD : H1 D = none) (len : xs.length ≤ 1000) (hG : ∀ H', Same H1 H' → GG H') (hw : ∀ x, wipe ((wipe σ vs).set i x) vs = wipe σ vs)
    (ht : ∀ x ∈ xs, ∀ H2, Same H1 H2 → ∀ R : Bool → Hp → Prop, R (p x) H2 → tt ((wipe σ vs).set i (some x)) H2 R)
    (he : ∀ x ∈ xs, ∀ H2, ∀ R : VK, R x H2 → te ((wipe σ vs).set i (some x)) H2 R)
    (k : ∀ H', Same H1 H' → H' D = some (.lst (xs.filter p)) → Qd H') :
    ∃ W : Nat → Nat → Hp → Prop, (∃ m, W 0 m (upd H1 D (.lst []))) ∧ ∀ i' m H, W i' m H →
      (J.stop i' H ∧ Qd H) ∨ (J.go i' H ∧ ∃ Nx : Hp → Prop, (∀ H', Nx H' → ∃ m', m' < m ∧ W (i' + 1) m' H') ∧ ∀ x H', J.yld i' H x H' → gName i x (wipe σ vs) H' fun σ2 H2 => wipe σ2 vs = wipe σ vs ∧ tt σ2 H2 fun b H3 =>
        if b = true then te σ2 H3 fun y H4 => ∃ acc, H4 D = some (.lst acc) ∧ acc.length < sizeLine ∧ Nx (upd H4 D (.lst (acc ++ [y]))) else Nx H3) := by
  refine L2.lc_it wk (fun i' H' => Same H1 H' ∧ H' D = some (.lst ((xs.take i').filter p)))
    ⟨fun b o e => (upd_ne (ne_of_none e nD)).trans e, upd_same⟩ (fun i' H' _ z => hG _ z.1) (fun i' x Ha Hb hi hv y => ?_) (fun H' hv => ?_)
  · obtain ⟨s, eD⟩ := hv
    obtain ⟨rfl, hx⟩ := y
    have hm := List.mem_of_getElem? hx
    have et : xs.take (i' + 1) = xs.take i' ++ [x] := by rw [List.take_add_one, hx]; rfl
    refine ⟨hw _, ht x hm Hb s _ ?_⟩
    cases hp : p x with
    | false =>
      refine iteF ⟨s, ?_⟩
      rw [eD, et, List.filter_append, List.filter_cons_of_neg (by rw [hp]; decide), List.filter_nil, List.append_nil]
    | true =>
      refine iteT (he x hm Hb _ ⟨_, eD, ?_, fun b o e => ?_, ?_⟩)
      · have l1 := List.length_filter_le p (xs.take i')
        have l3 := List.length_take_le' i' xs
        exact Nat.lt_of_le_of_lt (Nat.le_trans l1 (Nat.le_trans l3 len)) (by decide)
      · rw [upd_ne (ne_of_none e nD)]
        exact s _ _ e
      · rw [upd_same, et, List.filter_append, List.filter_cons_of_pos hp, List.filter_nil]
  · obtain ⟨s, eD⟩ := hv
    rw [List.take_length] at eD
    exact k H' s eD
end
/-- the spare names -/
def zn (j : Nat) : Str := ("z" : Str) ++ num (j : Int)
def words2 : List Str := ["pipe", "meter", "sealed", "go", "if", "vote", "tell", "doubt", "a", "b"]
/-- names(well, m) -/
def sp_names : Sp := fun vs H Q _ => ∃ (a : Addr) (n m : Nat), vs = [.ref a, .int m] ∧ WellAt H a n ∧ n < 600000 ∧ m ≤ 12 ∧
  ∀ (l : Addr) (xs : List Str) H', H l = none → l ≠ a → Grow a H H' → WellAt H' a (n + 200) → H' l = some (.lst (xs.map V.str)) → xs.length = m → xs.Nodup → (∀ x ∈ xs, IsNm x) → Q (.ref l) H'
end RV
/-! models of nets, as the laws over scripts draw them -/
namespace RV
open PySem L2 PyProof.Rows TL
abbrev Q3 := Str × Nat × Nat
abbrev G3 := Str × Nat × Bool
def oQ (q : Q3) : HO := .tup [.str q.1, .int (q.2.1 : Int), .int (q.2.2 : Int)]
def oG (q : G3) : HO := .tup [.str q.1, .int (q.2.1 : Int), .bl q.2.2]
/-- places, pipes between them by index, gauges at pipes by index -/
structure Mod where
  pl : List Str
  qs : List Q3
  gs : List G3
structure MdOk (M : Mod) (most more : Nat) : Prop where
  p2 : 2 ≤ M.pl.length
  p4 : M.pl.length ≤ 4
  pn : ∀ x ∈ M.pl, IsNm x
  pd : M.pl.Nodup
  q2 : 2 ≤ M.qs.length
  qm : M.qs.length ≤ most
  qn : ∀ q ∈ M.qs, IsNm q.1 ∧ q.2.1 < M.pl.length ∧ q.2.2 < M.pl.length ∧ q.2.1 ≠ q.2.2
  qd : (M.qs.map (·.1)).Nodup
  gm : M.gs.length ≤ more
  gn : ∀ g ∈ M.gs, IsNm g.1 ∧ g.2.1 < M.qs.length
  gd : (M.gs.map (·.1)).Nodup
abbrev QU := Addr × Q3
abbrev GU := Addr × G3
/-- what a model is in the heap -/
def lM (l lp lq lg : Addr) (pl : List Str) (pu : List QU) (gu : List GU) : List (Addr × HO) :=
  (l, .lst [.ref lp, .ref lq, .ref lg]) :: (lp, .lst (pl.map V.str)) :: (lq, .lst (rf pu)) :: (lg, .lst (rf gu)) :: (pu.map (fun u => (u.1, oQ u.2)) ++ gu.map fun u => (u.1, oG u.2))
def sp_model : Sp := fun vs H Q _ => ∃ (a : Addr) (n most more : Nat), vs = [.ref a, .int most, .int more] ∧ WellAt H a n ∧ n < 500000 ∧ 2 ≤ most ∧ most ≤ 12 ∧ more ≤ 12 ∧
  ∀ (l lp lq lg : Addr) (pl : List Str) (pu : List QU) (gu : List GU) H', Has H a (n + 2000) (lM l lp lq lg pl pu gu) H' → MdOk ⟨pl, sn pu, sn gu⟩ most more → Q (.ref l) H'
/-- the model at l -/
structure MdAt (H : Hp) (l : Addr) (M : Mod) : Prop where
  ex : ∃ (lp lq lg : Addr) (pu : List QU) (gu : List GU), sn pu = M.qs ∧ sn gu = M.gs ∧ ∀ p ∈ lM l lp lq lg M.pl pu gu, H p.1 = some p.2
theorem MdAt.ext {H H' : Hp} {l : Addr} {M : Mod} (h : MdAt H l M) (s : Same H H') : MdAt H' l M := by
  obtain ⟨lp, lq, lg, pu, gu, e1, e2, k⟩ := h.ex
  exact ⟨lp, lq, lg, pu, gu, e1, e2, fun p hp => s _ _ (k p hp)⟩
def Mod.ps (M : Mod) : List P3 := M.qs.map fun q => (q.1, M.pl.getD q.2.1 "", M.pl.getD q.2.2 "")
def Mod.ms (M : Mod) : List M3 := M.gs.map fun g => (g.1, (M.qs.getD g.2.1 ("", 0, 0)).1, g.2.2)
theorem getD_lt {α : Type} {xs : List α} {i : Nat} {d : α} (h : i < xs.length) : xs.getD i d = xs[i] := by simp [List.getD, h]
theorem Mod.names (M : Mod) : M.ps.map (·.1) = M.qs.map (·.1) := by rw [Mod.ps, List.map_map]; rfl
section
variable {M : Mod} {most more : Nat}
end
def sp_mtext : Sp := fun vs H Q _ => ∃ (l : Addr) (M : Mod) (most more : Nat), vs = [.ref l] ∧ MdAt H l M ∧ MdOk M most more ∧ most ≤ 12 ∧ more ≤ 12 ∧ ∀ H', Same H H' → Q (.str (netT M.ps M.ms)) H'
theorem pline_app2 (n s e : Str) : ("pipe " : Str) ++ n ++ " " ++ s ++ " " ++ e = pline (n, s, e) := cd_inj (by
  rw [pline_cd]
  repeat rw [cd_app]
  rw [cd_pipe1, cd_sp]
  simp)
end RV
/-! ways through a net: walks, flows of -1, 0 and 1, and the least count of meters on a ring -/
namespace RV
/-! ### sums over the first n indexes -/
def sm : Nat → (Nat → Int) → Int
  | 0, _ => 0
  | n + 1, g => sm n g + g n
def dl {α : Type} [DecidableEq α] (u x : α) : Int := if u = x then 1 else 0
section
set_option linter.unusedSectionVars false
variable {α : Type} [DecidableEq α]
variable (n : Nat) (st en : Nat → α) (w : Nat → Nat) (ok : Nat → Prop)
/-- what stays at a place -/
def dv (f : Nat → Int) (x : α) : Int := sm n fun k => f k * (dl (en k) x - dl (st k) x)
/-- a walk from u, its last step first -/
inductive Wk (u : α) : α → List (Nat × Bool) → Prop
  | nil : Wk u u []
  | fwd {i l} : Wk u (st i) l → ok i → Wk u (en i) ((i, true) :: l)
  | bwd {i l} : Wk u (en i) l → ok i → Wk u (st i) ((i, false) :: l)
inductive Sw (u : α) : α → List (Nat × Bool) → List α → Prop
  | nil : Sw u u [] [u]
  | fwd {i l vs} : Sw u (st i) l vs → ok i → en i ∉ vs → Sw u (en i) ((i, true) :: l) (en i :: vs)
  | bwd {i l vs} : Sw u (en i) l vs → ok i → st i ∉ vs → Sw u (st i) ((i, false) :: l) (st i :: vs)
def wl (l : List (Nat × Bool)) : Nat := (l.map fun q => w q.1).sum
def sg (b : Bool) : Int := if b then 1 else -1
def fl (l : List (Nat × Bool)) (k : Nat) : Int := (l.map fun q => if q.1 = k then sg q.2 else 0).sum
variable {n st en w ok} {u v : α} {l : List (Nat × Bool)} {vs : List α}
/-- a ring: flows of -1, 0 and 1 that are 1 at the pipe -/
structure Ring (n : Nat) (st en : Nat → α) (shut : Nat → Prop) (p : Nat) (f : Nat → Int) : Prop where
  r : ∀ k, k < n → f k = 0 ∨ f k = 1 ∨ f k = -1
  kept : ∀ x, RV.dv n st en f x = 0
  one : f p = 1
  sl : ∀ k, k < n → shut k → f k = 0
def cnt (n : Nat) (w : Nat → Nat) (f : Nat → Int) : Int := sm n fun k => if f k ≠ 0 then (w k : Int) else 0
abbrev okp (n : Nat) (shut : Nat → Prop) (p k : Nat) : Prop := k < n ∧ k ≠ p ∧ ¬ shut k
variable {shut : Nat → Prop} {p : Nat}
/-! ### the places that pipes of a ring reach -/
/-! ### the shortest ways, round by round -/
abbrev Dist (α : Type) := α → Option Nat
/-- on by a link: from, to, meters -/
def ld (g : Dist α) (e : α × α × Nat) : Dist α := match g e.1 with
  | none => g
  | some d => match g e.2.1 with
    | none => fun x => if x = e.2.1 then some (d + e.2.2) else g x
    | some d' => if d + e.2.2 < d' then fun x => if x = e.2.1 then some (d + e.2.2) else g x else g
def Le (g g' : Dist α) : Prop := ∀ x d, g x = some d → ∃ d', g' x = some d' ∧ d' ≤ d
def turn (L : List (α × α × Nat)) (g : Dist α) : Dist α := L.foldl ld g
def turns (L : List (α × α × Nat)) : Nat → Dist α → Dist α
  | 0, g => g
  | k + 1, g => turn L (turns L k g)
def g0 (u : α) : Dist α := fun x => if x = u then some 0 else none
/-- the links of a net's pipes -/
structure Links (L : List (α × α × Nat)) (st en : Nat → α) (w : Nat → Nat) (ok : Nat → Prop) : Prop where
  of : ∀ e ∈ L, ∃ i, ok i ∧ e.2.2 = w i ∧ (e.1 = st i ∧ e.2.1 = en i ∨ e.1 = en i ∧ e.2.1 = st i)
  f : ∀ i, ok i → (st i, en i, w i) ∈ L
  b : ∀ i, ok i → (en i, st i, w i) ∈ L
variable {L : List (α × α × Nat)}
end
end RV
/-! own methods; promises of ways and strengths -/
namespace RV
open PySem L2 PyProof.Rows TL
def Mtd (P : Program) (w : World) (K : PySem.W.Frag) (mg : Str → Option Value) (base : Heap) (C : Addr) (m : Str) (k : Nat) (ps : List Str) (sp : Sp) : Prop :=
  Cls K C ∧ ∃ f fd, Meth K C m f ∧ Binds K fd ps [] ∧ FnOk P w K mg base CX0 k f fd ps sp
section
variable {X : Cx} {C : Addr} {m : Str} {k : Nat} {ps : List Str} {sp : Sp} {o e : Expr} {es : List Expr} {t : TA} {ta : TE} {pos apos : Pos} {pl : Sem Bool}
end
section
variable {α : Type} {K : PySem.W.Frag} {D : Addr} {i : Nat} {te : TE} {tt : TT} {vs : List Nat} {σ : L2.St} {H1 : Hp} {Qd : Hp → Prop} {J : It} {GG : Hp → Prop}
/-- [f(x) for x in xs if p(x)] over things at addresses -/
theorem lc_keepF {us : List (Addr × α)} (p : Addr × α → Bool) (val : Addr × α → V) (wk : Walk J (rf us).length GG (YAt (rf us))) (nD : H1 D = none) (len : us.length ≤ 1000) (hG : ∀ H', Same H1 H' → GG H') (hw : ∀ x, wipe ((wipe σ vs).set i x) vs = wipe σ vs)
    (ht : ∀ u ∈ us, ∀ H2, Same H1 H2 → ∀ R : Bool → Hp → Prop, (∀ H3, Same H2 H3 → R (p u) H3) → tt ((wipe σ vs).set i (some (.ref u.1))) H2 R)
    (he : ∀ u ∈ us, ∀ H2, Same H1 H2 → ∀ R : VK, R (val u) H2 → te ((wipe σ vs).set i (some (.ref u.1))) H2 R)
    (k : ∀ H', Same H1 H' → H' D = some (.lst ((us.filter p).map val)) → Qd H') :
    ∃ W : Nat → Nat → Hp → Prop, (∃ m, W 0 m (upd H1 D (.lst []))) ∧ ∀ i' m H, W i' m H →
      (J.stop i' H ∧ Qd H) ∨ (J.go i' H ∧ ∃ Nx : Hp → Prop, (∀ H', Nx H' → ∃ m', m' < m ∧ W (i' + 1) m' H') ∧ ∀ x H', J.yld i' H x H' → gName i x (wipe σ vs) H' fun σ2 H2 => wipe σ2 vs = wipe σ vs ∧ tt σ2 H2 fun b H3 =>
        if b = true then te σ2 H3 fun y H4 => ∃ acc, H4 D = some (.lst acc) ∧ acc.length < sizeLine ∧ Nx (upd H4 D (.lst (acc ++ [y]))) else Nx H3) := by
  refine L2.lc_it wk (fun i' H' => Same H1 H' ∧ H' D = some (.lst (((us.take i').filter p).map val)))
    ⟨fun b o e => (upd_ne (ne_of_none e nD)).trans e, upd_same⟩ (fun i' H' _ z => hG _ z.1) (fun i' x Ha Hb hi hv y => ?_) (fun H' hv => ?_)
  · obtain ⟨s, eD⟩ := hv
    obtain ⟨rfl, hx⟩ := y
    rw [rf, List.getElem?_map] at hx
    cases hu : us[i']? with
    | none => rw [hu] at hx; cases hx
    | some u =>
      rw [hu] at hx
      obtain rfl : V.ref u.1 = x := Option.some.inj hx
      have hm := List.mem_of_getElem? hu
      have et : us.take (i' + 1) = us.take i' ++ [u] := by rw [List.take_add_one, hu]; rfl
      refine ⟨hw _, ht u hm Hb s _ fun H3 s3 => ?_⟩
      have eD3 := s3 _ _ eD
      have sH : Same H1 H3 := fun b o e => s3 b o (s b o e)
      cases hp : p u with
      | false =>
        refine iteF ⟨sH, ?_⟩
        rw [eD3, et, List.filter_append, List.filter_cons_of_neg (by rw [hp]; decide), List.filter_nil, List.append_nil]
      | true =>
        refine iteT (he u hm H3 sH _ ⟨_, eD3, ?_, fun b o e => ?_, ?_⟩)
        · rw [List.length_map]
          have l1 := List.length_filter_le p (us.take i')
          have l3 := List.length_take_le' i' us
          exact Nat.lt_of_le_of_lt (Nat.le_trans l1 (Nat.le_trans l3 len)) (by decide)
        · rw [upd_ne (ne_of_none e nD)]
          exact sH _ _ e
        · rw [upd_same, et, List.filter_append, List.filter_cons_of_pos hp, List.filter_nil, List.map_append]
          rfl
  · obtain ⟨s, eD⟩ := hv
    rw [rf_len, List.take_length] at eD
    exact k H' s eD
end
def rgL (n : Nat) : List V := (List.range n).map fun i => V.int (i : Nat)
/-! ### the meters of a pipe -/
def onP (ms : List M3) (y : Str) : List M3 := ms.filter fun m => decide (m.2.1 = y)
def wtP (ms : List M3) (y : Str) : Nat := (onP ms y).length
def seP (ms : List M3) (y : Str) : List M3 := (onP ms y).filter fun m => m.2.2
/-- amount at this index, 0 elsewhere -/
def un (n : Nat) (o : Option Nat) (c : Int) : List Int := (List.range n).map fun j => if o = some j then c else 0
def vN : Option Nat → V
  | none => .non
  | some k => .int (k : Nat)
/-- a link: from, to, meters, flow -/
abbrev L4 := Str × Str × Nat × List Int
def lks (n : Nat) (ms : List M3) (y : Str) (i : Nat) (p : P3) : List L4 :=
  if p.1 ≠ y ∧ seP ms p.1 = [] then [(p.2.1, p.2.2, wtP ms p.1, un n (some i) 1), (p.2.2, p.2.1, wtP ms p.1, un n (some i) (-1))] else []
def lkF (n : Nat) (ms : List M3) (y : Str) : Nat → List P3 → List L4
  | _, [] => []
  | i, p :: ps => lks n ms y i p ++ lkF n ms y (i + 1) ps
def lkA (ps : List P3) (ms : List M3) (y : Str) : List L4 := lkF ps.length ms y 0 ps
def lk3 (l : L4) : Str × Str × Nat := (l.1, l.2.1, l.2.2.1)
def LkAt (H : Hp) (a : Addr) (l : L4) : Prop := ∃ t, H a = some (.tup [.str l.1, .str l.2.1, .int (l.2.2.1 : Nat), .ref t]) ∧ H t = some (.tup (l.2.2.2.map V.int))
/-- a dict of ways -/
structure DW (n : Nat) (Z : Str → Nat → List Int → Prop) (H : Hp) (kvs : List (Key × V)) (g : Dist Str) : Prop where
  z : ∀ x, g x = none → valV kvs (.inr x) = none
  s : ∀ x d, g x = some d → ∃ (e t : Addr) (fs : List Int), valV kvs (.inr x) = some (.ref e) ∧ H e = some (.tup [.int (d : Nat), .ref t]) ∧ H t = some (.tup (fs.map V.int)) ∧ fs.length = n ∧ Z x d fs
/-- what holds of every way that is found -/
structure ZOk (ps : List P3) (ms : List M3) (y : Str) (Z : Dist Str → Str → Nat → List Int → Prop) : Prop where
  st : ∀ (i : Nat) (q : P3), ps[i]? = some q → q.1 = y → Z (g0 q.2.2) q.2.2 0 (un ps.length none 0)
  ke : ∀ l ∈ lkA ps ms y, ∀ g x d fs, Z g x d fs → Z (ld g (lk3 l)) x d fs
  ne : ∀ l ∈ lkA ps ms y, ∀ g d fs, fs.length = ps.length → g l.1 = some d → Z g l.1 d fs → (g l.2.1 = none ∨ ∃ d', g l.2.1 = some d' ∧ d + l.2.2.1 < d') → Z (ld g (lk3 l)) l.2.1 (d + l.2.2.1) (List.zipWith (· + ·) fs l.2.2.2)
def strP (ps : List P3) (ms : List M3) (y : Str) : Option Nat :=
  match ps.find? fun p => decide (p.1 = y) with
  | none => none
  | some q => if seP ms y = [] then (turns ((lkA ps ms y).map lk3) ps.length (g0 q.2.2) q.2.1).map (· + wtP ms y) else none
section
variable (K : PySem.W.Frag) (CN CP CM : Addr)
def sp_gpipe : Sp := fun vs H Q _ => ∃ (x : Addr) (ps : List P3) (ms : List M3) (y : Str), vs = [.ref x, .str y] ∧ NetR K CN CP CM H x ps ms ∧ ps.length ≤ 12 ∧ y ∈ ps.map (·.1) ∧
  ∀ (a : Addr) (i : Nat) (q : P3) H', ps[i]? = some q → q.1 = y → Same H H' → PipeAt CP H' a q → Q (.ref a) H'
def sp_chkn : Sp := fun vs H Q _ => ∃ (x : Addr) (ps : List P3) (ms : List M3), vs = [.ref x] ∧ NetR K CN CP CM H x ps ms ∧ Q .non H
def sp_chkp : Sp := fun vs H Q _ => ∃ (x : Addr) (ps : List P3) (ms : List M3) (y : Str), vs = [.ref x, .str y] ∧ NetR K CN CP CM H x ps ms ∧ ps.length ≤ 12 ∧ y ∈ ps.map (·.1) ∧ ∀ H', Same H H' → Q .non H'
def sp_mat : Sp := fun vs H Q _ => ∃ (x : Addr) (ps : List P3) (ms : List M3) (y : Str), vs = [.ref x, .str y] ∧ NetR K CN CP CM H x ps ms ∧ ms.length ≤ 12 ∧
  ∀ (l : Addr) (us : List MU) H', Same H H' → H' l = some (.lst (rf us)) → (∀ u ∈ us, MetAt CM H' u.1 u.2) → sn us = onP ms y → Q (.ref l) H'
def sp_sat : Sp := fun vs H Q _ => ∃ (x : Addr) (ps : List P3) (ms : List M3) (y : Str), vs = [.ref x, .str y] ∧ NetR K CN CP CM H x ps ms ∧ ms.length ≤ 12 ∧
  ∀ (l : Addr) (xs : List V) H', Same H H' → H' l = some (.lst xs) → (xs = [] ↔ seP ms y = []) → Q (.ref l) H'
def sp_amt : Sp := fun vs H Q _ => ∃ (x : Addr) (ps : List P3) (ms : List M3) (o : Option Nat) (c : Int), vs = [.ref x, vN o, .int c] ∧ NetR K CN CP CM H x ps ms ∧ ps.length ≤ 12 ∧
  ∀ (t : Addr) H', Same H H' → H' t = some (.tup ((un ps.length o c).map V.int)) → Q (.ref t) H'
def sp_lnks : Sp := fun vs H Q _ => ∃ (x : Addr) (ps : List P3) (ms : List M3) (y : Str), vs = [.ref x, .str y] ∧ NetR K CN CP CM H x ps ms ∧ ps.length ≤ 12 ∧ ms.length ≤ 12 ∧
  ∀ (l : Addr) (us : List (Addr × L4)) H', Same H H' → H' l = some (.lst (rf us)) → (∀ u ∈ us, LkAt H' u.1 u.2) → sn us = lkA ps ms y → Q (.ref l) H'
def sp_lead : Sp := fun vs H Q _ => ∃ (d t : Addr) (a b : Str) (m n : Nat) (fs : List Int) (kvs : List (Key × V)) (g : Dist Str) (Z Z' : Str → Nat → List Int → Prop), vs = [.ref d, .str a, .str b, .int (m : Nat), .ref t] ∧ H d = some (.dK kvs) ∧ H t = some (.tup (fs.map V.int)) ∧ fs.length = n ∧ n ≤ 12 ∧ kvs.length ≤ 1000 ∧ DW n Z H kvs g ∧ (∀ x d f, Z x d f → Z' x d f) ∧ (∀ d f, f.length = n → g a = some d → Z a d f → (g b = none ∨ ∃ d', g b = some d' ∧ d + m < d') → Z' b (d + m) (List.zipWith (· + ·) f fs)) ∧
  ∀ kvs' H', (∀ b o, b ≠ d → H b = some o → H' b = some o) → H' d = some (.dK kvs') → kvs'.length ≤ kvs.length + 1 → DW n Z' H' kvs' (ld g (a, b, m)) → Q .non H'
def sp_ways : Sp := fun vs H Q _ => ∃ (x : Addr) (ps : List P3) (ms : List M3) (y : Str) (Z : Dist Str → Str → Nat → List Int → Prop), vs = [.ref x, .str y] ∧ NetR K CN CP CM H x ps ms ∧ ps.length ≤ 12 ∧ ms.length ≤ 12 ∧ y ∈ ps.map (·.1) ∧ ZOk ps ms y Z ∧
  ∀ (i : Nat) (q : P3) (d : Addr) (kvs : List (Key × V)) H', ps[i]? = some q → q.1 = y → Same H H' → H' d = some (.dK kvs) → DW ps.length (Z (turns ((lkA ps ms y).map lk3) ps.length (g0 q.2.2))) H' kvs (turns ((lkA ps ms y).map lk3) ps.length (g0 q.2.2)) → Q (.ref d) H'
def WayV (n : Nat) (Z : Nat → List Int → Prop) (H : Hp) (v : V) : Option Nat → Prop
  | none => v = .non
  | some d => ∃ (e t : Addr) (fs : List Int), v = .ref e ∧ H e = some (.tup [.int (d : Nat), .ref t]) ∧ H t = some (.tup (fs.map V.int)) ∧ fs.length = n ∧ Z d fs
def sp_back : Sp := fun vs H Q _ => ∃ (x : Addr) (ps : List P3) (ms : List M3) (y : Str) (Z : Dist Str → Str → Nat → List Int → Prop), vs = [.ref x, .str y] ∧ NetR K CN CP CM H x ps ms ∧ ps.length ≤ 12 ∧ ms.length ≤ 12 ∧ y ∈ ps.map (·.1) ∧ ZOk ps ms y Z ∧
  ∀ (i j : Nat) (q r : P3) (v : V) H', ps[i]? = some q → q.1 = y → ps[j]? = some r → r.1 = y → Same H H' → WayV ps.length (Z (turns ((lkA ps ms y).map lk3) ps.length (g0 q.2.2)) r.2.1) H' v (if seP ms y = [] then turns ((lkA ps ms y).map lk3) ps.length (g0 q.2.2) r.2.1 else none) → Q v H'
def sp_stren : Sp := fun vs H Q _ => ∃ (x : Addr) (ps : List P3) (ms : List M3) (y : Str), vs = [.ref x, .str y] ∧ NetR K CN CP CM H x ps ms ∧ POk ps ∧ ms.length ≤ 12 ∧ y ∈ ps.map (·.1) ∧ ∀ H', Same H H' → Q (vN (strP ps ms y)) H'
end
end RV
/-! ways in a dict -/
namespace RV
open PySem L2 PyProof.Rows TL
theorem walk_zipT {K : PySem.W.Frag} {a b : Addr} {xs ys : List V} {n : Nat} (hn : n = min xs.length ys.length) : Walk (RZ.ItzT K a b) n (fun H => SqT K H a xs ∧ SqT K H b ys) (YPair (fun i => xs[i]?) (fun i => ys[i]?)) := by
  subst hn
  refine ⟨fun i _ hi q => ?_, fun _ q => ⟨xs, ys, q.1, q.2, by omega⟩, fun i H v H' _ q y => ?_⟩
  · have h1 : i < xs.length := by omega
    have h2 : i < ys.length := by omega
    exact ⟨xs, ys, xs[i], ys[i], q.1, q.2, by simp [h1], by simp [h2]⟩
  · obtain ⟨T, x, z, h1, h2, h3, h4, h5⟩ := y
    exact ⟨T, x, z, h1, h2, h3, h4 xs q.1, h5 ys q.2⟩
end RV
/-! flows of -1, 0 and 1, as the laws over scripts count them -/
namespace RV
open PySem L2 PyProof.Rows TL
theorem ixN_nat {n j : Nat} (hj : j < n) : ixN n (j : Int) = some j := by
  unfold ixN
  rw [if_pos (by omega), if_pos (by omega)]
  simp
def qst (M : Mod) (k : Nat) : Nat := (M.qs.getD k ("", 0, 0)).2.1
def qen (M : Mod) (k : Nat) : Nat := (M.qs.getD k ("", 0, 0)).2.2
def rwf (r : List Int) (k : Nat) : Int := r.getD k 0
/-- what stays at a place after j pipes -/
def stay (M : Mod) (r : List Int) (j x : Nat) : Int := dv j (qst M) (qen M) (rwf r) x
def keptB (M : Mod) (r : List Int) : Bool := (List.range M.pl.length).all fun x => decide (stay M r M.qs.length x = 0)
def stayL (M : Mod) (r : List Int) (j : Nat) : List V := (List.range M.pl.length).map fun x => .int (stay M r j x)
def sp_kept : Sp := fun vs H Q _ => ∃ (l a : Addr) (M : Mod) (most more : Nat) (r : List Int), vs = [.ref l, .ref a] ∧ MdAt H l M ∧ MdOk M most more ∧ most ≤ 12 ∧ H a = some (.lst (r.map V.int)) ∧ r.length = M.qs.length ∧ ∀ H', Same H H' → Q (.bl (keptB M r)) H'
def trit (c : Int) : Prop := c = 0 ∨ c = 1 ∨ c = -1
def sp_flows : Sp := fun vs H Q _ => ∃ (l : Addr) (M : Mod) (more : Nat), vs = [.ref l] ∧ MdAt H l M ∧ MdOk M 5 more ∧
  ∀ (a : Addr) (us : List (Addr × List Int)) H', Same H H' → H' a = some (.lst (rf us)) → (∀ u ∈ us, H' u.1 = some (.lst (u.2.map V.int))) → us.length ≤ 243 → H a = none → (∀ u ∈ us, H u.1 = none) → (∀ r, r ∈ sn us ↔ r.length = M.qs.length ∧ (∀ c ∈ r, trit c) ∧ keptB M r = true) → Q (.ref a) H'
abbrev FU := Addr × List Int
def FAt (H : Hp) (us : List FU) : Prop := ∀ u ∈ us, H u.1 = some (.lst (u.2.map V.int))
section
variable {K : PySem.W.Frag} {D : Addr} {i : Nat} {te : TE} {vs : List Nat} {σ : L2.St} {H1 : Hp} {Qd : Hp → Prop} {J : It} {GG : Hp → Prop}
end
end RV
/-! least counts over flows; lists of integers and None as data -/
namespace RV
open PySem L2 PyProof.Rows TL
def cntG (M : Mod) (r : List Int) : Nat := (M.gs.filter fun g => decide (rwf r g.2.1 ≠ 0)).length
def shutG (M : Mod) (r : List Int) : Bool := M.gs.any fun g => g.2.2 && decide (rwf r g.2.1 ≠ 0)
def condG (M : Mod) (p : Nat) (r : List Int) : Bool := decide (rwf r p = 1) && !shutG M r
def IsMin (L : List Nat) : Option Nat → Prop
  | none => L = []
  | some m => m ∈ L ∧ ∀ y ∈ L, m ≤ y
def dO : Option Nat → PyData
  | none => .none
  | some k => .int (k : Nat)
def sp_lstr : Sp := fun vs H Q _ => ∃ (l a : Addr) (M : Mod) (more p : Nat) (us : List FU), vs = [.ref l, .ref a, .int (p : Nat)] ∧ MdAt H l M ∧ MdOk M 5 more ∧ more ≤ 12 ∧ H a = some (.lst (rf us)) ∧ FAt H us ∧ us.length ≤ 243 ∧ p < M.qs.length ∧ (∀ r ∈ sn us, r.length = M.qs.length) ∧
  ∀ (o : Option Nat) H', Same H H' → IsMin (((sn us).filter (condG M p)).map (cntG M)) o → Q (vN o) H'
end RV
/-! the strength by shortest ways is the least count over flows -/
namespace RV
open PySem L2 PyProof.Rows TL
def pN (ps : List P3) (k : Nat) : Str := (ps.getD k ("", "", "")).1
def pS (ps : List P3) (k : Nat) : Str := (ps.getD k ("", "", "")).2.1
def pE (ps : List P3) (k : Nat) : Str := (ps.getD k ("", "", "")).2.2
def shutP (ps : List P3) (ms : List M3) (k : Nat) : Prop := seP ms (pN ps k) ≠ []
theorem pN_at {ps : List P3} {k : Nat} {q : P3} (h : ps[k]? = some q) : pN ps k = q.1 ∧ pS ps k = q.2.1 ∧ pE ps k = q.2.2 := by
  simp [pN, pS, pE, List.getD, h]
theorem pN_inj {ps : List P3} (nd : (ps.map (·.1)).Nodup) {i j : Nat} (hi : i < ps.length) (hj : j < ps.length) (e : pN ps i = pN ps j) : i = j := by
  have h1 := pN_at (List.getElem?_eq_getElem hi)
  have h2 := pN_at (List.getElem?_eq_getElem hj)
  have e3 : (ps.map (·.1))[i]'(by simpa using hi) = (ps.map (·.1))[j]'(by simpa using hj) := by
    rw [List.getElem_map, List.getElem_map, ← h1.1, ← h2.1, e]
  exact nodup_get nd e3
/-! ### models -/
section
variable {M : Mod} {most more : Nat}
abbrev RingM (M : Mod) (p : Nat) (f : Nat → Int) : Prop := Ring M.qs.length (pS M.ps) (pE M.ps) (shutP M.ps M.ms) p f
end
end RV
/-! a def called by keywords alone; lists of counts that are shown -/
namespace RV
open PySem L2 PyProof.Rows TL
def FnKd (P : Program) (w : World) (K : PySem.W.Frag) (mg : Str → Option Value) (base : Heap) (x : Str) (k : Nat) (ks : List Str) (sp : Sp) (gV : List V → List V → List V) : Prop :=
  ∃ f fd ps g, mg x = some (.ref f) ∧ PySem.W.keepIn K (.ref f) = true ∧ KBn K fd ps 0 ks g gV ∧ FnOk P w K mg base CX0 k f fd ps sp
def tCallK0 (n : Nat) (sp : Sp) (gV : List V → List V → List V) (tk : TA) : TE := fun σ H Q => tk σ H fun zs H2 => zs.length = n ∧ sp (gV [] zs) H2 Q E0
section
variable {X : Cx} {k : Nat} {x : Str} {ks : List Str} {sp : Sp} {gV : List V → List V → List V} {kws : List Keyword} {tk : TA} {p pos : Pos}
theorem pe_fnK0 (h : FnKd X.prog X.w X.K X.mg X.base x k ks sp gV) (hr : Room k X.A) (hkw : PK X kws tk) (hg : Gl X x := by rfl)
    (hall : (backToKw pos (keywordEach kws X.env)).all (·.1.isSome) = true := by rfl) (hks : (backToKw pos (keywordEach kws X.env)).filterMap (·.1) = ks := by rfl) (hdb : (x == ("__debug__" : Str)) = false := by decide)
    (hpl : ((backTo pos (starEach [] X.env)).any (·.1) || (backToKw pos (keywordEach kws X.env)).any (·.1.isNone)) = false := by rfl) :
    PE X (.Call (.Name x p) [] kws pos) (tCallK0 ks.length sp gV tk) := by
  obtain ⟨f, fd, ps, g, hm, hk, hb, F⟩ := h
  refine ⟨fun pins s σ H Q I h => ?_⟩
  refine wpAny_Call_Name_kw (ld_glob I hg hm ?_ hdb)
  refine PySem.W.callWith_KW0 (h₀ := X.base) I.ok.mod.kin hk hall ?_ hpl
  refine thn (hkw.run pos pins s σ H _ I h) fun ws s2 ⟨zs, H2, I2, rz, l2, q2⟩ => ⟨I2.kIn, ?_⟩
  rw [hks]
  exact run_fnN (us := []) (vs := []) F hr hb pass0 I2 .nil rz rfl l2 q2
end
theorem FnKd.irr {P : Program} {w : World} {K : PySem.W.Frag} {mg : Str → Option Value} {base : Heap} {x : Str} {k : Nat} {ks : List Str} {sp : Sp} {gV : List V → List V → List V} (h : FnKd P w K mg base x k ks sp gV) : FnKd P w K mg base x k ks (Irr sp) gV := by
  obtain ⟨f, fd, ps, g, a, b, c, F⟩ := h
  exact ⟨f, fd, ps, g, a, b, c, F.imp fun _ _ _ _ z => irr_of z⟩
/-- f(pipe=y, net=x) -/
def gPN (vs zs : List V) : List V := match vs, zs with
  | [], [y, x] => [x, y]
  | _, _ => []
def sp_right23 : Sp := fun vs H Q _ => ∃ (a : Addr) (n : Nat), vs = [.ref a] ∧ WellAt H a n ∧ n < 500000 ∧ ∀ H', Grow a H H' → Q (.bl true) H'
/-- what is due for each pipe -/
def dueL (M : Mod) : List (Option Nat) := (List.range M.qs.length).map fun k => strP M.ps M.ms (pN M.ps k)
end RV
/-! the law's own call, whatever its parameter is called -/
namespace RV
open PySem L2 PyProof.Rows
theorem walkGx (x : Str) (k : Nat) {l : PySem.W.OpenLaw} {q : Program} {loose : List Str} {XP : (Str → Option Value) → Heap → Prop} {YP : World → Heap → Prop} {d : DefRec} {K : Params → PySem.W.Frag} (hr : Room k callerA) (hn : l.most = some 63) (hdf : d.params.defaults = [])
    (hY : ∀ (w : World) (h : Heap), YP w h → (K w.params).In h)
    (F : ∀ (w : World) (mg : Str → Option Value) (fa : Addr) (h : Heap), (K w.params).In h → h.Ns mainGlobals mg → mg d.name = some (.ref fa) →
      ∃ fd : FuncData, (∀ (s : Shared) (u : Value), BindsTo s fd ⟨[u], []⟩ [(x, u)]) ∧ ∀ base : Heap, (K w.params).In base → base.Ns mainGlobals mg → FnG l.prog w (K w.params) mg base k fa fd [x] (spLaw (K w.params))) :
    PySem.W.WalkO q loose XP YP l.row.toRowW d [] (fun f vs => PySem.call f vs) := by
  refine Att.attach_call hn hdf fun w s₀ s₁ mg mb fa o pm cd doc a vs ns G Y ho hd hcd hmg hobj hints hlen hg => ?_
  obtain ⟨fd, hb, hF⟩ := F w mg fa _ (hY w _ Y) G.T.g hmg
  exact callG (hY w _ Y) G.T.g G.T.b G.T.builtins G.T.nolimit hg hobj hints (Nat.le_trans hlen (by decide)) hr hF hb fun H hS => ⟨a, ns, rfl, hS, hlen, fun _ => rfl⟩
end RV
/-! sum of a tuple, repr of a truth value; faults, can_tell -/
namespace RV
open PySem L2 PyProof.Rows TL
section
variable {X : Cx}
def rSumT (K : PySem.W.Frag) : List V → Hp → VK → Prop := fun vs H Q => ∃ (a : Addr) (ns : List Int), vs = [V.ref a] ∧ SqT K H a (ns.map V.int) ∧ Q (.int ns.sum) H
def rReprB : List V → Hp → VK → Prop := fun xs H Q => ∃ b, xs = [.bl b] ∧ Q (.str (if b then "True" else "False")) H
end
/-- faults -/
structure Flt (a b c : Int) : Prop where
  h0 : 0 ≤ a
  h1 : a ≤ b
  h2 : b ≤ 3
  h3 : 0 ≤ c
  h4 : c ≤ 3
def sp_isb : Sp := fun vs H Q _ => ∃ c : Int, vs = [.int c] ∧ 0 ≤ c ∧ c ≤ 3 ∧ Q (.bl true) H
def sp_arf (K : PySem.W.Frag) : Sp := fun vs H Q _ => ∃ (t : Addr) (a b c : Int), vs = [.ref t] ∧ SqT K H t [.int a, .int b, .int c] ∧ Flt a b c ∧ ∀ H', Same H H' → Q (.bl true) H'
def sp_chf (K : PySem.W.Frag) : Sp := fun vs H Q _ => ∃ (t : Addr) (a b c : Int), vs = [.ref t] ∧ SqT K H t [.int a, .int b, .int c] ∧ Flt a b c ∧ ∀ H', Same H H' → Q .non H'
def tellB : Option Nat → Int → Bool
  | none, _ => true
  | some m, s => decide (s < (m : Int))
def sp_tell (K : PySem.W.Frag) (CN CP CM : Addr) : Sp := fun vs H Q _ => ∃ (x t : Addr) (ps : List P3) (ms : List M3) (y : Str) (a b c : Int), vs = [.ref x, .str y, .ref t] ∧ NetR K CN CP CM H x ps ms ∧ POk ps ∧ ms.length ≤ 12 ∧ y ∈ ps.map (·.1) ∧ SqT K H t [.int a, .int b, .int c] ∧ Flt a b c ∧
  ∀ H', Same H H' → Q (.bl (tellB (strP ps ms y) (a + b + c))) H'
/-- drawn faults -/
def sp_faults : Sp := fun vs H Q _ => ∃ (w : Addr) (n : Nat), vs = [.ref w, .int 3] ∧ WellAt H w n ∧ n < 900000 ∧
  ∀ (t : Addr) (a b c : Int) H', Grow w H H' → WellAt H' w (n + 5) → H' t = some (.tup [.int a, .int b, .int c]) → t ≠ w → Flt a b c → Q (.ref t) H'
end RV
/-! the flow of a shortest way is one of -1, 0 and 1: a way that is no shorter is not taken, so no way comes to a place twice -/
namespace RV
section
set_option linter.unusedSectionVars false
variable {α : Type} [DecidableEq α] {n : Nat} {st en : Nat → α} {w : Nat → Nat} {ok : Nat → Prop} {u x : α} {g g' : Dist α} {d : Nat} {f : Nat → Int}
/-- a way without loops of this length and flow; each place on it is known by a way that is no longer -/
def GW (st en : Nat → α) (w : Nat → Nat) (ok : Nat → Prop) (u : α) (g : Dist α) (x : α) (d : Nat) (f : Nat → Int) : Prop :=
  ∃ l vs, Sw st en ok u x l vs ∧ wl w l = d ∧ (∀ k, f k = fl l k) ∧ ∀ y ∈ vs, ∃ d', g y = some d' ∧ d' ≤ d
end
end RV
set_option linter.all false
/-! sets of texts written as comprehensions, with any number of clauses: {x for a in .. for b in ..} -/
namespace RV
open PySem L2 PySem.Spec PyProof.Rows
/-- what is run in a turn behind a clause's tests: the next clause, or the member's being put -/
abbrev TB := L2.St → Hp → (Hp → Prop) → Prop
def HasB (X : Cx) (vs : List Nat) (m : Sem PySem.Fin → Sem PySem.Fin) (tb : TB) : Prop := ∀ (pins : List (Addr × Obj)) (s : Shared) (σ : L2.St) (H : Hp) (Q : Hp → Prop) (z : Sem PySem.Fin) (R : PySem.Fin → Shared → Prop), Inv X pins σ H s → tb σ H Q →
  (∀ σ' H' s', Inv X pins σ' H' s' → wipe σ' vs = wipe σ vs → Q H' → wpAny (model X.prog X.w) X.A z R (fun _ _ => False) s') → wpAny (model X.prog X.w) X.A (m z) R (fun _ _ => False) s
/-- how a clause's turn reads -/
def TurnIs (e tg : Expr) (k : Nat) (at0 : Pos) (ifs : List Expr) (acc : Value) (env : Env) (body : Sem PySem.Fin → Sem PySem.Fin) : Prop := ∀ it, compTurn e k it acc env = (do
  standAt at0
  match ← pyNext it with
  | none => pure (.done .next)
  | some v => do
    letOwnedTupleGo tg it v
    assign tg env v
    let ok ← forIn ifs true fun c ok => if ok = true then do let ok ← isTrue c env (eval c env); pure (ForInStep.yield ok) else pure (ForInStep.yield ok)
    if ok = true then body (again (.compLoop e k it acc env)) else again (.compLoop e k it acc env))
/-- all turns of a clause whose iterator J has come -/
def tCl (J : It) (g : TG) (tt : TT) (tb : TB) (vs : List Nat) : TB := fun σ H Q => ∃ W : Nat → Nat → Hp → Prop, (∃ m, W 0 m H) ∧ ∀ i m H, W i m H →
  (J.stop i H ∧ Q H) ∨ (J.go i H ∧ ∃ Nx : Hp → Prop, (∀ H', Nx H' → ∃ m', m' < m ∧ W (i + 1) m' H') ∧ ∀ x H', J.yld i H x H' → g x (wipe σ vs) H' fun σ2 H2 => wipe σ2 vs = wipe σ vs ∧ tt σ2 H2 fun b H3 => if b = true then tb σ2 H3 Nx else Nx H3)
theorem wipe_in {σ : L2.St} {i : Nat} : ∀ {vs : List Nat}, i ∈ vs → i < σ.length → (wipe σ vs)[i]? = some none
  | v :: vs, h, hl => by
    unfold wipe
    by_cases e : v = i
    · subst e
      rw [List.getElem?_set_self (by rw [wipe_length]; exact hl)]
    · rw [List.getElem?_set_ne e]
      exact wipe_in ((List.mem_cons.mp h).resolve_left fun z => e z.symm) hl
theorem wipe_wipe {σ : L2.St} {vs ws : List Nat} (h : ∀ i ∈ ws, i ∈ vs) : wipe (wipe σ ws) vs = wipe σ vs := by
  refine List.ext_getElem? fun i => ?_
  by_cases hl : i < σ.length
  · by_cases hi : i ∈ vs
    · rw [wipe_in hi hl, wipe_in hi (by rw [wipe_length]; exact hl)]
    · rw [wipe_out hi, wipe_out hi, wipe_out fun z => hi (h i z)]
  · rw [List.getElem?_eq_none (by rw [wipe_length, wipe_length]; omega), List.getElem?_eq_none (by rw [wipe_length]; omega)]
section
variable {X : Cx}
/-- a clause's loop in its block -/
theorem cl_loop {e tg : Expr} {k : Nat} {acc : Value} {ifs : List Expr} {body : Sem PySem.Fin → Sem PySem.Fin} {at0 : Pos} {J : It} {g : TG} {tt : TT} {tb : TB} {vs : List Nat} (hc : X.calm = true) (hx : X.xe = fun _ _ => False)
    (hq : ∀ it, (Code.compLoop e k it acc X.env).quiet = true) (hden : ∀ it, (model X.prog X.w).den (.compLoop e k it acc X.env) = (compTurn e k it acc X.env).onRaise (fun x => do noteFrame x X.env; theTreesLotGoes x)) (hun : ∀ it, X.A.under (.compLoop e k it acc X.env) = X.A)
    (hT : TurnIs e tg k at0 ifs acc X.env body)
    (pg : PG X tg g) (pt : PTs X ifs tt) (pb : HasB X vs body tb)
    {pins : List (Addr × Obj)} {s : Shared} {σ : L2.St} {H : Hp} {it : Addr} {fp : List Addr} {tn : Nat → Heap → Prop} {Q : Hp → Prop} (I : Inv X pins σ H s) (T : Turn X.prog X.w X.K tg J fp it tn) (st : tn 0 s.heap) (hf : ∀ b ∈ fp, FpOk X pins H b) (h : tCl J g tt tb vs σ H Q) :
    codeAny (model X.prog X.w) X.A (.compLoop e k (.ref it) acc X.env) (fun r s' => match r with
      | .ok _ => ∃ H', Inv X pins (wipe σ vs) H' s' ∧ Q H'
      | .error _ => False) s := by
  obtain ⟨W, ⟨m0, w0⟩, go⟩ := h
  have fok : ∀ {H' : Hp}, (∀ b ∈ fp, H' b = none) → ∀ b ∈ fp, FpOk X pins H' b := fun hn b hb => ⟨hn b hb, (hf b hb).2⟩
  have weak0 : ∀ {σ1 : L2.St} {p : List (Addr × Obj)} {H' : Hp} {s' : Shared}, wipe σ1 vs = wipe σ vs → Inv X p σ1 H' s' → Inv X p (wipe σ vs) H' s' := fun z I1 => I1.weak (by rw [← z, wipe_length]) fun j v q => by rw [← z] at q; exact (wipe_some q).1
  refine codeAny_loop (hq _) (fun m s1 => ∃ i H1, Inv X pins (wipe σ vs) H1 s1 ∧ tn i s1.heap ∧ (∀ b ∈ fp, H1 b = none) ∧ W i m H1) (fun m s1 hI => ?_) m0 ⟨0, H, weak0 rfl I, st, fun b hb => (hf b hb).1, w0⟩
  obtain ⟨i, H1, I1, st1, n1, w1⟩ := hI
  rw [hun, hden]
  refine wpAny_noted ?_
  rw [hT]
  refine wpAny_bind (wpAny_standAt (wpAny_bind ?_))
  rcases go i m H1 w1 with ⟨stop, q⟩ | ⟨gg, Nx, hNx, step⟩
  · refine thnF (T.done X rfl rfl rfl hc i pins s1 _ H1 (fun _ _ => False) I1 (fok n1) st1 stop) fun r s2 ⟨hr, I2⟩ => ?_
    subst hr
    exact wpAny_pure ⟨H1, I2, q⟩
  · refine thnF (T.item X rfl rfl rfl hc i pins s1 _ H1 (fun _ _ => False) I1 (fok n1) st1 gg) fun r s2 ⟨u, hr, h2⟩ => ?_
    subst hr
    refine wpAny_bind (thnF h2 fun _ s3 ⟨x, H3, I3, r3, y3, st3, n3⟩ => ?_)
    have I3p := I3.pinned (fok n3) (T.obj _ _ st3)
    have z4 := pg.run _ s3 _ H3 x u _ I3p r3 (step x H3 y3)
    rw [hx] at z4
    refine wpAny_bind (thnF z4 fun _ s4 ⟨σ4, H4, I4, e4, q4⟩ => ?_)
    have z5 := pt.run _ s4 σ4 H4 _ I4 q4
    rw [hx] at z5
    refine wpAny_bind (thnF z5 fun b s5 ⟨H5, I5, q5⟩ => ?_)
    have fin : ∀ {σ6 : L2.St} {s6 : Shared} {H6 : Hp}, Inv X (pins ++ pinsAt fp s3.heap) σ6 H6 s6 → wipe σ6 vs = wipe σ vs → Nx H6 → ∃ m', m' < m ∧ ∃ i H', Inv X pins (wipe σ vs) H' s6 ∧ tn i s6.heap ∧ (∀ b ∈ fp, H' b = none) ∧ W i m' H' := fun {σ6 s6 H6} I6 e6 nx => by
      obtain ⟨m', hm, w'⟩ := hNx H6 nx
      have pin : ∀ b ∈ fp, ∀ o, s3.heap.get? b = some o → s6.heap.get? b = some o ∧ H6 b = none := fun b hb o z =>
        let p := I6.pin (b, o) (List.mem_append_right _ (List.mem_append_right _ (mem_pinsAt hb z)))
        ⟨p.1, p.2.1⟩
      refine ⟨m', hm, i + 1, H6, weak0 e6 I6.unpinned, T.keep _ _ _ st3 fun b hb o z => (pin b hb o z).1, fun b hb => ?_, w'⟩
      obtain ⟨o, z, _⟩ := T.obj _ _ st3 b hb
      exact (pin b hb o z).2
    cases b with
    | false =>
      simp only [Bool.false_eq_true, if_false] at q5 ⊢
      exact wpAny_pure ⟨rfl, fin I5 e4 q5⟩
    | true =>
      simp only [if_true] at q5 ⊢
      exact thnF (pb _ s5 σ4 H5 _ _ _ I5 q5 fun σ6 H6 s6 I6 e6 q6 => wpAny_pure ⟨rfl, fin I6 (e6.trans e4) q6⟩) fun _ _ z => z
/-- the next clause -/
def tNx (wi : TI) (g : TG) (tt : TT) (tb : TB) (ws : List Nat) : TB := fun σ H Q => wi σ H fun J H1 => tCl J g tt tb ws σ H1 Q
/-- a member is put -/
def tPutS (P : Program) (w : World) (D : Addr) (te : TE) : TB := fun σ H Q => te σ H fun y H1 => ∃ (z : Str) (S : Str → Bool) (n : Nat), y = .str z ∧ H1 D = some (SetT P w D S n) ∧ n + 1 < 4000 ∧ ∀ n', n' ≤ n + 1 → Q (upd H1 D (SetT P w D (fun j => S j || decide (j = z)) n'))
theorem setT_add {pins : List (Addr × Obj)} {σ : L2.St} {H : Hp} {s : Shared} {E : Value → Shared → Prop} {D : Addr} {S : Str → Bool} {n : Nat} {y : Str} {v : Value} {Q : Value → Shared → Prop} (I : Inv X pins σ H s) (hD : H D = some (SetT X.prog X.w D S n)) (room : n + 1 < 4000) (rv : RelV (.str y) v)
    (h : ∀ n' s', n' ≤ n + 1 → Inv X pins σ (upd H D (SetT X.prog X.w D (fun j => S j || decide (j = y)) n')) s' → Q .none s') : wpAny (model X.prog X.w) X.A (call (.builtin "set.add") [.ref D, v]) Q E s := by
  have R : SetS X.prog X.w s.heap D S n := (I.hok D _ hD).1
  obtain ⟨t, rfl⟩ : ∃ t, v = .str y t := rv
  obtain ⟨o, es, ep, tb, ⟨ho, hex, hd⟩, hr⟩ := id R
  have hT : s.TypeIs (.ref D) "set" := ⟨o, ho, hex.1⟩
  refine wpAny_call_entry F.slot_set_add hT F.entry_set_add ?_ (F.args_set_add_2 _ _)
  unfold Builtin.«set.add» Builtin.Frozenset.oneOther
  simp only [List.isEmpty_nil, bind_assoc]
  unfold Builtin.Frozenset.addrOf setAdd
  refine wpAny_bind (wpAny_pure (wpAny_bind (wpAny_pure (wpAny_bind (wpAny_holding (wpAny_bind ((PySem.strKind X.prog X.w).pyHash (k := y) (strKind_is _ _ _ _) ?_)))))))
  refine setX_add (knd := PySem.strKind X.prog X.w) (s := { s with toks := s.toks + 1 }) (strKind_is _ _ _ _) rfl R (by unfold scanBound; omega) fun h' sb new => ?_
  show wpAny _ _ (ret Value.none) _ _ _
  refine wpAny_pure ⟨_, rfl, h _ _ (by split <;> omega) (I.write (e := D) (t' := s.toks + 1) (by rw [hD]; trivial) (.inl rfl) (fun b u hb hu => (sb.2 b hb).trans hu) ?_ (setT_new new))⟩
  obtain ⟨o', _, _, _, ⟨ho', _⟩, _⟩ := id new
  exact ⟨o', ho'⟩
theorem hb_put {elt : Expr} {te : TE} {D : Addr} {vs : List Nat} (hx : X.xe = fun _ _ => False) (he : PE X elt te) : HasB X vs (fun z => do
    (do let v ← eval elt X.env; standAt elt.pos; let _ ← call (.builtin "set.add") [.ref D, v])
    z) (tPutS X.prog X.w D te) := by
  intro pins s σ H Q z R I h kz
  have z1 := he.run pins s σ H _ I h
  rw [hx] at z1
  refine wpAny_bind (wpAny_bind (thnF z1 fun v s1 ⟨y, H1, I1, r1, z, S, n, ey, hD, room, q⟩ => ?_))
  subst ey
  exact wpAny_bind (wpAny_standAt (wpAny_bind (setT_add I1 hD room r1 fun n' s' hn I' => wpAny_pure (kz _ _ _ I' rfl (q n' hn)))))
theorem setStart {prog : Program} {w : World} {A : Around} {R : Result → Shared → Prop} {s : Shared} {env : Env} {elt : Expr} {gens : List Comprehension} {g : Comprehension} {k : Nat} {scope : Scope} {pos : Pos} {it acc : Value} (hg : gens[k]? = some g) (ha : g.is_async = 0)
    (h0 : codeAny (model prog w) A (.compLoop (.SetComp elt gens scope pos) k it acc env) R s)
    (h : wpAny (model prog w) A (pyIter it) (fun it' s' => codeAny (model prog w) A (.compLoop (.SetComp elt gens scope pos) k it' acc env) R s') (notedBy (model prog w) A env fun x s' => R (.error x) s') s) :
    codeAny (model prog w) A (.compStart (.SetComp elt gens scope pos) k it acc env) R s := by
  refine codeAny_of_tree ?_
  show wpAny _ _ ((compStart (.SetComp elt gens scope pos) k it acc env).onRaise (fun x => do noteFrame x env; standAt theWindowsPlace)) _ _ s
  refine wpAny_notedAt ?_
  unfold compStart
  have e1 : (clausesOf (.SetComp elt gens scope pos))[k]? = some g := hg
  rw [e1]
  simp only [Option.elim, ha, bne_self_eq_false, Bool.false_eq_true, if_false]
  show wpAny _ _ (ask >>= _) _ _ s
  refine wpAny_bind (wpAny_askSetting (wpAny_ite ?_))
  split
  · first
      | exact wpAny_bind (wpAny_pure (wpAny_pure (And.intro rfl h0)))
      | exact wpAny_pure (And.intro rfl h0)
  · refine wpAny_bind (wpAny_rule ?_)
    first
      | exact wpAny_bind (wpAny_standAt (wpAny_bind (wpAny_mono h (fun it' s' h' => wpAny_pure (And.intro rfl h')) fun _ _ x => x)))
      | (refine wpAny_bind ?_; exact wpAny_standAt (wpAny_bind (wpAny_mono h (fun it' s' h' => wpAny_pure (And.intro rfl h')) fun _ _ x => x)))
theorem hb_next {elt tg i1 : Expr} {gens : List Comprehension} {ifs : List Expr} {k : Nat} {scope : Scope} {pos : Pos} {acc : Value} {body : Sem PySem.Fin → Sem PySem.Fin} {wi : TI} {g : TG} {tt : TT} {tb : TB} {vs ws : List Nat} (hc : X.calm = true) (hx : X.xe = fun _ _ => False) (hv : ∀ i ∈ ws, i ∈ vs) (hg : gens[k]? = some ⟨tg, i1, ifs, 0⟩)
    (hT : TurnIs (.SetComp elt gens scope pos) tg k i1.pos ifs acc X.env body)
    (hi : PI X tg i1 wi) (pg : PG X tg g) (pt : PTs X ifs tt) (pb : HasB X ws body tb) (hs : ∀ x, foldedSetIterable i1 X.env x = pure x) :
    HasB X vs (fun z => do
      let x ← eval i1 X.env
      standAt i1.pos
      let x ← foldedSetIterable i1 X.env x
      let _ ← runOwn (.compStart (.SetComp elt gens scope pos) k (← holding [x] (pyIter x)) acc X.env) X.env
      z) (tNx wi g tt tb ws) := by
  intro pins s σ H Q z R I h kz
  have z1 := hi.run pins s σ H _ I h
  rw [hx] at z1
  refine wpAny_bind (thnF z1 fun x s1 h1 => ?_)
  refine wpAny_bind (wpAny_standAt (wpAny_bind (wpAny_of_eq (hs x) (wpAny_bind (wpAny_holding (thnF h1 fun itv s2 h2 => ?_))))))
  obtain ⟨it, fp, tn, J, H2, e, I2, T, st, f2, q⟩ := h2
  subst e
  refine wpAny_bind (wpAny_runOwn ?_)
  rw [Around.mark_none]
  have L := cl_loop (e := .SetComp elt gens scope pos) (k := k) (acc := acc) hc hx (fun _ => rfl) (fun _ => rfl) (fun _ => rfl) hT pg pt pb I2 T st f2 q
  have L2 := codeAny_mono (R' := fun r s' => match r with
      | .ok f => wpAny (model X.prog X.w) X.A z R (fun _ _ => False) s'
      | .error e => cameBackBy (model X.prog X.w) X.A X.env (fun _ _ => False) e s') L fun r s' hr => by
    cases r with
    | ok f =>
      obtain ⟨H', I', q'⟩ := hr
      exact kz _ H' s' I' (wipe_wipe hv) q'
    | error e => exact hr.elim
  exact setStart hg rfl L2 (T.self X.A 0 _ _ _ st L2)
end
end RV
set_option linter.all false
/-! {x for a in .. if .. for b in .. ..}: the whole comprehension -/
namespace RV
open PySem L2 PySem.Spec PyProof.Rows
def BlkOf (X X' : Cx) (scope : Scope) : Prop := ∃ (s : Shared) (H : Hp) (C : Addr) (cl : List (Str × Addr)) (fp : List Addr), X' = X.blk s H scope (compEnvC scope cl C X.env) fp
section
variable {X : Cx}
def tSet (P : Program) (w : World) (wi : TI) (g : TG) (tt : TT) (tb : Addr → TB) (vs : List Nat) : TE := fun σ H Q => wi σ H fun J H1 => ∀ D, H1 D = none → tCl J g tt (tb D) vs σ (upd H1 D (SetT P w D (fun _ => false) 0)) fun H' => Q (.ref D) H'
theorem pe_set {elt tg iter : Expr} {ifs : List Expr} {rest : List Comprehension} {scope : Scope} {own : List (Str × Nat)} {pos : Pos} {wi : TI} {g : TG} {tt : TT} {tb : Addr → TB} (hc : X.calm = true) (hN : X.N.Nodup) (hi : PI X tg iter wi) (ok : BlkOk X.N X.env.scope scope own)
    (hg : ∀ X', BlkOf X X' scope → PG X' tg g) (ht : ∀ X', BlkOf X X' scope → PTs X' ifs tt)
    (hb : ∀ X', BlkOf X X' scope → ∀ D, ∃ body, HasB X' (own.map (·.2)) body (tb D) ∧ TurnIs (.SetComp elt (⟨tg, iter, ifs, 0⟩ :: rest) scope pos) tg 0 iter.pos ifs (.ref D) X'.env body)
    (hs : ∀ x, foldedSetIterable iter X.env x = pure x := by intro _; rfl) :
    PE X (.SetComp elt (⟨tg, iter, ifs, 0⟩ :: rest) scope pos) (tSet X.prog X.w wi g tt tb (own.map (·.2))) := by
  refine ⟨fun pins s σ H Q I h => ?_⟩
  rw [PpSet.eval_SetComp]
  have free : ∀ y ∈ scope.names, y.2 = .free → ∃ c, X.env.cells.lookup y.1 = some c := fun y hy z => (ok.free y hy z).elim (fun k => I.ok.has _ (.inl k)) fun k => I.ok.has _ (.inr k)
  refine wpAny_comprehension_free (use := none) rfl hs (closure_ok free) ok.kind (fun y hy z => by rw [ok.uniq y hy, z]) (thn (hi.run pins s σ H _ I h) fun xv s1 hx => thn hx fun itv s2 h2 => ?_)
  obtain ⟨it, fp, tn, J, H2, e, I2, T, st2, f2, q⟩ := h2
  subst e
  refine PpSet.newSet_ok (newEnv_comp ?_)
  have hn2 : H2 s2.heap.objs.size = none := I2.hok.fresh (Nat.le_refl _)
  have q0 := q _ hn2
  -- the new set
  have I3 := I2.laid (t' := s2.toks) (h' := s2.heap.push (emptySet X.w)) (fun b o z => Heap.get?_push_of_some _ z) (Nat.le_refl _) (setT_new (P := X.prog) (w := X.w) (H := upd H2 s2.heap.objs.size (SetT X.prog X.w s2.heap.objs.size (fun _ => false) 0)) (SetX.fresh (knd := PySem.strKind X.prog X.w) (Heap.get?_push_size _ rfl)))
  generalize hD : s2.heap.objs.size = D at hn2 q0 I3 ⊢
  have lt2 : ∀ b ∈ fp, b < D := fun b hb => by
    obtain ⟨o, z, _⟩ := T.obj _ _ st2 b hb
    rw [← hD]
    exact Heap.lt_size z
  have push : ∀ {b o}, s2.heap.get? b = some o → (s2.heap.push (emptySet X.w)).get? b = some o := fun z => Heap.get?_push_of_some _ z
  have psz : (s2.heap.push (emptySet X.w)).objs.size = D + 1 := by rw [Heap.size_push, hD]
  generalize hs3 : ({ s2 with heap := s2.heap.push (emptySet X.w) } : Shared) = s3
  have e3 : s3.heap = s2.heap.push (emptySet X.w) := by rw [← hs3]
  have I3 : Inv X pins σ (upd H2 D (SetT X.prog X.w D (fun _ => false) 0)) s3 := by rw [← hs3]; exact I3
  have f3 : ∀ b ∈ fp, FpOk X pins (upd H2 D (SetT X.prog X.w D (fun _ => false) 0)) b ∧ b < s3.heap.objs.size := fun b hb => by
    have l := lt2 b hb
    refine ⟨⟨?_, (f2 b hb).2⟩, by rw [e3, psz]; exact Nat.lt_succ_of_lt l⟩
    rw [upd_ne (Nat.ne_of_lt l)]
    exact (f2 b hb).1
  have st3 : tn 0 s3.heap := T.keep _ _ _ st2 fun b _ o z => by rw [e3]; exact push z
  have I4 := block_start I3 ok hN f3
  show codeAny _ _ (.compStart (.SetComp elt (⟨tg, iter, ifs, 0⟩ :: rest) scope pos) 0 (.ref it) (.ref D) (compEnvC scope (cellsFrom (s3.heap.objs.size + 1) scope.names (cloFrom X.env.cells scope.names [])) s3.heap.objs.size X.env)) (compPost (model X.prog X.w) X.A X.xe none _ (.ref D) s3.heap.objs.size) { s3 with heap := pushCells (s3.heap.push { cls := .type "dict", data := .dict #[] }) scope.names }
  have bo : BlkOf X (X.blk s3 (upd H2 D (SetT X.prog X.w D (fun _ => false) 0)) scope (compEnvC scope (cellsFrom (s3.heap.objs.size + 1) scope.names (cloFrom X.env.cells scope.names [])) s3.heap.objs.size X.env) fp) scope := ⟨_, _, _, _, _, rfl⟩
  have hg1 := hg _ bo
  have ht1 := ht _ bo
  obtain ⟨body, hb1, hT⟩ := hb _ bo D
  clear hg ht hb bo
  generalize hce : compEnvC scope (cellsFrom (s3.heap.objs.size + 1) scope.names (cloFrom X.env.cells scope.names [])) s3.heap.objs.size X.env = ce at I4 hg1 ht1 hb1 hT ⊢
  have cL : ce.locals = s3.heap.objs.size := by subst hce; rfl
  generalize hH3 : upd H2 D (SetT X.prog X.w D (fun _ => false) 0) = H3 at I3 I4 f3 q0 hg1 ht1 hb1 hT
  generalize hs4 : ({ s3 with heap := pushCells (s3.heap.push { cls := .type "dict", data := .dict #[] }) scope.names } : Shared) = s4 at I4 ⊢
  have st4 : tn 0 s4.heap := T.keep _ _ _ st3 fun b _ o z => by rw [← hs4]; exact pushCells_keeps _ _ _ _ (Heap.get?_push_of_some _ z)
  have f4 : ∀ b ∈ fp, FpOk (X.blk s3 H3 scope ce fp) [] H3 b := fun b hb => ⟨(f3 b hb).1.1, (I4.ok.exf b hb).1, I4.ok.exfs b hb, .inl hb, fun x c z => (I4.ok.exf b hb).2 x c z, fun p hp => absurd (show p ∈ ([] : List (Addr × Obj)) ++ [] from hp) (by simp)⟩
  have q4 : tCl J g tt (tb D) (own.map (·.2)) (wipe σ (own.map (·.2))) H3 fun H' => Q (.ref D) H' := by
    obtain ⟨W, w0, go⟩ := q0
    refine ⟨W, w0, fun i m H' w' => (go i m H' w').imp id fun ⟨g1, Nx, hn, step⟩ => ⟨g1, Nx, hn, fun x H'' y => ?_⟩⟩
    rw [wipe_wipe fun _ z => z]
    exact step x H'' y
  have L := cl_loop (X := X.blk s3 H3 scope ce fp) (e := .SetComp elt (⟨tg, iter, ifs, 0⟩ :: rest) scope pos) (k := 0) (acc := .ref D) hc rfl (fun _ => rfl) (fun _ => rfl) (fun _ => rfl) hT hg1 ht1 hb1 I4 T st4 f4 q4
  have L2 := codeAny_mono (R' := compPost (model X.prog X.w) X.A X.xe none (EP X pins σ Q) (.ref D) s3.heap.objs.size) L fun r s6 hr => by
    cases r with
    | error e => exact hr.elim
    | ok f =>
      obtain ⟨H6, I6, q6⟩ := hr
      have I7 : Inv X pins σ H6 s6 := I3.call' (ch := fp) I6.os I6.base I6.hok I6.bare fun b hb => ⟨(f3 b hb).1.2.2.2.1, (f3 b hb).1.2.1, (f3 b hb).1.2.2.2.2.1, (f3 b hb).1.2.2.2.2.2⟩
      have nC : H6 s3.heap.objs.size = none := by
        have z : H6 ce.locals = none := I6.free
        rw [cL] at z
        exact z
      obtain ⟨m, hm, _⟩ := I6.loc
      have hm : s6.heap.Ns ce.locals m := hm
      rw [cL] at hm
      refine ⟨m, hm, fun h'' sb => ?_⟩
      obtain ⟨g0, g1, g2, g3, g4, g5⟩ := I3.fpOk (Nat.le_refl _) nC
      exact ⟨.ref D, H6, I7.turned (t' := s6.toks) (fun b o hb z => (sb.2 b hb).trans z) g0 g1 g3 g4 g5, rfl, q6⟩
  exact setStart rfl rfl L2 (T.self X.A 0 _ _ _ st4 L2)
end
/-- a clause's turns over a walk -/
theorem cl_walk {J : It} {n : Nat} {GG : Hp → Prop} {Y : Nat → Hp → V → Hp → Prop} (wk : Walk J n GG Y) {g : TG} {tt : TT} {tb : TB} {vs : List Nat} {σ : L2.St} {H : Hp} {Q : Hp → Prop} (Pv : Nat → Hp → Prop) (h0 : Pv 0 H) (hG : ∀ i H', i ≤ n → Pv i H' → GG H')
    (hs : ∀ i x Ha Hb, i < n → Pv i Ha → Y i Ha x Hb → g x (wipe σ vs) Hb fun σ2 H2 => wipe σ2 vs = wipe σ vs ∧ tt σ2 H2 fun b H3 => if b = true then tb σ2 H3 (Pv (i + 1)) else Pv (i + 1) H3) (hd : ∀ H', Pv n H' → Q H') : tCl J g tt tb vs σ H Q := by
  refine ⟨fun i m H' => m = n - i ∧ i ≤ n ∧ Pv i H', ⟨n, by simp, Nat.zero_le _, h0⟩, fun i m H' z => ?_⟩
  obtain ⟨rfl, hi, p⟩ := z
  by_cases hlt : i < n
  · exact .inr ⟨wk.1 i H' hlt (hG i H' hi p), Pv (i + 1), fun H'' p' => ⟨n - (i + 1), by omega, rfl, hlt, p'⟩, fun x H'' y => hs i x H' H'' hlt p (wk.3 i H' x H'' hlt (hG i H' hi p) y)⟩
  · obtain rfl : i = n := by omega
    exact .inl ⟨wk.2 H' (hG i H' hi p), hd H' p⟩
end RV
set_option linter.all false
/-! {x for a in .. for b in ..} with two clauses and with three, the members texts -/
namespace RV
open PySem L2 PySem.Spec PyProof.Rows
section
variable {X : Cx}
theorem pe_set2 {elt tg iter tg1 iter1 : Expr} {ifs ifs1 : List Expr} {scope : Scope} {own : List (Str × Nat)} {ws : List Nat} {pos : Pos} {wi wi1 : TI} {g g1 : TG} {tt tt1 : TT} {te : TE} (hc : X.calm = true) (hN : X.N.Nodup) (hi : PI X tg iter wi) (ok : BlkOk X.N X.env.scope scope own) (hv : ∀ i ∈ ws, i ∈ own.map (·.2))
    (hg : ∀ (s : Shared) (H : Hp) (C : Addr) (cl : List (Str × Addr)) (fp : List Addr), PG (X.blk s H scope (compEnvC scope cl C X.env) fp) tg g) (ht : ∀ (s : Shared) (H : Hp) (C : Addr) (cl : List (Str × Addr)) (fp : List Addr), PTs (X.blk s H scope (compEnvC scope cl C X.env) fp) ifs tt) (hi1 : ∀ (s : Shared) (H : Hp) (C : Addr) (cl : List (Str × Addr)) (fp : List Addr), PI (X.blk s H scope (compEnvC scope cl C X.env) fp) tg1 iter1 wi1) (hg1 : ∀ (s : Shared) (H : Hp) (C : Addr) (cl : List (Str × Addr)) (fp : List Addr), PG (X.blk s H scope (compEnvC scope cl C X.env) fp) tg1 g1) (ht1 : ∀ (s : Shared) (H : Hp) (C : Addr) (cl : List (Str × Addr)) (fp : List Addr), PTs (X.blk s H scope (compEnvC scope cl C X.env) fp) ifs1 tt1) (he : ∀ (s : Shared) (H : Hp) (C : Addr) (cl : List (Str × Addr)) (fp : List Addr), PE (X.blk s H scope (compEnvC scope cl C X.env) fp) elt te)
    (hs : ∀ x, foldedSetIterable iter X.env x = pure x := by intro _; rfl) (hs1 : ∀ env x, foldedSetIterable iter1 env x = pure x := by intro _ _; rfl) :
    PE X (.SetComp elt [⟨tg, iter, ifs, 0⟩, ⟨tg1, iter1, ifs1, 0⟩] scope pos) (tSet X.prog X.w wi g tt (fun D => tNx wi1 g1 tt1 (tPutS X.prog X.w D te) ws) (own.map (·.2))) := by
  refine pe_set hc hN hi ok (fun X' hX => ?_) (fun X' hX => ?_) (fun X' hX D => ?_) hs
  · obtain ⟨s, H, C, cl, fp, rfl⟩ := hX
    exact hg s H C cl fp
  · obtain ⟨s, H, C, cl, fp, rfl⟩ := hX
    exact ht s H C cl fp
  · obtain ⟨s, H, C, cl, fp, rfl⟩ := hX
    exact ⟨_, hb_next (elt := elt) (gens := [⟨tg, iter, ifs, 0⟩, ⟨tg1, iter1, ifs1, 0⟩]) (k := 1) (scope := scope) (pos := pos) (acc := .ref D) hc rfl hv rfl (fun _ => rfl) (hi1 s H C cl fp) (hg1 s H C cl fp) (ht1 s H C cl fp) (hb_put rfl (he s H C cl fp)) (hs1 _), fun _ => rfl⟩
end
section
variable {X : Cx} {K : PySem.W.Frag}
theorem pi_tupK {tg l : Expr} {tl : TE} (hl : PE X l tl) (h : X.K = K := by rfl) : PI X tg l (iTup K tl) := h ▸ pi_tup hl
end
/-- everything but the object at d stays -/
def Sb (d : Addr) (H H' : Hp) : Prop := ∀ b o, b ≠ d → H b = some o → H' b = some o
theorem Sb.refl {d : Addr} (H : Hp) : Sb d H H := fun _ _ _ e => e
theorem Sb.same {d : Addr} {A B C : Hp} (s : Same A B) (n : A d = none) (h : Sb d B C) : Same A C := fun b o e => h b o (ne_of_none e n) (s b o e)
/-- places -/
def pls (ps : List P3) : List Str := ps.flatMap fun p => [p.2.1, p.2.2]
def SortP (xs : List Str) (zs : List Str) : Prop := sortedS zs = true ∧ zs.Nodup ∧ ∀ z, z ∈ zs ↔ z ∈ xs
def sp_plc (K : PySem.W.Frag) (CN CP CM : Addr) : Sp := fun vs H Q _ => ∃ (x : Addr) (ps : List P3) (ms : List M3), vs = [.ref x] ∧ NetR K CN CP CM H x ps ms ∧ ps.length ≤ 12 ∧
  ∀ (t : Addr) (zs : List Str) H', Same H H' → H' t = some (.tup (zs.map V.str)) → SortP (pls ps) zs → zs.length ≤ 24 → Q (.ref t) H'
end RV
set_option linter.all false
/-! comprehensions over pairs of two tuples; flows at places -/
namespace RV
open PySem L2 PySem.Spec PyProof.Rows TL
section
variable {K : PySem.W.Frag} {a b : Addr} {xs ys : List V} {D : Addr} {te : TE} {tt : TT} {vs : List Nat} {σ : L2.St} {H1 : Hp} {Qd : Hp → Prop} {i j : Nat}
theorem lc_zipI (p : Nat → Bool) (val : Nat → V) (ha : SqT K H1 a xs) (hb : SqT K H1 b ys) (hn : xs.length = ys.length) (len : xs.length ≤ 1000) (nD : H1 D = none) (hw : ∀ x y, wipe (((wipe σ vs).set i (some x)).set j (some y)) vs = wipe σ vs)
    (ht : ∀ (k : Nat) (x y : V), xs[k]? = some x → ys[k]? = some y → ∀ H2, Same H1 H2 → ∀ R : Bool → Hp → Prop, (∀ H3, Same H2 H3 → R (p k) H3) → tt (((wipe σ vs).set i (some x)).set j (some y)) H2 R)
    (he : ∀ (k : Nat) (x y : V), xs[k]? = some x → ys[k]? = some y → ∀ H2, Same H1 H2 → ∀ R : VK, (∀ H3, Same H2 H3 → R (val k) H3) → te (((wipe σ vs).set i (some x)).set j (some y)) H2 R)
    (k : ∀ H', Same H1 H' → H' D = some (.lst (((List.range xs.length).filter p).map val)) → Qd H') :
    ∃ W : Nat → Nat → Hp → Prop, (∃ m, W 0 m (upd H1 D (.lst []))) ∧ ∀ i' m H, W i' m H →
      ((RZ.ItzT K a b).stop i' H ∧ Qd H) ∨ ((RZ.ItzT K a b).go i' H ∧ ∃ Nx : Hp → Prop, (∀ H', Nx H' → ∃ m', m' < m ∧ W (i' + 1) m' H') ∧ ∀ x H', (RZ.ItzT K a b).yld i' H x H' → gPr K i j x (wipe σ vs) H' fun σ2 H2 => wipe σ2 vs = wipe σ vs ∧ tt σ2 H2 fun b H3 =>
        if b = true then te σ2 H3 fun y H4 => ∃ acc, H4 D = some (.lst acc) ∧ acc.length < sizeLine ∧ Nx (upd H4 D (.lst (acc ++ [y]))) else Nx H3) := by
  refine L2.lc_it (walk_zipT (K := K) (xs := xs) (ys := ys) (n := xs.length) (by omega)) (fun m H' => Same H1 H' ∧ H' D = some (.lst (((List.range m).filter p).map val))) ⟨fun b o e => (upd_ne (ne_of_none e nD)).trans e, upd_same⟩ (fun m H' _ z => ⟨ha.ext z.1, hb.ext z.1⟩) (fun m v Ha Hb hm hv y => ?_) (fun H' hv => k H' hv.1 hv.2)
  obtain ⟨s, eD⟩ := hv
  obtain ⟨T, x, z, rfl, nT, rfl, hx, hz⟩ := y
  dsimp only at hx hz
  have sT : Same Ha (upd Ha T (.tup [x, z])) := fun b o e => (upd_ne (ne_of_none e nT)).trans e
  have eDT := sT _ _ eD
  refine ⟨T, _, rfl, SqT.of upd_same, rfl, _, _, rfl, _, _, rfl, ⟨rfl, ⟨hw x z, ht m x z hx hz _ (s.trans sT) _ fun H3 s3 => ?_⟩⟩⟩
  have eD3 := s3 _ _ eDT
  have sH : Same H1 H3 := (s.trans sT).trans s3
  cases hp : p m with
  | false =>
    refine iteF ⟨sH, ?_⟩
    rw [eD3, List.range_succ, List.filter_append, List.filter_cons_of_neg (by rw [hp]; decide), List.filter_nil, List.append_nil]
  | true =>
    refine iteT (he m x z hx hz H3 sH _ fun H4 s4 => ⟨_, s4 _ _ eD3, ?_, fun b o e => ?_, ?_⟩)
    · rw [List.length_map]
      have l1 := List.length_filter_le p (List.range m)
      rw [List.length_range] at l1
      exact Nat.lt_of_le_of_lt l1 (Nat.lt_of_lt_of_le hm (Nat.le_trans len (by decide)))
    · rw [upd_ne (ne_of_none e nD)]
      exact s4 _ _ (sH _ _ e)
    · rw [upd_same, List.range_succ, List.filter_append, List.filter_cons_of_pos hp, List.filter_nil, List.map_append]
      rfl
end
/-- what comes in less what goes out -/
def dvP (ps : List P3) (fs : List Int) (z : Str) : Int := dv ps.length (pS ps) (pE ps) (rwf fs) z
def sumAt (g : Nat → Str) (n : Nat) (fs : List Int) (z : Str) : List Int := ((List.range n).filter fun k => decide (g k = z)).map (rwf fs)
def flwB (ps : List P3) (fs : List Int) : Bool := decide (fs.length = ps.length) && (pls ps).all fun z => decide (dvP ps fs z = 0)
section
variable (K : PySem.W.Frag) (CN CP CM : Addr)
def sp_kat : Sp := fun vs H Q _ => ∃ (x t : Addr) (ps : List P3) (ms : List M3) (fs : List Int) (z : Str), vs = [.ref x, .ref t, .str z] ∧ NetR K CN CP CM H x ps ms ∧ ps.length ≤ 12 ∧ SqT K H t (fs.map V.int) ∧ fs.length = ps.length ∧ ∀ H', Same H H' → Q (.int (dvP ps fs z)) H'
def sp_isf : Sp := fun vs H Q _ => ∃ (x t : Addr) (ps : List P3) (ms : List M3) (fs : List Int), vs = [.ref x, .ref t] ∧ NetR K CN CP CM H x ps ms ∧ ps.length ≤ 12 ∧ SqT K H t (fs.map V.int) ∧ fs.length ≤ 1000 ∧ ∀ H', Same H H' → Q (.bl (flwB ps fs)) H'
/-- a ring through a pipe with so many meters -/
structure RingF (ps : List P3) (ms : List M3) (y : Str) (c : Nat) (fs : List Int) : Prop where
  len : fs.length = ps.length
  ring : ∃ p, p < ps.length ∧ pN ps p = y ∧ Ring ps.length (pS ps) (pE ps) (shutP ps ms) p (rwf fs) ∧ cnt ps.length (fun k => wtP ms (pN ps k)) (rwf fs) = c
def sp_ring : Sp := fun vs H Q _ => ∃ (x : Addr) (ps : List P3) (ms : List M3) (y : Str), vs = [.ref x, .str y] ∧ NetR K CN CP CM H x ps ms ∧ POk ps ∧ ms.length ≤ 12 ∧ y ∈ ps.map (·.1) ∧
  (strP ps ms y = none → ∀ H', Same H H' → Q .non H') ∧ ∀ c (t : Addr) fs H', strP ps ms y = some c → Same H H' → SqT K H' t (fs.map V.int) → RingF ps ms y c fs → Q (.ref t) H'
end
end RV
set_option linter.all false
/-! what the found ways are: rings without loops -/
namespace RV
open PySem L2 PyProof.Rows TL
def ZG (ps : List P3) (ms : List M3) (p : Nat) : Dist Str → Str → Nat → List Int → Prop := fun g x d fs => GW (pS ps) (pE ps) (fun k => wtP ms (pN ps k)) (okp ps.length (shutP ps ms) p) (pE ps p) g x d (rwf fs)
/-- the flow with 1 at a pipe -/
def ringL (ps : List P3) (y : Str) (fs : List Int) : List Int := (List.range ps.length).map fun k => if pN ps k = y then 1 else rwf fs k
end RV
set_option linter.all false
/-! rings of models -/
namespace RV
open PySem L2 PyProof.Rows TL
def sp_rr (K : PySem.W.Frag) (CN CP CM : Addr) : Sp := fun vs H Q _ => ∃ (l x : Addr) (M : Mod) (most more p : Nat), vs = [.ref l, .ref x, .int (p : Nat)] ∧ MdAt H l M ∧ MdOk M most more ∧ most ≤ 12 ∧ more ≤ 12 ∧ NetR K CN CP CM H x M.ps M.ms ∧ p < M.qs.length ∧ ∀ H', Same H H' → Q (.bl true) H'
end RV
set_option linter.all false
/-! for x, y, z in zip(a, b, c): three tuples -/
namespace RV
open PySem L2 PySem.Spec PyProof.Rows TL
/-- the tuples at a, b, c as they stand; the items in new tuples -/
def Itz3 (K : PySem.W.Frag) (a b c : Addr) : It :=
  ⟨fun i H => ∃ (xs ys zs : List V) (x y z : V), SqT K H a xs ∧ SqT K H b ys ∧ SqT K H c zs ∧ xs[i]? = some x ∧ ys[i]? = some y ∧ zs[i]? = some z,
    fun i H v H' => ∃ T x y z, v = .ref T ∧ H T = none ∧ H' = upd H T (.tup [x, y, z]) ∧ (∀ xs, SqT K H a xs → xs[i]? = some x) ∧ (∀ ys, SqT K H b ys → ys[i]? = some y) ∧ ∀ zs, SqT K H c zs → zs[i]? = some z,
    fun i H => ∃ xs ys zs : List V, SqT K H a xs ∧ SqT K H b ys ∧ SqT K H c zs ∧ xs.length = i ∧ ys.length = i ∧ zs.length = i⟩
def iZip3 (K : PySem.W.Frag) (ta : TA) : TI := fun σ H R => ta σ H fun vs H1 => ∃ a b c xs ys zs, vs = [.ref a, .ref b, .ref c] ∧ SqT K H1 a xs ∧ SqT K H1 b ys ∧ SqT K H1 c zs ∧ R (Itz3 K a b c) H1
def YTri (xs ys zs : Nat → Option V) : Nat → Hp → V → Hp → Prop := fun i H v H' => ∃ T x y z, v = .ref T ∧ H T = none ∧ H' = upd H T (.tup [x, y, z]) ∧ xs i = some x ∧ ys i = some y ∧ zs i = some z
end RV
set_option linter.all false
/-! worlds: readings, wrong and silent meters -/
namespace RV
open PySem L2 PySem.Spec PyProof.Rows TL
section
variable {J : It} {n : Nat} {GG : Hp → Prop} {Y : Nat → Hp → V → Hp → Prop} {g : TG} {tt : TT} {tk tv : TE} {vs : List Nat} {σ : L2.St} {H1 : Hp} {D : Addr} {Qd : Hp → Prop}
/-- a dict comprehension over a walk -/
theorem dc_it (wk : Walk J n GG Y) (Pv : Nat → Hp → Prop) (h0 : Pv 0 (upd H1 D (.dK []))) (hG : ∀ i H', i ≤ n → Pv i H' → GG H')
    (hs : ∀ i x Ha Hb, i < n → Pv i Ha → Y i Ha x Hb → g x (wipe σ vs) Hb fun σ2 H2 => wipe σ2 vs = wipe σ vs ∧ tt σ2 H2 fun b H3 =>
      if b = true then tk σ2 H3 fun y H4 => tv σ2 H4 fun z H5 => ∃ kvs k, y = kV k ∧ H5 D = some (.dK kvs) ∧ kvs.length < sizeLine ∧ Pv (i + 1) (upd H5 D (.dK (putK kvs k z))) else Pv (i + 1) H3) (hd : ∀ H', Pv n H' → Qd H') :
    ∃ W : Nat → Nat → Hp → Prop, (∃ m, W 0 m (upd H1 D (.dK []))) ∧ ∀ i m H, W i m H →
      (J.stop i H ∧ Qd H) ∨ (J.go i H ∧ ∃ Nx : Hp → Prop, (∀ H', Nx H' → ∃ m', m' < m ∧ W (i + 1) m' H') ∧ ∀ x H', J.yld i H x H' → g x (wipe σ vs) H' fun σ2 H2 => wipe σ2 vs = wipe σ vs ∧ tt σ2 H2 fun b H3 =>
        if b = true then tk σ2 H3 fun y H4 => tv σ2 H4 fun z H5 => ∃ kvs k, y = kV k ∧ H5 D = some (.dK kvs) ∧ kvs.length < sizeLine ∧ Nx (upd H5 D (.dK (putK kvs k z))) else Nx H3) := by
  refine ⟨fun i m H' => m = n - i ∧ i ≤ n ∧ Pv i H', ⟨n, by simp, Nat.zero_le _, h0⟩, fun i m H' z => ?_⟩
  obtain ⟨rfl, hi, p⟩ := z
  by_cases hlt : i < n
  · exact .inr ⟨wk.goes i H' hlt (hG i H' hi p), Pv (i + 1), fun H'' p' => ⟨n - (i + 1), by omega, rfl, hlt, p'⟩, fun x H'' y => hs i x H' H'' hlt p (wk.yields i H' x H'' hlt (hG i H' hi p) y)⟩
  · obtain rfl : i = n := by omega
    exact .inl ⟨wk.stops H' (hG i H' hi p), hd H' p⟩
end
abbrev gTri (K : PySem.W.Frag) (i j l : Nat) : TG := gTup K 3 (gCons (gName i) (gCons (gName j) (gCons (gName l) gNil)))
section
variable {K : PySem.W.Frag} {a b c : Addr} {xs ys zs : List V} {D : Addr} {te : TE} {tt : TT} {vs : List Nat} {σ : L2.St} {H1 : Hp} {Qd : Hp → Prop} {i j l : Nat}
abbrev s3 (σ : L2.St) (i j l : Nat) (x y z : V) : L2.St := ((σ.set i (some x)).set j (some y)).set l (some z)
end
/-! ### readings -/
def vO : Option Int → V
  | none => .non
  | some c => .int c
def vR (rs : List (Option Int)) : List V := rs.map vO
theorem vO_non (o : Option Int) : decide (vO o = V.non) = o.isNone := by cases o <;> rfl
def mN (ms : List M3) (k : Nat) : Str := (ms.getD k ("", "", false)).1
def mA (ms : List M3) (k : Nat) : Str := (ms.getD k ("", "", false)).2.1
def mZ (ms : List M3) (k : Nat) : Bool := (ms.getD k ("", "", false)).2.2
def rO (rs : List (Option Int)) (k : Nat) : Option Int := rs.getD k none
theorem m_at {ms : List M3} {k : Nat} {q : M3} (h : ms[k]? = some q) : mN ms k = q.1 ∧ mA ms k = q.2.1 ∧ mZ ms k = q.2.2 := by simp [mN, mA, mZ, List.getD, h]
/-- the flow of the pipe of this name -/
def amt (ps : List P3) (fs : List Int) (y : Str) : Int := match ps.findIdx? fun p => decide (p.1 = y) with
  | some k => rwf fs k
  | none => 0
def rdF (ps : List P3) (ms : List M3) (fs : List Int) : List Int := ms.map fun m => amt ps fs m.2.1
structure RdOk (ms : List M3) (rs : List (Option Int)) : Prop where
  len : rs.length = ms.length
  sea : ∀ k, k < ms.length → mZ ms k = true → rO rs k ≠ none
structure WdOk (ps : List P3) (ms : List M3) (fs : List Int) (rs : List (Option Int)) : Prop where
  fl : fs.length = ps.length
  fw : flwB ps fs = true
  rd : RdOk ms rs
  sea : ∀ k, k < ms.length → mZ ms k = true → rO rs k = some (amt ps fs (mA ms k))
def wrB (ps : List P3) (ms : List M3) (fs : List Int) (rs : List (Option Int)) (k : Nat) : Bool := match rO rs k with
  | some v => decide (v ≠ amt ps fs (mA ms k))
  | none => false
def wrN (ps : List P3) (ms : List M3) (fs : List Int) (rs : List (Option Int)) : List Str := ((List.range ms.length).filter (wrB ps ms fs rs)).map (mN ms)
def slN (ms : List M3) (rs : List (Option Int)) : List Str := ((List.range ms.length).filter fun k => (rO rs k).isNone).map (mN ms)
def Asc (xs zs : List Str) : Prop := PyProof.Rows.sortedS zs = true ∧ zs.Perm xs
theorem mN_nodup {ms : List M3} (nd : (ms.map (·.1)).Nodup) (p : Nat → Bool) : (((List.range ms.length).filter p).map (mN ms)).Nodup := by
  have e : (List.range ms.length).map (mN ms) = ms.map (·.1) := by
    refine List.ext_getElem? fun k => ?_
    rw [List.getElem?_map, List.getElem?_map]
    by_cases h : k < ms.length
    · rw [List.getElem?_range h, List.getElem?_eq_getElem h]
      simp [mN, List.getD, h]
    · rw [List.getElem?_eq_none (by rw [List.length_range]; omega), List.getElem?_eq_none (by omega)]
      rfl
  exact List.Nodup.sublist (List.Sublist.map _ List.filter_sublist) (e ▸ nd)
section
variable (K : PySem.W.Frag) (CN CP CM : Addr)
/-- a pair of a flow and readings -/
def WAt (H : Hp) (a : Addr) (fs : List Int) (rs : List (Option Int)) : Prop := ∃ tf tr, SqT K H a [.ref tf, .ref tr] ∧ SqT K H tf (fs.map V.int) ∧ SqT K H tr (vR rs)
def sp_rof : Sp := fun vs H Q _ => ∃ (x t : Addr) (ps : List P3) (ms : List M3) (fs : List Int), vs = [.ref x, .ref t] ∧ NetR K CN CP CM H x ps ms ∧ POk ps ∧ MOk ps ms ∧ SqT K H t (fs.map V.int) ∧ fs.length = ps.length ∧ flwB ps fs = true ∧
  ∀ (r : Addr) H', Same H H' → H' r = some (.tup ((rdF ps ms fs).map V.int)) → Q (.ref r) H'
def sp_isr : Sp := fun vs H Q _ => ∃ (a : Addr) (m : M3) (o : Option Int), vs = [.ref a, vO o] ∧ MetAt CM H a m ∧ Q (.bl (o.isSome || !m.2.2)) H
def sp_chr : Sp := fun vs H Q _ => ∃ (x t : Addr) (ps : List P3) (ms : List M3) (rs : List (Option Int)), vs = [.ref x, .ref t] ∧ NetR K CN CP CM H x ps ms ∧ ms.length ≤ 12 ∧ SqT K H t (vR rs) ∧ RdOk ms rs ∧ ∀ H', Same H H' → Q .non H'
def sp_are : Sp := fun vs H Q _ => ∃ (x t : Addr) (ps : List P3) (ms : List M3) (rs : List (Option Int)), vs = [.ref x, .ref t] ∧ NetR K CN CP CM H x ps ms ∧ ms.length ≤ 12 ∧ SqT K H t (vR rs) ∧ RdOk ms rs ∧ ∀ H', Same H H' → Q (.bl true) H'
def sp_seal : Sp := fun vs H Q _ => ∃ (x t r : Addr) (ps : List P3) (ms : List M3) (fs : List Int) (rs : List (Option Int)), vs = [.ref x, .ref t, .ref r] ∧ NetR K CN CP CM H x ps ms ∧ POk ps ∧ MOk ps ms ∧ SqT K H t (fs.map V.int) ∧ SqT K H r (vR rs) ∧ WdOk ps ms fs rs ∧ ∀ H', Same H H' → Q (.bl true) H'
def sp_isw : Sp := fun vs H Q _ => ∃ (x a : Addr) (ps : List P3) (ms : List M3) (fs : List Int) (rs : List (Option Int)), vs = [.ref x, .ref a] ∧ NetR K CN CP CM H x ps ms ∧ POk ps ∧ MOk ps ms ∧ WAt K H a fs rs ∧ WdOk ps ms fs rs ∧ ∀ H', Same H H' → Q (.bl true) H'
def sp_chw : Sp := fun vs H Q _ => ∃ (x a : Addr) (ps : List P3) (ms : List M3) (fs : List Int) (rs : List (Option Int)), vs = [.ref x, .ref a] ∧ NetR K CN CP CM H x ps ms ∧ POk ps ∧ MOk ps ms ∧ WAt K H a fs rs ∧ WdOk ps ms fs rs ∧ ∀ H', Same H H' → Q .non H'
def sp_sln : Sp := fun vs H Q _ => ∃ (x t : Addr) (ps : List P3) (ms : List M3) (rs : List (Option Int)), vs = [.ref x, .ref t] ∧ NetR K CN CP CM H x ps ms ∧ ms.length ≤ 12 ∧ SqT K H t (vR rs) ∧ rs.length = ms.length ∧
  ∀ (l : Addr) H', Same H H' → H l = none → H' l = some (.lst ((slN ms rs).map V.str)) → Q (.ref l) H'
def sp_wrm : Sp := fun vs H Q _ => ∃ (x a : Addr) (ps : List P3) (ms : List M3) (fs : List Int) (rs : List (Option Int)), vs = [.ref x, .ref a] ∧ NetR K CN CP CM H x ps ms ∧ POk ps ∧ MOk ps ms ∧ WAt K H a fs rs ∧ WdOk ps ms fs rs ∧
  ∀ (t : Addr) (zs : List Str) H', Same H H' → SqT K H' t (zs.map V.str) → Asc (wrN ps ms fs rs) zs → Q (.ref t) H'
def sp_slm : Sp := fun vs H Q _ => ∃ (x a : Addr) (ps : List P3) (ms : List M3) (fs : List Int) (rs : List (Option Int)), vs = [.ref x, .ref a] ∧ NetR K CN CP CM H x ps ms ∧ POk ps ∧ MOk ps ms ∧ WAt K H a fs rs ∧ WdOk ps ms fs rs ∧
  ∀ (t : Addr) (zs : List Str) H', Same H H' → SqT K H' t (zs.map V.str) → Asc (slN ms rs) zs → Q (.ref t) H'
end
end RV
set_option linter.all false
/-! two worlds with the same readings -/
namespace RV
open PySem L2 PySem.Spec PyProof.Rows TL
/-- what is seen in the world without flow and in the one with a ring -/
def seen (a c : Int) : Int → List Int → List (Option Int)
  | _, [] => []
  | met, v :: vs => if v = 0 then some 0 :: seen a c met vs else (if met < a then some v else if met < a + c then none else some 0) :: seen a c (met + 1) vs
def met (m : Int) : List Int → Int
  | [] => m
  | v :: vs => if v = 0 then met m vs else met (m + 1) vs
def isW1 (o : Option Int) : Bool := match o with
  | some r => decide (r ≠ 0)
  | none => false
def isW2 (q : Int × Option Int) : Bool := match q.2 with
  | some r => decide (r ≠ q.1)
  | none => false
def nz (vs : List Int) : Nat := (vs.filter fun v => decide (v ≠ 0)).length
section
variable (K : PySem.W.Frag) (CN CP CM : Addr)
def sp_seen : Sp := fun vs H Q _ => ∃ (x t f : Addr) (ps : List P3) (ms : List M3) (fs : List Int) (a b c : Int), vs = [.ref x, .ref t, .ref f] ∧ NetR K CN CP CM H x ps ms ∧ POk ps ∧ MOk ps ms ∧ SqT K H t (fs.map V.int) ∧ fs.length = ps.length ∧ flwB ps fs = true ∧ SqT K H f [.int a, .int b, .int c] ∧
  ∀ (r : Addr) H', Same H H' → SqT K H' r (vR (seen a c 0 (rdF ps ms fs))) → Q (.ref r) H'
/-- two worlds with the same readings -/
def MisAt (H : Hp) (t : Addr) (n : Nat) (fs : List Int) (rs : List (Option Int)) : Prop := ∃ u v tf tg tr, SqT K H t [.ref u, .ref v] ∧ SqT K H u [.ref tf, .ref tr] ∧ SqT K H v [.ref tg, .ref tr] ∧ SqT K H tf ((List.replicate n (0 : Int)).map V.int) ∧ SqT K H tg (fs.map V.int) ∧ SqT K H tr (vR rs)
def sp_misl : Sp := fun vs H Q _ => ∃ (x t : Addr) (ps : List P3) (ms : List M3) (y : Str) (a b c : Int), vs = [.ref x, .str y, .ref t] ∧ NetR K CN CP CM H x ps ms ∧ POk ps ∧ MOk ps ms ∧ y ∈ ps.map (·.1) ∧ SqT K H t [.int a, .int b, .int c] ∧ Flt a b c ∧
  (tellB (strP ps ms y) (a + b + c) = true → ∀ H', Same H H' → Q .non H') ∧
  ∀ (n : Nat) (r : Addr) fs H', strP ps ms y = some n → (n : Int) ≤ a + b + c → RingF ps ms y n fs → Same H H' → MisAt K H' r ps.length fs (seen a c 0 (rdF ps ms fs)) → Q (.ref r) H'
end
end RV
set_option linter.all false
/-! lists of indexes; worlds of models -/
namespace RV
open PySem L2 PySem.Spec PyProof.Rows TL
def vI (k : Nat) : V := .int (k : Int)
section
variable {K : PySem.W.Frag} {D : Addr} {te : TE} {tt : TT} {vs : List Nat} {σ : L2.St} {H1 : Hp} {Qd : Hp → Prop} {i : Nat} {J : It} {GG : Hp → Prop}
end
def sp_lw (K : PySem.W.Frag) : Sp := fun vs H Q _ => ∃ (l a : Addr) (M : Mod) (most more : Nat) (fs : List Int) (rs : List (Option Int)), vs = [.ref l, .ref a] ∧ MdAt H l M ∧ MdOk M most more ∧ most ≤ 12 ∧ more ≤ 12 ∧ WAt K H a fs rs ∧ WdOk M.ps M.ms fs rs ∧ (∀ c ∈ rs, True) ∧
  ∀ (r lw lm : Addr) H', Same H H' → H' r = some (.lst [.ref lw, .ref lm]) → H' lw = some (.lst (((List.range M.ms.length).filter (wrB M.ps M.ms fs rs)).map vI)) → H' lm = some (.lst (((List.range M.ms.length).filter fun k => (rO rs k).isNone).map vI)) → Q (.ref r) H'
end RV
set_option linter.all false
/-! misleading pairs of models -/
namespace RV
open PySem L2 PySem.Spec PyProof.Rows TL
def dI (k : Nat) : PyData := .int (k : Int)
def dR (o : Option Int) : PyData := match o with
  | none => .none
  | some c => .int c
section
variable {K : PySem.W.Frag} {H : Hp}
end
theorem NetR.gro2 {K : PySem.W.Frag} {CN CP CM : Addr} {a x : Addr} {H H' : Hp} {ps : List P3} {ms : List M3} {ys : List V} (h : NetR K CN CP CM H x ps ms) (e : H a = some (.lst ys)) (g : Grow a H H') : NetR K CN CP CM H' x ps ms := by
  obtain ⟨dx, tp, tm, pu, mu, ex, h1, h2, h3⟩ := h.ex
  exact ⟨dx, tp, tm, pu, mu, g _ _ (fun z => by rw [z, e] at ex; cases ex) ex, ⟨SqT.gro h1.t e g, fun u hu => (h1.o u hu).gro e g⟩, ⟨SqT.gro h2.t e g, fun u hu => (h2.o u hu).gro e g⟩, h3⟩
def sp_flt : Sp := fun vs H Q _ => ∃ (w : Addr) (n : Nat) (m : Int), vs = [.ref w, .int m] ∧ WellAt H w n ∧ n < 900000 ∧ 0 ≤ m ∧ m ≤ 3 ∧
  ∀ (t : Addr) (a b c : Int) H', Grow w H H' → WellAt H' w (n + 5) → H t = none → H' t = some (.tup [.int a, .int b, .int c]) → t ≠ w → Flt a b c → Q (.ref t) H'
def sp_pr (K : PySem.W.Frag) (CN CP CM : Addr) : Sp := fun vs H Q _ => ∃ (l x t : Addr) (M : Mod) (most more p : Nat) (a b c : Int), vs = [.ref l, .ref x, .int (p : Nat), .ref t] ∧ MdAt H l M ∧ MdOk M most more ∧ most ≤ 12 ∧ more ≤ 12 ∧ NetR K CN CP CM H x M.ps M.ms ∧ p < M.qs.length ∧ SqT K H t [.int a, .int b, .int c] ∧ Flt a b c ∧ ∀ H', Same H H' → Q (.bl true) H'
/-! ### the two worlds -/
section
variable {M : Mod} {most more p n : Nat} {fs : List Int} {a b c : Int}
end
end RV
/-! Ways side by side from one place to another: the strength of each pipe. -/
namespace RV
section
variable {α : Type} [DecidableEq α]
/-- how far a road's first t pipes lead -/
def upto (w : Nat → Nat) (kk : Nat → Nat → Nat) (j t : Nat) : Nat := ((List.range t).map fun s => w (kk j s)).sum
/-- R roads from x to y: road j's pipe number t is kk j t and joins the places nd j t and nd j (t + 1) -/
structure Roads (n : Nat) (st en : Nat → α) (R : Nat) (len : Nat → Nat) (kk : Nat → Nat → Nat) (nd : Nat → Nat → α) (x y : α) : Prop where
  pos : ∀ j, j < R → 0 < len j
  fst : ∀ j, j < R → nd j 0 = x
  lst : ∀ j, j < R → nd j (len j) = y
  lt : ∀ j t, j < R → t < len j → kk j t < n
  ends : ∀ j t, j < R → t < len j → (st (kk j t) = nd j t ∧ en (kk j t) = nd j (t + 1)) ∨ (st (kk j t) = nd j (t + 1) ∧ en (kk j t) = nd j t)
  all : ∀ k, k < n → ∃ j t, j < R ∧ t < len j ∧ kk j t = k
  inj : ∀ j t j' t', j < R → t < len j → j' < R → t' < len j' → kk j t = kk j' t' → j = j' ∧ t = t'
  ne : x ≠ y
  dc : ∃ dc : α → Nat × Nat, ∀ j t, j < R → 0 < t → t < len j → dc (nd j t) = (j, t) ∧ nd j t ≠ x ∧ nd j t ≠ y
variable {n : Nat} {st en : Nat → α} {R : Nat} {len : Nat → Nat} {kk : Nat → Nat → Nat} {nd : Nat → Nat → α} {x y u v : α} {ok : Nat → Prop} {w : Nat → Nat} {l : List (Nat × Bool)}
end
end RV
/-! The strength of a pipe in a net of ways side by side. -/
namespace RV
open PySem
section
variable {α : Type} {st en : Nat → α} {ok : Nat → Prop} {u v : α} {l : List (Nat × Bool)}
end
open Classical in
/-- sealed pipes weigh B -/
noncomputable def shW (shut : Nat → Prop) (w : Nat → Nat) (B : Nat) (k : Nat) : Nat := if shut k then B else w k
section
variable {ps : List P3} {ms : List M3} {R : Nat} {len : Nat → Nat} {kk : Nat → Nat → Nat} {nd : Nat → Nat → Str} {x y : Str}
/-- the meters of a road -/
def metR (ps : List P3) (ms : List M3) (kk : Nat → Nat → Nat) (j t : Nat) : Nat := upto (fun k => wtP ms (pN ps k)) kk j t
def OpenR (ps : List P3) (ms : List M3) (len : Nat → Nat) (kk : Nat → Nat → Nat) (j : Nat) : Prop := ∀ t, t < len j → ¬ shutP ps ms (kk j t)
end
end RV
/-! Ways side by side, from pipes in any order. -/
namespace RV
open PySem
/-- where the pipe of this name stands -/
def kkN (ps : List P3) (nm : Nat → Nat → Str) (j t : Nat) : Nat := (ps.map (·.1)).findIdx (fun z => decide (z = nm j t))
/-- the pipes of R roads: road j's pipe t is called nm j t and joins nd j t and nd j (t + 1) -/
structure RoadP (ps : List P3) (R : Nat) (len : Nat → Nat) (nm nd : Nat → Nat → Str) (x y : Str) : Prop where
  pos : ∀ j, j < R → 0 < len j
  fst : ∀ j, j < R → nd j 0 = x
  lst : ∀ j, j < R → nd j (len j) = y
  has : ∀ j t, j < R → t < len j → ∃ p ∈ ps, p.1 = nm j t ∧ ((p.2.1 = nd j t ∧ p.2.2 = nd j (t + 1)) ∨ (p.2.1 = nd j (t + 1) ∧ p.2.2 = nd j t))
  all : ∀ p ∈ ps, ∃ j t, j < R ∧ t < len j ∧ p.1 = nm j t
  un : (ps.map (·.1)).Nodup
  inj : ∀ j t j' t', j < R → t < len j → j' < R → t' < len j' → nm j t = nm j' t' → j = j' ∧ t = t'
  ne : x ≠ y
  dc : ∃ dc : Str → Nat × Nat, ∀ j t, j < R → 0 < t → t < len j → dc (nd j t) = (j, t) ∧ nd j t ≠ x ∧ nd j t ≠ y
section
variable {ps : List P3} {R : Nat} {len : Nat → Nat} {nm nd : Nat → Nat → Str} {x y : Str}
/-- the meters on road j, in all -/
def onR (ms : List M3) (nm : Nat → Nat → Str) (j t : Nat) : Nat := ((List.range t).map fun s => wtP ms (nm j s)).sum
def ShutR (ms : List M3) (len : Nat → Nat) (nm : Nat → Nat → Str) (j : Nat) : Prop := ∃ t, t < len j ∧ seP ms (nm j t) ≠ []
end
end RV
/-! The places of ways side by side: x, y, and s with two figures between them. -/
namespace RV
open PySem
def nS (i : Nat) : Str := (toString (i : Int) : String)
def stopN (j k : Nat) : Str := ("s" : Str) ++ nS j ++ nS k
def nodeN (len : Nat → Nat) (j t : Nat) : Str := if t = 0 then "x" else if t = len j then "y" else stopN j (t - 1)
/-- which place it is -/
def stopD (s : Str) : Nat × Nat := (([(0, 1), (0, 2), (1, 1), (1, 2), (2, 1), (2, 2), (3, 1), (3, 2)] : List (Nat × Nat)).find? fun p => decide (s = stopN p.1 (p.2 - 1))).getD (0, 0)
section
variable {len : Nat → Nat} {R : Nat}
end
end RV
/-! Pipes laid one after another, each put in anywhere. -/
namespace RV
open PySem
/-- the pipes of these places of roads, in any order -/
structure LaidP (ps : List P3) (done : Nat → Nat → Prop) (nm nd : Nat → Nat → Str) : Prop where
  has : ∀ j t, done j t → ∃ p ∈ ps, p.1 = nm j t ∧ ((p.2.1 = nd j t ∧ p.2.2 = nd j (t + 1)) ∨ (p.2.1 = nd j (t + 1) ∧ p.2.2 = nd j t))
  all : ∀ p ∈ ps, ∃ j t, done j t ∧ p.1 = nm j t ∧ ((p.2.1 = nd j t ∧ p.2.2 = nd j (t + 1)) ∨ (p.2.1 = nd j (t + 1) ∧ p.2.2 = nd j t))
  un : (ps.map (·.1)).Nodup
section
variable {ps : List P3} {done : Nat → Nat → Prop} {nm nd : Nat → Nat → Str}
end
end RV
/-! One more meter. -/
namespace RV
open PySem
section
variable {ms : List M3} {nm : Nat → Nat → Str} {R : Nat} {len : Nat → Nat} {J U : Nat} {g : Str} {b : Bool}
end
end RV
/-! The pipes' names by road: so many of a row of names for each road. -/
namespace RV
open PySem
/-- how many pipes the roads before road j have -/
def off (len : Nat → Nat) (j : Nat) : Nat := ((List.range j).map len).sum
/-- the name of road j's pipe t -/
def nmT (ts : List Str) (len : Nat → Nat) (j t : Nat) : Str := ts.getD (off len j + t) ""
section
variable {ts : List Str} {len : Nat → Nat} {R : Nat}
end
end RV
/-! What is due of a pipe's strength. -/
namespace RV
open PySem
/-- the counts of the other roads without a seal -/
def othR (R : Nat) (ct : Nat → Nat) (sh : Nat → Bool) (i : Nat) : List Nat := ((List.range R).filter fun k => decide (k ≠ i) && !sh k).map ct
/-- the strength that is due, the least of the others being o -/
def dueR (ct : Nat → Nat) (sh : Nat → Bool) (i : Nat) (o : Option Nat) : Option Nat := if sh i then none else o.map fun m => ct i + m
end RV
/-! Pipes and meters of roads, laid so far; things that change and things that stand. -/
namespace RV
open PySem L2
/-- the names of which roads are laid -/
structure RoOk (R : Nat) (len : Nat → Nat) (ts gs : List Str) (l0 : Nat) : Prop where
  r0 : 0 < R
  r4 : R ≤ 4
  h0 : ∀ j, j < R → 0 < len j
  h3 : ∀ j, j < R → len j ≤ 3
  tl : ts.length = off len R
  tn : ts.Nodup
  tm : ∀ x ∈ ts, IsNm x
  gl : gs.length = 12
  gd : gs.Nodup
  gm : ∀ x ∈ gs, IsNm x
  l0 : l0 ≤ 12
/-- the pipes of these places, the meters at them, how many meters and whether a seal each road has -/
structure Laid (R : Nat) (len : Nat → Nat) (ts gs : List Str) (l0 : Nat) (done : Nat → Nat → Prop) (ps : List P3) (ms : List M3) (ct : Nat → Nat) (sh : Nat → Bool) : Prop where
  lp : LaidP ps done (nmT ts len) (nodeN len)
  dn : ∀ j t, done j t → j < R ∧ t < len j
  gn : ms.map (·.1) = (List.range ms.length).map fun i => gs.getD (l0 - 1 - i) ""
  ml : ms.length ≤ l0
  mo : ∀ m ∈ ms, ∃ j t, done j t ∧ m.2.1 = nmT ts len j t
  ct : ∀ j, j < R → ct j = onR ms (nmT ts len) j (len j)
  sh : ∀ j, j < R → (sh j = true ↔ ShutR ms len (nmT ts len) j)
section
variable {R : Nat} {len : Nat → Nat} {ts gs : List Str} {l0 : Nat} {done : Nat → Nat → Prop} {ps : List P3} {ms : List M3} {ct : Nat → Nat} {sh : Nat → Bool}
end
/-! ### the heap -/
/-- the things of M change, those of F stand; both are new, or not in M's places -/
structure Bag (H0 : Hp) (a : Addr) (n : Nat) (M F : List (Addr × HO)) (H : Hp) : Prop where
  gr : Grow a H0 H
  well : WellAt H a n
  m : ∀ p ∈ M, H0 p.1 = none ∧ p.1 ≠ a ∧ H p.1 = some p.2
  md : (M.map (·.1)).Nodup
  f : ∀ q ∈ F, q.1 ≠ a ∧ H q.1 = some q.2 ∧ ∀ p ∈ M, q.1 ≠ p.1
section
variable {H0 H H' : Hp} {a p : Addr} {n m : Nat} {M F F' : List (Addr × HO)} {o o' : HO} {Q : VK} {E : XK}
theorem Bag.grow (h : Bag H0 a n M F H) (g : Grow a H H') (w : WellAt H' a m) : Bag H0 a m M F H' :=
  ⟨h.gr.trans g, w, fun p hp => ⟨(h.m p hp).1, (h.m p hp).2.1, g _ _ (h.m p hp).2.1 (h.m p hp).2.2⟩, h.md, fun q hq => ⟨(h.f q hq).1, g _ _ (h.f q hq).1 (h.f q hq).2.1, (h.f q hq).2.2⟩⟩
theorem Bag.same (h : Bag H0 a n M F H) (g : Same H H') : Bag H0 a n M F H' := by
  obtain ⟨x, y, z, e, r⟩ := h.well
  exact h.grow (fun b o _ eb => g b o eb) ⟨x, y, z, g _ _ e, r⟩
theorem Bag.wm (h : Bag H0 a n M F H) (e : n ≤ m) : Bag H0 a m M F H := ⟨h.gr, h.well.mono e, h.m, h.md, h.f⟩
theorem Bag.dip {q : Int} (h : Bag H0 a n M F H) (hn : n < 1000000) (h0 : 0 < q) (h1 : q ≤ 10 ^ 60) (k : ∀ (r : Int) H', 0 ≤ r → r < q → Bag H0 a (n + 1) M F H' → Q (.int r) H') : Irr sp_dip [.ref a, .int q] H Q E :=
  irr ⟨a, q, n, rfl, h.well, hn, h0, h1, fun r H' r0 r1 g w => k r H' r0 r1 (h.grow g w)⟩
theorem Bag.new (h : Bag H0 a n M F H) (np : H p = none) : Bag H0 a n M ((p, o) :: F) (upd H p o) := by
  have h1 := h.grow (m := n) (Grow.new (o := o) np) (h.well.new np)
  refine ⟨h1.gr, h1.well, h1.m, h1.md, fun q hq => ?_⟩
  rcases List.mem_cons.mp hq with rfl | hq
  · exact ⟨(h.well.ne np).symm, upd_same, fun r hr => (ne_of_none (h.m r hr).2.2 np).symm⟩
  · exact h1.f q hq
theorem Bag.sub (h : Bag H0 a n M F H) (s : ∀ p ∈ F', p ∈ F) : Bag H0 a n M F' H := ⟨h.gr, h.well, h.m, h.md, fun q hq => h.f q (s q hq)⟩
theorem Bag.at (h : Bag H0 a n M F H) (hp : (p, o) ∈ F) : H p = some o := (h.f _ hp).2.1
theorem Bag.am (h : Bag H0 a n M F H) (hp : (p, o) ∈ M) : H p = some o := (h.m _ hp).2.2
theorem Bag.put (h : Bag H0 a n M F H) {i : Nat} (hi : M[i]? = some (p, o)) : Bag H0 a n (M.set i (p, o')) F (upd H p o') := by
  have hm := List.mem_of_getElem? hi
  obtain ⟨h0, pa, e⟩ := h.m _ hm
  have efst : (M.set i (p, o')).map (·.1) = M.map (·.1) := by
    rw [List.map_set]
    refine List.ext_getElem? fun k => ?_
    rw [List.getElem?_set]
    split
    · next e =>
      subst e
      rw [List.getElem?_map, hi]
      simp [(List.getElem?_eq_some_iff.mp hi).1]
    · rfl
  refine ⟨fun b u hb eb => ?_, ?_, fun q hq => ?_, by rw [efst]; exact h.md, fun q hq => ?_⟩
  · rw [upd_ne (ne_of_none eb h0)]
    exact h.gr b u hb eb
  · obtain ⟨x, y, z, ew, r⟩ := h.well
    exact ⟨x, y, z, by rw [upd_ne pa.symm]; exact ew, r⟩
  · obtain ⟨k, hk⟩ := List.getElem?_of_mem hq
    rw [List.getElem?_set] at hk
    split at hk
    · split at hk
      · obtain rfl := Option.some.inj hk
        exact ⟨h0, pa, upd_same⟩
      · cases hk
    · next ne =>
      have hq' := List.mem_of_getElem? hk
      obtain ⟨a1, a2, a3⟩ := h.m q hq'
      refine ⟨a1, a2, ?_⟩
      rw [upd_ne]
      · exact a3
      · intro z
        refine ne ((List.getElem?_inj (l := M.map (·.1)) ?_ h.md).mp ?_)
        · rw [List.length_map]
          exact (List.getElem?_eq_some_iff.mp hi).1
        · rw [List.getElem?_map, List.getElem?_map, hi, hk]
          show some p = some q.1
          rw [z]
  · obtain ⟨a1, a2, a3⟩ := h.f q hq
    refine ⟨a1, ?_, fun r hr => ?_⟩
    · rw [upd_ne (a3 _ hm)]
      exact a2
    · have : r.1 ∈ M.map (·.1) := by
        rw [← efst]
        exact List.mem_map.mpr ⟨r, hr, rfl⟩
      obtain ⟨r', hr', e'⟩ := List.mem_map.mp this
      rw [← e']
      exact a3 r' hr'
end
end RV
/-! What is told of roads; lists of ints; places along a road. -/
namespace RV
open PySem L2 TL
abbrev TU := Addr × Addr × List Str × Nat × Bool
def oT (u : TU) : HO := .lst [.ref u.2.1, .int (u.2.2.2.1 : Nat), .bl u.2.2.2.2]
def tolF (us : List TU) : List (Addr × HO) := us.map (fun u => (u.1, oT u)) ++ us.map fun u => (u.2.1, HO.lst (u.2.2.1.map V.str))
/-- what is told of the first k roads -/
def tellL (nm : Nat → Nat → Str) (len : Nat → Nat) (ct : Nat → Nat) (sh : Nat → Bool) (k : Nat) : List (List Str × Nat × Bool) := (List.range k).map fun j => ((List.range (len j)).map (nm j), ct j, sh j)
/-- so many of a row of numbers -/
def lenL (ls : List Nat) (j : Nat) : Nat := ls.getD j 0
section
variable {H0 H H' : Hp} {a p : Addr} {n m : Nat} {M F F' : List (Addr × HO)} {o o' : HO}
theorem Bag.start (w : WellAt H a n) : Bag H a n [] [] H := ⟨Grow.refl a H, w, (fun _ h => nomatch h), .nil, fun _ h => nomatch h⟩
theorem Bag.none0 (h : Bag H0 a n M F H) (np : H p = none) : H0 p = none := by
  cases e : H0 p with
  | none => rfl
  | some o =>
    rw [h.gr p o (h.well.ne np).symm e] at np
    cases np
/-- a new thing that will change -/
theorem Bag.newM (h : Bag H0 a n M F H) (np : H p = none) : Bag H0 a n ((p, o) :: M) F (upd H p o) := by
  have h1 := h.grow (m := n) (Grow.new (o := o) np) (h.well.new np)
  refine ⟨h1.gr, h1.well, fun q hq => ?_, ?_, fun q hq => ?_⟩
  · rcases List.mem_cons.mp hq with rfl | hq
    · exact ⟨h.none0 np, (h.well.ne np).symm, upd_same⟩
    · exact h1.m q hq
  · rw [List.map_cons, List.nodup_cons]
    refine ⟨fun hm => ?_, h.md⟩
    obtain ⟨q, hq, e⟩ := List.mem_map.mp hm
    have := (h.m q hq).2.2
    rw [e, np] at this
    cases this
  · obtain ⟨a1, a2, a3⟩ := h1.f q hq
    refine ⟨a1, a2, fun r hr => ?_⟩
    rcases List.mem_cons.mp hr with rfl | hr
    · exact ne_of_none (h.f q hq).2.1 np
    · exact a3 r hr
/-- it stays as it is from here on -/
theorem Bag.frz (h : Bag H0 a n ((p, o) :: M) F H) : Bag H0 a n M ((p, o) :: F) H := by
  obtain ⟨a1, a2⟩ := List.nodup_cons.mp (by have := h.md; rwa [List.map_cons] at this)
  refine ⟨h.gr, h.well, fun q hq => h.m q (List.mem_cons_of_mem _ hq), a2, fun q hq => ?_⟩
  rcases List.mem_cons.mp hq with rfl | hq
  · obtain ⟨b1, b2, b3⟩ := h.m _ List.mem_cons_self
    exact ⟨b2, b3, fun r hr e => a1 (List.mem_map.mpr ⟨r, hr, e.symm⟩)⟩
  · obtain ⟨b1, b2, b3⟩ := h.f q hq
    exact ⟨b1, b2, fun r hr => b3 r (List.mem_cons_of_mem _ hr)⟩
theorem Bag.put0 (h : Bag H0 a n ((p, o) :: M) F H) : Bag H0 a n ((p, o') :: M) F (upd H p o') := h.put (i := 0) rfl
theorem Bag.add (h : Bag H0 a n [] F H) (n0 : p ≠ a) (e : H p = some o) : Bag H0 a n [] ((p, o) :: F) H :=
  ⟨h.gr, h.well, h.m, h.md, fun q hq => by
    rcases List.mem_cons.mp hq with rfl | hq
    · exact ⟨n0, e, fun _ h => nomatch h⟩
    · exact h.f q hq⟩
end
/-- a law's roads: told, and the text of the net -/
def sp_paths : Sp := fun vs H Q _ => ∃ (a : Addr) (n R : Nat), vs = [.ref a, .int (R : Int)] ∧ WellAt H a n ∧ n < 500 ∧ 2 ≤ R ∧ R ≤ 4 ∧
  ∀ (l lO : Addr) (us : List TU) (len : Nat → Nat) (ts gs : List Str) (l0 : Nat) (ps : List P3) (ms : List M3) (ct : Nat → Nat) (sh : Nat → Bool) H', RoOk R len ts gs l0 → Laid R len ts gs l0 (fun j t => j < R ∧ t < len j) ps ms ct sh → us.map (·.2.2) = tellL (nmT ts len) len ct sh R →
    Bag H a (n + 2000) [] ((l, .lst [.ref lO, .str (netT ps ms)]) :: (lO, .lst (rf us)) :: tolF us) H' → Q (.ref l) H'
end RV
namespace RV
open PySem L2
theorem cutV_int (ns : List Int) (a b : Option Int) : ∃ ms : List Int, cutV (ns.map V.int) a b = ms.map V.int ∧ ms.length ≤ ns.length := by
  unfold cutV
  rw [List.length_map, ← List.map_drop, ← List.map_take]
  refine ⟨_, rfl, ?_⟩
  rw [List.length_take, List.length_drop]
  omega
def sp_spring (K : PySem.W.Frag) : Sp := fun vs H Q _ => ∃ (c : Addr) (ns : List Int) (k : Nat), vs = [.ref c, .int k] ∧ SqL K H c (ns.map V.int) ∧ ns.length ≤ 63 ∧ k ≤ 100 ∧
  ∀ a H', H a = none → Same H H' → WellAt H' a k → Q (.ref a) H'
end RV
/-! names, sizes of the later laws -/
namespace RV
open PySem L2
def words3 : List Str := ["if", "go", "vote", "tell", "doubt", "pipe", "meter", "sealed"]
theorem words3_nm : ∀ x ∈ words3, IsNm x := by
  have : ∀ x ∈ words3, isNm (cd x) = true := by decide +kernel
  exact this
theorem word3_at {r : Int} (h0 : 0 ≤ r) (h : r < 8) : ∃ y, atI (words3.map V.str) r = some (V.str y) ∧ IsNm y := by
  obtain ⟨n, rfl⟩ := Int.eq_ofNat_of_zero_le h0
  have hn : n < words3.length := by show n < 8; omega
  exact ⟨words3[n], atI_nat (by rw [List.getElem?_map, List.getElem?_eq_getElem hn]; rfl), words3_nm _ (List.getElem_mem hn)⟩
theorem sizes_at {r : Int} (h0 : 0 ≤ r) (h : r < 6) : ∃ sz : Nat, sz ≤ 7 ∧ atI [V.int 0, .int 0, .int 1, .int 1, .int 3, .int 7] r = some (.int (sz : Int)) := by
  obtain ⟨n, rfl⟩ := Int.eq_ofNat_of_zero_le h0
  have : n = 0 ∨ n = 1 ∨ n = 2 ∨ n = 3 ∨ n = 4 ∨ n = 5 := by omega
  rcases this with rfl | rfl | rfl | rfl | rfl | rfl
  · exact ⟨0, by decide, atI_nat rfl⟩
  · exact ⟨0, by decide, atI_nat rfl⟩
  · exact ⟨1, by decide, atI_nat rfl⟩
  · exact ⟨1, by decide, atI_nat rfl⟩
  · exact ⟨3, by decide, atI_nat rfl⟩
  · exact ⟨7, by decide, atI_nat rfl⟩
end RV
/-! drawn nets of the later laws -/
namespace RV
open PySem L2 TL
structure PlOk (M : Mod) (most more : Nat) : Prop where
  p2 : 2 ≤ M.pl.length
  p5 : M.pl.length ≤ 5
  pn : ∀ x ∈ M.pl, IsNm x
  pd : M.pl.Nodup
  q1 : 1 ≤ M.qs.length
  qm : M.qs.length ≤ most
  qn : ∀ q ∈ M.qs, IsNm q.1 ∧ q.2.1 < M.pl.length ∧ q.2.2 < M.pl.length ∧ q.2.1 ≠ q.2.2
  qd : (M.qs.map (·.1)).Nodup
  gm : M.gs.length ≤ more
  gn : ∀ g ∈ M.gs, IsNm g.1 ∧ g.2.1 < M.qs.length
  gd : (M.gs.map (·.1)).Nodup
section
variable {M : Mod} {most more : Nat}
theorem PlOk.po (h : PlOk M most more) (m12 : most ≤ 12) : POk M.ps := by
  refine ⟨fun e => ?_, by rw [Mod.ps, List.length_map]; exact Nat.le_trans h.qm m12, fun p hp => ?_, by rw [Mod.names]; exact h.qd⟩
  · have e2 := congrArg List.length e
    rw [Mod.ps, List.length_map, List.length_nil] at e2
    have := h.q1
    omega
  · obtain ⟨q, hq, rfl⟩ := List.mem_map.mp hp
    obtain ⟨n1, n2, n3, n4⟩ := h.qn q hq
    dsimp only
    rw [getD_lt n2, getD_lt n3]
    exact ⟨n1, h.pn _ (List.getElem_mem n2), h.pn _ (List.getElem_mem n3), fun e => n4 (nodup_get h.pd e).symm⟩
theorem PlOk.mo (h : PlOk M most more) (o12 : more ≤ 12) : MOk M.ps M.ms := by
  refine ⟨by rw [Mod.ms, List.length_map]; exact Nat.le_trans h.gm o12, fun p hp => ?_, ?_, fun p hp => ?_⟩
  · obtain ⟨g, hg, rfl⟩ := List.mem_map.mp hp
    obtain ⟨n1, n2⟩ := h.gn g hg
    dsimp only
    rw [getD_lt n2]
    exact ⟨n1, (h.qn _ (List.getElem_mem n2)).1⟩
  · rw [Mod.ms, List.map_map]
    exact h.gd
  · obtain ⟨g, hg, rfl⟩ := List.mem_map.mp hp
    obtain ⟨n1, n2⟩ := h.gn g hg
    dsimp only
    rw [getD_lt n2, Mod.names]
    exact List.mem_map.mpr ⟨_, List.getElem_mem n2, rfl⟩
end
def sp_plan : Sp := fun vs H Q _ => ∃ (a : Addr) (n most more : Nat), vs = [.ref a, .int most, .int more] ∧ WellAt H a n ∧ n < 500000 ∧ 1 ≤ most ∧ most ≤ 12 ∧ more ≤ 12 ∧
  ∀ (l lp lq lg : Addr) (pl : List Str) (pu : List QU) (gu : List GU) H', Bag H a (n + 2000) [] (lM l lp lq lg pl pu gu) H' → PlOk ⟨pl, sn pu, sn gu⟩ most more → Q (.ref l) H'
/-- the text of a drawn net -/
def sp_grid : Sp := fun vs H Q _ => ∃ (l : Addr) (M : Mod) (most more : Nat), vs = [.ref l] ∧ MdAt H l M ∧ PlOk M most more ∧ most ≤ 12 ∧ more ≤ 12 ∧ ∀ H', Same H H' → Q (.str (netT M.ps M.ms)) H'
theorem Bag.addN {H0 H H' : Hp} {a p : Addr} {n m : Nat} {M F : List (Addr × HO)} {o : HO} (h : Bag H0 a n M F H) (np : H p = none) (pa : p ≠ a) (g : Grow a H H') (w : WellAt H' a m) (e : H' p = some o) : Bag H0 a m M ((p, o) :: F) H' := by
  have h1 := h.grow g w
  refine ⟨h1.gr, h1.well, h1.m, h1.md, fun q hq => ?_⟩
  rcases List.mem_cons.mp hq with rfl | hq
  · exact ⟨pa, e, fun r hr z => by
      have := (h.m r hr).2.2
      rw [← z, np] at this
      cases this⟩
  · exact h1.f q hq
end RV
/-! Forests of pipes. -/
namespace RV
section
variable {α : Type} {st en : Nat → α}
/-- pipes of S lead from u to v -/
inductive Cn (st en : Nat → α) (S : Nat → Prop) : α → α → Prop
  | nil {u} : Cn st en S u u
  | fwd {u k} : Cn st en S u (st k) → S k → Cn st en S u (en k)
  | bwd {u k} : Cn st en S u (en k) → S k → Cn st en S u (st k)
variable {S T : Nat → Prop} {u v w : α} {k : Nat}
theorem Cn.mono (h : Cn st en S u v) (st' : ∀ k, S k → T k) : Cn st en T u v := by
  induction h with
  | nil => exact .nil
  | fwd _ o ih => exact .fwd ih (st' _ o)
  | bwd _ o ih => exact .bwd ih (st' _ o)
theorem Cn.trans (h : Cn st en S u v) (g : Cn st en S v w) : Cn st en S u w := by
  induction g with
  | nil => exact h
  | fwd _ o ih => exact .fwd ih o
  | bwd _ o ih => exact .bwd ih o
theorem Cn.one (h : S k) : Cn st en S (st k) (en k) := .fwd .nil h
theorem Cn.one' (h : S k) : Cn st en S (en k) (st k) := .bwd .nil h
theorem Cn.symm (h : Cn st en S u v) : Cn st en S v u := by
  induction h with
  | nil => exact .nil
  | fwd _ o ih => exact (Cn.one' o).trans ih
  | bwd _ o ih => exact (Cn.one o).trans ih
/-- with one more pipe -/
theorem Cn.split (h : Cn st en T u v) (hT : ∀ j, T j → S j ∨ j = k) : Cn st en S u v ∨ (Cn st en S u (st k) ∧ Cn st en S (en k) v) ∨ (Cn st en S u (en k) ∧ Cn st en S (st k) v) := by
  induction h with
  | nil => exact .inl .nil
  | fwd _ o ih =>
    rename_i j
    rcases hT _ o with z | rfl
    · rcases ih with h | ⟨h1, h2⟩ | ⟨h1, h2⟩
      · exact .inl (.fwd h z)
      · exact .inr (.inl ⟨h1, .fwd h2 z⟩)
      · exact .inr (.inr ⟨h1, .fwd h2 z⟩)
    · rcases ih with h | ⟨h1, h2⟩ | ⟨h1, h2⟩
      · exact .inr (.inl ⟨h, .nil⟩)
      · exact .inr (.inl ⟨h1, .nil⟩)
      · exact .inl h1
  | bwd _ o ih =>
    rename_i j
    rcases hT _ o with z | rfl
    · rcases ih with h | ⟨h1, h2⟩ | ⟨h1, h2⟩
      · exact .inl (.bwd h z)
      · exact .inr (.inl ⟨h1, .bwd h2 z⟩)
      · exact .inr (.inr ⟨h1, .bwd h2 z⟩)
    · rcases ih with h | ⟨h1, h2⟩ | ⟨h1, h2⟩
      · exact .inr (.inr ⟨h, .nil⟩)
      · exact .inl h1
      · exact .inr (.inr ⟨h1, .nil⟩)
/-- S without k -/
def dropS (S : Nat → Prop) (k : Nat) : Nat → Prop := fun j => S j ∧ j ≠ k
def addS (S : Nat → Prop) (k : Nat) : Nat → Prop := fun j => S j ∨ j = k
/-- no ring -/
def Fo (st en : Nat → α) (S : Nat → Prop) : Prop := ∀ k, S k → ¬ Cn st en (dropS S k) (st k) (en k)
theorem Fo.mono (h : Fo st en T) (s : ∀ k, S k → T k) : Fo st en S := fun k hk c => h k (s k hk) (c.mono fun j hj => ⟨s j hj.1, hj.2⟩)
theorem Fo.none (h : ∀ k, ¬ S k) : Fo st en S := fun k hk => absurd hk (h k)
theorem Fo.add (h : Fo st en S) (n : ¬ Cn st en S (st k) (en k)) : Fo st en (addS S k) := by
  intro j hj c
  by_cases e : j = k
  · subst e
    exact n (c.mono fun i hi => hi.1.elim id fun z => absurd z hi.2)
  · have hS : S j := hj.elim id fun z => absurd z e
    have := c.split (S := dropS S j) (k := k) fun i hi => hi.1.elim (fun z => .inl ⟨z, hi.2⟩) .inr
    have m : ∀ {a b}, Cn st en (dropS S j) a b → Cn st en S a b := fun c => c.mono fun i hi => hi.1
    rcases this with c | ⟨c1, c2⟩ | ⟨c1, c2⟩
    · exact h j hS c
    · exact n ((m c1).symm.trans ((Cn.one hS).trans (m c2).symm))
    · exact n ((m c2).trans ((Cn.one' hS).trans (m c1)))
/-- a pipe that closes no ring with a forest in which it does not lie: taken out and another put in -/
theorem Cn.cross {A : α → Prop} (h : Cn st en S u v) (hu : A u) (hv : ¬ A v) : ∃ k, S k ∧ ((A (st k) ∧ ¬ A (en k)) ∨ (A (en k) ∧ ¬ A (st k))) := by
  induction h with
  | nil => exact absurd hu hv
  | fwd _ o ih =>
    rename_i k _
    by_cases z : A (st k)
    · exact ⟨k, o, .inl ⟨z, hv⟩⟩
    · exact ih z
  | bwd _ o ih =>
    rename_i k _
    by_cases z : A (en k)
    · exact ⟨k, o, .inr ⟨z, hv⟩⟩
    · exact ih z
end
/-! ### weights -/
/-- what the indexes below n with p weigh -/
def wS (fee : Nat → Int) (p : Nat → Bool) : Nat → Int
  | 0 => 0
  | n + 1 => wS fee p n + if p n then fee n else 0
def cS (p : Nat → Bool) : Nat → Nat
  | 0 => 0
  | n + 1 => cS p n + if p n then 1 else 0
section
variable {fee : Nat → Int} {p q : Nat → Bool}
/-- one index changes -/
def setB (p : Nat → Bool) (f : Nat) (b : Bool) : Nat → Bool := fun k => if k = f then b else p k
end
end RV
/-! What pipes reach, round by round; sets of indexes. -/
namespace RV
section
variable {st en : Nat → Nat} {kept keys : List Nat} {k : Nat}
/-- the places reached, one more pipe looked at -/
def stepK (st en : Nat → Nat) (keys : List Nat) (k : Nat) : List Nat :=
  if st k ∈ keys ∧ en k ∉ keys then keys ++ [en k] else if en k ∈ keys ∧ st k ∉ keys then keys ++ [st k] else keys
def roundsK (st en : Nat → Nat) (kept : List Nat) (first : Nat) : Nat → List Nat
  | 0 => [first]
  | r + 1 => kept.foldl (stepK st en) (roundsK st en kept first r)
theorem stepK_sub {x : Nat} (h : x ∈ keys) : x ∈ stepK st en keys k := by
  unfold stepK
  split
  · exact List.mem_append_left _ h
  · split
    · exact List.mem_append_left _ h
    · exact h
theorem foldK_sub {x : Nat} : ∀ {l : List Nat} {keys : List Nat}, x ∈ keys → x ∈ l.foldl (stepK st en) keys
  | [], _, h => h
  | k :: l, _, h => foldK_sub (l := l) (stepK_sub h)
theorem stepK_both (h : st k ∈ keys ∨ en k ∈ keys) : st k ∈ stepK st en keys k ∧ en k ∈ stepK st en keys k := by
  unfold stepK
  by_cases a : st k ∈ keys <;> by_cases b : en k ∈ keys <;> simp [a, b]
  rcases h with h | h
  · exact absurd h a
  · exact absurd h b
theorem stepK_cn {S : Nat → Prop} {first : Nat} (hk : S k) (h : ∀ x ∈ keys, Cn st en S first x) : ∀ x ∈ stepK st en keys k, Cn st en S first x := by
  intro x hx
  unfold stepK at hx
  split at hx
  · next c =>
    rcases List.mem_append.mp hx with z | z
    · exact h x z
    · rw [List.mem_singleton.mp z]
      exact .fwd (h _ c.1) hk
  · split at hx
    · next c =>
      rcases List.mem_append.mp hx with z | z
      · exact h x z
      · rw [List.mem_singleton.mp z]
        exact .bwd (h _ c.1) hk
    · exact h x hx
theorem foldK_cn {S : Nat → Prop} {first : Nat} : ∀ {l : List Nat} {keys : List Nat}, (∀ k ∈ l, S k) → (∀ x ∈ keys, Cn st en S first x) → ∀ x ∈ l.foldl (stepK st en) keys, Cn st en S first x
  | [], _, _, h => h
  | k :: l, _, hl, h => foldK_cn (l := l) (fun j hj => hl j (List.mem_cons_of_mem _ hj)) (stepK_cn (hl k List.mem_cons_self) h)
theorem roundsK_cn (first : Nat) : ∀ r, ∀ x ∈ roundsK st en kept first r, Cn st en (· ∈ kept) first x
  | 0 => fun x hx => by rw [List.mem_singleton.mp hx]; exact .nil
  | r + 1 => foldK_cn (fun _ h => h) (roundsK_cn first r)
theorem roundsK_first (first : Nat) : ∀ r, first ∈ roundsK st en kept first r
  | 0 => List.mem_singleton.mpr rfl
  | r + 1 => foldK_sub (roundsK_first first r)
def closK (st en : Nat → Nat) (kept keys : List Nat) : Prop := ∀ k ∈ kept, (st k ∈ keys ↔ en k ∈ keys)
def inK (st en : Nat → Nat) (kept keys : List Nat) : Nat := (kept.filter fun k => decide (st k ∈ keys) && decide (en k ∈ keys)).length
theorem foldK_clos : ∀ {l : List Nat}, (∀ k ∈ l, (st k ∈ keys ↔ en k ∈ keys)) → l.foldl (stepK st en) keys = keys
  | [], _ => rfl
  | k :: l, h => by
    have e : stepK st en keys k = keys := by
      have := h k List.mem_cons_self
      unfold stepK
      by_cases a : st k ∈ keys
      · simp [a, this.mp a]
      · have b : en k ∉ keys := fun b => a (this.mpr b)
        simp [a, b]
    rw [List.foldl_cons, e]
    exact foldK_clos fun j hj => h j (List.mem_cons_of_mem _ hj)
theorem filt_le {p q : Nat → Bool} : ∀ {l : List Nat}, (∀ k ∈ l, p k = true → q k = true) → (l.filter p).length ≤ (l.filter q).length
  | [], _ => Nat.le_refl _
  | k :: l, h => by
    have ih := filt_le (l := l) fun j hj => h j (List.mem_cons_of_mem _ hj)
    rw [List.filter_cons, List.filter_cons]
    cases e : p k with
    | false =>
      rw [if_neg (by decide)]
      cases q k with
      | false => rw [if_neg (by decide)]; exact ih
      | true => rw [if_pos rfl, List.length_cons]; omega
    | true =>
      rw [if_pos rfl, if_pos (h k List.mem_cons_self e), List.length_cons, List.length_cons]
      omega
theorem filt_lt {p q : Nat → Bool} {e : Nat} : ∀ {l : List Nat}, (∀ k ∈ l, p k = true → q k = true) → e ∈ l → p e = false → q e = true → (l.filter p).length < (l.filter q).length
  | k :: l, h, he, h1, h2 => by
    rw [List.filter_cons, List.filter_cons]
    rcases List.mem_cons.mp he with rfl | he
    · have := filt_le (l := l) fun j hj => h j (List.mem_cons_of_mem _ hj)
      simp [h1, h2]
      omega
    · have ih := filt_lt (l := l) (fun j hj => h j (List.mem_cons_of_mem _ hj)) he h1 h2
      cases z : p k with
      | false =>
        rw [if_neg (by decide)]
        cases q k with
        | false => rw [if_neg (by decide)]; exact ih
        | true => rw [if_pos rfl, List.length_cons]; omega
      | true =>
        rw [if_pos rfl, if_pos (h k List.mem_cons_self z), List.length_cons, List.length_cons]
        omega
theorem roundsK_clos (first : Nat) : ∀ r, closK st en kept (roundsK st en kept first r) ∨ r ≤ inK st en kept (roundsK st en kept first r)
  | 0 => .inr (Nat.zero_le _)
  | r + 1 => by
    by_cases c : closK st en kept (roundsK st en kept first r)
    · left
      have e : roundsK st en kept first (r + 1) = roundsK st en kept first r := foldK_clos c
      rw [e]
      exact c
    · right
      have ih := (roundsK_clos first r).resolve_left c
      obtain ⟨e, he, h1, h2⟩ : ∃ e ∈ kept, (st e ∈ roundsK st en kept first r ∨ en e ∈ roundsK st en kept first r) ∧ ¬ (st e ∈ roundsK st en kept first r ∧ en e ∈ roundsK st en kept first r) := by
        refine Classical.byContradiction fun n => c fun k hk => ?_
        by_cases a : st k ∈ roundsK st en kept first r <;> by_cases b : en k ∈ roundsK st en kept first r
        · exact ⟨fun _ => b, fun _ => a⟩
        · exact absurd ⟨k, hk, .inl a, fun z => b z.2⟩ n
        · exact absurd ⟨k, hk, .inr b, fun z => a z.1⟩ n
        · exact ⟨fun z => absurd z a, fun z => absurd z b⟩
      have both : st e ∈ roundsK st en kept first (r + 1) ∧ en e ∈ roundsK st en kept first (r + 1) := by
        show st e ∈ kept.foldl (stepK st en) (roundsK st en kept first r) ∧ en e ∈ kept.foldl (stepK st en) (roundsK st en kept first r)
        generalize roundsK st en kept first r = keys at h1
        have : ∀ {l : List Nat} {keys : List Nat}, e ∈ l → (st e ∈ keys ∨ en e ∈ keys) → st e ∈ l.foldl (stepK st en) keys ∧ en e ∈ l.foldl (stepK st en) keys := fun {l} => by
          induction l with
          | nil => intro _ h; cases h
          | cons k l ih =>
            intro keys he h
            rw [List.foldl_cons]
            rcases List.mem_cons.mp he with rfl | he
            · obtain ⟨a, b⟩ := stepK_both h
              exact ⟨foldK_sub a, foldK_sub b⟩
            · exact ih he (h.imp stepK_sub stepK_sub)
        exact this he h1
      have lt : inK st en kept (roundsK st en kept first r) < inK st en kept (roundsK st en kept first (r + 1)) := by
        refine filt_lt (e := e) (fun k _ h => ?_) he ?_ ?_
        · rw [Bool.and_eq_true, decide_eq_true_eq, decide_eq_true_eq] at h ⊢
          exact ⟨foldK_sub h.1, foldK_sub h.2⟩
        · rw [Bool.and_eq_false_iff, decide_eq_false_iff_not, decide_eq_false_iff_not]
          by_cases a : st e ∈ roundsK st en kept first r
          · exact .inr fun b => h2 ⟨a, b⟩
          · exact .inl a
        · rw [Bool.and_eq_true, decide_eq_true_eq, decide_eq_true_eq]
          exact both
      omega
/-- after as many rounds as pipes all is reached -/
theorem roundsK_all (first last : Nat) : last ∈ roundsK st en kept first kept.length ↔ Cn st en (· ∈ kept) first last := by
  refine ⟨roundsK_cn first _ last, fun h => ?_⟩
  have c : closK st en kept (roundsK st en kept first kept.length) := by
    rcases roundsK_clos (st := st) (en := en) (kept := kept) first kept.length with c | c
    · exact c
    · intro k hk
      have e : ∀ k ∈ kept, (decide (st k ∈ roundsK st en kept first kept.length) && decide (en k ∈ roundsK st en kept first kept.length)) = true := by
        rw [inK] at c
        exact fun k hk => (List.length_filter_eq_length_iff.mp (Nat.le_antisymm (List.length_filter_le _ _) c)) k hk
      have := e k hk
      rw [Bool.and_eq_true, decide_eq_true_eq, decide_eq_true_eq] at this
      exact ⟨fun _ => this.2, fun _ => this.1⟩
  induction h with
  | nil => exact roundsK_first first _
  | fwd _ o ih => exact (c _ o).mp ih
  | bwd _ o ih => exact (c _ o).mpr ih
end
/-! ### sets of so many -/
def setsF (items : List Nat) (size : Nat) : List (List Nat) := items.foldl (fun acc it => acc ++ (acc.filter fun o => decide (o.length < size)).map (· ++ [it])) [[]]
/-- how long they are -/
def lensF : Nat → Nat → List Nat
  | 0, _ => [0]
  | m + 1, size => lensF m size ++ ((lensF m size).filter fun o => decide (o < size)).map (· + 1)
end RV
/-! Things that change and things that stand, without a well; ways in a dict. -/
namespace RV
open PySem L2 TL
structure Cel (H0 : Hp) (M F : List (Addr × HO)) (H : Hp) : Prop where
  sm : Same H0 H
  m : ∀ p ∈ M, H0 p.1 = none ∧ H p.1 = some p.2
  md : (M.map (·.1)).Nodup
  f : ∀ q ∈ F, H q.1 = some q.2 ∧ ∀ p ∈ M, q.1 ≠ p.1
section
variable {H0 H H' : Hp} {p : Addr} {M F F' : List (Addr × HO)} {o o' : HO}
theorem Cel.start (H : Hp) : Cel H [] [] H := ⟨Same.refl H, (fun _ h => nomatch h), .nil, fun _ h => nomatch h⟩
theorem Cel.same (h : Cel H0 M F H) (g : Same H H') : Cel H0 M F H' := ⟨h.sm.trans g, fun p hp => ⟨(h.m p hp).1, g _ _ (h.m p hp).2⟩, h.md, fun q hq => ⟨g _ _ (h.f q hq).1, (h.f q hq).2⟩⟩
theorem Cel.none0 (h : Cel H0 M F H) (np : H p = none) : H0 p = none := by
  cases e : H0 p with
  | none => rfl
  | some o =>
    rw [h.sm p o e] at np
    cases np
theorem Cel.new (h : Cel H0 M F H) (np : H p = none) : Cel H0 M ((p, o) :: F) (upd H p o) := by
  have h1 := h.same (H' := upd H p o) fun b u e => (upd_ne (ne_of_none e np)).trans e
  refine ⟨h1.sm, h1.m, h1.md, fun q hq => ?_⟩
  rcases List.mem_cons.mp hq with rfl | hq
  · exact ⟨upd_same, fun r hr => (ne_of_none (h.m r hr).2 np).symm⟩
  · exact h1.f q hq
theorem Cel.newM (h : Cel H0 M F H) (np : H p = none) : Cel H0 ((p, o) :: M) F (upd H p o) := by
  have h1 := h.same (H' := upd H p o) fun b u e => (upd_ne (ne_of_none e np)).trans e
  refine ⟨h1.sm, fun q hq => ?_, ?_, fun q hq => ?_⟩
  · rcases List.mem_cons.mp hq with rfl | hq
    · exact ⟨h.none0 np, upd_same⟩
    · exact h1.m q hq
  · rw [List.map_cons, List.nodup_cons]
    refine ⟨fun hm => ?_, h.md⟩
    obtain ⟨q, hq, e⟩ := List.mem_map.mp hm
    have := (h.m q hq).2
    rw [e, np] at this
    cases this
  · obtain ⟨a2, a3⟩ := h1.f q hq
    refine ⟨a2, fun r hr => ?_⟩
    rcases List.mem_cons.mp hr with rfl | hr
    · exact ne_of_none (h.f q hq).1 np
    · exact a3 r hr
theorem Cel.sub (h : Cel H0 M F H) (s : ∀ p ∈ F', p ∈ F) : Cel H0 M F' H := ⟨h.sm, h.m, h.md, fun q hq => h.f q (s q hq)⟩
theorem Cel.at (h : Cel H0 M F H) (hp : (p, o) ∈ F) : H p = some o := (h.f _ hp).1
theorem Cel.am (h : Cel H0 M F H) (hp : (p, o) ∈ M) : H p = some o := (h.m _ hp).2
/-- what stood at the start -/
theorem Cel.old (h : Cel H0 M F H) (e : H0 p = some o) : H p = some o := h.sm _ _ e
theorem Cel.frz (h : Cel H0 ((p, o) :: M) F H) : Cel H0 M ((p, o) :: F) H := by
  obtain ⟨a1, a2⟩ := List.nodup_cons.mp (by have := h.md; rwa [List.map_cons] at this)
  refine ⟨h.sm, fun q hq => h.m q (List.mem_cons_of_mem _ hq), a2, fun q hq => ?_⟩
  rcases List.mem_cons.mp hq with rfl | hq
  · obtain ⟨b2, b3⟩ := h.m _ List.mem_cons_self
    exact ⟨b3, fun r hr e => a1 (List.mem_map.mpr ⟨r, hr, e.symm⟩)⟩
  · obtain ⟨b2, b3⟩ := h.f q hq
    exact ⟨b2, fun r hr => b3 r (List.mem_cons_of_mem _ hr)⟩
theorem Cel.put (h : Cel H0 M F H) {i : Nat} (hi : M[i]? = some (p, o)) : Cel H0 (M.set i (p, o')) F (upd H p o') := by
  have hm := List.mem_of_getElem? hi
  obtain ⟨h0, e⟩ := h.m _ hm
  have efst : (M.set i (p, o')).map (·.1) = M.map (·.1) := by
    rw [List.map_set]
    refine List.ext_getElem? fun k => ?_
    rw [List.getElem?_set]
    split
    · next e =>
      subst e
      rw [List.getElem?_map, hi]
      simp [(List.getElem?_eq_some_iff.mp hi).1]
    · rfl
  refine ⟨fun b u eb => ?_, fun q hq => ?_, by rw [efst]; exact h.md, fun q hq => ?_⟩
  · rw [upd_ne (ne_of_none eb h0)]
    exact h.sm b u eb
  · obtain ⟨k, hk⟩ := List.getElem?_of_mem hq
    rw [List.getElem?_set] at hk
    split at hk
    · split at hk
      · obtain rfl := Option.some.inj hk
        exact ⟨h0, upd_same⟩
      · cases hk
    · next ne =>
      have hq' := List.mem_of_getElem? hk
      obtain ⟨a1, a3⟩ := h.m q hq'
      refine ⟨a1, ?_⟩
      rw [upd_ne]
      · exact a3
      · intro z
        refine ne ((List.getElem?_inj (l := M.map (·.1)) ?_ h.md).mp ?_)
        · rw [List.length_map]
          exact (List.getElem?_eq_some_iff.mp hi).1
        · rw [List.getElem?_map, List.getElem?_map, hi, hk]
          show some p = some q.1
          rw [z]
  · obtain ⟨a2, a3⟩ := h.f q hq
    refine ⟨?_, fun r hr => ?_⟩
    · rw [upd_ne (a3 _ hm)]
      exact a2
    · have : r.1 ∈ M.map (·.1) := by
        rw [← efst]
        exact List.mem_map.mpr ⟨r, hr, rfl⟩
      obtain ⟨r', hr', e'⟩ := List.mem_map.mp this
      rw [← e']
      exact a3 r' hr'
theorem Cel.addM (h : Cel H0 M F H) (np : H p = none) (g : Same H H') (e : H' p = some o) : Cel H0 ((p, o) :: M) F H' := by
  have h1 := h.same g
  refine ⟨h1.sm, fun q hq => ?_, ?_, fun q hq => ?_⟩
  · rcases List.mem_cons.mp hq with rfl | hq
    · exact ⟨h.none0 np, e⟩
    · exact h1.m q hq
  · rw [List.map_cons, List.nodup_cons]
    refine ⟨fun hm => ?_, h.md⟩
    obtain ⟨q, hq, e⟩ := List.mem_map.mp hm
    have := (h.m q hq).2
    rw [e, np] at this
    cases this
  · obtain ⟨a2, a3⟩ := h1.f q hq
    refine ⟨a2, fun r hr => ?_⟩
    rcases List.mem_cons.mp hr with rfl | hr
    · exact ne_of_none (h.f q hq).1 np
    · exact a3 r hr
theorem Cel.put0 (h : Cel H0 ((p, o) :: M) F H) : Cel H0 ((p, o') :: M) F (upd H p o') := h.put (i := 0) rfl
end
/-! ### pipes by index -/
def stQ (qs : List Q3) (k : Nat) : Nat := (qs.getD k ("", 0, 0)).2.1
def enQ (qs : List Q3) (k : Nat) : Nat := (qs.getD k ("", 0, 0)).2.2
theorem q_at {qs : List Q3} {k : Nat} {q : Q3} (h : qs[k]? = some q) : stQ qs k = q.2.1 ∧ enQ qs k = q.2.2 := by
  rw [stQ, enQ, List.getD, h]
  exact ⟨rfl, rfl⟩
/-! ### ways in a dict -/
abbrev SU := Addr × Nat × Int
abbrev WU := Nat × Addr × List SU
def kvW (rs : List WU) : List (Key × V) := rs.map fun r => (.inl (r.1 : Int), .ref r.2.1)
def oS (s : SU) : HO := .tup [.int (s.2.1 : Int), .int s.2.2]
def ledW (rs : List WU) : List (Addr × HO) := rs.flatMap fun r => (r.2.1, HO.lst (rf r.2.2)) :: r.2.2.map fun s => (s.1, oS s)
theorem ledW_l {rs : List WU} {r : WU} (h : r ∈ rs) : (r.2.1, HO.lst (rf r.2.2)) ∈ ledW rs := List.mem_flatMap.mpr ⟨r, h, List.mem_cons_self⟩
theorem ledW_s {rs : List WU} {r : WU} {s : SU} (h : r ∈ rs) (hs : s ∈ r.2.2) : (s.1, oS s) ∈ ledW rs := List.mem_flatMap.mpr ⟨r, h, List.mem_cons_of_mem _ (List.mem_map.mpr ⟨s, hs, rfl⟩)⟩
/-- one more way: of r and a new pipe -/
theorem ledW_put {rs : List WU} {r : WU} {l t : Addr} {x k : Nat} {c : Int} (h : r ∈ rs) (p : Addr × HO) (hp : p ∈ ledW (rs ++ [(x, l, r.2.2 ++ [(t, k, c)])])) : p = (l, HO.lst (rf r.2.2 ++ [.ref t])) ∨ p = (t, oS (t, k, c)) ∨ p ∈ ledW rs := by
  rw [ledW, List.flatMap_append] at hp
  rcases List.mem_append.mp hp with z | z
  · exact .inr (.inr z)
  · simp only [List.flatMap_cons, List.flatMap_nil, List.append_nil, List.map_append, List.map_cons, List.map_nil, List.mem_cons, List.mem_append, List.not_mem_nil, or_false] at z
    rcases z with z | z | z
    · left
      rw [z, rf, List.map_append]
      rfl
    · obtain ⟨s, hs, rfl⟩ := List.mem_map.mp z
      exact .inr (.inr (ledW_s h hs))
    · exact .inr (.inl z)
theorem valW_some {x : Nat} : ∀ {rs : List WU}, x ∈ rs.map (·.1) → ∃ r ∈ rs, r.1 = x ∧ valV (kvW rs) (.inl (x : Int)) = some (.ref r.2.1)
  | r :: rs, h => by
    by_cases e : r.1 = x
    · exact ⟨r, List.mem_cons_self, e, valV_pos (show (Sum.inl (r.1 : Int) : Key) = .inl (x : Int) by rw [e])⟩
    · obtain ⟨r', h1, h2, h3⟩ := valW_some (rs := rs) ((List.mem_cons.mp h).resolve_left fun z => e z.symm)
      exact ⟨r', List.mem_cons_of_mem _ h1, h2, (valV_neg (show ¬ (Sum.inl (r.1 : Int) : Key) = .inl (x : Int) from fun z => e (by injection z with z; omega))).trans h3⟩
theorem valW_none {x : Nat} : ∀ {rs : List WU}, x ∉ rs.map (·.1) → valV (kvW rs) (.inl (x : Int)) = none
  | [], _ => rfl
  | r :: rs, h => by
    rw [List.map_cons, List.mem_cons, not_or] at h
    exact (valV_neg (show ¬ (Sum.inl (r.1 : Int) : Key) = .inl (x : Int) from fun z => h.1 (by injection z with z; omega))).trans (valW_none h.2)
/-- the ways found so far: their steps are pipes below n, at most t of them -/
structure WaysOk (n t : Nat) (rs : List WU) : Prop where
  st : ∀ r ∈ rs, ∀ s ∈ r.2.2, s.2.1 < n
  ln : ∀ r ∈ rs, r.2.2.length ≤ t
  all : rs.length ≤ t + 1
theorem WaysOk.mono {n t t' : Nat} {rs : List WU} (h : WaysOk n t rs) (e : t ≤ t') : WaysOk n t' rs := ⟨h.st, fun r hr => Nat.le_trans (h.ln r hr) e, by have := h.all; omega⟩
theorem WaysOk.put {n t : Nat} {rs : List WU} {r : WU} {l a : Addr} {x k : Nat} {c : Int} (h : WaysOk n t rs) (hr : r ∈ rs) (hk : k < n) : WaysOk n (t + 1) (rs ++ [(x, l, r.2.2 ++ [(a, k, c)])]) := by
  refine ⟨fun r' hr' s hs => ?_, fun r' hr' => ?_, by rw [List.length_append, List.length_singleton]; have := h.all; omega⟩
  · rcases List.mem_append.mp hr' with z | z
    · exact h.st r' z s hs
    · rw [List.mem_singleton.mp z] at hs
      rcases List.mem_append.mp hs with z | z
      · exact h.st r hr s z
      · rw [List.mem_singleton.mp z]
        exact hk
  · rcases List.mem_append.mp hr' with z | z
    · exact Nat.le_succ_of_le (h.ln r' z)
    · rw [List.mem_singleton.mp z, List.length_append, List.length_singleton]
      have := h.ln r hr
      omega
def sp_path (K : PySem.W.Frag) : Sp := fun vs H Q _ => ∃ (lt lk : Addr) (pu : List QU) (kept : List Nat) (first last : Nat), vs = [.ref lt, .ref lk, .int (first : Int), .int (last : Int)] ∧ SqL K H lt (rf pu) ∧ (∀ u ∈ pu, H u.1 = some (oQ u.2)) ∧ SqL K H lk (kept.map vI) ∧ kept.length ≤ 12 ∧ pu.length ≤ 12 ∧ (∀ k ∈ kept, k < pu.length) ∧
  ∀ H', Same H H' → (¬ Cn (stQ (sn pu)) (enQ (sn pu)) (· ∈ kept) first last → Q .non H') ∧ ∀ (w : Addr) (ss : List SU), Cn (stQ (sn pu)) (enQ (sn pu)) (· ∈ kept) first last → H' w = some (.lst (rf ss)) → (∀ s ∈ ss, H' s.1 = some (oS s) ∧ s.2.1 < pu.length) → ss.length ≤ 200 → Q (.ref w) H'
/-- rings of pipes: none exactly if there are none -/
def sp_rings (K : PySem.W.Frag) : Sp := fun vs H Q _ => ∃ (lt : Addr) (pu : List QU), vs = [.ref lt] ∧ SqL K H lt (rf pu) ∧ (∀ u ∈ pu, H u.1 = some (oQ u.2)) ∧ pu.length ≤ 12 ∧
  ∀ (l : Addr) (xs : List V) H', Same H H' → H l = none → H' l = some (.lst xs) → (xs = [] ↔ Fo (stQ (sn pu)) (enQ (sn pu)) (· < pu.length)) → Q (.ref l) H'
end RV
/-! sorted of a list of at most one thing. -/
namespace RV
open PySem L2 PySem.Spec PyProof.Rows TL
section
variable {q : Program} {w : World} {B : Around} {F : Value → Shared → Prop} {z : Shared}
/-- whatever it is, a list of at most one thing is sorted as it stands -/
theorem sorted_short {a : Addr} {us : List Value} {R : Value → Shared → Prop} (ha : z.heap.IsList a us.toArray) (few : us.length ≤ 1)
    (k : R (.ref (z.heap.objs.size + 1)) { z with heap := sortedAll z.heap us us.toArray }) : wpAny (model q w) B (call (.builtin "sorted") [.ref a]) R F z := by
  refine Calls.call_function_entry kind_sorted plain_sorted
    entry_sorted (args_sorted1 _) ?_
  unfold Builtin.«sorted»
  refine wpAny_bind
    (m := checkCount "sorted" 1 1 _) (wpAny_pure ?_)
  refine wpAny_bind (collect_list ha ?_
    (by rw [sizeLine_eq]; omega))
  refine wpAny_bind (wpAny_newList
    ?_ (by rw [sizeLine_eq]; omega))
  have eN : ((z.heap.push (seqObj "list" #[] 0)).update z.heap.objs.size (Obj.mapSeq (· ++ us.toArray))).objs.size = z.heap.objs.size + 1 := by
    rw [Heap.size_update,
      size_push']
  have eO : (((z.heap.push (seqObj "list" #[] 0)).update z.heap.objs.size (Obj.mapSeq (· ++ us.toArray))).push (seqObj "list" us.toArray 0)).get? (z.heap.objs.size + 1) = some (seqObj "list" us.toArray 0) := by
    rw [← eN]
    exact Heap.get?_push_size _ rfl
  show wpAny _ _ _ _ _ { z with heap := ((z.heap.push (seqObj "list" #[] 0)).update z.heap.objs.size (Obj.mapSeq (· ++ us.toArray))).push (seqObj "list" us.toArray 0) }
  rw [eN]
  refine wpAny_bind (wpAny_holding (wpAny_call_entry slot_list_sort ⟨_, eO, rfl⟩ entry_list_sort (SK.plain_sort (r := fun _ => 0) eO (by omega) (fun two => absurd two (by omega)) fun ps out e1 e2 _ => ⟨_, rfl, ?_⟩) (args_list_sort _)))
  have eout : out = us.toArray := by
    have h1 : out.toList.Perm us := by
      rw [e1]
      have t := e2.map Prod.snd
      rwa [List.map_snd_zip (Nat.le_refl _)] at t
    have h2 : out.toList = us := by
      cases us with
      | nil => exact h1.eq_nil
      | cons x r =>
        have : r = [] := List.eq_nil_of_length_eq_zero (by rw [List.length_cons] at few; omega)
        subst this
        exact List.perm_singleton.mp h1
    rw [← h2]
  subst eout
  exact wpAny_pure ⟨_, rfl, k⟩
end
def rSortF (K : PySem.W.Frag) : List V → Hp → VK → Prop := fun vs H Q => ∃ (a : Addr) (xs : List V), vs = [V.ref a] ∧ SqL K H a xs ∧ xs.length ≤ 1 ∧ ∀ p, H p = none → Q (.ref p) (upd H p (.lst xs))
theorem cr_sortF {X : Cx} : CallR X (.builtin "sorted") (rSortF X.K) := by
  intro pins s σ H vs us Q I rel h
  obtain ⟨a, xs, rfl, hs, few, q⟩ := h
  obtain ⟨ws, rw1, hl, sz⟩ := I.list hs
  rw [Vals.ref1 rel]
  refine sorted_short hl.isList (by rw [← rw1.length]; exact few) ?_
  obtain ⟨ep, here⟩ := PyProof.Rows.sortedAll_at s.heap ws ws.toArray
  refine ⟨.ref _, upd H (s.heap.objs.size + 1) (.lst xs), I.laid (t' := s.toks) (fun _ _ => PyProof.Rows.sortedAll_old) (Nat.le_succ _) ⟨sz, ws, ep, rw1, by simpa using here⟩, rfl, q _ (I.hok.fresh (Nat.le_succ _))⟩
end RV
/-! sets of so many of some indexes -/
namespace RV
open PySem L2 TL
abbrev LU := Addr × List Nat
/-- the rows, as tuples -/
def sp_sets (K : PySem.W.Frag) : Sp := fun vs H Q _ => ∃ (li : Addr) (items : List Nat) (size : Nat), vs = [.ref li, .int (size : Int)] ∧ SqL K H li (items.map vI) ∧ items.Pairwise (· < ·) ∧ items.length ≤ 7 ∧ size ≤ 7 ∧ (∀ k ∈ items, k < 12) ∧
  ∀ (l : Addr) (os : List LU) H', Same H H' → H' l = some (.lst (rf os)) → (∀ u ∈ os, H' u.1 = some (.tup (u.2.map vI))) → (∀ o, o ∈ sn os ↔ o ∈ setsF items size ∧ o.length = size) → Q (.ref l) H'
/-- what is made and stands -/
def ledL (os : List LU) : List (Addr × HO) := os.map fun u => (u.1, HO.lst (u.2.map vI))
end RV
/-! Whether rings without meters are left; the least price. -/
namespace RV
open PySem L2 PyProof.Rows TL
def rNeE (K : PySem.W.Frag) : R2 := fun x y H Q => ∃ a b xs, x = .ref a ∧ y = .ref b ∧ SqL K H a xs ∧ SqL K H b [] ∧ Q (.bl (!xs.isEmpty)) H
section
variable {X : Cx}
theorem op_neE (hu : X.A.units < cLine) : OpR X (compareOp .NotEq) (rNeE X.K) := by
  intro pins s σ H x y v u Q I rx ry h
  obtain ⟨a, b, xs, rfl, rfl, ha, hb, q⟩ := h
  cases rx
  cases ry
  obtain ⟨its, rv, ⟨⟨cls, dd, data, sl⟩, n, ho, hc, hdn, hd⟩, _⟩ := I.list ha
  obtain ⟨its2, rv2, ⟨⟨cls2, dd2, data2, sl2⟩, n2, ho2, hc2, hdn2, hd2⟩, _⟩ := I.list hb
  simp only at hc hd hc2 hd2
  subst hc hd hc2 hd2
  cases rv2
  have hl1 : s.heap.IsList a its.toArray := ⟨_, ho, rfl, _, rfl⟩
  have hl2 : s.heap.IsList b ([] : List Value).toArray := ⟨_, ho2, rfl, _, rfl⟩
  cases rv with
  | nil => exact SeqAt.RcNeAt.lists (e := fun _ => true) hl1 hl2 rfl hu (fun j h1 => absurd h1 (by simp)) _ _ _ _ ⟨.bl false, H, I, rfl, q⟩
  | cons r t => exact SeqAt.RcNeAt.lists_lengths hl1 hl2 (by simp) hu _ _ _ _ ⟨.bl true, H, I, rfl, q⟩
end
section
variable {st en : Nat → Nat} {f : Nat → Nat} {S : Nat → Prop} {u v : Nat}
end
def metL (M : Mod) : List Nat := M.gs.map (·.2.1)
/-- the pipes without meters that are not chosen -/
def leftS (M : Mod) (ch : List Nat) : Nat → Prop := fun k => k < M.qs.length ∧ k ∉ metL M ∧ k ∉ ch
def FoC (M : Mod) (ch : List Nat) : Prop := Fo (stQ M.qs) (enQ M.qs) (leftS M ch)
def leftL (M : Mod) (ch : List Nat) : List Nat := (List.range M.qs.length).filter fun k => !decide (k ∈ metL M) && !decide (k ∈ ch)
def sp_open (K : PySem.W.Frag) : Sp := fun vs H Q _ => ∃ (l c : Addr) (M : Mod) (most more : Nat) (ch : List Nat), vs = [.ref l, .ref c] ∧ MdAt H l M ∧ PlOk M most more ∧ most ≤ 12 ∧ more ≤ 12 ∧ (SqL K H c (ch.map vI) ∨ SqT K H c (ch.map vI)) ∧
  ∀ (b : Bool) H', Same H H' → (b = true ↔ ¬ FoC M ch) → Q (.bl b) H'
end RV
/-! The least price by all sets. -/
namespace RV
open PySem L2 TL
def bareL (M : Mod) : List Nat := (List.range M.qs.length).filter fun k => !decide (k ∈ metL M)
def priceF (fees : List Int) (o : List Nat) : Int := (o.map fun k => fees.getD k 0).sum
/-- sets that were tried: of fewer than z -/
def triedF (M : Mod) (z : Nat) (o : List Nat) : Prop := ∃ s, s < z ∧ o ∈ setsF (bareL M) s ∧ o.length = s
/-- what was found among the tried ones -/
def LeastF (M : Mod) (fees : List Int) (D : List Nat → Prop) (fl : List Int) : Prop :=
  (fl = [] ∧ ∀ o, D o → ¬ FoC M o) ∨ ∃ v, fl = [v] ∧ (∃ o, D o ∧ FoC M o ∧ v = priceF fees o) ∧ ∀ o, D o → FoC M o → v ≤ priceF fees o
section
variable {M : Mod} {fees fl : List Int} {D D' : List Nat → Prop}
end
def sp_least (K : PySem.W.Frag) : Sp := fun vs H Q _ => ∃ (l lf : Addr) (M : Mod) (most more : Nat) (fees : List Int), vs = [.ref l, .ref lf] ∧ MdAt H l M ∧ PlOk M most more ∧ most ≤ 7 ∧ more ≤ 12 ∧ SqL K H lf (fees.map V.int) ∧ fees.length = M.qs.length ∧
  ∀ (v : Int) H', Same H H' → (∃ o, triedF M ((bareL M).length + 1) o ∧ FoC M o ∧ v = priceF fees o) → (∀ o, triedF M ((bareL M).length + 1) o → FoC M o → v ≤ priceF fees o) → Q (.int v) H'
end RV
/-! Pipes parted: those that join, those that close rings. -/
namespace RV
open PySem
section
variable {α β : Type} {st en : Nat → α} {g : α → β} {V : α → Prop} {S : Nat → Prop} {u v : α}
end
/-- marks when one more pipe joins its places -/
def mrg (mk : Str → Str) (a b : Str) : Str → Str := fun z => if mk z = mk a then mk b else mk z
abbrev SpS := (Str → Str) × List Nat × List Nat
def stpI (ps : List P3) (s : SpS) (i : Nat) : SpS :=
  if s.1 (pS ps i) = s.1 (pE ps i) then (s.1, s.2.1, s.2.2 ++ [i]) else (mrg s.1 (pS ps i) (pE ps i), s.2.1 ++ [i], s.2.2)
def splitI (ps : List P3) (I : List Nat) : SpS := I.foldl (stpI ps) (id, [], [])
/-- what parted pipes are -/
structure Parted (ps : List P3) (R : Nat → Nat → Prop) (I : List Nat) (s : SpS) : Prop where
  mem : ∀ i, i ∈ I ↔ i ∈ s.2.1 ∨ i ∈ s.2.2
  jn : ∀ x y, s.1 x = s.1 y ↔ Cn (pS ps) (pE ps) (· ∈ s.2.1) x y
  fo : Fo (pS ps) (pE ps) (· ∈ s.2.1)
  cl : ∀ c ∈ s.2.2, c ∉ s.2.1 ∧ Cn (pS ps) (pE ps) (fun k => k ∈ s.2.1 ∧ R k c) (pS ps c) (pE ps c)
  nd : s.2.2.Nodup
/-- the order of prices: dear ones first, equal ones by index -/
def OrdF (fees : List Int) (L : List Nat) : Prop := L.Perm (List.range fees.length) ∧ L.Pairwise fun i j => fees.getD j 0 < fees.getD i 0 ∨ (fees.getD i 0 = fees.getD j 0 ∧ i < j)
end RV
/-! Promises about prices and parted pipes. -/
namespace RV
open PySem L2 TL
def sp_chkpr (K : PySem.W.Frag) (CN CP CM : Addr) : Sp := fun vs H Q _ => ∃ (x t : Addr) (ps : List P3) (ms : List M3) (fees : List Int), vs = [.ref x, .ref t] ∧ NetR K CN CP CM H x ps ms ∧ SqT K H t (fees.map V.int) ∧ fees.length = ps.length ∧ (∀ f ∈ fees, 0 ≤ f) ∧ ∀ H', Same H H' → Q .non H'
/-- marks of places, as a dict -/
def mkD (zs : List Str) (mk : Str → Str) : List (Key × V) := zs.map fun z => (.inr z, .str (mk z))
def sp_mrgd (CP : Addr) : Sp := fun vs H Q _ => ∃ (d a : Addr) (zs : List Str) (mk : Str → Str) (q : P3), vs = [.ref d, .ref a] ∧ H d = some (.dK (mkD zs mk)) ∧ zs.Nodup ∧ zs.length ≤ 30 ∧ q.2.1 ∈ zs ∧ q.2.2 ∈ zs ∧ PipeAt CP H a q ∧
  ∀ (d' : Addr) H', Same H H' → H' d' = some (.dK (mkD zs (mrg mk q.2.1 q.2.2))) → Q (.ref d') H'
abbrev puD : PU := (0, ("", "", ""))
/-- parted pipes: lists of those that join, of those that close rings -/
def sp_split (K : PySem.W.Frag) (CN CP CM : Addr) : Sp := fun vs H Q _ => ∃ (x lp : Addr) (pu : List PU) (ms : List M3) (I : List Nat), vs = [.ref x, .ref lp] ∧ NetR K CN CP CM H x (sn pu) ms ∧ pu.length ≤ 12 ∧ (∀ u ∈ pu, PipeAt CP H u.1 u.2) ∧ H lp = some (.lst (I.map fun i => .ref (pu.getD i puD).1)) ∧ I.length ≤ 12 ∧ (∀ i ∈ I, i < pu.length) ∧
  ∀ (t lk lc : Addr) H', Same H H' → H' t = some (.tup [.ref lk, .ref lc]) → H' lc = some (.lst ((splitI (sn pu) I).2.2.map fun i => .ref (pu.getD i puD).1)) → Q (.ref t) H'
theorem pu_at {pu : List PU} {i : Nat} (h : i < pu.length) : pu.getD i puD = pu[i] ∧ pS (sn pu) i = pu[i].2.2.1 ∧ pE (sn pu) i = pu[i].2.2.2 ∧ pN (sn pu) i = pu[i].2.1 := by
  obtain ⟨a, b, c⟩ := pN_at (sn_get (List.getElem?_eq_getElem h))
  exact ⟨getD_lt h, b, c, a⟩
end RV
/-! A dict made by a comprehension and given to a local name on one line. -/
namespace RV
open PySem L2 TL
section
variable {X : Cx}
end
end RV
/-! Numbered prices in their order. -/
namespace RV
open PySem L2 TL
/-- a pair's two numbers, where they stand -/
def kH (H : Hp) : V → Int × Int
  | .ref a => match H a with
    | some (.tup [.int x, .int y]) => (x, y)
    | _ => (0, 0)
  | _ => (0, 0)
section
variable {K : PySem.W.Frag} {a : Addr}
/-- the i-th numbered thing -/
def YEn (xs : List V) : Nat → Hp → V → Hp → Prop := fun i H v H' => ∃ (T : Addr) (x : V), v = .ref T ∧ H T = none ∧ H' = upd H T (.tup [.int (i : Nat), x]) ∧ xs[i]? = some x
end
open PySem.Spec PyProof.Rows in
/-- names of the cheapest pipes -/
abbrev ascS (ys : List Str) : Prop := sortedS ys = true
/-- pipes parted by their prices -/
def barP (ps : List P3) (ms : List M3) (i : Nat) : Bool := decide (onP ms (pN ps i) = [])
def sp_byp (K : PySem.W.Frag) (CN CP CM : Addr) : Sp := fun vs H Q _ => ∃ (x t : Addr) (ps : List P3) (ms : List M3) (fees : List Int), vs = [.ref x, .ref t] ∧ NetR K CN CP CM H x ps ms ∧ SqT K H t (fees.map V.int) ∧ fees.length = ps.length ∧ ps.length ≤ 12 ∧ ms.length ≤ 12 ∧
  ∀ (tt lk lc : Addr) (pu : List PU) (L : List Nat) H', Same H H' → OrdF fees L → sn pu = ps → (∀ u ∈ pu, PipeAt CP H' u.1 u.2) → H' tt = some (.tup [.ref lk, .ref lc]) → H' lc = some (.lst ((splitI ps (L.filter (barP ps ms))).2.2.map fun i => .ref (pu.getD i puD).1)) → Q (.ref tt) H'
def sp_cheap (K : PySem.W.Frag) (CN CP CM : Addr) : Sp := fun vs H Q _ => ∃ (x t : Addr) (ps : List P3) (ms : List M3) (fees : List Int), vs = [.ref x, .ref t] ∧ NetR K CN CP CM H x ps ms ∧ SqT K H t (fees.map V.int) ∧ fees.length = ps.length ∧ ps.length ≤ 12 ∧ ms.length ≤ 12 ∧ (∀ f ∈ fees, 0 ≤ f) ∧
  ∀ (d : Addr) (L : List Nat) (ys : List Str) H', Same H H' → OrdF fees L → ys.Perm ((splitI ps (L.filter (barP ps ms))).2.2.map (pN ps)) → ascS ys → H' d = some (.tup (ys.map V.str)) → Q (.ref d) H'
end RV
/-! The cheapest pipes: what is left has no ring, each is wanted, none are cheaper. -/
namespace RV
open PySem L2
section
variable {fees : List Int}
end
section
variable {M : Mod} {most more : Nat} {fees : List Int} {L : List Nat}
/-- what the pipes that close rings are -/
structure ToldC (M : Mod) (fees : List Int) (C : List Nat) : Prop where
  lt : ∀ c ∈ C, c < M.qs.length ∧ c ∉ metL M
  nd : C.Nodup
  fo : FoC M C
  ne : ∀ c ∈ C, ∀ D : List Nat, (∀ k, k ∈ D ↔ k ∈ C ∧ k ≠ c) → ¬ FoC M D
  le : ∀ o, triedF M ((bareL M).length + 1) o → FoC M o → priceF fees C ≤ priceF fees o
  ex : ∃ o, triedF M ((bareL M).length + 1) o ∧ FoC M o ∧ priceF fees o = priceF fees C
end
end RV
set_option linter.all false
/-! set(tuple of texts). -/
namespace RV
open PySem L2 PySem.Spec PyProof.Rows
section
variable {P : Program} {w : World} {A : Around} {E : Value → Shared → Prop} {s : Shared}
set_option maxHeartbeats 8000000 in
end
section
variable {X : Cx}
def rSetST (K : PySem.W.Frag) (P : Program) (w : World) : List V → Hp → VK → Prop := fun vs H Q => ∃ (l : Addr) (xs : List Str), vs = [V.ref l] ∧ SqT K H l (xs.map V.str) ∧ xs.length < 4000 ∧
  ∀ a n, H a = none → n ≤ xs.length → Q (.ref a) (upd H a (SetT P w a (fun x => decide (x ∈ xs)) n))
end
end RV
/-! What _law_right looks at. -/
namespace RV
open PySem L2
/-- one told row: names of pipes in order, of the pipes C -/
def ToldR (M : Mod) (fees : List Int) (ys : List Str) : Prop := ∃ C, ToldC M fees C ∧ ys.Perm (C.map (pN M.ps)) ∧ ascS ys
section
variable {M : Mod} {most more : Nat} {fees : List Int} {ys : List Str}
end
end RV
/-! The law's own nets. -/
namespace RV
open PySem L2
def psA : List P3 := [("src", "o", "a"), ("left", "a", "b"), ("right", "a", "c"), ("lout", "b", "o"), ("rout", "c", "o")]
def msB : List M3 := [("m", "src", true)]
def psC : List P3 := [("p", "a", "b")]
def psD : List P3 := [("p", "a", "b"), ("q", "b", "a")]
def msE : List M3 := [("m", "q", false)]
abbrev txA : Str := "pipe src o a\npipe left a b\npipe right a c\npipe lout b o\npipe rout c o"
abbrev txm : Str := "\nmeter m src sealed"
abbrev txC : Str := "pipe p a b"
abbrev txD : Str := "pipe p a b\npipe q b a"
abbrev txE : Str := "pipe p a b\npipe q b a\nmeter m q"
section
variable {L : List Nat} {ys : List Str}
end
/-! ### told rows as data -/
def dT (xs : List Str) : PyData := .tuple (xs.map PyData.str)
def tl5 : PyData := .list [dT [("lout" : Str), ("right" : Str)], dT [("left" : Str)], dT [], dT [("p" : Str)], dT []]
end RV
/-! sorted of pairs of a text and an integer. -/
namespace RV
open PySem L2 PySem.Spec PyProof.Rows TL
/-- the first column holds texts, the others integers -/
def shTI : Nat → Bool := fun i => decide (i = 0)
/-- a pair of a text and an integer, where it stands -/
structure PairAt (h : Heap) (v : Value) (q : Str × Int) : Prop where
  ex : ∃ (a : Addr) (o : Obj) (t1 t2 : Tok) (n : Nat), v = .ref a ∧ h.get? a = some o ∧ o.cls = .type "tuple" ∧ o.data = .seq #[.str q.1 t1, .int q.2 t2] n
def rSortTI (K : PySem.W.Frag) : List V → Hp → VK → Prop := fun vs H Q => ∃ (a : Addr) (xs : List V) (k : V → Str × Int), vs = [V.ref a] ∧ SqL K H a xs ∧ (∀ x ∈ xs, ∃ t, x = V.ref t ∧ H t = some (.tup [.str (k x).1, .int (k x).2])) ∧
  ∀ ys p, ys.Perm xs → ys.Pairwise (fun x y => ¬ Lt (k y).1 (k x).1) → H p = none → Q (.ref p) (upd H p (.lst ys))
end RV
/-! Flows: sums over pipes, cuts, forests without flow. -/
namespace RV
/-- f 0 + .. + f (n - 1) -/
def sumN (f : Nat → Int) : Nat → Int
  | 0 => 0
  | n + 1 => sumN f n + f n
theorem sumN_congr {f g : Nat → Int} : ∀ {n : Nat}, (∀ k < n, f k = g k) → sumN f n = sumN g n
  | 0, _ => rfl
  | n + 1, h => by rw [sumN, sumN, sumN_congr fun k hk => h k (Nat.lt_succ_of_lt hk), h n (Nat.lt_succ_self n)]
theorem sumN_zero {f : Nat → Int} {n : Nat} (h : ∀ k < n, f k = 0) : sumN f n = 0 := by
  induction n with
  | zero => rfl
  | succ n ih => rw [sumN, ih fun k hk => h k (Nat.lt_succ_of_lt hk), h n (Nat.lt_succ_self n)]; rfl
theorem sumN_add (f g : Nat → Int) : ∀ n, sumN (fun k => f k + g k) n = sumN f n + sumN g n
  | 0 => rfl
  | n + 1 => by rw [sumN, sumN, sumN, sumN_add f g n]; omega
theorem sumN_mul (c : Int) (f : Nat → Int) : ∀ n, sumN (fun k => c * f k) n = c * sumN f n
  | 0 => by simp [sumN]
  | n + 1 => by rw [sumN, sumN, sumN_mul c f n, Int.mul_add]
theorem sumN_one {f : Nat → Int} {j : Nat} : ∀ {n : Nat}, j < n → (∀ k < n, k ≠ j → f k = 0) → sumN f n = f j
  | 0, h, _ => absurd h (Nat.not_lt_zero _)
  | n + 1, h, z => by
    rw [sumN]
    by_cases e : j = n
    · subst e
      rw [sumN_zero fun k hk => z k (Nat.lt_succ_of_lt hk) (Nat.ne_of_lt hk)]
      omega
    · rw [sumN_one (j := j) (by omega) fun k hk ne => z k (Nat.lt_succ_of_lt hk) ne, z n (Nat.lt_succ_self n) fun q => e q.symm]
      omega
/-- 1 where it holds -/
def b2i (b : Bool) : Int := if b then 1 else 0
section
variable {α : Type} {st en : Nat → α}
/-- what leads into A less what leads out of it -/
def cutFl (st en : Nat → α) (x : Nat → Int) (A : α → Bool) (n : Nat) : Int := sumN (fun k => x k * (b2i (A (en k)) - b2i (A (st k)))) n
/-- as much leads into each set of places as leads out of it -/
def CutF (st en : Nat → α) (x : Nat → Int) (n : Nat) : Prop := ∀ A : α → Bool, cutFl st en x A n = 0
theorem cutS_add (x y : Nat → Int) (A : α → Bool) (n : Nat) : cutFl st en (fun k => x k + y k) A n = cutFl st en x A n + cutFl st en y A n := by
  rw [cutFl, cutFl, cutFl, ← sumN_add]
  exact sumN_congr fun k _ => Int.add_mul _ _ _
theorem cutS_mul (c : Int) (x : Nat → Int) (A : α → Bool) (n : Nat) : cutFl st en (fun k => c * x k) A n = c * cutFl st en x A n := by
  rw [cutFl, cutFl, ← sumN_mul]
  exact sumN_congr fun k _ => Int.mul_assoc _ _ _
theorem cutS_congr {x y : Nat → Int} {A : α → Bool} {n : Nat} (h : ∀ k < n, x k = y k) : cutFl st en x A n = cutFl st en y A n := sumN_congr fun k hk => by rw [h k hk]
theorem CutF.add {x y : Nat → Int} {n : Nat} (h : CutF st en x n) (g : CutF st en y n) : CutF st en (fun k => x k + y k) n := fun A => by rw [cutS_add, h A, g A]; rfl
theorem CutF.mul {x : Nat → Int} {n : Nat} (h : CutF st en x n) (c : Int) : CutF st en (fun k => c * x k) n := fun A => by rw [cutS_mul, h A, Int.mul_zero]
theorem CutF.congr {x y : Nat → Int} {n : Nat} (h : CutF st en x n) (e : ∀ k < n, x k = y k) : CutF st en y n := fun A => by rw [← cutS_congr e]; exact h A
theorem CutF.sum {y : Nat → Nat → Int} {n : Nat} (c : Nat → Int) : ∀ {m : Nat}, (∀ j < m, CutF st en (y j) n) → CutF st en (fun k => sumN (fun j => c j * y j k) m) n
  | 0, _ => fun A => sumN_zero fun k _ => Int.zero_mul _
  | m + 1, h => (CutF.sum (m := m) c fun j hj => h j (Nat.lt_succ_of_lt hj)).add ((h m (Nat.lt_succ_self m)).mul (c m))
/-- a forest carries no flow -/
theorem CutF.forest {x : Nat → Int} {n : Nat} {F : Nat → Prop} (h : CutF st en x n) (hF : Fo st en F) (h0 : ∀ k < n, ¬ F k → x k = 0) : ∀ k < n, x k = 0 := by
  intro k hk
  by_cases f : F k
  · have := fun v => Classical.propDecidable (Cn st en (dropS F k) (st k) v)
    have c := h fun v => @decide (Cn st en (dropS F k) (st k) v) (this v)
    rw [cutFl, sumN_one (j := k) hk fun j hj ne => ?_] at c
    · have a : @decide (Cn st en (dropS F k) (st k) (st k)) (this _) = true := @decide_eq_true _ (this _) .nil
      have b : @decide (Cn st en (dropS F k) (st k) (en k)) (this _) = false := @decide_eq_false _ (this _) (hF k f)
      rw [a, b] at c
      have : x k * (0 - 1) = 0 := c
      omega
    · by_cases fj : F j
      · have e : @decide (Cn st en (dropS F k) (st k) (en j)) (this _) = @decide (Cn st en (dropS F k) (st k) (st j)) (this _) := by
          by_cases z : Cn st en (dropS F k) (st k) (st j)
          · rw [@decide_eq_true _ (this _) z, @decide_eq_true _ (this _) (z.fwd ⟨fj, ne⟩)]
          · rw [@decide_eq_false _ (this _) z, @decide_eq_false _ (this _) fun q => z (q.bwd ⟨fj, ne⟩)]
        rw [e, Int.sub_self, Int.mul_zero]
      · rw [h0 j hj fj, Int.zero_mul]
  · exact h0 k hk f
/-- places that are kept one by one -/
def BndF [DecidableEq α] (st en : Nat → α) (x : Nat → Int) (n : Nat) : Prop := ∀ v, cutFl st en x (fun u => decide (u = v)) n = 0
theorem cut_union {x : Nat → Int} {A B : α → Bool} {n : Nat} (d : ∀ v, A v = true → B v = false) : cutFl st en x (fun v => A v || B v) n = cutFl st en x A n + cutFl st en x B n := by
  rw [cutFl, cutFl, cutFl, ← sumN_add]
  refine sumN_congr fun k _ => ?_
  rw [← Int.mul_add]
  congr 1
  have e : ∀ v, b2i (A v || B v) = b2i (A v) + b2i (B v) := fun v => by
    cases ha : A v with
    | false => simp [b2i]
    | true => rw [d v ha]; simp [b2i]
  rw [e, e]
  omega
theorem BndF.cut [DecidableEq α] {x : Nat → Int} {n : Nat} (h : BndF st en x n) : ∀ vs : List α, ∀ A : α → Bool, cutFl st en x (fun v => A v && decide (v ∈ vs)) n = 0
  | [], A => sumN_zero fun k _ => by simp [b2i]
  | u :: vs, A => by
    have ih := h.cut vs fun v => A v && !decide (v = u)
    cases a : A u with
    | false =>
      rw [← ih]
      unfold cutFl
      refine sumN_congr fun k _ => ?_
      have e : ∀ v, (A v && decide (v ∈ u :: vs)) = ((A v && !decide (v = u)) && decide (v ∈ vs)) := fun v => by
        by_cases z : v = u
        · subst z
          simp [a]
        · simp [z]
      dsimp only
      rw [e, e]
    | true =>
      have hu := h u
      rw [show (0 : Int) = 0 + 0 from rfl]
      conv => rhs; rw [← hu]
      conv => rhs; arg 2; rw [hu, ← ih]
      rw [← cut_union (A := fun v => decide (v = u)) fun v hv => by simp at hv; simp [hv]]
      unfold cutFl
      refine sumN_congr fun k _ => ?_
      have e : ∀ v, (A v && decide (v ∈ u :: vs)) = (decide (v = u) || ((A v && !decide (v = u)) && decide (v ∈ vs))) := fun v => by
        by_cases z : v = u
        · subst z
          simp [a]
        · simp [z]
      dsimp only
      rw [e, e]
/-- places kept one by one are kept together -/
theorem BndF.cutF [DecidableEq α] {x : Nat → Int} {n : Nat} (h : BndF st en x n) : CutF st en x n := fun A => by
  have c := h.cut ((List.range n).flatMap fun k => [st k, en k]) A
  rw [← c]
  unfold cutFl
  refine sumN_congr fun k hk => ?_
  have m : ∀ v, v = st k ∨ v = en k → v ∈ (List.range n).flatMap fun k => [st k, en k] := fun v hv => List.mem_flatMap.mpr ⟨k, List.mem_range.mpr hk, by rcases hv with rfl | rfl <;> simp⟩
  simp [m _ (.inl rfl), m _ (.inr rfl)]
end
end RV
/-! Whole-number elimination of rows: rows of factors with a number and a scale behind them. -/
namespace RV
/-- a row's entry -/
def ent (r : List Int) (k : Nat) : Int := r.getD k 0
/-- what a row of m factors comes to at x, with scale d for its number -/
def rowV (m : Nat) (r : List Int) (x : Nat → Int) (d : Int) : Int := sumN (fun k => ent r k * x k) m + ent r m * d
/-- one row freed of another one's lead -/
def freeR (mine lead : List Int) (s : Nat) : List Int := (List.range mine.length).map fun k => ent mine k * ent lead s - ent lead k * ent mine s
def redR (done : List (Nat × List Int)) (row : List Int) : List Int := done.foldl (fun mine d => if ent mine d.1 ≠ 0 then freeR mine d.2 d.1 else mine) row
theorem freeR_len (mine lead : List Int) (s : Nat) : (freeR mine lead s).length = mine.length := by rw [freeR, List.length_map, List.length_range]
theorem redR_len : ∀ (done : List (Nat × List Int)) (row : List Int), (redR done row).length = row.length
  | [], _ => rfl
  | d :: done, row => by
    rw [redR, List.foldl_cons]
    split
    · exact (redR_len done _).trans (freeR_len _ _ _)
    · exact redR_len done _
theorem ent_free {mine lead : List Int} {s k : Nat} (h : k < mine.length) : ent (freeR mine lead s) k = ent mine k * ent lead s - ent lead k * ent mine s := by
  rw [ent, freeR, List.getD_eq_getElem?_getD, List.getElem?_map, List.getElem?_range h]
  rfl
/-- leads: where a row leads it is not 0, and rows behind it are 0 there -/
structure Led (m : Nat) (done : List (Nat × List Int)) : Prop where
  ld : ∀ d ∈ done, d.1 < m ∧ ent d.2 d.1 ≠ 0 ∧ d.2.length = m + 2
  up : done.Pairwise fun d e => ent e.2 d.1 = 0
/-- a reduced row's value is a multiple of the row's where the done rows are 0, and it is 0 at all leads -/
theorem redR_val {m : Nat} {x : Nat → Int} {dd : Int} : ∀ {done : List (Nat × List Int)} {row : List Int}, (∀ d ∈ done, ent d.2 d.1 ≠ 0) → m < row.length → (∀ d ∈ done, rowV m d.2 x dd = 0) → ∃ c, c ≠ 0 ∧ rowV m (redR done row) x dd = c * rowV m row x dd
  | [], row, _, _, _ => ⟨1, by decide, by rw [Int.one_mul]; rfl⟩
  | d :: done, row, h0, hm, hv => by
    have hr : redR (d :: done) row = redR done (if ent row d.1 ≠ 0 then freeR row d.2 d.1 else row) := rfl
    rw [hr]
    split
    · obtain ⟨c, c0, e⟩ := redR_val (done := done) (row := freeR row d.2 d.1) (fun e he => h0 e (List.mem_cons_of_mem _ he)) (by rw [freeR_len]; exact hm) fun e he => hv e (List.mem_cons_of_mem _ he)
      refine ⟨c * ent d.2 d.1, Int.mul_ne_zero c0 (h0 d List.mem_cons_self), ?_⟩
      rw [e, Int.mul_assoc]
      congr 1
      have hd := hv d List.mem_cons_self
      have e1 : rowV m (freeR row d.2 d.1) x dd = ent d.2 d.1 * rowV m row x dd - ent row d.1 * rowV m d.2 x dd := by
        unfold rowV
        rw [ent_free hm, sumN_congr (g := fun k => ent d.2 d.1 * (ent row k * x k) + (-ent row d.1) * (ent d.2 k * x k)) fun k hk => ?_]
        · rw [sumN_add, sumN_mul, sumN_mul]
          simp only [Int.mul_add, Int.sub_mul, Int.neg_mul, Int.mul_assoc]
          rw [Int.mul_left_comm (ent row m), Int.mul_left_comm (ent d.2 m) (ent row d.1)]
          omega
        · rw [ent_free (Nat.lt_trans hk hm)]
          simp only [Int.sub_mul, Int.neg_mul, Int.mul_assoc]
          rw [Int.mul_left_comm (ent row k), Int.mul_left_comm (ent d.2 k) (ent row d.1)]
          omega
      rw [e1, hd, Int.mul_zero, Int.sub_zero]
    · obtain ⟨c, c0, e⟩ := redR_val (done := done) (row := row) (fun e he => h0 e (List.mem_cons_of_mem _ he)) hm fun e he => hv e (List.mem_cons_of_mem _ he)
      exact ⟨c, c0, e⟩
/-- a reduced row is 0 at all leads -/
theorem redR_zero {m : Nat} : ∀ {done : List (Nat × List Int)} {row : List Int} {z : Nat}, Led m done → row.length = m + 2 → ((z ∈ done.map (·.1)) ∨ (ent row z = 0 ∧ z < m ∧ ∀ d ∈ done, ent d.2 z = 0)) → ent (redR done row) z = 0
  | [], row, z, _, _, h => by
    rcases h with h | h
    · cases h
    · exact h.1
  | d :: done, row, z, L, hl, h => by
    have hr : redR (d :: done) row = redR done (if ent row d.1 ≠ 0 then freeR row d.2 d.1 else row) := rfl
    have L' : Led m done := ⟨fun e he => L.ld e (List.mem_cons_of_mem _ he), (List.pairwise_cons.mp L.up).2⟩
    have up := (List.pairwise_cons.mp L.up).1
    obtain ⟨d1, d2, d3⟩ := L.ld d List.mem_cons_self
    rw [hr]
    by_cases hz : z = d.1
    · subst hz
      refine redR_zero L' (by split <;> simp [freeR_len, hl]) (.inr ⟨?_, d1, fun e he => up e he⟩)
      split
      · rw [ent_free (by omega)]
        rw [Int.mul_comm, Int.sub_self]
      · next q => exact Classical.byContradiction fun k => q k
    · refine redR_zero L' (by split <;> simp [freeR_len, hl]) ?_
      rcases h with h | ⟨h1, h2, h3⟩
      · rw [List.map_cons] at h
        exact .inl ((List.mem_cons.mp h).resolve_left hz)
      · refine .inr ⟨?_, h2, fun e he => h3 e (List.mem_cons_of_mem _ he)⟩
        split
        · rw [ent_free (by omega), h1, h3 d List.mem_cons_self]
          simp
        · exact h1
/-- the leading spot of a row of m factors -/
def spotR (m : Nat) (r : List Int) : Option Nat := (List.range m).find? fun k => ent r k != 0
/-- all rows, one by one: their leading rows, none if they contradict one another -/
def solveR (m : Nat) : List (List Int) → List (Nat × List Int) → Option (List (Nat × List Int))
  | [], done => some done
  | r :: rs, done => match spotR m (redR done r) with
    | some k => solveR m rs (done ++ [(k, redR done r)])
    | none => if ent (redR done r) m ≠ 0 then none else solveR m rs done
theorem spotR_some {m k : Nat} {r : List Int} (h : spotR m r = some k) : k < m ∧ ent r k ≠ 0 := by
  have a := List.find?_some h
  have b := List.mem_of_find?_eq_some h
  exact ⟨List.mem_range.mp b, bne_iff_ne.mp a⟩
theorem spotR_none {m : Nat} {r : List Int} (h : spotR m r = none) : ∀ k < m, ent r k = 0 := fun k hk => by
  have := List.find?_eq_none.mp h k (List.mem_range.mpr hk)
  simpa using this
theorem rowV_zero {m : Nat} {r : List Int} {x : Nat → Int} {d : Int} (h : ∀ k < m, ent r k = 0) : rowV m r x d = ent r m * d := by
  rw [rowV, sumN_zero fun k hk => by rw [h k hk, Int.zero_mul], Int.zero_add]
/-- what the rows have in common with their leading rows -/
theorem solveR_sound {m : Nat} {x : Nat → Int} {d : Int} (hd : d ≠ 0) : ∀ {rs : List (List Int)} {done : List (Nat × List Int)}, Led m done → (∀ r ∈ rs, r.length = m + 2) → (∀ e ∈ done, rowV m e.2 x d = 0) → (∀ r ∈ rs, rowV m r x d = 0) → solveR m rs done ≠ none
  | [], done, _, _, _, _ => fun e => nomatch e
  | r :: rs, done, L, hl, hd1, hr => by
    have lr := hl r List.mem_cons_self
    obtain ⟨c, c0, e⟩ := redR_val (x := x) (dd := d) (fun e he => (L.ld e he).2.1) (show m < r.length by omega) hd1
    rw [hr r List.mem_cons_self, Int.mul_zero] at e
    unfold solveR
    cases hs : spotR m (redR done r) with
    | some k =>
      simp only
      obtain ⟨k1, k2⟩ := spotR_some hs
      refine solveR_sound hd ⟨fun f hf => ?_, ?_⟩ (fun q hq => hl q (List.mem_cons_of_mem _ hq)) (fun f hf => ?_) fun q hq => hr q (List.mem_cons_of_mem _ hq)
      · rcases List.mem_append.mp hf with z | z
        · exact L.ld f z
        · rw [List.mem_singleton.mp z]
          exact ⟨k1, k2, by rw [redR_len, lr]⟩
      · refine List.pairwise_append.mpr ⟨L.up, List.pairwise_singleton _ _, fun f hf g hg => ?_⟩
        rw [List.mem_singleton.mp hg]
        exact redR_zero L lr (.inl (List.mem_map.mpr ⟨f, hf, rfl⟩))
      · rcases List.mem_append.mp hf with z | z
        · exact hd1 f z
        · rw [List.mem_singleton.mp z]
          exact e
    | none =>
      simp only
      have z := spotR_none hs
      rw [rowV_zero z] at e
      have e0 : ent (redR done r) m = 0 := (Int.mul_eq_zero.mp e).resolve_right hd
      rw [if_neg (by rw [e0]; simp)]
      exact solveR_sound hd L (fun q hq => hl q (List.mem_cons_of_mem _ hq)) hd1 fun q hq => hr q (List.mem_cons_of_mem _ hq)
/-- leading rows can be met -/
theorem led_meet {m : Nat} : ∀ {done : List (Nat × List Int)}, Led m done → ∃ (x : Nat → Int) (d : Int), d ≠ 0 ∧ ∀ e ∈ done, rowV m e.2 x d = 0
  | [], _ => ⟨fun _ => 0, 1, by decide, fun _ h => nomatch h⟩
  | e :: done, L => by
    have L' : Led m done := ⟨fun f hf => L.ld f (List.mem_cons_of_mem _ hf), (List.pairwise_cons.mp L.up).2⟩
    have up := (List.pairwise_cons.mp L.up).1
    obtain ⟨k1, k2, k3⟩ := L.ld e List.mem_cons_self
    obtain ⟨x, d, d0, h⟩ := led_meet L'
    -- all times the lead, at the spot what is left
    let rest := sumN (fun k => if k = e.1 then 0 else ent e.2 k * x k) m + ent e.2 m * d
    let y : Nat → Int := fun k => if k = e.1 then -rest else ent e.2 e.1 * x k
    refine ⟨y, ent e.2 e.1 * d, Int.mul_ne_zero k2 d0, fun f hf => ?_⟩
    rcases List.mem_cons.mp hf with rfl | hf
    · have s1 : sumN (fun k => ent f.2 k * y k) m = sumN (fun k => (if k = f.1 then ent f.2 k * (-rest) else 0) + ent f.2 f.1 * (if k = f.1 then 0 else ent f.2 k * x k)) m := sumN_congr fun k _ => by
        show ent f.2 k * (if k = f.1 then -rest else ent f.2 f.1 * x k) = _
        split
        · rw [Int.mul_zero, Int.add_zero]
        · rw [Int.zero_add, Int.mul_left_comm]
      have s2 : sumN (fun k => if k = f.1 then ent f.2 k * (-rest) else 0) m = ent f.2 f.1 * (-rest) := by
        rw [sumN_one (j := f.1) k1 fun k _ ne => if_neg ne, if_pos rfl]
      rw [rowV, s1, sumN_add, sumN_mul, s2]
      show ent f.2 f.1 * (-(sumN (fun k => if k = f.1 then 0 else ent f.2 k * x k) m + ent f.2 m * d)) + _ + _ = 0
      rw [← Int.mul_add, Int.mul_left_comm, ← Int.mul_add]
      have : ∀ a b : Int, -(a + b) + a + b = 0 := fun a b => by omega
      rw [this, Int.mul_zero]
    · have z := up f hf
      have s1 : sumN (fun k => ent f.2 k * y k) m = sumN (fun k => ent e.2 e.1 * (ent f.2 k * x k)) m := sumN_congr fun k _ => by
        show ent f.2 k * (if k = e.1 then -rest else ent e.2 e.1 * x k) = _
        split
        · next q =>
          rw [q, z]
          simp
        · rw [Int.mul_left_comm]
      rw [rowV, s1, sumN_mul, Int.mul_left_comm, ← Int.mul_add]
      have := h f hf
      rw [rowV] at this
      rw [this, Int.mul_zero]
theorem solveR_led {m : Nat} : ∀ {rs : List (List Int)} {done out : List (Nat × List Int)}, Led m done → (∀ r ∈ rs, r.length = m + 2) → solveR m rs done = some out → Led m out ∧ (∀ e ∈ done, e ∈ out) ∧ ∀ (x : Nat → Int) (d : Int), (∀ e ∈ out, rowV m e.2 x d = 0) → ∀ r ∈ rs, rowV m r x d = 0
  | [], done, out, L, _, h => by
    obtain rfl := Option.some.inj h
    exact ⟨L, fun _ h => h, fun _ _ _ _ h => nomatch h⟩
  | r :: rs, done, out, L, hl, h => by
    have lr := hl r List.mem_cons_self
    unfold solveR at h
    cases hs : spotR m (redR done r) with
    | some k =>
      rw [hs] at h
      simp only at h
      obtain ⟨k1, k2⟩ := spotR_some hs
      have L2 : Led m (done ++ [(k, redR done r)]) := by
        refine ⟨fun f hf => ?_, ?_⟩
        · rcases List.mem_append.mp hf with z | z
          · exact L.ld f z
          · rw [List.mem_singleton.mp z]
            exact ⟨k1, k2, by rw [redR_len, lr]⟩
        · refine List.pairwise_append.mpr ⟨L.up, List.pairwise_singleton _ _, fun f hf g hg => ?_⟩
          rw [List.mem_singleton.mp hg]
          exact redR_zero L lr (.inl (List.mem_map.mpr ⟨f, hf, rfl⟩))
      obtain ⟨a, b, c⟩ := solveR_led L2 (fun q hq => hl q (List.mem_cons_of_mem _ hq)) h
      refine ⟨a, fun e he => b e (List.mem_append_left _ he), fun x d hx q hq => ?_⟩
      rcases List.mem_cons.mp hq with rfl | hq
      · obtain ⟨c', c0, e⟩ := redR_val (x := x) (dd := d) (fun e he => (L.ld e he).2.1) (show m < q.length by omega) fun e he => hx e (b e (List.mem_append_left _ he))
        rw [hx (k, redR done q) (b _ (List.mem_append_right _ List.mem_cons_self))] at e
        exact ((Int.mul_eq_zero.mp e.symm).resolve_left c0)
      · exact c x d hx q hq
    | none =>
      rw [hs] at h
      simp only at h
      by_cases e0 : ent (redR done r) m = 0
      · rw [if_neg (by rw [e0]; simp)] at h
        obtain ⟨a, b, c⟩ := solveR_led L (fun q hq => hl q (List.mem_cons_of_mem _ hq)) h
        refine ⟨a, b, fun x d hx q hq => ?_⟩
        rcases List.mem_cons.mp hq with rfl | hq
        · obtain ⟨c', c0, e⟩ := redR_val (x := x) (dd := d) (fun e he => (L.ld e he).2.1) (show m < q.length by omega) fun e he => hx e (b e he)
          rw [rowV_zero (spotR_none hs), e0, Int.zero_mul] at e
          exact ((Int.mul_eq_zero.mp e.symm).resolve_left c0)
        · exact c x d hx q hq
      · rw [if_pos e0] at h
        cases h
/-- the rows do not contradict one another exactly if they can be met -/
theorem solveR_iff {m : Nat} {rs : List (List Int)} (hl : ∀ r ∈ rs, r.length = m + 2) : solveR m rs [] ≠ none ↔ ∃ (x : Nat → Int) (d : Int), d ≠ 0 ∧ ∀ r ∈ rs, rowV m r x d = 0 := by
  have L0 : Led m [] := ⟨(fun _ h => (nomatch h)), .nil⟩
  constructor
  · intro h
    cases e : solveR m rs [] with
    | none => exact absurd e h
    | some out =>
      obtain ⟨a, _, c⟩ := solveR_led L0 hl e
      obtain ⟨x, d, d0, hx⟩ := led_meet a
      exact ⟨x, d, d0, c x d hx⟩
  · rintro ⟨x, d, d0, hx⟩
    exact solveR_sound d0 L0 hl (fun _ h => nomatch h) hx
end RV
/-! Rings span the flows; flows that have given amounts at some pipes. -/
namespace RV
section
variable {α : Type} {st en : Nat → α}
/-- a ring for each pipe outside of a forest -/
structure RingB (st en : Nat → α) (n : Nat) (cs : List Nat) (rws : List (List Int)) : Prop where
  len : rws.length = cs.length
  wide : ∀ r ∈ rws, r.length = n
  cut : ∀ r ∈ rws, CutF st en (ent r) n
  lt : ∀ c ∈ cs, c < n
  one : ∀ (i j : Nat) (c : Nat) (r : List Int), cs[i]? = some c → rws[j]? = some r → ent r c = if i = j then 1 else 0
  fo : Fo st en fun k => k < n ∧ k ∉ cs
  sm : ∀ r ∈ rws, ∀ k, (ent r k).natAbs ≤ 1
/-- a combination of rows -/
def comb (rws : List (List Int)) (x : Nat → Int) : Nat → Int := fun k => sumN (fun j => x j * ent (rws.getD j []) k) rws.length
theorem RingB.comb {n : Nat} {cs : List Nat} {rws : List (List Int)} (h : RingB st en n cs rws) (x : Nat → Int) : CutF st en (RV.comb rws x) n :=
  CutF.sum x fun j hj => by
    have : rws.getD j [] = rws[j] := by rw [List.getD_eq_getElem?_getD, List.getElem?_eq_getElem hj]; rfl
    rw [this]
    exact h.cut _ (List.getElem_mem hj)
/-- each flow is a combination of the rings -/
theorem RingB.span {n : Nat} {cs : List Nat} {rws : List (List Int)} (h : RingB st en n cs rws) {f : Nat → Int} (hf : CutF st en f n) : ∀ k < n, f k = RV.comb rws (fun j => f (cs.getD j 0)) k := by
  have d : CutF st en (fun k => f k + (-1) * RV.comb rws (fun j => f (cs.getD j 0)) k) n := hf.add ((h.comb _).mul (-1))
  have z := d.forest h.fo fun k hk nk => by
    have hc : k ∈ cs := Classical.byContradiction fun q => nk ⟨hk, q⟩
    obtain ⟨i, hi⟩ := List.getElem?_of_mem hc
    have il : i < cs.length := (List.getElem?_eq_some_iff.mp hi).1
    have e : RV.comb rws (fun j => f (cs.getD j 0)) k = f k := by
      unfold RV.comb
      rw [sumN_one (j := i) (by rw [h.len]; exact il) fun j hj ne => ?_]
      · have hr : rws[i]? = some (rws[i]'(by rw [h.len]; exact il)) := List.getElem?_eq_getElem _
        have hc0 : cs.getD i 0 = k := by rw [List.getD_eq_getElem?_getD, hi]; rfl
        rw [List.getD_eq_getElem?_getD, hr]
        show f (cs.getD i 0) * ent _ k = f k
        rw [hc0]
        show f k * ent (rws[i]'(by rw [h.len]; exact il)) k = f k
        rw [h.one i i k _ hi hr, if_pos rfl, Int.mul_one]
      · have hr : rws[j]? = some rws[j] := List.getElem?_eq_getElem hj
        show _ * ent (rws.getD j []) k = 0
        rw [List.getD_eq_getElem?_getD, hr]
        show _ * ent rws[j] k = 0
        rw [h.one i j k _ hi hr, if_neg fun q => ne q.symm, Int.mul_zero]
    rw [e]
    omega
  intro k hk
  have := z k hk
  omega
end
section
variable {α : Type} [DecidableEq α] {st en : Nat → α}
/-- what is left at a place -/
def leftP (st en : Nat → α) (x : Nat → Int) (n : Nat) (v : α) : Int := cutFl st en x (fun u => decide (u = v)) n
theorem cut_zero {x : Nat → Int} {n : Nat} {A : α → Bool} (h : ∀ v, A v = true → leftP st en x n v = 0) : cutFl st en x A n = 0 := by
  have key : ∀ (vs : List α) (A : α → Bool), (∀ v, A v = true → leftP st en x n v = 0) → cutFl st en x (fun v => A v && decide (v ∈ vs)) n = 0 := by
    intro vs
    induction vs with
    | nil => intro A _; exact sumN_zero fun k _ => by simp [b2i]
    | cons u vs ih =>
      intro A h
      have ih := ih (fun v => A v && !decide (v = u)) fun v hv => h v (by simp at hv; exact hv.1)
      cases a : A u with
      | false =>
        rw [← ih]
        unfold cutFl
        refine sumN_congr fun k _ => ?_
        have e : ∀ v, (A v && decide (v ∈ u :: vs)) = ((A v && !decide (v = u)) && decide (v ∈ vs)) := fun v => by
          by_cases z : v = u
          · subst z
            simp [a]
          · simp [z]
        dsimp only
        rw [e, e]
      | true =>
        have hu : cutFl st en x (fun w => decide (w = u)) n = 0 := h u a
        have un := cut_union (st := st) (en := en) (x := x) (n := n) (A := fun w => decide (w = u)) (B := fun v => (A v && !decide (v = u)) && decide (v ∈ vs)) fun v hv => by simp at hv; simp [hv]
        rw [hu, ih] at un
        rw [show (0 : Int) = 0 + 0 from rfl, ← un]
        unfold cutFl
        refine sumN_congr fun k _ => ?_
        have e : ∀ v, (A v && decide (v ∈ u :: vs)) = (decide (v = u) || ((A v && !decide (v = u)) && decide (v ∈ vs))) := fun v => by
          by_cases z : v = u
          · subst z
            simp [a]
          · simp [z]
        dsimp only
        rw [e, e]
  have c := key ((List.range n).flatMap fun k => [st k, en k]) A h
  rw [← c]
  unfold cutFl
  refine sumN_congr fun k hk => ?_
  have m : ∀ v, v = st k ∨ v = en k → v ∈ (List.range n).flatMap fun k => [st k, en k] := fun v hv => List.mem_flatMap.mpr ⟨k, List.mem_range.mpr hk, by rcases hv with rfl | rfl <;> simp⟩
  simp [m _ (.inl rfl), m _ (.inr rfl)]
/-- all is left at one place -/
theorem cut_rest {x : Nat → Int} {n : Nat} {A : α → Bool} {v : α} (hv : A v = true) (h : ∀ u, u ≠ v → A u = true → leftP st en x n u = 0) : cutFl st en x A n = leftP st en x n v := by
  have z : cutFl st en x (fun u => A u && !decide (u = v)) n = 0 := cut_zero fun u hu => by
    simp at hu
    exact h u hu.2 hu.1
  have un := cut_union (st := st) (en := en) (x := x) (n := n) (A := fun w => decide (w = v)) (B := fun u => A u && !decide (u = v)) fun u hu => by simp at hu; simp [hu]
  rw [z, Int.add_zero] at un
  rw [leftP, ← un]
  unfold cutFl
  refine sumN_congr fun k _ => ?_
  have e : ∀ u, A u = (decide (u = v) || (A u && !decide (u = v))) := fun u => by
    by_cases q : u = v
    · subst q
      simp [hv]
    · simp [q]
  dsimp only
  rw [← e, ← e]
/-- a link: a pipe, its near place, its far place -/
abbrev Lk (α : Type) := Nat × α × α
/-- what a link takes -/
def takeL (st en : Nat → α) (n : Nat) (x : Nat → Int) (l : Lk α) : Int := if st l.1 = l.2.2 then leftP st en x n l.2.2 else -leftP st en x n l.2.2
def putL (st en : Nat → α) (n : Nat) (x : Nat → Int) (l : Lk α) : Nat → Int := fun k => if k = l.1 then takeL st en n x l else x k
structure LkOk (st en : Nat → α) (n : Nat) (free : Nat → Prop) (l : Lk α) : Prop where
  lt : l.1 < n
  fr : free l.1
  ne : l.2.1 ≠ l.2.2
  ends : (st l.1 = l.2.1 ∧ en l.1 = l.2.2) ∨ (st l.1 = l.2.2 ∧ en l.1 = l.2.1)
theorem left_put {n : Nat} {x : Nat → Int} {l : Lk α} (hl : l.1 < n) (h0 : x l.1 = 0) (v : α) : leftP st en (putL st en n x l) n v = leftP st en x n v + takeL st en n x l * (b2i (decide (en l.1 = v)) - b2i (decide (st l.1 = v))) := by
  have e : ∀ k, putL st en n x l k = x k + (if k = l.1 then takeL st en n x l else 0) := fun k => by
    unfold putL
    split
    · next q => rw [q, h0, Int.zero_add]
    · rw [Int.add_zero]
  unfold leftP
  rw [cutS_congr (y := fun k => x k + (if k = l.1 then takeL st en n x l else 0)) fun k _ => e k, cutS_add]
  congr 1
  unfold cutFl
  rw [sumN_one (j := l.1) hl fun k _ ne => by
    show (if k = l.1 then takeL st en n x l else 0) * _ = 0
    rw [if_neg ne, Int.zero_mul]]
  show (if l.1 = l.1 then takeL st en n x l else 0) * _ = _
  rw [if_pos rfl]
theorem left_far {n : Nat} {x : Nat → Int} {free : Nat → Prop} {l : Lk α} (h : LkOk st en n free l) (h0 : x l.1 = 0) : leftP st en (putL st en n x l) n l.2.2 = 0 := by
  rw [left_put h.lt h0]
  rcases h.ends with ⟨a, b⟩ | ⟨a, b⟩
  · have t : takeL st en n x l = -leftP st en x n l.2.2 := by rw [takeL, if_neg (by rw [a]; exact h.ne)]
    rw [t, a, b, decide_eq_true rfl, decide_eq_false h.ne]
    show leftP st en x n l.2.2 + -leftP st en x n l.2.2 * (1 - 0) = 0
    omega
  · have t : takeL st en n x l = leftP st en x n l.2.2 := by rw [takeL, if_pos a]
    rw [t, a, b, decide_eq_true rfl, decide_eq_false h.ne]
    show leftP st en x n l.2.2 + leftP st en x n l.2.2 * (0 - 1) = 0
    omega
theorem left_off {n : Nat} {x : Nat → Int} {free : Nat → Prop} {l : Lk α} {v : α} (h : LkOk st en n free l) (h0 : x l.1 = 0) (n1 : v ≠ l.2.1) (n2 : v ≠ l.2.2) : leftP st en (putL st en n x l) n v = leftP st en x n v := by
  rw [left_put h.lt h0]
  have e1 : decide (l.2.1 = v) = false := decide_eq_false fun q => n1 q.symm
  have e2 : decide (l.2.2 = v) = false := decide_eq_false fun q => n2 q.symm
  rcases h.ends with ⟨a, b⟩ | ⟨a, b⟩ <;> rw [a, b, e1, e2, Int.sub_self, Int.mul_zero, Int.add_zero]
/-- links behind one another: what lies farther is not met again -/
structure LksOk (st en : Nat → α) (n : Nat) (free : Nat → Prop) (ls : List (Lk α)) : Prop where
  each : ∀ l ∈ ls, LkOk st en n free l
  ord : ls.Pairwise fun l m => m.2.2 ≠ l.2.1 ∧ m.2.2 ≠ l.2.2
/-- from the far ends inwards -/
def runL (st en : Nat → α) (n : Nat) (x : Nat → Int) (ls : List (Lk α)) : Nat → Int := ls.reverse.foldl (putL st en n) x
theorem runL_snoc {n : Nat} {x : Nat → Int} {ls : List (Lk α)} {l : Lk α} : runL st en n x (ls ++ [l]) = runL st en n (putL st en n x l) ls := by
  unfold runL
  rw [List.reverse_append]
  rfl
theorem LksOk.same {n : Nat} {free : Nat → Prop} {ls : List (Lk α)} {l m : Lk α} (h : LksOk st en n free (ls ++ [m])) (hl : l ∈ ls) : l.1 ≠ m.1 := fun e => by
  have hm := h.each m (List.mem_append_right _ List.mem_cons_self)
  have h1 := h.each l (List.mem_append_left _ hl)
  obtain ⟨o1, o2⟩ := (List.pairwise_append.mp h.ord).2.2 l hl m List.mem_cons_self
  rcases h1.ends with ⟨a, b⟩ | ⟨a, b⟩ <;> rcases hm.ends with ⟨c, d⟩ | ⟨c, d⟩ <;> rw [e] at a b
  · exact o2 (d.symm.trans b)
  · exact o1 (c.symm.trans a)
  · exact o1 (d.symm.trans b)
  · exact o2 (c.symm.trans a)
theorem runL_ok {n : Nat} {free : Nat → Prop} : ∀ {ls : List (Lk α)} {x : Nat → Int}, LksOk st en n free ls → (∀ l ∈ ls, x l.1 = 0) →
    (∀ l ∈ ls, leftP st en (runL st en n x ls) n l.2.2 = 0) ∧ (∀ v, (∀ l ∈ ls, v ≠ l.2.1 ∧ v ≠ l.2.2) → leftP st en (runL st en n x ls) n v = leftP st en x n v) ∧ ∀ k, (∀ l ∈ ls, l.1 ≠ k) → runL st en n x ls k = x k := by
  intro ls
  induction h : ls.length generalizing ls with
  | zero =>
    intro x _ _
    obtain rfl := List.eq_nil_of_length_eq_zero h
    exact ⟨fun l hl => (nomatch hl), fun v _ => rfl, fun k _ => rfl⟩
  | succ m ih =>
    intro x L h0
    obtain ⟨init, l, rfl⟩ : ∃ init l, ls = init ++ [l] := by
      cases e : ls.reverse with
      | nil => rw [List.reverse_eq_nil_iff] at e; rw [e] at h; cases h
      | cons l r => exact ⟨r.reverse, l, by rw [← List.reverse_reverse ls, e, List.reverse_cons]⟩
    have L1 : LksOk st en n free init := ⟨fun q hq => L.each q (List.mem_append_left _ hq), (List.pairwise_append.mp L.ord).1⟩
    have lm : l ∈ init ++ [l] := List.mem_append_right _ List.mem_cons_self
    have ll := L.each l lm
    obtain ⟨a, b, c⟩ := ih (ls := init) (by simpa using h) (x := putL st en n x l) L1 fun q hq => by
      rw [putL, if_neg (L.same hq)]
      exact h0 q (List.mem_append_left _ hq)
    rw [runL_snoc]
    refine ⟨fun q hq => ?_, fun v hv => ?_, fun k hk => ?_⟩
    · rcases List.mem_append.mp hq with z | z
      · exact a q z
      · obtain rfl := List.mem_singleton.mp z
        rw [b q.2.2 fun p hp => (List.pairwise_append.mp L.ord).2.2 p hp q List.mem_cons_self]
        exact left_far ll (h0 q lm)
    · rw [b v fun p hp => hv p (List.mem_append_left _ hp)]
      exact left_off ll (h0 l lm) (hv l lm).1 (hv l lm).2
    · rw [c k fun p hp => hk p (List.mem_append_left _ hp), putL, if_neg fun e => hk l lm e.symm]
/-- links to all places but roots, each root alone among what free pipes join -/
structure RootOk (st en : Nat → α) (n : Nat) (free : Nat → Prop) (places : List α) (ls : List (Lk α)) : Prop where
  ok : LksOk st en n free ls
  all : ∀ k < n, st k ∈ places ∧ en k ∈ places
  alone : ∀ v, (∀ l ∈ ls, l.2.2 ≠ v) → ∀ u, u ≠ v → Cn st en (fun k => k < n ∧ free k) v u → ∃ l ∈ ls, l.2.2 = u
/-- a set of places that free pipes do not leave, into which these amounts do not lead as much as out of it -/
def Clash (st en : Nat → α) (n : Nat) (free : Nat → Prop) (x : Nat → Int) : Prop := ∃ A : α → Bool, (∀ k < n, free k → A (st k) = A (en k)) ∧ cutFl st en x A n ≠ 0
theorem cut_amt {n : Nat} {free : Nat → Prop} {x y : Nat → Int} {A : α → Bool} (hA : ∀ k < n, free k → A (st k) = A (en k)) (h : ∀ k < n, ¬ free k → x k = y k) : cutFl st en x A n = cutFl st en y A n := by
  unfold cutFl
  refine sumN_congr fun k hk => ?_
  by_cases f : free k
  · rw [hA k hk f, Int.sub_self, Int.mul_zero, Int.mul_zero]
  · rw [h k hk f]
/-- where amounts clash, no multiple of them is part of a flow -/
theorem Clash.no {n : Nat} {free : Nat → Prop} {x g : Nat → Int} {d : Int} (h : Clash st en n free x) (hd : d ≠ 0) (hg : CutF st en g n) (e : ∀ k < n, ¬ free k → g k = d * x k) : False := by
  obtain ⟨A, hA, c⟩ := h
  have := hg A
  rw [cut_amt hA e, cutS_mul] at this
  exact c ((Int.mul_eq_zero.mp this).resolve_left hd)
theorem fit_ok {n : Nat} {free : Nat → Prop} {places : List α} {ls : List (Lk α)} {x : Nat → Int} (R : RootOk st en n free places ls) (h0 : ∀ k < n, free k → x k = 0) :
    (∀ k < n, ¬ free k → runL st en n x ls k = x k) ∧ ((∀ v ∈ places, leftP st en (runL st en n x ls) n v = 0) → CutF st en (runL st en n x ls) n) ∧ ((∃ v ∈ places, leftP st en (runL st en n x ls) n v ≠ 0) → Clash st en n free x) := by
  obtain ⟨a, b, c⟩ := runL_ok R.ok fun l hl => h0 _ (R.ok.each l hl).lt (R.ok.each l hl).fr
  have keep : ∀ k < n, ¬ free k → runL st en n x ls k = x k := fun k hk nf => c k fun l hl e => nf (e ▸ (R.ok.each l hl).fr)
  refine ⟨keep, fun h => ?_, fun ⟨v, hv, nz⟩ => ?_⟩
  · refine BndF.cutF fun v => ?_
    by_cases m : v ∈ places
    · exact h v m
    · exact sumN_zero fun k hk => by
        have := R.all k hk
        have e1 : decide (en k = v) = false := decide_eq_false fun q => m (by rw [← q]; exact this.2)
        have e2 : decide (st k = v) = false := decide_eq_false fun q => m (by rw [← q]; exact this.1)
        dsimp only
        rw [e1, e2, Int.sub_self, Int.mul_zero]
  · have nl : ∀ l ∈ ls, l.2.2 ≠ v := fun l hl e => nz (e ▸ a l hl)
    have dec := fun u => Classical.propDecidable (Cn st en (fun k => k < n ∧ free k) v u)
    have cl : ∀ k < n, free k → @decide (Cn st en (fun k => k < n ∧ free k) v (st k)) (dec _) = @decide (Cn st en (fun k => k < n ∧ free k) v (en k)) (dec _) := fun k hk fk => by
      by_cases z : Cn st en (fun k => k < n ∧ free k) v (st k)
      · rw [@decide_eq_true _ (dec _) z, @decide_eq_true _ (dec _) (z.fwd ⟨hk, fk⟩)]
      · rw [@decide_eq_false _ (dec _) z, @decide_eq_false _ (dec _) fun q => z (q.bwd ⟨hk, fk⟩)]
    refine ⟨fun u => @decide (Cn st en (fun k => k < n ∧ free k) v u) (dec u), cl, ?_⟩
    have e1 := cut_amt (A := fun u => @decide (Cn st en (fun k => k < n ∧ free k) v u) (dec u)) cl keep
    rw [← e1, cut_rest (v := v) (@decide_eq_true _ (dec v) .nil) fun u hu hA => ?_]
    · exact nz
    · obtain ⟨l, hl, rfl⟩ := R.alone v nl u hu (@of_decide_eq_true _ (dec u) hA)
      exact a l hl
end
end RV
/-! Ways as steps; the row of a ring. -/
namespace RV
open PySem L2 TL
/-- what steps carry into A -/
def stepS (st en : Nat → Nat) (A : Nat → Bool) (ss : List (Nat × Int)) : Int := (ss.map fun s => s.2 * (b2i (A (en s.1)) - b2i (A (st s.1)))).sum
/-- steps that lead from a place to another, no pipe twice, along kept pipes whose ends are reached -/
structure StepsTo (st en : Nat → Nat) (kept keys : List Nat) (first v : Nat) (ss : List (Nat × Int)) : Prop where
  lead : ∀ A : Nat → Bool, stepS st en A ss = b2i (A v) - b2i (A first)
  nd : (ss.map (·.1)).Nodup
  inn : ∀ s ∈ ss, s.1 ∈ kept ∧ st s.1 ∈ keys ∧ en s.1 ∈ keys
  sg : ∀ s ∈ ss, s.2.natAbs ≤ 1
section
variable {st en : Nat → Nat} {kept keys : List Nat} {first v k : Nat} {ss : List (Nat × Int)}
theorem StepsTo.start : StepsTo st en kept [first] first first [] := ⟨fun A => by rw [Int.sub_self]; rfl, .nil, fun _ h => (nomatch h), fun _ h => (nomatch h)⟩
theorem StepsTo.wider {keys' : List Nat} (h : StepsTo st en kept keys first v ss) (s : ∀ x ∈ keys, x ∈ keys') : StepsTo st en kept keys' first v ss := ⟨h.lead, h.nd, fun q hq => ⟨(h.inn q hq).1, s _ (h.inn q hq).2.1, s _ (h.inn q hq).2.2⟩, h.sg⟩
theorem stepS_snoc (A : Nat → Bool) (s : Nat × Int) : stepS st en A (ss ++ [s]) = stepS st en A ss + s.2 * (b2i (A (en s.1)) - b2i (A (st s.1))) := by
  rw [stepS, List.map_append, List.sum_append]
  simp [stepS]
theorem StepsTo.fwd (h : StepsTo st en kept keys first (st k) ss) (hk : k ∈ kept) (hb : st k ∈ keys) (he : en k ∉ keys) : StepsTo st en kept (keys ++ [en k]) first (en k) (ss ++ [(k, 1)]) := by
  refine ⟨fun A => by rw [stepS_snoc, h.lead]; dsimp only; omega, ?_, fun s hs => ?_, fun s hs => ?_⟩
  · rw [List.map_append]
    refine List.nodup_append.mpr ⟨h.nd, List.nodup_cons.mpr ⟨by simp, .nil⟩, fun x hx y hy e => ?_⟩
    obtain rfl := List.mem_singleton.mp hy
    obtain ⟨s, hs, rfl⟩ := List.mem_map.mp hx
    exact he (e ▸ (h.inn s hs).2.2)
  · rcases List.mem_append.mp hs with z | z
    · exact ⟨(h.inn s z).1, List.mem_append_left _ (h.inn s z).2.1, List.mem_append_left _ (h.inn s z).2.2⟩
    · rw [List.mem_singleton.mp z]
      exact ⟨hk, List.mem_append_left _ hb, List.mem_append_right _ List.mem_cons_self⟩
  · rcases List.mem_append.mp hs with z | z
    · exact h.sg s z
    · rw [List.mem_singleton.mp z]
      show (1 : Int).natAbs ≤ 1
      decide
theorem StepsTo.bwd (h : StepsTo st en kept keys first (en k) ss) (hk : k ∈ kept) (hb : en k ∈ keys) (he : st k ∉ keys) : StepsTo st en kept (keys ++ [st k]) first (st k) (ss ++ [(k, -1)]) := by
  refine ⟨fun A => by rw [stepS_snoc, h.lead]; dsimp only; omega, ?_, fun s hs => ?_, fun s hs => ?_⟩
  · rw [List.map_append]
    refine List.nodup_append.mpr ⟨h.nd, List.nodup_cons.mpr ⟨by simp, .nil⟩, fun x hx y hy e => ?_⟩
    obtain rfl := List.mem_singleton.mp hy
    obtain ⟨s, hs, rfl⟩ := List.mem_map.mp hx
    exact he (e ▸ (h.inn s hs).2.1)
  · rcases List.mem_append.mp hs with z | z
    · exact ⟨(h.inn s z).1, List.mem_append_left _ (h.inn s z).2.1, List.mem_append_left _ (h.inn s z).2.2⟩
    · rw [List.mem_singleton.mp z]
      exact ⟨hk, List.mem_append_right _ List.mem_cons_self, List.mem_append_left _ hb⟩
  · rcases List.mem_append.mp hs with z | z
    · exact h.sg s z
    · rw [List.mem_singleton.mp z]
      show (-1 : Int).natAbs ≤ 1
      decide
end
/-! ### rows -/
theorem ent_set {r : List Int} {j k : Nat} {v : Int} (h : j < r.length) : ent (r.set j v) k = if k = j then v else ent r k := by
  rw [ent, ent, List.getD_eq_getElem?_getD, List.getD_eq_getElem?_getD, List.getElem?_set]
  by_cases e : j = k
  · subst e
    rw [if_pos rfl, if_pos h, if_pos rfl]
    rfl
  · rw [if_neg e, if_neg fun q => e q.symm]
theorem cut_set {st en : Nat → Nat} {r : List Int} {j : Nat} {v : Int} {A : Nat → Bool} (h : j < r.length) (z : ent r j = 0) : cutFl st en (ent (r.set j v)) A r.length = cutFl st en (ent r) A r.length + v * (b2i (A (en j)) - b2i (A (st j))) := by
  have e : ∀ k, ent (r.set j v) k = ent r k + (if k = j then v else 0) := fun k => by
    rw [ent_set h]
    split
    · next q => rw [q, z, Int.zero_add]
    · rw [Int.add_zero]
  rw [cutS_congr (y := fun k => ent r k + (if k = j then v else 0)) fun k _ => e k, cutS_add]
  congr 1
  unfold cutFl
  rw [sumN_one (j := j) h fun k _ ne => by
    show (if k = j then v else 0) * _ = 0
    rw [if_neg ne, Int.zero_mul]]
  show (if j = j then v else 0) * _ = _
  rw [if_pos rfl]
/-- a row while a way's steps are written into it: c and i steps -/
structure RowI (st en : Nat → Nat) (n c : Nat) (ss : List (Nat × Int)) (i : Nat) (r : List Int) : Prop where
  len : r.length = n
  one : ent r c = 1
  off : ∀ k, k ≠ c → k ∉ (ss.take i).map (·.1) → ent r k = 0
  cut : ∀ A : Nat → Bool, cutFl st en (ent r) A n = (b2i (A (en c)) - b2i (A (st c))) + stepS st en A (ss.take i)
  sm : ∀ k, (ent r k).natAbs ≤ 1
theorem ent_rep (n k : Nat) : ent (List.replicate n 0) k = 0 := by
  rw [ent, List.getD_eq_getElem?_getD, List.getElem?_replicate]
  split <;> rfl
theorem RowI.start {st en : Nat → Nat} {n c : Nat} {ss : List (Nat × Int)} (h : c < n) : RowI st en n c ss 0 ((List.replicate n 0).set c 1) := by
  have l : (List.replicate n (0 : Int)).length = n := List.length_replicate
  refine ⟨by rw [List.length_set, l], by rw [ent_set (by rw [l]; exact h), if_pos rfl], fun k ne _ => by rw [ent_set (by rw [l]; exact h), if_neg ne, ent_rep], fun A => ?_, fun k => by rw [ent_set (by rw [l]; exact h)]; split; decide; rw [ent_rep]; decide⟩
  have := cut_set (st := st) (en := en) (v := 1) (A := A) (show c < (List.replicate n (0 : Int)).length by rw [l]; exact h) (ent_rep n c)
  rw [l] at this
  rw [this, cutFl, sumN_zero fun k _ => by rw [ent_rep, Int.zero_mul]]
  show 0 + 1 * _ = _ + 0
  omega
theorem RowI.next {st en : Nat → Nat} {n c i : Nat} {ss : List (Nat × Int)} {s : Nat × Int} {r : List Int} (h : RowI st en n c ss i r) (hs : ss[i]? = some s) (hn : s.1 < n) (nd : (ss.map (·.1)).Nodup) (nc : s.1 ≠ c) (s1 : s.2.natAbs ≤ 1) : RowI st en n c ss (i + 1) (r.set s.1 s.2) := by
  have et : ss.take (i + 1) = ss.take i ++ [s] := by rw [List.take_add_one, hs]; rfl
  have l : s.1 < r.length := by rw [h.len]; exact hn
  have z : ent r s.1 = 0 := h.off s.1 nc fun m => by
    have e : ss.map (·.1) = (ss.take i).map (·.1) ++ (ss.drop i).map (·.1) := by rw [← List.map_append, List.take_append_drop]
    rw [e] at nd
    refine (List.nodup_append.mp nd).2.2 _ m s.1 ?_ rfl
    refine List.mem_map.mpr ⟨s, ?_, rfl⟩
    rw [List.drop_eq_getElem_cons (List.getElem?_eq_some_iff.mp hs).1, (List.getElem?_eq_some_iff.mp hs).2]
    exact List.mem_cons_self
  refine ⟨by rw [List.length_set, h.len], by rw [ent_set l, if_neg fun q => nc q.symm]; exact h.one, fun k ne nm => ?_, fun A => ?_, fun k => by rw [ent_set l]; split; exact s1; exact h.sm k⟩
  · rw [et, List.map_append] at nm
    rw [ent_set l, if_neg fun q => nm (List.mem_append_right _ (by rw [q]; exact List.mem_cons_self))]
    exact h.off k ne fun m => nm (List.mem_append_left _ m)
  · have := cut_set (st := st) (en := en) (v := s.2) (A := A) l z
    rw [h.len] at this
    rw [this, h.cut A, et, stepS_snoc, Int.add_assoc]
/-- the whole row: a ring -/
theorem RowI.ring {st en : Nat → Nat} {n c : Nat} {kept keys : List Nat} {ss : List (Nat × Int)} {r : List Int} (h : RowI st en n c ss ss.length r) (w : StepsTo st en kept keys (en c) (st c) ss) : CutF st en (ent r) n := fun A => by
  rw [h.cut A, List.take_length, w.lead]
  omega
/-- rings found while the first j pipes are looked at -/
structure RingI (st en : Nat → Nat) (n j : Nat) (kept cs : List Nat) (rws : List (List Int)) : Prop where
  len : rws.length = cs.length
  wide : ∀ r ∈ rws, r.length = n
  cut : ∀ r ∈ rws, CutF st en (ent r) n
  part : ∀ i, i < j ↔ (i ∈ kept ∨ i ∈ cs)
  apart : ∀ i ∈ kept, i ∉ cs
  nd : cs.Nodup
  supp : ∀ (i : Nat) (c : Nat) (r : List Int), cs[i]? = some c → rws[i]? = some r → ent r c = 1 ∧ ∀ k, k ≠ c → ent r k ≠ 0 → k ∈ kept
  fo : Fo st en (· ∈ kept)
  sm : ∀ r ∈ rws, ∀ k, (ent r k).natAbs ≤ 1
theorem RingI.start {st en : Nat → Nat} {n : Nat} : RingI st en n 0 [] [] [] := ⟨rfl, fun _ h => (nomatch h), fun _ h => (nomatch h), fun i => by simp, fun _ h => (nomatch h), .nil, fun _ _ _ h => (nomatch h), Fo.none fun k h => (nomatch h), fun _ h => (nomatch h)⟩
theorem RingI.keep {st en : Nat → Nat} {n j : Nat} {kept cs : List Nat} {rws : List (List Int)} (h : RingI st en n j kept cs rws) (nc : ¬ Cn st en (· ∈ kept) (st j) (en j)) : RingI st en n (j + 1) (kept ++ [j]) cs rws := by
  have jn : j ∉ cs := fun m => Nat.lt_irrefl j ((h.part j).mpr (.inr m))
  refine ⟨h.len, h.wide, h.cut, fun i => ?_, fun i hi => ?_, h.nd, fun i c r hc hr => ⟨(h.supp i c r hc hr).1, fun k ne nz => List.mem_append_left _ ((h.supp i c r hc hr).2 k ne nz)⟩, (h.fo.add nc).mono fun k hk => ?_, h.sm⟩
  · rw [List.mem_append, List.mem_singleton, Nat.lt_succ_iff, Nat.le_iff_lt_or_eq, h.part i]
    constructor
    · rintro ((a | a) | a)
      · exact .inl (.inl a)
      · exact .inr a
      · exact .inl (.inr a)
    · rintro ((a | a) | a)
      · exact .inl (.inl a)
      · exact .inr a
      · exact .inl (.inr a)
  · rcases List.mem_append.mp hi with z | z
    · exact h.apart i z
    · rw [List.mem_singleton.mp z]
      exact jn
  · rcases List.mem_append.mp hk with z | z
    · exact .inl z
    · exact .inr (List.mem_singleton.mp z)
theorem RingI.close {st en : Nat → Nat} {n j : Nat} {kept cs : List Nat} {rws : List (List Int)} {r : List Int} (h : RingI st en n j kept cs rws) (hr : r.length = n) (cut : CutF st en (ent r) n) (one : ent r j = 1) (off : ∀ k, k ≠ j → ent r k ≠ 0 → k ∈ kept) (sm : ∀ k, (ent r k).natAbs ≤ 1) : RingI st en n (j + 1) kept (cs ++ [j]) (rws ++ [r]) := by
  have jn : j ∉ cs := fun m => Nat.lt_irrefl j ((h.part j).mpr (.inr m))
  have jk : j ∉ kept := fun m => Nat.lt_irrefl j ((h.part j).mpr (.inl m))
  refine ⟨by rw [List.length_append, List.length_append, h.len]; rfl, fun q hq => ?_, fun q hq => ?_, fun i => ?_, fun i hi m => ?_, ?_, fun i c q hc hq => ?_, h.fo, fun q hq => ?_⟩
  · rcases List.mem_append.mp hq with z | z
    · exact h.wide q z
    · rw [List.mem_singleton.mp z]; exact hr
  · rcases List.mem_append.mp hq with z | z
    · exact h.cut q z
    · rw [List.mem_singleton.mp z]; exact cut
  · rw [List.mem_append, List.mem_singleton, Nat.lt_succ_iff, Nat.le_iff_lt_or_eq, h.part i, or_assoc]
  · rcases List.mem_append.mp m with z | z
    · exact h.apart i hi z
    · rw [List.mem_singleton.mp z] at hi
      exact jk hi
  · refine List.nodup_append.mpr ⟨h.nd, List.nodup_cons.mpr ⟨by simp, .nil⟩, fun x hx y hy e => ?_⟩
    obtain rfl := List.mem_singleton.mp hy
    exact jn (e ▸ hx)
  · rcases Nat.lt_or_ge i cs.length with z | z
    · rw [List.getElem?_append_left z] at hc
      rw [List.getElem?_append_left (by rw [h.len]; exact z)] at hq
      exact h.supp i c q hc hq
    · rw [List.getElem?_append_right z] at hc
      rw [List.getElem?_append_right (by rw [h.len]; exact z), h.len] at hq
      cases e : i - cs.length with
      | zero =>
        rw [e] at hc hq
        obtain rfl := Option.some.inj hc
        obtain rfl := Option.some.inj hq
        exact ⟨one, off⟩
      | succ m => rw [e] at hc; cases hc
  · rcases List.mem_append.mp hq with z | z
    · exact h.sm q z
    · rw [List.mem_singleton.mp z]; exact sm
/-- all pipes looked at -/
theorem RingI.done {st en : Nat → Nat} {n : Nat} {kept cs : List Nat} {rws : List (List Int)} (h : RingI st en n n kept cs rws) : RingB st en n cs rws := by
  refine ⟨h.len, h.wide, h.cut, fun c hc => (h.part c).mpr (.inr hc), fun i j c r hc hr => ?_, h.fo.mono fun k hk => ((h.part k).mp hk.1).resolve_right hk.2, h.sm⟩
  have jl : j < cs.length := by rw [← h.len]; exact (List.getElem?_eq_some_iff.mp hr).1
  have hj : cs[j]? = some cs[j] := List.getElem?_eq_getElem jl
  obtain ⟨a, b⟩ := h.supp j cs[j] r hj hr
  by_cases e : i = j
  · subst e
    rw [hj] at hc
    obtain rfl := Option.some.inj hc
    rw [if_pos rfl]
    exact a
  · rw [if_neg e]
    have ne : c ≠ cs[j] := fun q => e ((List.getElem?_inj (List.getElem?_eq_some_iff.mp hc).1 h.nd).mp (by rw [hc, hj, q]))
    exact Classical.byContradiction fun z => h.apart c (b c ne z) (List.mem_of_getElem? hc)
/-! ### promises -/
/-- the steps of a way -/
def stW (ss : List SU) : List (Nat × Int) := ss.map (·.2)
/-- the ways found so far lead there -/
def WaysTo (st en : Nat → Nat) (kept : List Nat) (first : Nat) (rs : List WU) : Prop := ∀ r ∈ rs, StepsTo st en kept (rs.map (·.1)) first r.1 (stW r.2.2)
theorem WaysTo.put {st en : Nat → Nat} {kept : List Nat} {first x k : Nat} {rs : List WU} {r : WU} {l a : Addr} {c : Int} (h : WaysTo st en kept first rs) (s : StepsTo st en kept (rs.map (·.1) ++ [x]) first x (stW (r.2.2 ++ [(a, k, c)]))) : WaysTo st en kept first (rs ++ [(x, l, r.2.2 ++ [(a, k, c)])]) := fun q hq => by
  rw [List.map_append]
  rcases List.mem_append.mp hq with z | z
  · exact (h q z).wider fun y hy => List.mem_append_left _ hy
  · rw [List.mem_singleton.mp z]
    exact s
def sp_pathB (K : PySem.W.Frag) : Sp := fun vs H Q _ => ∃ (lt lk : Addr) (pu : List QU) (kept : List Nat) (first last : Nat), vs = [.ref lt, .ref lk, .int (first : Int), .int (last : Int)] ∧ SqL K H lt (rf pu) ∧ (∀ u ∈ pu, H u.1 = some (oQ u.2)) ∧ SqL K H lk (kept.map vI) ∧ kept.length ≤ 12 ∧ pu.length ≤ 12 ∧ (∀ k ∈ kept, k < pu.length) ∧
  ∀ H', Same H H' → (¬ Cn (stQ (sn pu)) (enQ (sn pu)) (· ∈ kept) first last → Q .non H') ∧ ∀ (w : Addr) (ss : List SU) (keys : List Nat), Cn (stQ (sn pu)) (enQ (sn pu)) (· ∈ kept) first last → H' w = some (.lst (rf ss)) → (∀ s ∈ ss, H' s.1 = some (oS s) ∧ s.2.1 < pu.length) → ss.length ≤ 200 → StepsTo (stQ (sn pu)) (enQ (sn pu)) kept keys first last (stW ss) → Q (.ref w) H'
/-- rows that stand -/
abbrev RWU := Addr × List Int
def oI (r : List Int) : HO := .lst (r.map V.int)
def sp_ringsB (K : PySem.W.Frag) : Sp := fun vs H Q _ => ∃ (lt : Addr) (pu : List QU), vs = [.ref lt] ∧ SqL K H lt (rf pu) ∧ (∀ u ∈ pu, H u.1 = some (oQ u.2)) ∧ pu.length ≤ 12 ∧
  ∀ (l : Addr) (ru : List RWU) (cs : List Nat) H', Same H H' → H l = none → H' l = some (.lst (rf ru)) → (∀ r ∈ ru, H r.1 = none ∧ H' r.1 = some (oI r.2)) → RingB (stQ (sn pu)) (enQ (sn pu)) pu.length cs (sn ru) → Q (.ref l) H'
end RV
/-! Elimination: how great the factors become; done rows that stand; promises. -/
namespace RV
open PySem L2 TL
/-- the i-th leading row's factors -/
def BndD (m : Nat) (done : List (Nat × List Int)) : Prop := ∀ (i : Nat) e, done[i]? = some e → ∀ k < m, (ent e.2 k).natAbs ≤ 2 ^ (2 ^ i - 1)
theorem redR_snoc (done : List (Nat × List Int)) (d : Nat × List Int) (row : List Int) : redR (done ++ [d]) row = if ent (redR done row) d.1 ≠ 0 then freeR (redR done row) d.2 d.1 else redR done row := by
  rw [redR, List.foldl_append]
  rfl
theorem pow_step (i : Nat) : 2 * (2 ^ (2 ^ i - 1) * 2 ^ (2 ^ i - 1)) = 2 ^ (2 ^ (i + 1) - 1) := by
  have p : 1 ≤ 2 ^ i := Nat.one_le_two_pow
  have e : 2 ^ (i + 1) - 1 = (2 ^ i - 1) + (2 ^ i - 1) + 1 := by rw [Nat.pow_succ]; omega
  rw [e, Nat.pow_succ, Nat.pow_add, Nat.mul_comm]
theorem red_bnd {m : Nat} {done : List (Nat × List Int)} {row : List Int} (B : BndD m done) (L : ∀ d ∈ done, d.1 < m) (hl : row.length = m + 2) (h1 : ∀ k < m, (ent row k).natAbs ≤ 1) : ∀ i ≤ done.length, ∀ k < m, (ent (redR (done.take i) row) k).natAbs ≤ 2 ^ (2 ^ i - 1) := by
  intro i
  induction i with
  | zero => intro _ k hk; exact h1 k hk
  | succ i ih =>
    intro hi k hk
    have ih := ih (by omega)
    obtain ⟨d, hd⟩ : ∃ d, done[i]? = some d := ⟨_, List.getElem?_eq_getElem (by omega)⟩
    rw [List.take_add_one, hd]
    show (ent (redR (done.take i ++ [d]) row) k).natAbs ≤ _
    rw [redR_snoc, ← pow_step]
    have b := B i d hd
    have ds := L d (List.mem_of_getElem? hd)
    split
    · rw [ent_free (by rw [redR_len]; omega)]
      have x1 : (ent (redR (done.take i) row) k * ent d.2 d.1).natAbs ≤ 2 ^ (2 ^ i - 1) * 2 ^ (2 ^ i - 1) := by
        rw [Int.natAbs_mul]
        exact Nat.mul_le_mul (ih k hk) (b _ ds)
      have x2 : (ent d.2 k * ent (redR (done.take i) row) d.1).natAbs ≤ 2 ^ (2 ^ i - 1) * 2 ^ (2 ^ i - 1) := by
        rw [Int.natAbs_mul]
        exact Nat.mul_le_mul (b k hk) (ih _ ds)
      generalize 2 ^ (2 ^ i - 1) * 2 ^ (2 ^ i - 1) = c at x1 x2 ⊢
      omega
    · have := ih k hk
      have p : 1 ≤ 2 ^ (2 ^ i - 1) := Nat.one_le_two_pow
      have q : 2 ^ (2 ^ i - 1) ≤ 2 ^ (2 ^ i - 1) * 2 ^ (2 ^ i - 1) := Nat.le_mul_of_pos_right _ p
      omega
theorem bnd_64 {i x : Nat} (h : x ≤ 2 ^ (2 ^ i - 1)) (hi : i ≤ 6) : x < 2 ^ 64 := by
  refine Nat.lt_of_le_of_lt h (Nat.pow_lt_pow_right (by decide) ?_)
  have : 2 ^ i ≤ 2 ^ 6 := Nat.pow_le_pow_right (by decide) hi
  have : (2 : Nat) ^ 6 = 64 := by decide
  have : 1 ≤ 2 ^ i := Nat.one_le_two_pow
  omega
theorem BndD.snoc {m : Nat} {done : List (Nat × List Int)} {k : Nat} {row : List Int} (B : BndD m done) (L : ∀ d ∈ done, d.1 < m) (hl : row.length = m + 2) (h1 : ∀ k < m, (ent row k).natAbs ≤ 1) : BndD m (done ++ [(k, redR done row)]) := fun i e he j hj => by
  rcases Nat.lt_or_ge i done.length with z | z
  · rw [List.getElem?_append_left z] at he
    exact B i e he j hj
  · rw [List.getElem?_append_right z] at he
    cases q : i - done.length with
    | zero =>
      rw [q] at he
      obtain rfl := Option.some.inj he
      have e0 : i = done.length := by omega
      have := red_bnd B L hl h1 done.length (Nat.le_refl _) j hj
      rw [List.take_length] at this
      rw [e0]
      exact this
    | succ n => rw [q] at he; cases he
theorem atI_ent {r : List Int} {k : Nat} (h : k < r.length) : atI (r.map V.int) ((k : Nat) : Int) = some (.int (ent r k)) := atI_nat (by
  rw [List.getElem?_map, ent, List.getD_eq_getElem?_getD, List.getElem?_eq_getElem h]
  rfl)
/-- a leading row that stands: its pair, its spot, its list -/
abbrev DU := Addr × Nat × Addr × List Int
def dU3 (du : List DU) : List (Nat × List Int) := du.map fun u => (u.2.1, u.2.2.2)
def DUat (H : Hp) (du : List DU) : Prop := ∀ u ∈ du, H u.1 = some (.tup [.int (u.2.1 : Nat), .ref u.2.2.1]) ∧ H u.2.2.1 = some (oI u.2.2.2)
theorem DUat.ext {H H' : Hp} {du : List DU} (h : DUat H du) (s : Same H H') : DUat H' du := fun u hu => ⟨s _ _ (h u hu).1, s _ _ (h u hu).2⟩
/-- a row of factors of at most 1 -/
structure Row1 (m : Nat) (r : List Int) : Prop where
  len : r.length = m + 2
  one : ∀ k < m, (ent r k).natAbs ≤ 1
def sp_redu : Sp := fun vs H Q _ => ∃ (ld lr : Addr) (m : Nat) (du : List DU) (row : List Int), vs = [.ref ld, .ref lr] ∧ H ld = some (.lst (rf du)) ∧ DUat H du ∧ H lr = some (oI row) ∧ Led m (dU3 du) ∧ BndD m (dU3 du) ∧ Row1 m row ∧ du.length ≤ 6 ∧ m ≤ 20 ∧
  ∀ l H', Same H H' → H l = none → H' l = some (oI (redR (dU3 du) row)) → Q (.ref l) H'
def sp_solv : Sp := fun vs H Q _ => ∃ (l : Addr) (m : Nat) (ru : List RWU), vs = [.ref l] ∧ H l = some (.lst (rf ru)) ∧ (∀ r ∈ ru, H r.1 = some (oI r.2) ∧ Row1 m r.2) ∧ ru.length ≤ 6 ∧ m ≤ 20 ∧
  ∀ H', Same H H' → (solveR m (sn ru) [] = none → Q .non H') ∧ ∀ x, solveR m (sn ru) [] ≠ none → Q (.ref x) H'
end RV
set_option linter.all false
/-! list(zip(xs, ys)): xs a list, ys a tuple -/
namespace PySem
open Sem (wp)
theorem zip_no_len : typeLookup (.type "zip") "__len__" = pure none := am_miss_of_fast (by decide +kernel)
theorem zip_no_hint : typeLookup (.type "zip") "__length_hint__" = pure none := am_miss_of_fast (by decide +kernel)
section
variable {prog : Program} {w : World} {A : Around} {E : Value → Shared → Prop} {s : Shared} {z TI TO i1 i2 : Addr} {fp1 fp2 : List Addr} {n1 n2 i : Nat} {P1 P2 : Nat → Value → Prop} {St1 St2 : Nat → Heap → Prop} {a1 a2 : Value}
theorem zipH2_next_item {T : Addr} {f : Bool} {oT : Obj} {Q : Value → Shared → Prop} (S : ZipSep2 z TI TO i1 i2 fp1 fp2) (D1 : Draws prog w A i1 fp1 n1 P1 St1) (D2 : Draws prog w A i2 fp2 n2 P2 St2)
    (hz : IsZipHeld s.heap z TI TO T f) (hT : s.heap.get? T = some oT) (hTI : IsTupOf2 s.heap TI (.ref i1) (.ref i2)) (st1 : St1 i s.heap) (st2 : St2 i s.heap) (hlt1 : i < n1) (hlt2 : i < n2)
    (hQ : ∀ x1 x2 h' tk, P1 i x1 → P2 i x2 → IsZipHeld h' z TI TO T true → St1 (i + 1) h' → St2 (i + 1) h' → IsTupOf2 h' s.heap.objs.size x1 x2 → h'.objs.size = s.heap.objs.size + 1 →
      (∀ c o, c ≠ z → c ≠ i1 → c ≠ i2 → s.heap.get? c = some o → h'.get? c = some o) → Q (.ref s.heap.objs.size) { s with heap := h', toks := tk }) :
    wpAny (model prog w) A (Builtin.«zip.__next__» ⟨[.ref z], []⟩) (fun fin s' => ∃ v, fin = .done (.ret v) ∧ Q v s') E s := by
  obtain ⟨hp, g, d, tk0, os⟩ := s
  show wpAny _ _ (field (.ref z) 2 >>= _) _ _ _
  refine wpAny_bind (wpAny_field hz rfl (x := .bool false) rfl ?_)
  show wpAny _ _ (field (.ref z) 3 >>= _) _ _ _
  refine wpAny_bind (wpAny_field hz rfl (x := .ref TI) rfl ?_)
  refine wpAny_bind (wpAny_seqItems hTI rfl ?_)
  show wpAny _ _ (Builtin.SmallTypes.ownedTupleIsFree (.ref z) >>= _) _ _ _
  refine wpAny_bind (wpAny_tupleHeld_zip hz hT fun g0 hz0 hs0 => ?_)
  replace hs0 : Heap.SameBut z hp g0 := hs0
  simp only [Bool.false_eq_true, if_false]
  refine wpAny_bind ?_
  rw [← Array.forIn_toList]
  simp only [List.forIn_cons, List.forIn_nil]
  refine wpAny_bind (wpAny_bind (wpAny_holding ?_))
  show wpAny _ _ (Builtin.SmallTypes.nextOf (.ref i1) >>= _) _ _ ⟨g0, g, d, tk0, os⟩
  refine wpAny_bind (D1.item i _ _ _ hlt1 (D1.over st1 hs0 S.zf1) fun x1 p1 tk1 hx1 sn1 hp1 => wpAny_pure ?_)
  replace hp1 : Heap.SameBut i1 g0 p1 := hp1
  refine wpAny_pure ?_
  refine wpAny_bind (wpAny_bind (wpAny_holding ?_))
  show wpAny _ _ (Builtin.SmallTypes.nextOf (.ref i2) >>= _) _ _ ⟨p1, g, d, tk1, os⟩
  refine wpAny_bind (D2.item i _ _ _ hlt2 (D2.over (D2.over st2 hs0 S.zf2) hp1 S.sep1_2) fun x2 p2 tk2 hx2 sn2 hp2 => wpAny_pure ?_)
  replace hp2 : Heap.SameBut i2 p1 p2 := hp2
  refine wpAny_pure (wpAny_pure ?_)
  show wpAny _ _ (newTuple [x1, x2] >>= _) _ _ ⟨p2, g, d, tk2, os⟩
  refine wpAny_bind (wpAny_newTuple ?_)
  have hsz : p2.objs.size = hp.objs.size := by rw [hp2.1, hp1.1, hs0.1]
  have hzz : IsZipHeld p2 z TI TO T true := hp2.extBut _ _ S.zi2 (hp1.extBut _ _ S.zi1 hz0)
  have hkk : ∀ c o, c ≠ z → c ≠ i1 → c ≠ i2 → hp.get? c = some o → p2.get? c = some o := fun c o cz c1 c2 e => hp2.extBut _ _ c2 (hp1.extBut _ _ c1 (hs0.extBut _ _ cz e))
  have hj1 : St1 (i + 1) p2 := D1.over sn1 hp2 S.sep2_1
  refine wpAny_pure ⟨_, rfl, ?_⟩
  show Q (.ref p2.objs.size) ⟨p2.push { cls := .type "tuple", data := .seq #[x1, x2] }, g, d, tk2, os⟩
  have hT8 : IsTupOf2 (p2.push { cls := .type "tuple", data := .seq #[x1, x2] }) p2.objs.size x1 x2 := Heap.get?_push_size _ rfl
  have hz8 : (p2.push { cls := .type "tuple", data := .seq #[x1, x2] }).objs.size = p2.objs.size + 1 := Heap.size_push ..
  have up : ∀ c o, p2.get? c = some o → (p2.push { cls := .type "tuple", data := .seq #[x1, x2] }).get? c = some o := fun c o e => Heap.get?_push_of_some _ e
  rw [hsz] at hT8 hz8 ⊢
  exact hQ x1 x2 _ tk2 hx1 hx2 (up _ _ hzz) (D1.frame _ _ _ hj1 fun b hb o e => up b o e) (D2.frame _ _ _ sn2 fun b hb o e => up b o e) hT8 hz8 fun c o cz c1 c2 e => up c o (hkk c o cz c1 c2 e)
theorem zipH2_next_end {T : Addr} {f : Bool} {oT : Obj} {Q : Fin → Shared → Prop} (S : ZipSep2 z TI TO i1 i2 fp1 fp2) (D1 : Draws prog w A i1 fp1 n1 P1 St1) (D2 : Draws prog w A i2 fp2 n2 P2 St2)
    (hz : IsZipHeld s.heap z TI TO T f) (hT : s.heap.get? T = some oT) (hTI : IsTupOf2 s.heap TI (.ref i1) (.ref i2)) (st1 : St1 i s.heap) (st2 : St2 i s.heap) (hend : i = n1)
    (hE : ∀ h' tk e, (∀ c o, c ≠ z → c ≠ i1 → c ≠ i2 → s.heap.get? c = some o → h'.get? c = some o) → (∃ o, h'.get? e = some o ∧ o.cls = .type "StopIteration") → E (.ref e) { s with heap := h', toks := tk }) :
    wpAny (model prog w) A (Builtin.«zip.__next__» ⟨[.ref z], []⟩) Q E s := by
  obtain ⟨hp, g, d, tk0, os⟩ := s
  show wpAny _ _ (field (.ref z) 2 >>= _) _ _ _
  refine wpAny_bind (wpAny_field hz rfl (x := .bool false) rfl ?_)
  show wpAny _ _ (field (.ref z) 3 >>= _) _ _ _
  refine wpAny_bind (wpAny_field hz rfl (x := .ref TI) rfl ?_)
  refine wpAny_bind (wpAny_seqItems hTI rfl ?_)
  show wpAny _ _ (Builtin.SmallTypes.ownedTupleIsFree (.ref z) >>= _) _ _ _
  refine wpAny_bind (wpAny_tupleHeld_zip hz hT fun g0 hz0 hs0 => ?_)
  replace hs0 : Heap.SameBut z hp g0 := hs0
  simp only [Bool.false_eq_true, if_false]
  refine wpAny_bind ?_
  rw [← Array.forIn_toList]
  simp only [List.forIn_cons, List.forIn_nil]
  refine wpAny_bind (wpAny_bind (wpAny_holding ?_))
  show wpAny _ _ (Builtin.SmallTypes.nextOf (.ref i1) >>= _) _ _ ⟨g0, g, d, tk0, os⟩
  subst hend
  refine wpAny_bind (D1.done _ _ _ (D1.over st1 hs0 S.zf1) fun h2 e he hoe => ?_)
  exact hE h2 tk0 e (fun c o cz c1 _ x => he _ _ c1 (hs0.extBut _ _ cz x)) hoe
/-- the zip stands behind i turns: its tuple is its own, or the first one that it gave out is still there -/
def ZipAt (z TI TO i1 i2 : Addr) (S : Addr) (St1 St2 : Nat → Heap → Prop) (i : Nat) (h : Heap) : Prop :=
  IsTupOf2 h TI (.ref i1) (.ref i2) ∧ (∃ a1 a2, IsTupOf2 h TO a1 a2) ∧ St1 i h ∧ St2 i h ∧ (IsZip h z TI TO .none ∨ ∃ T f oT, IsZipHeld h z TI TO T f ∧ h.get? T = some oT ∧ S < T)
theorem lz_item {S : Addr} {Q : Option Value → Shared → Prop} (Z : ZipSep2 z TI TO i1 i2 fp1 fp2) (D1 : Draws prog w A.in1 i1 fp1 n1 P1 St1) (D2 : Draws prog w A.in1 i2 fp2 n2 P2 St2) (hzl : z < S) (l2 : TO < S) (l3 : TI < S) (hTS : i1 < S ∧ i2 < S) (hS : S < s.heap.objs.size)
    (hst : ZipAt z TI TO i1 i2 S St1 St2 i s.heap) (hlt1 : i < n1) (hlt2 : i < n2)
    (hQ : ∀ x1 x2 h' tk, P1 i x1 → P2 i x2 → ZipAt z TI TO i1 i2 S St1 St2 (i + 1) h' → IsTupOf2 h' s.heap.objs.size x1 x2 → h'.objs.size = s.heap.objs.size + 1 →
      (∀ c o, c ≠ z → c ≠ TO → c ≠ i1 → c ≠ i2 → s.heap.get? c = some o → h'.get? c = some o) → Q (some (.ref s.heap.objs.size)) { s with heap := h', toks := tk }) :
    wpAny (model prog w) A (pyNext (.ref z)) Q E s := by
  obtain ⟨hTI, ⟨a1, a2, hTO⟩, st1, st2, hz | ⟨T, f, oT, hz, hT, hlt⟩⟩ := hst
  · refine wpAny_pyNext_zipD2_item Z D1 D2 hz hTI hTO st1 st2 hlt1 hlt2 fun x1 x2 h' tk q1 q2 z' TO' s1 s2 t' hsz hk => ?_
    exact hQ x1 x2 h' tk q1 q2 ⟨hk _ _ Z.TIz Z.TITO Z.TIi1 Z.TIi2 hTI, ⟨x1, x2, TO'⟩, s1, s2, .inr ⟨s.heap.objs.size, false, _, z', t', hS⟩⟩ t' hsz hk
  · have hTy : s.TypeIs (.ref z) "zip" := ⟨_, hz, rfl⟩
    unfold pyNext
    refine wpAny_bind (wpAny_attempt (wpAny_callSpecial?_slot (name := Str.ofString "__next__") hTy F.slot_zip_next
      (wpAny_call_entry F.slot_zip_next hTy F.entry_zip_next
        (zipH2_next_item Z D1 D2 hz hT hTI st1 st2 hlt1 hlt2 fun x1 x2 h' tk q1 q2 z' s1 s2 t' hsz hk => wpAny_pure ?_) (F.args_zip_next_1 _))))
    exact hQ x1 x2 h' tk q1 q2 ⟨hk _ _ Z.TIz Z.TIi1 Z.TIi2 hTI, ⟨a1, a2, hk _ _ Z.TOz Z.Ti1 Z.Ti2 hTO⟩, s1, s2, .inr ⟨T, true, oT, z', hk _ _ (Nat.ne_of_gt (Nat.lt_trans hzl hlt)) (Nat.ne_of_gt (Nat.lt_trans hTS.1 hlt)) (Nat.ne_of_gt (Nat.lt_trans hTS.2 hlt)) hT, hlt⟩⟩ t' hsz fun c o c1 c2 c3 c4 e => hk c o c1 c3 c4 e
theorem lz_end {S : Addr} {Q : Option Value → Shared → Prop} (Z : ZipSep2 z TI TO i1 i2 fp1 fp2) (D1 : Draws prog w A.in1 i1 fp1 n1 P1 St1) (D2 : Draws prog w A.in1 i2 fp2 n2 P2 St2)
    (hst : ZipAt z TI TO i1 i2 S St1 St2 n1 s.heap) (hle : n1 ≤ n2)
    (hQ : ∀ h' tk, (∀ c o, c ≠ z → c ≠ TO → c ≠ i1 → c ≠ i2 → s.heap.get? c = some o → h'.get? c = some o) → Q none { s with heap := h', toks := tk }) :
    wpAny (model prog w) A (pyNext (.ref z)) Q E s := by
  obtain ⟨hTI, ⟨a1, a2, hTO⟩, st1, st2, hz | ⟨T, f, oT, hz, hT, hlt⟩⟩ := hst
  · exact wpAny_pyNext_zipD2_end Z D1 D2 hz hTI hTO st1 st2 (Nat.le_refl _) hle (.inl rfl) hQ
  · have hTy : s.TypeIs (.ref z) "zip" := ⟨_, hz, rfl⟩
    unfold pyNext
    refine wpAny_bind (wpAny_attempt (wpAny_callSpecial?_slot (name := Str.ofString "__next__") hTy F.slot_zip_next
      (wpAny_call_entry F.slot_zip_next hTy F.entry_zip_next (zipH2_next_end Z D1 D2 hz hT hTI st1 st2 rfl fun h' tk e hk he => ?_) (F.args_zip_next_1 _))))
    obtain ⟨o, ho, hc⟩ := he
    refine wpAny_bind (wpAny_isInstance (T := "StopIteration") (b := true) ⟨o, ho, hc⟩ isSubtype_stop ?_)
    exact wpAny_pure (hQ _ _ fun c o c1 _ c3 c4 x => hk c o c1 c3 c4 x)
end
end PySem
set_option linter.all false
/-! list(zip(xs, ys)): the loop, the call, the rule -/
namespace PySem
open Sem (wp)
open PySem.W
/-- as: the new tuples, above lo, rising, each with the items of its turn -/
structure LzG (P1 P2 : Nat → Value → Prop) (lo : Addr) (h : Heap) (as : List Addr) : Prop where
  rise : as.Pairwise (· < ·)
  above : ∀ a ∈ as, lo < a
  pairs : ∀ (j : Nat) (a : Addr), as[j]? = some a → ∃ x y, P1 j x ∧ P2 j y ∧ IsTupOf2 h a x y
theorem LzG.there {P1 P2 : Nat → Value → Prop} {lo : Addr} {h : Heap} {as : List Addr} (g : LzG P1 P2 lo h as) {a : Addr} (ha : a ∈ as) : a < h.objs.size := by
  obtain ⟨j, hj⟩ := List.mem_iff_getElem?.mp ha
  obtain ⟨_, _, _, _, e⟩ := g.pairs j a hj
  exact Heap.lt_size e
section
variable {prog : Program} {w : World} {A : Around} {E : Value → Shared → Prop} {s : Shared} {R : Result → Shared → Prop} {z TI TO i1 i2 : Addr} {fp1 fp2 : List Addr} {n1 n2 : Nat} {P1 P2 : Nat → Value → Prop} {St1 St2 : Nat → Heap → Prop}
theorem ZipAt.keep {S : Addr} {i : Nat} {h h' : Heap} (Z : ZipSep2 z TI TO i1 i2 fp1 fp2) (D1 : Draws prog w A i1 fp1 n1 P1 St1) (D2 : Draws prog w A i2 fp2 n2 P2 St2) (st : ZipAt z TI TO i1 i2 S St1 St2 i h) (hz : S ≠ z) (h1 : S ≠ TI) (h2 : S ≠ TO) (f1 : S ∉ fp1) (f2 : S ∉ fp2)
    (k : ∀ b o, b ≠ S → h.get? b = some o → h'.get? b = some o) : ZipAt z TI TO i1 i2 S St1 St2 i h' := by
  obtain ⟨hTI, ⟨a1, a2, hTO⟩, st1, st2, q⟩ := st
  refine ⟨k _ _ h1.symm hTI, ⟨a1, a2, k _ _ h2.symm hTO⟩, D1.frame _ _ _ st1 fun b hb o e => k b o (fun q => f1 (q ▸ hb)) e, D2.frame _ _ _ st2 fun b hb o e => k b o (fun q => f2 (q ▸ hb)) e, ?_⟩
  rcases q with q | ⟨T, f, oT, q, t, l⟩
  · exact .inl (k _ _ hz.symm q)
  · exact .inr ⟨T, f, oT, k _ _ hz.symm q, k _ _ (Nat.ne_of_gt l) t, l⟩
theorem lz_loop {S : Addr} (Z : ZipSep2 z TI TO i1 i2 fp1 fp2) (D1 : Draws prog w A.in1.in1 i1 fp1 n1 P1 St1) (D2 : Draws prog w A.in1.in1 i2 fp2 n2 P2 St2) (hn : n1 ≤ sizeLine) (hle : n1 ≤ n2) (hzl : z < S) (hTOl : TO < S) (hTIl : TI < S) (hi : i1 < S ∧ i2 < S) (f1 : S ∉ fp1) (f2 : S ∉ fp2) (res : Value) {h₁ : Heap}
    (hR : ∀ h' tk acc c as, (∀ b o, b ≠ S → b ≠ z → b ≠ TO → b ≠ i1 → b ≠ i2 → h₁.get? b = some o → h'.get? b = some o) → h'.get? S = some { cls := .type "list", dict := none, data := .seq acc c, slots := #[] } → as.length = n1 → LzG P1 P2 S h' as →
      acc.toList = as.map Value.ref → R (.ok (.ret res)) { s with heap := h', toks := tk }) :
    ∀ (k i : Nat) (h : Heap) (tk c : Nat) (acc : Array Value) (as : List Addr), n1 - i = k → i ≤ n1 → ZipAt z TI TO i1 i2 S St1 St2 i h → (∀ b o, b ≠ S → b ≠ z → b ≠ TO → b ≠ i1 → b ≠ i2 → h₁.get? b = some o → h.get? b = some o) →
      h.get? S = some { cls := .type "list", dict := none, data := .seq acc c, slots := #[] } → acc.toList = as.map Value.ref → as.length = i → LzG P1 P2 S h as →
      codeAny (model prog w) A (.builtin "list.extend.loop" ⟨[.ref S, .ref z, res], []⟩) R { s with heap := h, toks := tk } := by
  intro k
  induction k with
  | zero =>
    intro i h tk c acc as hk hi' hst hkeep hS hacc hal hG
    obtain rfl : i = n1 := by omega
    refine codeAny_builtin PySem.F.entry_extend_loop ?_
    rw [Around.under_plainId PySem.F.plain_extend_loop _]
    show wpAny _ A.in1 (pyNext (.ref z) >>= _) _ _ _
    refine wpAny_bind (lz_end (s := { s with heap := h, toks := tk }) (A := A.in1) Z D1 D2 hst hle fun h' tk' he => ?_)
    refine wpAny_pure (hR h' tk' acc c as (fun b o q1 q2 q3 q4 q5 e => he b o q2 q3 q4 q5 (hkeep b o q1 q2 q3 q4 q5 e)) (he S _ (Nat.ne_of_gt hzl) (Nat.ne_of_gt hTOl) (Nat.ne_of_gt hi.1) (Nat.ne_of_gt hi.2) hS) hal ⟨hG.rise, hG.above, fun j a hj => ?_⟩ hacc)
    obtain ⟨x, y, p1, p2, e3⟩ := hG.pairs j a hj
    have la := hG.above a (List.mem_of_getElem? hj)
    exact ⟨x, y, p1, p2, he a _ (Nat.ne_of_gt (Nat.lt_trans hzl la)) (Nat.ne_of_gt (Nat.lt_trans hTOl la)) (Nat.ne_of_gt (Nat.lt_trans hi.1 la)) (Nat.ne_of_gt (Nat.lt_trans hi.2 la)) e3⟩
  | succ k ih =>
    intro i h tk c acc as hk hi' hst hkeep hS hacc hal hG
    have hlt : i < n1 := by omega
    have hsz : acc.size = i := by rw [← Array.length_toList, hacc, List.length_map, hal]
    have hSl : S < h.objs.size := Heap.lt_size hS
    refine codeAny_builtin PySem.F.entry_extend_loop ?_
    rw [Around.under_plainId PySem.F.plain_extend_loop _]
    show wpAny _ A.in1 (pyNext (.ref z) >>= _) _ _ _
    refine wpAny_bind (lz_item (s := { s with heap := h, toks := tk }) (A := A.in1) (S := S) Z D1 D2 hzl hTOl hTIl hi hSl hst hlt (Nat.lt_of_lt_of_le hlt hle) fun x1 x2 h' tk' p1 p2 hst' ht hz hkp => ?_)
    dsimp only at ht hz hkp ⊢
    have hS' := hkp S _ (Nat.ne_of_gt hzl) (Nat.ne_of_gt hTOl) (Nat.ne_of_gt hi.1) (Nat.ne_of_gt hi.2) hS
    have up : ∀ b o, b ≠ S → h'.get? b = some o → (h'.update S (Obj.mapSeq (·.push (Value.ref h.objs.size)))).get? b = some o := fun b o hb e => (Heap.get?_update_other _ _ (Ne.symm hb)).trans e
    show wpAny _ A.in1 (updateSeq S (·.push (Value.ref h.objs.size)) >>= _) _ _ _
    refine wpAny_bind ?_
    refine wpAny_updateSeq hS' rfl (wpAny_pure ⟨plainId_quiet PySem.F.plain_extend_loop _, ih (i + 1) _ tk' _ (acc.push (Value.ref h.objs.size)) (as ++ [h.objs.size]) (by omega) hlt (hst'.keep Z D1 D2 (Nat.ne_of_gt hzl) (Nat.ne_of_gt hTIl) (Nat.ne_of_gt hTOl) f1 f2 up)
      (fun b o q1 q2 q3 q4 q5 e => up b o q1 (hkp b o q2 q3 q4 q5 (hkeep b o q1 q2 q3 q4 q5 e))) (Heap.get?_update_self _ hS' rfl) (by rw [Array.toList_push, hacc, List.map_append]; rfl) (by rw [List.length_append, hal]; rfl) ⟨?_, ?_, ?_⟩⟩) (by rw [hsz]; omega) (by show (acc.push (Value.ref h.objs.size)).size ≤ sizeLine + 1; rw [Array.size_push, hsz]; omega)
    · refine List.pairwise_append.mpr ⟨hG.rise, List.pairwise_singleton _ _, fun a ha b hb => ?_⟩
      rw [List.mem_singleton.mp hb]
      exact hG.there ha
    · intro a ha
      rcases List.mem_append.mp ha with ha | ha
      · exact hG.above a ha
      · rw [List.mem_singleton.mp ha]; exact hSl
    · intro j b hj
      rcases Nat.lt_trichotomy j as.length with h1 | h1 | h1
      · rw [List.getElem?_append_left h1] at hj
        obtain ⟨x, y, p1, p2, e3⟩ := hG.pairs j b hj
        have la := hG.above b (List.mem_of_getElem? hj)
        exact ⟨x, y, p1, p2, up b _ (Nat.ne_of_gt la) (hkp b _ (Nat.ne_of_gt (Nat.lt_trans hzl la)) (Nat.ne_of_gt (Nat.lt_trans hTOl la)) (Nat.ne_of_gt (Nat.lt_trans hi.1 la)) (Nat.ne_of_gt (Nat.lt_trans hi.2 la)) e3)⟩
      · subst h1
        have hb : h.objs.size = b := by simpa using hj
        subst hb
        subst hal
        exact ⟨x1, x2, p1, p2, up _ _ (Nat.ne_of_gt hSl) ht⟩
      · have hnone : (as ++ [h.objs.size])[j]? = none := List.getElem?_eq_none (by rw [List.length_append, List.length_singleton]; omega)
        rw [hnone] at hj; cases hj
theorem lz_hint {Q : Bool → Shared → Prop} (hT : s.TypeIs (.ref z) "zip") (h : Q true s) : wpAny (model prog w) A (Builtin.List.listLengthHint (.ref z)) Q E s := by
  unfold Builtin.List.listLengthHint
  refine wpAny_bind (wpAny_specialOf hT zip_no_len ?_)
  show wpAny _ A (specialOf (Value.ref z) (Str.ofString "__length_hint__") >>= _) _ _ _
  refine wpAny_bind (wpAny_specialOf hT zip_no_hint ?_)
  exact wpAny_pure h
theorem ZipAt.zip {S : Addr} {i : Nat} {h : Heap} (st : ZipAt z TI TO i1 i2 S St1 St2 i h) : ∃ o : Obj, h.get? z = some o ∧ o.cls = .type "zip" := by
  obtain ⟨_, _, _, _, q | ⟨T, f, oT, q, _⟩⟩ := st
  · exact ⟨_, q, rfl⟩
  · exact ⟨_, q, rfl⟩
theorem lz_iter {S : Addr} {i : Nat} {Q : Value → Shared → Prop} (st : ZipAt z TI TO i1 i2 S St1 St2 i s.heap) (h : Q (.ref z) s) : wpAny (model prog w) A (pyIter (.ref z)) Q E s := by
  obtain ⟨o, ho, hc⟩ := st.zip
  have hT : s.TypeIs (.ref z) "zip" := ⟨o, ho, hc⟩
  refine wpAny_pyIter_slot hT F.slot_zip_iter (wpAny_call_entry F.slot_zip_iter hT F.entry_zip_iter ?_ (F.args_zip_iter_1 _))
  show wpAny _ _ (ret (.ref z)) _ _ s
  exact wpAny_pure ⟨_, rfl, "zip", _, hT, F.slot_zip_next.lookup, h⟩
theorem lz_call {Q : Value → Shared → Prop} (Z : ZipSep2 z TI TO i1 i2 fp1 fp2) (D1 : Draws prog w A.in1.in1.in1 i1 fp1 n1 P1 St1) (D2 : Draws prog w A.in1.in1.in1 i2 fp2 n2 P2 St2) (hn : n1 ≤ sizeLine) (hle : n1 ≤ n2) (hzl : z < s.heap.objs.size) (hTOl : TO < s.heap.objs.size) (hTIl : TI < s.heap.objs.size) (hi : i1 < s.heap.objs.size ∧ i2 < s.heap.objs.size) (f1 : s.heap.objs.size ∉ fp1) (f2 : s.heap.objs.size ∉ fp2)
    (hst : ZipAt z TI TO i1 i2 s.heap.objs.size St1 St2 0 s.heap)
    (hQ : ∀ h' tk acc c as, (∀ b o, b ≠ z → b ≠ TO → b ≠ i1 → b ≠ i2 → s.heap.get? b = some o → h'.get? b = some o) → h'.get? s.heap.objs.size = some { cls := .type "list", dict := none, data := .seq acc c, slots := #[] } → as.length = n1 → LzG P1 P2 s.heap.objs.size h' as →
      acc.toList = as.map Value.ref → Q (.ref s.heap.objs.size) { s with heap := h', toks := tk }) :
    wpAny (model prog w) A (call (.type "list") [.ref z]) Q E s := by
  refine callType_codes (Q₁ := fun obj s₁ => obj = .ref s.heap.objs.size ∧ s₁ = { s with heap := s.heap.push { cls := .type "list", data := .seq #[] } }) PySem.F.called_list (PySem.F.typeCall_list_1 _) PySem.F.entry_list_init
    (code_list_new _ ⟨rfl, rfl⟩) fun obj s₁ h₁ => ?_
  obtain ⟨rfl, rfl⟩ := h₁
  have hS : (s.heap.push { cls := .type "list", data := .seq #[] }).get? s.heap.objs.size = some { cls := .type "list", data := .seq #[] } := Heap.get?_push_size _ rfl
  generalize hSS : s.heap.objs.size = S at *
  have k0 : ∀ b o, s.heap.get? b = some o → (s.heap.push { cls := .type "list", data := .seq #[] }).get? b = some o := fun b o e => Heap.get?_push_of_some _ e
  have bS : ∀ b o, s.heap.get? b = some o → b ≠ S := fun b o e => Nat.ne_of_lt (hSS ▸ Heap.lt_size e)
  have st0 := hst.keep (h' := s.heap.push { cls := .type "list", data := .seq #[] }) Z D1 D2 (Nat.ne_of_gt hzl) (Nat.ne_of_gt hTIl) (Nat.ne_of_gt hTOl) f1 f2 fun b o _ e => k0 b o e
  refine ⟨⟨_, hS, rfl⟩, PySem.F.args_list_init_2 _ _, ?_⟩
  show wpAny _ A.in1.in1 (do let old ← Builtin.List.listItems (.ref S); Builtin.List.listUpdate (.ref S) (fun _ => #[]); letGo old.toList.reverse; Builtin.List.listExtendWith (.ref S) (.ref z) .none) _ _ _
  refine wpAny_bind ?_
  unfold Builtin.List.listItems
  refine wpAny_bind (wpAny_seqItems hS rfl (wpAny_pure ?_))
  show wpAny _ _ (updateSeq S (fun _ => #[]) >>= fun _ => letGo (#[] : Array Value).toList.reverse >>= fun _ => Builtin.List.listExtendWith (.ref S) (.ref z) .none) _ _ _
  refine wpAny_bind (wpAny_updateSeq hS rfl ?_)
  have hS2 := Heap.get?_update_self (Obj.mapSeq (fun _ => (#[] : Array Value))) hS rfl
  have k1 : ∀ b o, b ≠ S → (s.heap.push { cls := .type "list", data := .seq #[] }).get? b = some o → ((s.heap.push { cls := .type "list", data := .seq #[] }).update S (Obj.mapSeq (fun _ => (#[] : Array Value)))).get? b = some o :=
    fun b o hb e => (Heap.get?_update_other _ _ (Ne.symm hb)).trans e
  have st1 := st0.keep Z D1 D2 (Nat.ne_of_gt hzl) (Nat.ne_of_gt hTIl) (Nat.ne_of_gt hTOl) f1 f2 k1
  refine wpAny_bind (wpAny_letGo ?_)
  obtain ⟨oz, hoz, hcz⟩ := st1.zip
  unfold Builtin.List.listExtendWith
  refine wpAny_bind (wpAny_typeOf (T := "zip") ⟨oz, hoz, hcz⟩ ?_)
  have h1 : Builtin.List.listSameRef (.ref S) (.ref z) = false := by simp [Builtin.List.listSameRef, Nat.ne_of_gt hzl]
  have h2 : (Value.type "zip" == Value.type "list") = false := by decide
  have h3 : (Value.type "zip" == Value.type "tuple") = false := by decide
  simp only [h1, h2, h3, Bool.or_false, Bool.false_eq_true, if_false]
  refine wpAny_bind (lz_iter (s := { s with heap := _ }) st1 ?_)
  refine wpAny_bind (wpAny_holding (lz_hint ⟨oz, hoz, hcz⟩ ?_))
  show wpAny _ _ (rule "list.extend.makes-room" >>= fun _ => Builtin.List.listTouch (.ref S) >>= fun _ =>
    again (.builtin "list.extend.loop" ⟨[.ref S, .ref z, .none], []⟩)) _ _ _
  refine wpAny_bind (wpAny_rule ?_)
  refine wpAny_bind ?_
  show wpAny _ _ (updateSeq S (·.push .none) >>= fun _ => updateSeq S (·.pop)) _ _ _
  refine wpAny_bind (wpAny_updateSeq hS2 rfl ?_)
  have hS3 := Heap.get?_update_self (Obj.mapSeq (·.push Value.none)) hS2 rfl
  refine wpAny_updateSeq (hz := by seq_fits) hS3 rfl ?_
  have hS4 := Heap.get?_update_self (Obj.mapSeq (·.pop)) hS3 rfl
  have st2 := (st1.keep Z D1 D2 (Nat.ne_of_gt hzl) (Nat.ne_of_gt hTIl) (Nat.ne_of_gt hTOl) f1 f2 fun b o hb e => (Heap.get?_update_other _ (Obj.mapSeq (·.push Value.none)) (Ne.symm hb)).trans e).keep (S := S) Z D1 D2 (Nat.ne_of_gt hzl) (Nat.ne_of_gt hTIl) (Nat.ne_of_gt hTOl) f1 f2 fun b o hb e => (Heap.get?_update_other _ (Obj.mapSeq (·.pop)) (Ne.symm hb)).trans e
  refine wpAny_pure ⟨plainId_quiet PySem.F.plain_extend_loop _, lz_loop (s := s) (h₁ := s.heap) (A := A.in1) Z D1 D2 hn hle hzl hTOl hTIl hi f1 f2 .none (fun h' tk acc c as hk hS' hl hG hacc => ?_) n1 0 _ _ _ _ [] (Nat.sub_zero _) (Nat.zero_le _) st2 (fun b o q1 q2 q3 q4 q5 e => ?_) hS4 rfl rfl ⟨.nil, (fun _ ha => nomatch ha), (fun j a hj => by simp at hj)⟩⟩
  · exact ⟨rfl, hQ h' tk acc c as (fun b o q2 q3 q4 q5 e => hk b o (bS b o e) q2 q3 q4 q5 e) hS' hl hG hacc⟩
  · exact (Heap.get?_update_other _ _ (Ne.symm q1)).trans ((Heap.get?_update_other _ _ (Ne.symm q1)).trans (k1 b o q1 (k0 b o e)))
end
end PySem
namespace RV
open PySem L2 PySem.Spec PyProof.Rows TL
section
variable {P : Program} {w : World} {H H2 : Hp} {h h' : Heap} {fs ex : List Addr}
/-- new objects, laid and tracked at once -/
theorem HOk_many (x : HOk P w H h) (k : ∀ b u, h.get? b = some u → h'.get? b = some u) (g : ∀ b o, H b = some o → H2 b = some o) (n : ∀ b o, H b = none → H2 b = some o → ObjOk P w H2 h' b o) : HOk P w H2 h' := fun b u e => by
  cases q : H b with
  | none => exact n b u q e
  | some v =>
    rw [g b v q] at e
    cases e
    exact (x b _ q).stay (fun c v _ q => k c v q) (fun c q => g _ _ q) fun c xs q => g _ _ q
theorem Un_many (x : HOk P w H h) (k : ∀ b u, h.get? b = some u → h'.get? b = some u) (g : ∀ b o, H b = some o → H2 b = some o) (n : ∀ b o, H b = none → H2 b = some o → h.objs.size ≤ b) : Un fs ex H H2 h h' where
  keep := fun b u q _ _ _ => k b u q
  slot := fun b u q _ _ _ => ⟨u.slots, k b u q⟩
  free := fun b u q e _ => by
    cases z : H2 b with
    | none => rfl
    | some o => exact absurd (Heap.lt_size q) (Nat.not_lt.mpr (n b o e z))
  there := fun b u q _ => ⟨u, k b u q⟩
  tups := fun b xs q => g b _ q
  frzs := fun b u xs q => g b _ q
  tbls := fun b ps q => ⟨#[], by rw [g b _ q]; simp⟩
theorem Inv_many {X : Cx} {pins : List (Addr × Obj)} {σ : L2.St} {H H2 : Hp} {s : Shared} {h' : Heap} {t' : Nat} (I : Inv X pins σ H s) (k : ∀ b u, s.heap.get? b = some u → h'.get? b = some u) (g : ∀ b o, H b = some o → H2 b = some o) (n : ∀ b o, H b = none → H2 b = some o → s.heap.objs.size ≤ b) (ob : ∀ b o, H b = none → H2 b = some o → ObjOk X.prog X.w H2 h' b o) :
    Inv X pins σ H2 { s with heap := h', toks := t' } := I.un (Un_many I.hok k g n) (HOk_many I.hok k g ob)
end
/-- list(zip(xs, ys)): new pairs in a new list -/
def tLZ (K : PySem.W.Frag) (ta : TA) : TE := fun σ H Q => ta σ H fun vs H1 => ∃ (a b : Addr) (xs ys : List V), vs = [.ref a, .ref b] ∧ SqL K H1 a xs ∧ SqT K H1 b ys ∧ xs.length = ys.length ∧
  ∀ (l : Addr) (ts : List Addr) (H2 : Hp), ts.length = xs.length → H2 l = some (.lst (ts.map V.ref)) → (∀ (j : Nat) (t : Addr), ts[j]? = some t → ∃ x y, xs[j]? = some x ∧ ys[j]? = some y ∧ H2 t = some (.tup [x, y])) →
    (∀ p o, H1 p = some o → H2 p = some o) → (∀ p, H2 p ≠ none → H1 p ≠ none ∨ p = l ∨ p ∈ ts) → H1 l = none → (∀ t ∈ ts, H1 t = none) → Q (.ref l) H2
theorem idx_rise {as : List Addr} (h : as.Pairwise (· < ·)) {j : Nat} {a : Addr} (hj : as[j]? = some a) : as.idxOf a = j := by
  have nd : as.Nodup := h.imp fun q => Nat.ne_of_lt q
  obtain ⟨l, e⟩ := List.getElem?_eq_some_iff.mp hj
  rw [← e]
  exact nd.idxOf_getElem j l
theorem pe_lzip {X : Cx} {e e2 : Expr} {ta : TA} {p p1 pos pos1 : Pos} (hcalm : X.calm = true) (hgl : Gl X "list") (hml : X.mg "list" = none) (hg : Gl X "zip") (hm : X.mg "zip" = none) (ha : PA X [e, e2] ta)
    (hs : starEach [e, e2] X.env = (false, eval e X.env) :: starEach [e2] X.env := by rfl) (hpl : (backTo pos (starEach [e2] X.env)).any (·.1) = false := by rfl)
    (hs1 : starEach [Expr.Call (.Name "zip" p) [e, e2] [] pos] X.env = (false, eval (Expr.Call (.Name "zip" p) [e, e2] [] pos) X.env) :: starEach [] X.env := by rfl) :
    PE X (.Call (.Name "list" p1) [.Call (.Name "zip" p) [e, e2] [] pos] [] pos1) (tLZ X.K ta) := by
  refine ⟨fun pins s σ H Q I h => ?_⟩
  refine Call_ (ld_blt I hgl hml (show bootBuiltins (Str.ofString "list") = some (.type "list") by decide +kernel) (PyProof.Rows.callWith_type1 ?_ hs1 rfl))
  rw [hs1]
  refine Calls.spliced_cons ?_
  refine Call_ (ld_blt I hg hm PyProof.Rows.boot_zip (PyProof.Rows.callWith_type1 (thn (ha.run pos pins s σ H _ I h) fun us s1 ⟨vs, H1, I1, r1, q1⟩ => ?_) hs hpl))
  obtain ⟨a, b, xs, ys, ex, hx, hy, hle, q⟩ := q1
  subst ex
  obtain ⟨u1, ur, rfl, t1, r2⟩ : ∃ u ur, us = u :: ur ∧ RelV (.ref a) u ∧ Vals [V.ref b] ur := by cases r1 with | cons r rr => exact ⟨_, _, rfl, r, rr⟩
  obtain ⟨u2, rfl, t2⟩ : ∃ u, ur = [u] ∧ RelV (.ref b) u := by
    cases r2 with
    | cons r rr => cases rr; exact ⟨_, rfl, r⟩
  cases t1
  cases t2
  obtain ⟨ax, ra, pa, na⟩ := I1.list hx
  obtain ⟨ay, rb, pb, nb⟩ := I1.tuple hy
  have la := pa.lt
  obtain ⟨ob, hob, _⟩ := id pb
  have lb := Heap.lt_size hob
  have hh : X.A.handled = none := I1.ok.hd hcalm
  refine zip_begins2 (begins_list a ax.toArray) (begins_tuple b ay.toArray) pa.isList pb fun h' hZ hTI hTO h1 h2 hsz hk => ?_
  generalize hN : s1.heap.objs.size = N at *
  show wpAny _ _ (spliced []) _ _ _
  refine Calls.spliced_nil ?_
  have hh3 : X.A.in1.in1.in1.handled = none := by simp [hh]
  have naN : a ≠ N := Nat.ne_of_lt la
  have nbN : b ≠ N + 1 := Nat.ne_of_lt (Nat.lt_succ_of_lt lb)
  have lens : xs.length = ax.length ∧ ys.length = ay.length := ⟨ra.length, rb.length⟩
  have e5 : ∀ {d : Nat}, d < 5 → N + d < N + 5 := fun hd => Nat.add_lt_add_left hd N
  refine lz_call (s := { s1 with heap := h' }) (zip_sep2 (N := N) (fp1 := [a]) (fp2 := [b]) (fun c hc => by rw [List.mem_singleton.mp hc]; exact la) (fun c hc => by rw [List.mem_singleton.mp hc]; exact lb)) (Draws.list hh3 N a naN ax.toArray) (Draws.tuple hh3 (N + 1) b nbN ay.toArray) (by rw [List.size_toArray, ← lens.1]; exact na) (by rw [List.size_toArray, List.size_toArray]; omega) ?_ ?_ ?_ ⟨?_, ?_⟩ ?_ ?_ ?_ fun h2' tk acc c as hk2 hS hl hG hacc => ?_
  · show N + 4 < h'.objs.size; rw [hsz]; exact e5 (by decide)
  · show N + 3 < h'.objs.size; rw [hsz]; exact e5 (by decide)
  · show N + 2 < h'.objs.size; rw [hsz]; exact e5 (by decide)
  · show N < h'.objs.size; rw [hsz]; exact e5 (d := 0) (by decide)
  · show N + 1 < h'.objs.size; rw [hsz]; exact e5 (by decide)
  · show h'.objs.size ∉ [N, a]
    rw [hsz]
    intro q
    rcases List.mem_cons.mp q with q | q
    · exact absurd q (Nat.ne_of_gt (e5 (d := 0) (by decide)))
    · exact absurd (List.mem_singleton.mp q) (Nat.ne_of_gt (Nat.lt_trans la (e5 (d := 0) (by decide))))
  · show h'.objs.size ∉ [N + 1, b]
    rw [hsz]
    intro q
    rcases List.mem_cons.mp q with q | q
    · exact absurd q (Nat.ne_of_gt (e5 (by decide)))
    · exact absurd (List.mem_singleton.mp q) (Nat.ne_of_gt (Nat.lt_trans lb (e5 (d := 0) (by decide))))
  · exact ⟨hTI, ⟨_, _, hTO⟩, ⟨⟨_, h1, rfl, rfl⟩, pa.isList.at fun o e => hk _ _ e⟩, ⟨⟨_, h2, rfl, rfl⟩, (show s1.heap.IsTuple b ay.toArray from pb).at fun o e => hk _ _ e⟩, .inl hZ⟩
  · dsimp only at hS hG hk2 hl ⊢
    rw [hsz] at hS hG ⊢
    have kk : ∀ q o, s1.heap.get? q = some o → h2'.get? q = some o := fun q o e => by
      have l : q < N := hN ▸ Heap.lt_size e
      exact hk2 q o (Nat.ne_of_lt (Nat.lt_add_right 4 l)) (Nat.ne_of_lt (Nat.lt_add_right 3 l)) (Nat.ne_of_lt l) (Nat.ne_of_lt (Nat.lt_add_right 1 l)) (hk q o e)
    have up : ∀ t ∈ as, N + 5 < t := hG.above
    have fr : ∀ q, N ≤ q → H1 q = none := fun q hq => I1.hok.fresh (hN ▸ hq)
    have lx : as.length = xs.length := by rw [hl, List.size_toArray]; exact lens.1.symm
    have nl : N + 5 ∉ as := fun m => Nat.lt_irrefl _ (up _ m)
    let H2 : Hp := fun q => if q = N + 5 then some (.lst (as.map V.ref)) else if q ∈ as then some (.tup [xs.getD (as.idxOf q) .non, ys.getD (as.idxOf q) .non]) else H1 q
    have eL : H2 (N + 5) = some (.lst (as.map V.ref)) := if_pos rfl
    have eT : ∀ (j : Nat) (t : Addr), as[j]? = some t → H2 t = some (.tup [xs.getD j .non, ys.getD j .non]) := fun j t e => by
      have m := List.mem_of_getElem? e
      show (if t = N + 5 then _ else if t ∈ as then _ else _) = _
      rw [if_neg (Nat.ne_of_gt (up t m)), if_pos m, idx_rise hG.rise e]
    have eO : ∀ q o, H1 q = some o → H2 q = some o := fun q o e => by
      have l : q < N := by
        refine Nat.lt_of_not_le fun z => ?_
        rw [fr q z] at e
        cases e
      show (if q = N + 5 then _ else if q ∈ as then _ else H1 q) = _
      rw [if_neg (Nat.ne_of_lt (Nat.lt_add_right 5 l)), if_neg fun m => absurd (Nat.lt_trans (Nat.lt_add_right 5 l) (up q m)) (Nat.lt_irrefl _)]
      exact e
    have eN : ∀ q o, H1 q = none → H2 q = some o → q = N + 5 ∨ q ∈ as := fun q o n e => by
      by_cases z : q = N + 5
      · exact .inl z
      · by_cases m : q ∈ as
        · exact .inr m
        · have : H2 q = H1 q := by
            show (if q = N + 5 then _ else if q ∈ as then _ else H1 q) = _
            rw [if_neg z, if_neg m]
          rw [this, n] at e
          cases e
    have gx : ∀ (j : Nat) (t : Addr), as[j]? = some t → ∃ x y u v, xs[j]? = some x ∧ ys[j]? = some y ∧ RelV x u ∧ RelV y v ∧ h2'.get? t = some { cls := .type "tuple", data := .seq #[u, v] } := fun j t e => by
      obtain ⟨u, v, p1, p2, e3⟩ := hG.pairs j t e
      have jl : j < xs.length := by rw [← lx]; exact (List.getElem?_eq_some_iff.mp e).1
      have q1 : xs[j]? = some xs[j] := List.getElem?_eq_getElem jl
      have q2 : ys[j]? = some (ys[j]'(by omega)) := List.getElem?_eq_getElem _
      obtain ⟨u', f1, s1⟩ := ra.get q1
      obtain ⟨v', f2, s2⟩ := rb.get q2
      rw [List.getElem?_toArray] at p1 p2
      obtain rfl : u' = u := Option.some.inj (f1.symm.trans p1)
      obtain rfl : v' = v := Option.some.inj (f2.symm.trans p2)
      exact ⟨_, _, u', v', q1, q2, s1, s2, e3⟩
    refine ⟨.ref (N + 5), H2, Inv_many I1 kk eO (fun q o n e => ?_) fun q o n e => ?_, rfl, q (N + 5) as H2 lx eL (fun j t e => ?_) eO (fun q z => ?_) (fr _ (Nat.le_add_right _ _)) fun t m => fr _ (Nat.le_trans (Nat.le_add_right _ _) (Nat.le_of_lt (up t m)))⟩
    · rw [hN]
      rcases eN q o n e with rfl | m
      · exact Nat.le_add_right _ _
      · exact Nat.le_trans (Nat.le_add_right _ _) (Nat.le_of_lt (up q m))
    · rcases eN q o n e with rfl | m
      · rw [eL] at e
        cases e
        refine ⟨by rw [List.length_map, hl, List.size_toArray, ← lens.1]; exact na, as.map Value.ref, c, ?_, ?_⟩
        · clear gx eT eL eO eN up hG nl lx hl hacc
          induction as with
          | nil => exact .nil
          | cons t as ih => exact .cons rfl ih
        · rw [hS, ← hacc]
      · obtain ⟨j, ej⟩ := List.getElem?_of_mem m
        rw [eT j q ej] at e
        cases e
        obtain ⟨x, y, u, v, q1, q2, s1, s2, e3⟩ := gx j q ej
        refine ⟨by show 2 ≤ sizeLine; decide, [u, v], ?_, ⟨_, e3, rfl, _, rfl⟩⟩
        rw [List.getD_eq_getElem?_getD, List.getD_eq_getElem?_getD, q1, q2]
        exact .cons s1 (.cons s2 .nil)
    · obtain ⟨x, y, u, v, q1, q2, s1, s2, e3⟩ := gx j t e
      refine ⟨x, y, q1, q2, ?_⟩
      rw [eT j t e, List.getD_eq_getElem?_getD, List.getD_eq_getElem?_getD, q1, q2]
      rfl
    · cases e : H1 q with
      | some o => exact .inl (by simp)
      | none =>
        cases z2 : H2 q with
        | none => exact absurd z2 z
        | some o => exact .inr (eN q o e z2)
end RV
/-! Links of a forest, found round by round. -/
namespace RV
section
variable {α : Type} [DecidableEq α] {st en : Nat → α}
abbrev AccR (α : Type) := List α × List (Lk α)
def stpR (st en : Nat → α) (acc : AccR α) (k : Nat) : AccR α :=
  if decide (st k ∈ acc.1) = decide (en k ∈ acc.1) then acc
  else if st k ∈ acc.1 then (acc.1 ++ [en k], acc.2 ++ [(k, st k, en k)]) else (acc.1 ++ [st k], acc.2 ++ [(k, en k, st k)])
def rndR (st en : Nat → α) (I : List Nat) (acc : AccR α) : AccR α := I.foldl (stpR st en) acc
def rndsR (st en : Nat → α) (I : List Nat) (acc : AccR α) : Nat → AccR α
  | 0 => acc
  | t + 1 => rndR st en I (rndsR st en I acc t)
def rootR (st en : Nat → α) (I : List Nat) (acc : AccR α) (p : α) : AccR α := if p ∈ acc.1 then acc else rndsR st en I (acc.1 ++ [p], acc.2) I.length
def rootedR (st en : Nat → α) (I : List Nat) (places : List α) : AccR α := places.foldl (rootR st en I) ([], [])
/-- links put behind, their far places put behind -/
def ExtR (a b : AccR α) : Prop := ∃ ls : List (Lk α), b.2 = a.2 ++ ls ∧ b.1 = a.1 ++ ls.map (fun l => l.2.2) ∧ ∀ l ∈ ls, l.2.2 ∉ a.1
theorem ExtR.refl (a : AccR α) : ExtR a a := ⟨[], by simp, by simp, fun _ h => (nomatch h)⟩
theorem ExtR.trans {a b c : AccR α} (h : ExtR a b) (k : ExtR b c) : ExtR a c := by
  obtain ⟨l1, e1, f1, g1⟩ := h
  obtain ⟨l2, e2, f2, g2⟩ := k
  refine ⟨l1 ++ l2, by rw [e2, e1, List.append_assoc], by rw [f2, f1, List.map_append, List.append_assoc], fun l hl => ?_⟩
  rcases List.mem_append.mp hl with z | z
  · exact g1 l z
  · intro m
    exact g2 l z (by rw [f1]; exact List.mem_append_left _ m)
theorem ExtR.sub {a b : AccR α} (h : ExtR a b) {v : α} (m : v ∈ a.1) : v ∈ b.1 := by
  obtain ⟨l1, e1, f1, g1⟩ := h
  rw [f1]
  exact List.mem_append_left _ m
theorem stpR_ext (a : AccR α) (k : Nat) : ExtR a (stpR st en a k) := by
  unfold stpR
  split
  · exact .refl a
  · next h =>
    by_cases z : st k ∈ a.1
    · rw [if_pos z]
      refine ⟨[(k, st k, en k)], rfl, rfl, fun l hl => ?_⟩
      rw [List.mem_singleton.mp hl]
      intro m
      exact h (by rw [decide_eq_true z, decide_eq_true m])
    · rw [if_neg z]
      refine ⟨[(k, en k, st k)], rfl, rfl, fun l hl => ?_⟩
      rw [List.mem_singleton.mp hl]
      exact z
theorem foldR_ext (I : List Nat) : ∀ a : AccR α, ExtR a (I.foldl (stpR st en) a) := by
  induction I with
  | nil => exact .refl
  | cons k I ih => exact fun a => (stpR_ext a k).trans (ih _)
theorem rndsR_ext (I : List Nat) (a : AccR α) (t : Nat) : ExtR a (rndsR st en I a t) := by
  induction t with
  | zero => exact .refl a
  | succ t ih => exact ih.trans (foldR_ext I _)
def ClosedR (st en : Nat → α) (I : List Nat) (a : AccR α) : Prop := ∀ k ∈ I, st k ∈ a.1 ↔ en k ∈ a.1
theorem ClosedR.fix {I : List Nat} {a : AccR α} (h : ClosedR st en I a) : rndR st en I a = a := by
  have : ∀ J : List Nat, (∀ k ∈ J, k ∈ I) → J.foldl (stpR st en) a = a := by
    intro J
    induction J with
    | nil => exact fun _ => rfl
    | cons k J ih =>
      intro s
      rw [List.foldl_cons]
      have e : stpR st en a k = a := by
        unfold stpR
        rw [if_pos]
        exact decide_eq_decide.mpr (h k (s k List.mem_cons_self))
      rw [e]
      exact ih fun j hj => s j (List.mem_cons_of_mem _ hj)
  exact this I fun _ h => h
theorem stpR_both {a : AccR α} {k : Nat} (h : st k ∈ a.1 ∨ en k ∈ a.1) : st k ∈ (stpR st en a k).1 ∧ en k ∈ (stpR st en a k).1 := by
  unfold stpR
  by_cases z : st k ∈ a.1
  · by_cases y : en k ∈ a.1
    · rw [if_pos (by rw [decide_eq_true z, decide_eq_true y])]
      exact ⟨z, y⟩
    · rw [if_neg (by rw [decide_eq_true z, decide_eq_false y]; decide), if_pos z]
      exact ⟨List.mem_append_left _ z, List.mem_append_right _ List.mem_cons_self⟩
  · have y := h.resolve_left z
    rw [if_neg (by rw [decide_eq_false z, decide_eq_true y]; decide), if_neg z]
    exact ⟨List.mem_append_right _ List.mem_cons_self, List.mem_append_left _ y⟩
theorem rndR_both {I : List Nat} {a : AccR α} {k : Nat} (hk : k ∈ I) (h : st k ∈ a.1 ∨ en k ∈ a.1) : st k ∈ (rndR st en I a).1 ∧ en k ∈ (rndR st en I a).1 := by
  obtain ⟨I1, I2, rfl⟩ := List.append_of_mem hk
  unfold rndR
  rw [List.foldl_append, List.foldl_cons]
  have e1 := foldR_ext (st := st) (en := en) I1 a
  have b := stpR_both (st := st) (en := en) (a := I1.foldl (stpR st en) a) (k := k) (h.imp e1.sub e1.sub)
  have e2 := foldR_ext (st := st) (en := en) I2 (stpR st en (I1.foldl (stpR st en) a) k)
  exact ⟨e2.sub b.1, e2.sub b.2⟩
def insR (st en : Nat → α) (I : List Nat) (a : AccR α) : Nat := (I.filter fun k => decide (st k ∈ a.1) && decide (en k ∈ a.1)).length
theorem filt_ltI {p q : Nat → Bool} (h : ∀ x, p x = true → q x = true) : ∀ {I : List Nat}, (I.filter p).length ≤ (I.filter q).length ∧ ((∃ k ∈ I, p k = false ∧ q k = true) → (I.filter p).length < (I.filter q).length) := by
  intro I
  induction I with
  | nil => exact ⟨Nat.le_refl _, fun ⟨k, hk, _⟩ => (nomatch hk)⟩
  | cons x I ih =>
    obtain ⟨a, b⟩ := ih
    cases px : p x with
    | true =>
      have qx := h x px
      rw [List.filter_cons_of_pos px, List.filter_cons_of_pos qx, List.length_cons, List.length_cons]
      refine ⟨Nat.succ_le_succ a, fun ⟨k, hk, p1, q1⟩ => Nat.succ_lt_succ (b ?_)⟩
      rcases List.mem_cons.mp hk with rfl | z
      · rw [px] at p1; cases p1
      · exact ⟨k, z, p1, q1⟩
    | false =>
      rw [List.filter_cons_of_neg (by rw [px]; decide)]
      cases qx : q x with
      | true =>
        rw [List.filter_cons_of_pos qx, List.length_cons]
        exact ⟨Nat.le_succ_of_le a, fun _ => Nat.lt_succ_of_le a⟩
      | false =>
        rw [List.filter_cons_of_neg (by rw [qx]; decide)]
        refine ⟨a, fun ⟨k, hk, p1, q1⟩ => b ?_⟩
        rcases List.mem_cons.mp hk with rfl | z
        · rw [qx] at q1; cases q1
        · exact ⟨k, z, p1, q1⟩
theorem insR_grow {I : List Nat} {a : AccR α} (h : ¬ ClosedR st en I a) : insR st en I a < insR st en I (rndR st en I a) := by
  have e := foldR_ext (st := st) (en := en) I a
  refine (filt_ltI fun x hx => ?_).2 ?_
  · simp only [Bool.and_eq_true, decide_eq_true_eq] at hx ⊢
    exact ⟨e.sub hx.1, e.sub hx.2⟩
  · unfold ClosedR at h
    obtain ⟨k, hk⟩ := Classical.not_forall.mp h
    obtain ⟨ki, ne⟩ := Classical.not_imp.mp hk
    have o : st k ∈ a.1 ∨ en k ∈ a.1 := by
      by_cases z : st k ∈ a.1
      · exact .inl z
      · refine .inr (Classical.byContradiction fun y => ne ⟨fun q => absurd q z, fun q => absurd q y⟩)
    have b := rndR_both ki o
    refine ⟨k, ki, ?_, by simp only [Bool.and_eq_true, decide_eq_true_eq]; exact b⟩
    simp only [Bool.and_eq_false_iff, decide_eq_false_iff_not]
    by_cases z : st k ∈ a.1
    · exact .inr fun y => ne ⟨fun _ => y, fun _ => z⟩
    · exact .inl z
theorem rndsR_closed (I : List Nat) (a : AccR α) : ClosedR st en I (rndsR st en I a I.length) := by
  have key : ∀ t, ClosedR st en I (rndsR st en I a t) ∨ t ≤ insR st en I (rndsR st en I a t) := by
    intro t
    induction t with
    | zero => exact .inr (Nat.zero_le _)
    | succ t ih =>
      show ClosedR st en I (rndR st en I (rndsR st en I a t)) ∨ _ ≤ insR st en I (rndR st en I (rndsR st en I a t))
      by_cases c : ClosedR st en I (rndsR st en I a t)
      · rw [c.fix]
        exact .inl c
      · have := insR_grow c
        have i2 := ih.resolve_left c
        exact .inr (by omega)
  rcases key I.length with c | c
  · exact c
  · intro k hk
    have e : (I.filter fun k => decide (st k ∈ (rndsR st en I a I.length).1) && decide (en k ∈ (rndsR st en I a I.length).1)) = I := List.filter_eq_self.mpr (by
      refine List.length_filter_eq_length_iff.mp (Nat.le_antisymm (List.length_filter_le _ _) c))
    have := List.filter_eq_self.mp e k hk
    simp only [Bool.and_eq_true, decide_eq_true_eq] at this
    exact ⟨fun _ => this.2, fun _ => this.1⟩
/-- what has been found is in order -/
structure RI (st en : Nat → α) (n : Nat) (free : Nat → Prop) (a : AccR α) : Prop where
  each : ∀ l ∈ a.2, LkOk st en n free l
  ord : a.2.Pairwise fun l m => m.2.2 ≠ l.2.1 ∧ m.2.2 ≠ l.2.2
  inn : ∀ l ∈ a.2, l.2.1 ∈ a.1 ∧ l.2.2 ∈ a.1
theorem RI.snoc {n k : Nat} {free : Nat → Prop} {a : AccR α} {u v : α} (h : RI st en n free a) (hu : u ∈ a.1) (hv : v ∉ a.1) (o : LkOk st en n free (k, u, v)) : RI st en n free (a.1 ++ [v], a.2 ++ [(k, u, v)]) := by
  refine ⟨fun l hl => ?_, List.pairwise_append.mpr ⟨h.ord, List.pairwise_singleton _ _, fun l hl m hm => ?_⟩, fun l hl => ?_⟩
  · rcases List.mem_append.mp hl with z | z
    · exact h.each l z
    · rw [List.mem_singleton.mp z]; exact o
  · rw [List.mem_singleton.mp hm]
    exact ⟨fun e => hv (by rw [show v = l.2.1 from e]; exact (h.inn l hl).1), fun e => hv (by rw [show v = l.2.2 from e]; exact (h.inn l hl).2)⟩
  · rcases List.mem_append.mp hl with z | z
    · exact ⟨List.mem_append_left _ (h.inn l z).1, List.mem_append_left _ (h.inn l z).2⟩
    · rw [List.mem_singleton.mp z]
      exact ⟨List.mem_append_left _ hu, List.mem_append_right _ List.mem_cons_self⟩
theorem RI.step {n k : Nat} {free : Nat → Prop} {a : AccR α} (h : RI st en n free a) (hk : k < n) (fk : free k) : RI st en n free (stpR st en a k) := by
  unfold stpR
  split
  · exact h
  · next ne =>
    by_cases z : st k ∈ a.1
    · rw [if_pos z]
      have y : en k ∉ a.1 := fun m => ne (by rw [decide_eq_true z, decide_eq_true m])
      exact h.snoc z y ⟨hk, fk, fun e => y (by rw [← show st k = en k from e]; exact z), .inl ⟨rfl, rfl⟩⟩
    · rw [if_neg z]
      have y : en k ∈ a.1 := Classical.byContradiction fun m => ne (by rw [decide_eq_false z, decide_eq_false m])
      exact h.snoc y z ⟨hk, fk, fun e => z (by rw [← show en k = st k from e]; exact y), .inr ⟨rfl, rfl⟩⟩
theorem RI.fold {n : Nat} {free : Nat → Prop} : ∀ {J : List Nat} {a : AccR α}, RI st en n free a → (∀ k ∈ J, k < n ∧ free k) → RI st en n free (J.foldl (stpR st en) a) := by
  intro J
  induction J with
  | nil => exact fun h _ => h
  | cons k J ih => exact fun h s => ih (h.step (s k List.mem_cons_self).1 (s k List.mem_cons_self).2) fun j hj => s j (List.mem_cons_of_mem _ hj)
theorem RI.rnds {n : Nat} {free : Nat → Prop} {I : List Nat} {a : AccR α} (h : RI st en n free a) (s : ∀ k ∈ I, k < n ∧ free k) (t : Nat) : RI st en n free (rndsR st en I a t) := by
  induction t with
  | zero => exact h
  | succ t ih => exact ih.fold s
omit [DecidableEq α] in
theorem Cn.closed {n : Nat} {free : Nat → Prop} {I : List Nat} {a : AccR α} (c : ClosedR st en I a) (s : ∀ k < n, free k → k ∈ I) {v u : α} (h : Cn st en (fun k => k < n ∧ free k) v u) : v ∈ a.1 ↔ u ∈ a.1 := by
  induction h with
  | nil => exact Iff.rfl
  | fwd _ q ih => exact ih.trans (c _ (s _ q.1 q.2))
  | bwd _ q ih => exact ih.trans (c _ (s _ q.1 q.2)).symm
omit [DecidableEq α] in
theorem Cn.first {n : Nat} {free : Nat → Prop} {v u : α} (h : Cn st en (fun k => k < n ∧ free k) v u) : u = v ∨ ∃ k < n, v = st k ∨ v = en k := by
  induction h with
  | nil => exact .inl rfl
  | fwd _ q ih =>
    rcases ih with z | z
    · exact .inr ⟨_, q.1, .inl z.symm⟩
    · exact .inr z
  | bwd _ q ih =>
    rcases ih with z | z
    · exact .inr ⟨_, q.1, .inr z.symm⟩
    · exact .inr z
structure MI (st en : Nat → α) (n : Nat) (free : Nat → Prop) (I : List Nat) (a : AccR α) : Prop where
  ri : RI st en n free a
  cl : ClosedR st en I a
  alone : ∀ v ∈ a.1, (∀ l ∈ a.2, l.2.2 ≠ v) → ∀ u, u ≠ v → Cn st en (fun k => k < n ∧ free k) v u → ∃ l ∈ a.2, l.2.2 = u
theorem MI.root {n : Nat} {free : Nat → Prop} {I : List Nat} {a : AccR α} (h : MI st en n free I a) (s : ∀ k ∈ I, k < n ∧ free k) (s2 : ∀ k < n, free k → k ∈ I) (p : α) : MI st en n free I (rootR st en I a p) ∧ p ∈ (rootR st en I a p).1 ∧ ∀ v ∈ a.1, v ∈ (rootR st en I a p).1 := by
  unfold rootR
  by_cases m : p ∈ a.1
  · rw [if_pos m]
    exact ⟨h, m, fun v q => q⟩
  · rw [if_neg m]
    have r0 : RI st en n free (a.1 ++ [p], a.2) := ⟨h.ri.each, h.ri.ord, fun l hl => ⟨List.mem_append_left _ (h.ri.inn l hl).1, List.mem_append_left _ (h.ri.inn l hl).2⟩⟩
    have ex := rndsR_ext (st := st) (en := en) I (a.1 ++ [p], a.2) I.length
    have cl := rndsR_closed (st := st) (en := en) I (a.1 ++ [p], a.2)
    have pin : p ∈ (rndsR st en I (a.1 ++ [p], a.2) I.length).1 := ex.sub (List.mem_append_right _ List.mem_cons_self)
    refine ⟨⟨r0.rnds s _, cl, fun v hv nf u ne hc => ?_⟩, pin, fun v q => ex.sub (List.mem_append_left _ q)⟩
    obtain ⟨ls, e2, e1, g⟩ := ex
    rw [e1] at hv
    rw [e2] at nf ⊢
    dsimp only at hv nf ⊢
    rcases List.mem_append.mp hv with hv | hv
    · rcases List.mem_append.mp hv with hv | hv
      · obtain ⟨l, hl, e⟩ := h.alone v hv (fun l hl => nf l (List.mem_append_left _ hl)) u ne hc
        exact ⟨l, List.mem_append_left _ hl, e⟩
      · obtain rfl := List.mem_singleton.mp hv
        have uin := (hc.closed cl s2).mp pin
        rw [e1] at uin
        dsimp only at uin
        have un : u ∉ a.1 := fun q => m ((hc.closed h.cl s2).mpr q)
        rcases List.mem_append.mp uin with q | q
        · rcases List.mem_append.mp q with q | q
          · exact absurd q un
          · exact absurd (List.mem_singleton.mp q) ne
        · obtain ⟨l, hl, e⟩ := List.mem_map.mp q
          exact ⟨l, List.mem_append_right _ hl, e⟩
    · obtain ⟨l, hl, e⟩ := List.mem_map.mp hv
      exact absurd e (nf l (List.mem_append_right _ hl))
theorem rooted_ok {n : Nat} {free : Nat → Prop} {I : List Nat} {places : List α} (s : ∀ k ∈ I, k < n ∧ free k) (s2 : ∀ k < n, free k → k ∈ I) (all : ∀ k < n, st k ∈ places ∧ en k ∈ places) : RootOk st en n free places (rootedR st en I places).2 := by
  have key : ∀ (zs : List α) (a : AccR α), MI st en n free I a → MI st en n free I (zs.foldl (rootR st en I) a) ∧ (∀ v ∈ a.1, v ∈ (zs.foldl (rootR st en I) a).1) ∧ ∀ z ∈ zs, z ∈ (zs.foldl (rootR st en I) a).1 := by
    intro zs
    induction zs with
    | nil => exact fun a h => ⟨h, fun _ q => q, fun _ q => (nomatch q)⟩
    | cons z zs ih =>
      intro a h
      obtain ⟨h1, h2, h3⟩ := h.root s s2 z
      obtain ⟨k1, k2, k3⟩ := ih _ h1
      refine ⟨k1, fun v hv => k2 v (h3 v hv), fun y hy => ?_⟩
      rcases List.mem_cons.mp hy with rfl | q
      · exact k2 _ h2
      · exact k3 y q
  obtain ⟨h, _, h3⟩ := key places ([], []) ⟨⟨fun _ q => (nomatch q), .nil, fun _ q => (nomatch q)⟩, fun k _ => ⟨fun q => (nomatch q), fun q => (nomatch q)⟩, fun _ q => (nomatch q)⟩
  refine ⟨⟨h.ri.each, h.ri.ord⟩, all, fun v nf u ne hc => h.alone v ?_ nf u ne hc⟩
  obtain ⟨k, hk, e⟩ := hc.first.resolve_left ne
  rcases e with rfl | rfl
  · exact h3 _ (all k hk).1
  · exact h3 _ (all k hk).2
end
end RV
/-! Links in the heap: promises. -/
namespace RV
open PySem L2 TL
/-- the reached places, in a dict -/
def mkT (rs : List Str) : List (Key × V) := rs.map fun r => (.inr r, .bl true)
theorem mkT_val {z : Str} : ∀ {rs : List Str}, z ∈ rs → valV (mkT rs) (.inr z) = some (.bl true)
  | r :: rs, h => by
    by_cases e : r = z
    · exact valV_pos (show (Sum.inr r : Key) = .inr z by rw [e])
    · exact (valV_neg (show ¬ (Sum.inr r : Key) = .inr z from fun q => e (by injection q))).trans (mkT_val (rs := rs) ((List.mem_cons.mp h).resolve_left fun q => e q.symm))
theorem mkT_none {z : Str} : ∀ {rs : List Str}, z ∉ rs → valV (mkT rs) (.inr z) = none
  | [], _ => rfl
  | r :: rs, h => by
    rw [List.mem_cons, not_or] at h
    exact (valV_neg (show ¬ (Sum.inr r : Key) = .inr z from fun q => h.1 (by injection q with q; exact q.symm))).trans (mkT_none h.2)
theorem mkT_put {rs : List Str} {z : Str} (h : z ∉ rs) : putK (mkT rs) (.inr z) (.bl true) = mkT (rs ++ [z]) := by
  rw [putK_new _ (mkT_none h), mkT, mkT, List.map_append]
  rfl
theorem mkT_is {H : Hp} {d : Addr} {rs : List Str} (h : H d = some (.dK (mkT rs))) (z : Str) : ∃ o, DGet H d (.str z) o ∧ o.isSome = decide (z ∈ rs) := by
  refine ⟨_, DGet.k (k := Sum.inr z) h, ?_⟩
  by_cases m : z ∈ rs
  · rw [mkT_val m, decide_eq_true m]; rfl
  · rw [mkT_none m, decide_eq_false m]; rfl
abbrev LKU := Addr × Lk Str
def oLk (pu : List PU) (l : Lk Str) : HO := .tup [.ref (pu.getD l.1 puD).1, .str l.2.1, .str l.2.2]
/-- all but two things stand -/
def SB2 (d l : Addr) (H H' : Hp) : Prop := ∀ b o, b ≠ d → b ≠ l → H b = some o → H' b = some o
/-- reached places and links, in the heap -/
structure RchS (H : Hp) (d l : Addr) (pu : List PU) (acc : AccR Str) (H' : Hp) : Prop where
  sb : SB2 d l H H'
  ed : H' d = some (.dK (mkT acc.1))
  el : ∃ lu : List LKU, H' l = some (.lst (rf lu)) ∧ sn lu = acc.2 ∧ ∀ u ∈ lu, H' u.1 = some (oLk pu u.2)
section
variable {H H' H2 : Hp} {d l T : Addr} {pu : List PU} {acc : AccR Str}
theorem RchS.same (h : RchS H d l pu acc H') (s : Same H' H2) : RchS H d l pu acc H2 := by
  obtain ⟨lu, e1, e2, e3⟩ := h.el
  exact ⟨fun b o q1 q2 e => s _ _ (h.sb b o q1 q2 e), s _ _ h.ed, lu, s _ _ e1, e2, fun u hu => s _ _ (e3 u hu)⟩
theorem RchS.new {o : HO} (h : RchS H d l pu acc H') (n : H' T = none) : RchS H d l pu acc (upd H' T o) := h.same fun _ _ e => (upd_ne (ne_of_none e n)).trans e
theorem RchS.ne (h : RchS H d l pu acc H') : l ≠ d := fun e => by
  obtain ⟨lu, e1, _⟩ := h.el
  rw [e, h.ed] at e1
  cases e1
/-- a place is reached -/
theorem RchS.add {v w : Str} {k : Nat} {lu : List LKU} (h : RchS H d l pu acc H') (e1 : H' l = some (.lst (rf lu))) (e2 : sn lu = acc.2) (e3 : ∀ u ∈ lu, H' u.1 = some (oLk pu u.2)) (nT : upd H' d (.dK (mkT (acc.1 ++ [v]))) T = none) :
    upd (upd H' d (.dK (mkT (acc.1 ++ [v])))) T (oLk pu (k, w, v)) l = some (.lst (rf lu)) ∧ RchS H d l pu (acc.1 ++ [v], acc.2 ++ [(k, w, v)]) (upd (upd (upd H' d (.dK (mkT (acc.1 ++ [v])))) T (oLk pu (k, w, v))) l (.lst (rf lu ++ [.ref T]))) := by
  have nd : T ≠ d := fun e => by rw [e, upd_same] at nT; cases nT
  have nT' : H' T = none := by rw [upd_ne nd] at nT; exact nT
  have nl : l ≠ T := ne_of_none e1 nT'
  refine ⟨?_, fun b o q1 q2 e => ?_, ?_, lu ++ [(T, (k, w, v))], ?_, ?_, fun u hu => ?_⟩
  · rw [upd_ne nl, upd_ne h.ne]
    exact e1
  · have := h.sb b o q1 q2 e
    rw [upd_ne q2, upd_ne (ne_of_none this nT'), upd_ne q1]
    exact this
  · rw [upd_ne h.ne.symm, upd_ne nd.symm, upd_same]
  · rw [upd_same, rf, rf, List.map_append]
    rfl
  · rw [sn, List.map_append, ← sn, e2]
    rfl
  · rcases List.mem_append.mp hu with z | z
    · have t := e3 u z
      have n1 : u.1 ≠ l := fun e => by rw [e, e1] at t; cases t
      have n2 : u.1 ≠ d := fun e => by rw [e, h.ed] at t; cases t
      rw [upd_ne n1, upd_ne (ne_of_none t nT'), upd_ne n2]
      exact t
    · rw [List.mem_singleton.mp z, upd_ne nl.symm, upd_same]
end
theorem RchS.self {H H' : Hp} {d l : Addr} {pu : List PU} {acc : AccR Str} (h : RchS H d l pu acc H') : RchS H' d l pu acc H' := ⟨fun _ _ _ _ e => e, h.ed, h.el⟩
theorem RchS.of {H H' H2 : Hp} {d l : Addr} {pu : List PU} {acc : AccR Str} (h : RchS H' d l pu acc H2) (s : SB2 d l H H') : RchS H d l pu acc H2 := ⟨fun b o q1 q2 e => h.sb b o q1 q2 (s b o q1 q2 e), h.ed, h.el⟩
theorem RchS.put {H H' : Hp} {d l : Addr} {pu : List PU} {acc : AccR Str} {v : Str} (h : RchS H d l pu acc H') : RchS H d l pu (acc.1 ++ [v], acc.2) (upd H' d (.dK (mkT (acc.1 ++ [v])))) := by
  obtain ⟨lu, e1, e2, e3⟩ := h.el
  refine ⟨fun b o q1 q2 e => (upd_ne q1).trans (h.sb b o q1 q2 e), upd_same, lu, (upd_ne h.ne).trans e1, e2, fun u hu => ?_⟩
  have t := e3 u hu
  rw [upd_ne (fun e => by rw [e, h.ed] at t; cases t)]
  exact t
/-- links found from what is reached -/
def sp_reach (CP : Addr) : Sp := fun vs H Q _ => ∃ (lp d l : Addr) (pu : List PU) (I : List Nat) (acc : AccR Str), vs = [.ref lp, .ref d, .ref l] ∧ H lp = some (.lst (I.map fun i => .ref (pu.getD i puD).1)) ∧ (∀ u ∈ pu, PipeAt CP H u.1 u.2) ∧ I.length ≤ 12 ∧ (∀ i ∈ I, i < pu.length) ∧ lp ≠ l ∧ RchS H d l pu acc H ∧ acc.1.length ≤ 5000 ∧ acc.2.length ≤ 5000 ∧
  ∀ H', RchS H d l pu (rndsR (pS (sn pu)) (pE (sn pu)) I acc I.length) H' → Q .non H'
/-- links of a forest -/
def sp_rooted (K : PySem.W.Frag) (CN CP CM : Addr) : Sp := fun vs H Q _ => ∃ (x lp : Addr) (pu : List PU) (ms : List M3) (I : List Nat), vs = [.ref x, .ref lp] ∧ NetR K CN CP CM H x (sn pu) ms ∧ pu.length ≤ 12 ∧ (∀ u ∈ pu, PipeAt CP H u.1 u.2) ∧ H lp = some (.lst (I.map fun i => .ref (pu.getD i puD).1)) ∧ I.length ≤ 12 ∧ (∀ i ∈ I, i < pu.length) ∧
  ∀ (l : Addr) (lu : List LKU) (zs : List Str) H', Same H H' → H' l = some (.lst (rf lu)) → (∀ u ∈ lu, H' u.1 = some (oLk pu u.2)) → SortP (pls (sn pu)) zs → zs.length ≤ 24 → sn lu = (rootedR (pS (sn pu)) (pE (sn pu)) I zs).2 → Q (.ref l) H'
theorem stpR_len {st en : Nat → Str} (a : AccR Str) (k : Nat) : (stpR st en a k).1.length ≤ a.1.length + 1 ∧ (stpR st en a k).2.length ≤ a.2.length + 1 := by
  unfold stpR
  split
  · exact ⟨Nat.le_succ _, Nat.le_succ _⟩
  · split <;> simp
theorem foldR_len {st en : Nat → Str} (I : List Nat) : ∀ a : AccR Str, (I.foldl (stpR st en) a).1.length ≤ a.1.length + I.length ∧ (I.foldl (stpR st en) a).2.length ≤ a.2.length + I.length := by
  induction I with
  | nil => exact fun a => ⟨Nat.le_refl _, Nat.le_refl _⟩
  | cons k I ih =>
    intro a
    have h1 := stpR_len (st := st) (en := en) a k
    have h2 := ih (stpR st en a k)
    rw [List.foldl_cons, List.length_cons]
    omega
theorem rndsR_len {st en : Nat → Str} (I : List Nat) (a : AccR Str) (t : Nat) : (rndsR st en I a t).1.length ≤ a.1.length + t * I.length ∧ (rndsR st en I a t).2.length ≤ a.2.length + t * I.length := by
  induction t with
  | zero => simp [rndsR]
  | succ t ih =>
    have h := foldR_len (st := st) (en := en) I (rndsR st en I a t)
    show (I.foldl (stpR st en) (rndsR st en I a t)).1.length ≤ _ ∧ (I.foldl (stpR st en) (rndsR st en I a t)).2.length ≤ _
    rw [Nat.succ_mul]
    omega
theorem rootR_len {st en : Nat → Str} (I : List Nat) (a : AccR Str) (p : Str) : (rootR st en I a p).1.length ≤ a.1.length + (1 + I.length * I.length) ∧ (rootR st en I a p).2.length ≤ a.2.length + (1 + I.length * I.length) := by
  unfold rootR
  split
  · omega
  · have := rndsR_len (st := st) (en := en) I (a.1 ++ [p], a.2) I.length
    dsimp only at this
    rw [List.length_append, List.length_singleton] at this
    omega
theorem rootedR_len {st en : Nat → Str} (I : List Nat) (zs : List Str) : ∀ a : AccR Str, (zs.foldl (rootR st en I) a).1.length ≤ a.1.length + zs.length * (1 + I.length * I.length) ∧ (zs.foldl (rootR st en I) a).2.length ≤ a.2.length + zs.length * (1 + I.length * I.length) := by
  induction zs with
  | nil => exact fun a => by simp
  | cons z zs ih =>
    intro a
    have h1 := rootR_len (st := st) (en := en) I a z
    have h2 := ih (rootR st en I a z)
    rw [List.foldl_cons, List.length_cons, Nat.succ_mul]
    omega
end RV
/-! A flow with given amounts: what is left, link by link; promises. -/
namespace RV
open PySem L2 TL
section
variable {st en : Nat → Str}
theorem leftP_succ (x : Nat → Int) (i : Nat) (v : Str) : leftP st en x (i + 1) v = leftP st en x i v + x i * (b2i (decide (en i = v)) - b2i (decide (st i = v))) := rfl
theorem LkOk.other {n : Nat} {free : Nat → Prop} {l m : Lk Str} (h1 : LkOk st en n free l) (hm : LkOk st en n free m) (o : m.2.2 ≠ l.2.1 ∧ m.2.2 ≠ l.2.2) : l.1 ≠ m.1 := fun e => by
  obtain ⟨o1, o2⟩ := o
  rcases h1.ends with ⟨a, b⟩ | ⟨a, b⟩ <;> rcases hm.ends with ⟨c, d⟩ | ⟨c, d⟩ <;> rw [e] at a b
  · exact o2 (d.symm.trans b)
  · exact o1 (c.symm.trans a)
  · exact o1 (d.symm.trans b)
  · exact o2 (c.symm.trans a)
theorem LksOk.rev {n : Nat} {free : Nat → Prop} {ls : List (Lk Str)} (h : LksOk st en n free ls) : (ls.reverse.map (·.1)).Nodup := by
  rw [List.map_reverse]
  have : ls.Pairwise fun l m => l.1 ≠ m.1 := List.Pairwise.imp_of_mem (fun {l m} hl hm o => (h.each l hl).other (h.each m hm) o) h.ord
  exact List.pairwise_reverse.mpr (List.pairwise_map.mpr (this.imp fun q e => q e.symm))
theorem putL_off {n : Nat} : ∀ {ls : List (Lk Str)} {x : Nat → Int} {k : Nat}, k ∉ ls.map (·.1) → ls.foldl (putL st en n) x k = x k := by
  intro ls
  induction ls with
  | nil => exact fun _ => rfl
  | cons l ls ih =>
    intro x k h
    rw [List.map_cons, List.mem_cons, not_or] at h
    rw [List.foldl_cons, ih h.2, putL, if_neg h.1]
/-- the next link's pipe has no amount yet -/
theorem LksOk.next {n i : Nat} {free : Nat → Prop} {ls : List (Lk Str)} {x : Nat → Int} {l : Lk Str} (h : LksOk st en n free ls) (h0 : ∀ k < n, free k → x k = 0) (hl : ls.reverse[i]? = some l) : ((ls.reverse.take i).foldl (putL st en n) x) l.1 = 0 ∧ LkOk st en n free l := by
  have lm : l ∈ ls := List.mem_reverse.mp (List.mem_of_getElem? hl)
  have o := h.each l lm
  refine ⟨?_, o⟩
  rw [putL_off fun m => ?_]
  · exact h0 _ o.lt o.fr
  · have nd := h.rev
    have e : ls.reverse.map (·.1) = (ls.reverse.take i).map (·.1) ++ (ls.reverse.drop i).map (·.1) := by rw [← List.map_append, List.take_append_drop]
    rw [e] at nd
    refine (List.nodup_append.mp nd).2.2 _ m l.1 ?_ rfl
    refine List.mem_map.mpr ⟨l, ?_, rfl⟩
    rw [List.drop_eq_getElem_cons (List.getElem?_eq_some_iff.mp hl).1, (List.getElem?_eq_some_iff.mp hl).2]
    exact List.mem_cons_self
end
/-- the amounts of a dict, by the names of pipes -/
def VA (kvs : List (Key × V)) (am : Str → Option Int) : Prop := ∀ y : Str, valV kvs (.inr y) = (am y).map V.int
def VF (ps : List P3) (kvs : List (Key × V)) (n : Nat) (x : Nat → Int) : Prop := ∀ k < n, valV kvs (.inr (pN ps k)) = some (.int (x k))
def VL (zs : List Str) (kvs : List (Key × V)) (y : Str → Int) : Prop := ∀ z ∈ zs, valV kvs (.inr z) = some (.int (y z))
theorem VL.put {zs : List Str} {kvs : List (Key × V)} {y : Str → Int} (h : VL zs kvs y) (v : Str) (c : Int) : VL zs (putK kvs (.inr v) (.int c)) fun z => if z = v then c else y z := fun z hz => by
  rw [valV_put]
  by_cases e : z = v
  · subst e
    rw [if_pos rfl]
    show _ = some (V.int (if z = z then c else y z))
    rw [if_pos rfl]
  · rw [if_neg (fun q => e (by injection q))]
    show _ = some (V.int (if z = v then c else y z))
    rw [if_neg e]
    exact h z hz
theorem VL.is {zs : List Str} {kvs : List (Key × V)} {y y' : Str → Int} (h : VL zs kvs y) (e : ∀ z ∈ zs, y z = y' z) : VL zs kvs y' := fun z hz => (h z hz).trans (by rw [e z hz])
/-- an amount is put down at both ends -/
theorem VL.both {zs : List Str} {kvs : List (Key × V)} {y : Str → Int} {s e : Str} {c : Int} (h : VL zs kvs y) : VL zs (putK (putK kvs (.inr e) (.int (y e + c))) (.inr s) (.int ((if s = e then y e + c else y s) - c))) fun z => y z + c * (b2i (decide (e = z)) - b2i (decide (s = z))) := by
  refine ((h.put e (y e + c)).put s ((if s = e then y e + c else y s) - c)).is fun z _ => ?_
  have t : ∀ a : Str, a ≠ z → b2i (decide (a = z)) = 0 := fun a q => by rw [decide_eq_false q]; rfl
  have o : b2i (decide (z = z)) = 1 := by rw [decide_eq_true rfl]; rfl
  by_cases z1 : z = s
  · subst z1
    rw [if_pos rfl, o]
    by_cases z2 : z = e
    · subst z2
      rw [if_pos rfl, o]
      omega
    · rw [if_neg z2, t e fun q => z2 q.symm]
      omega
  · rw [if_neg z1, t s fun q => z1 q.symm]
    by_cases z2 : z = e
    · subst z2
      rw [if_pos rfl, o]
      omega
    · rw [if_neg z2, t e fun q => z2 q.symm]
      omega
theorem VF.put {ps : List P3} {kvs : List (Key × V)} {x : Nat → Int} {k : Nat} {c : Int} (nd : (ps.map (·.1)).Nodup) (h : VF ps kvs ps.length x) (hk : k < ps.length) : VF ps (putK kvs (.inr (pN ps k)) (.int c)) ps.length fun j => if j = k then c else x j := fun j hj => by
  rw [valV_put]
  by_cases e : j = k
  · subst e
    rw [if_pos rfl]
    show _ = some (V.int (if j = j then c else x j))
    rw [if_pos rfl]
  · rw [if_neg (fun q => e (pN_inj nd hj hk (by injection q)))]
    show _ = some (V.int (if j = k then c else x j))
    rw [if_neg e]
    exact h j hj
theorem plsM {ps : List P3} {q : P3} (h : q ∈ ps) : q.2.1 ∈ pls ps ∧ q.2.2 ∈ pls ps := by
  rw [pls, List.mem_flatMap, List.mem_flatMap]
  exact ⟨⟨q, h, by simp⟩, ⟨q, h, by simp⟩⟩
/-- pipes without a given amount -/
def freeA (ps : List P3) (am : Str → Option Int) (k : Nat) : Prop := am (pN ps k) = none
instance (ps : List P3) (am : Str → Option Int) (k : Nat) : Decidable (freeA ps am k) := inferInstanceAs (Decidable (am (pN ps k) = none))
def x0A (ps : List P3) (am : Str → Option Int) (k : Nat) : Int := (am (pN ps k)).getD 0
/-- a flow with given amounts, if there is one -/
def sp_fit (K : PySem.W.Frag) (CN CP CM : Addr) : Sp := fun vs H Q _ => ∃ (x d : Addr) (ps : List P3) (ms : List M3) (kva : List (Key × V)) (am : Str → Option Int), vs = [.ref x, .ref d] ∧ NetR K CN CP CM H x ps ms ∧ POk ps ∧ H d = some (.dK kva) ∧ VA kva am ∧
  (Clash (pS ps) (pE ps) ps.length (freeA ps am) (x0A ps am) → ∀ H', Same H H' → Q .non H') ∧
  ∀ (t : Addr) (fs : List Int) H', Same H H' → H' t = some (.tup (fs.map V.int)) → fs.length = ps.length → CutF (pS ps) (pE ps) (ent fs) ps.length → (∀ k < ps.length, ∀ v, am (pN ps k) = some v → ent fs k = v) → Q (.ref t) H'
end RV
namespace RV
open PySem L2 TL
/-- a flow that is being made: the pipes' amounts, what is left at the places -/
structure FitS (H : Hp) (df dl : Addr) (ps : List P3) (zs : List Str) (x : Nat → Int) (y : Str → Int) (B : Nat) (H' : Hp) : Prop where
  ne : dl ≠ df
  sb : SB2 df dl H H'
  ex : ∃ kf kl, H' df = some (.dK kf) ∧ VF ps kf ps.length x ∧ kf.length ≤ B ∧ H' dl = some (.dK kl) ∧ VL zs kl y ∧ kl.length ≤ B
section
variable {H H' H2 : Hp} {df dl : Addr} {ps : List P3} {zs : List Str} {x x' : Nat → Int} {y y' : Str → Int} {B B' : Nat}
theorem FitS.same (h : FitS H df dl ps zs x y B H') (s : Same H' H2) : FitS H df dl ps zs x y B H2 := by
  obtain ⟨kf, kl, e1, e2, e3, e4, e5, e6⟩ := h.ex
  exact ⟨h.ne, fun b o q1 q2 e => s _ _ (h.sb b o q1 q2 e), kf, kl, s _ _ e1, e2, e3, s _ _ e4, e5, e6⟩
theorem FitS.is (h : FitS H df dl ps zs x y B H') (ex : ∀ k < ps.length, x k = x' k) (ey : ∀ z ∈ zs, y z = y' z) (hB : B ≤ B') : FitS H df dl ps zs x' y' B' H' := by
  obtain ⟨kf, kl, e1, e2, e3, e4, e5, e6⟩ := h.ex
  exact ⟨h.ne, h.sb, kf, kl, e1, fun k hk => (e2 k hk).trans (by rw [ex k hk]), by omega, e4, e5.is ey, by omega⟩
theorem FitS.ends {kl : List (Key × V)} {s e : Str} {c v1 v2 : Int} (h : FitS H df dl ps zs x y B H') (el : H' dl = some (.dK kl)) (vl : VL zs kl y) (ll : kl.length ≤ B) (hv1 : v1 = y e + c) (hv2 : v2 = (if s = e then v1 else y s) - c) :
    FitS H df dl ps zs x (fun z => y z + c * (b2i (decide (e = z)) - b2i (decide (s = z)))) (B + 2) (upd (upd H' dl (.dK (putK kl (.inr e) (.int v1)))) dl (.dK (putK (putK kl (.inr e) (.int v1)) (.inr s) (.int v2)))) := by
  subst hv2
  subst hv1
  obtain ⟨kf, _, e1, e2, e3, _⟩ := h.ex
  refine ⟨h.ne, fun b o q1 q2 eb => ?_, kf, _, ?_, e2, by omega, upd_same, vl.both, ?_⟩
  · rw [upd_ne q2, upd_ne q2]
    exact h.sb b o q1 q2 eb
  · rw [upd_ne h.ne.symm, upd_ne h.ne.symm]
    exact e1
  · have l1 := length_putK kl (.inr e : Key) (.int (y e + c))
    have l2 := length_putK (putK kl (.inr e : Key) (.int (y e + c))) (.inr s : Key) (.int ((if s = e then y e + c else y s) - c))
    omega
theorem FitS.amount {kf : List (Key × V)} {k : Nat} {c : Int} (h : FitS H df dl ps zs x y B H') (nd : (ps.map (·.1)).Nodup) (hk : k < ps.length) (ef : H' df = some (.dK kf)) (vf : VF ps kf ps.length x) (lf : kf.length ≤ B) :
    FitS H df dl ps zs (fun j => if j = k then c else x j) y (B + 1) (upd H' df (.dK (putK kf (.inr (pN ps k)) (.int c)))) := by
  obtain ⟨_, kl, _, _, _, e4, e5, e6⟩ := h.ex
  refine ⟨h.ne, fun b o q1 q2 eb => (upd_ne q1).trans (h.sb b o q1 q2 eb), _, kl, upd_same, vf.put nd hk, ?_, (upd_ne h.ne).trans e4, e5, by omega⟩
  have l1 := length_putK kf (.inr (pN ps k) : Key) (.int c)
  omega
end
theorem VL.second {zs : List Str} {kl : List (Key × V)} {y : Str → Int} {s e : Str} {v1 : Int} (vl : VL zs kl y) (hs : s ∈ zs) : valV (putK kl (.inr e) (.int v1)) (.inr s) = some (.int (if s = e then v1 else y s)) := by
  rw [valV_put]
  by_cases q : s = e
  · subst q
    rw [if_pos rfl, if_pos rfl]
  · rw [if_neg fun h => q (by injection h), if_neg q]
    exact vl s hs
theorem FitS.old2 {H H' : Hp} {df dl : Addr} {ps : List P3} {zs : List Str} {x : Nat → Int} {y : Str → Int} {B : Nat} (h : FitS H df dl ps zs x y B H') (nf : H df = none) (nl : H dl = none) : Same H H' := fun b o e =>
  h.sb b o (fun q => by rw [q, nf] at e; cases e) (fun q => by rw [q, nl] at e; cases e) e
theorem filt_ix {α : Type} (p : α → Bool) (d : α) : ∀ us : List α, us.filter p = ((List.range us.length).filter fun i => p (us.getD i d)).map fun i => us.getD i d := by
  intro us
  have e : us = (List.range us.length).map fun i => us.getD i d := by
    refine List.ext_getElem (by simp) fun i h1 h2 => ?_
    rw [List.getElem_map, List.getElem_range]
    simp [h1]
  rw [show (fun i => p (us.getD i d)) = p ∘ fun i => us.getD i d from rfl, ← List.filter_map, ← e]
end RV
/-! Readings explained: what is shown, possible readings, promises. -/
namespace RV
open PySem L2 TL
theorem VA.put {kvs : List (Key × V)} {am : Str → Option Int} (h : VA kvs am) (y : Str) (v : Int) : VA (putK kvs (.inr y) (.int v)) fun z => if z = y then some v else am z := fun z => by
  rw [valV_put]
  by_cases e : z = y
  · subst e
    rw [if_pos rfl]
    show _ = (if z = z then some v else am z).map V.int
    rw [if_pos rfl]
    rfl
  · rw [if_neg fun q => e (by injection q)]
    show _ = (if z = y then some v else am z).map V.int
    rw [if_neg e]
    exact h z
/-- this meter shows this and is not named -/
def ShowsN (ms : List M3) (rs : List (Option Int)) (out : List Str) (i : Nat) (v : Int) : Prop := rO rs i = some v ∧ mN ms i ∉ out
/-- two meters of one pipe show different things -/
def ClashM (ms : List M3) (rs : List (Option Int)) (out : List Str) : Prop := ∃ i j v w, i < ms.length ∧ j < ms.length ∧ ShowsN ms rs out i v ∧ ShowsN ms rs out j w ∧ mA ms i = mA ms j ∧ v ≠ w
/-- these are the amounts that the first n meters show -/
structure AmOk (ms : List M3) (rs : List (Option Int)) (out : List Str) (n : Nat) (am : Str → Option Int) : Prop where
  has : ∀ i < n, ∀ v, ShowsN ms rs out i v → am (mA ms i) = some v
  frm : ∀ y v, am y = some v → ∃ i < n, ShowsN ms rs out i v ∧ mA ms i = y
theorem AmOk.start {ms : List M3} {rs : List (Option Int)} {out : List Str} : AmOk ms rs out 0 fun _ => none := ⟨fun _ h => absurd h (Nat.not_lt_zero _), fun _ _ h => (nomatch h)⟩
theorem AmOk.skip {ms : List M3} {rs : List (Option Int)} {out : List Str} {n : Nat} {am : Str → Option Int} (h : AmOk ms rs out n am) (no : ∀ v, ¬ ShowsN ms rs out n v) : AmOk ms rs out (n + 1) am := by
  refine ⟨fun i hi v hv => ?_, fun y v e => ?_⟩
  · by_cases q : i = n
    · rw [q] at hv
      exact absurd hv (no v)
    · exact h.has i (by omega) v hv
  · obtain ⟨i, hi, a⟩ := h.frm y v e
    exact ⟨i, by omega, a⟩
theorem AmOk.add {ms : List M3} {rs : List (Option Int)} {out : List Str} {n : Nat} {am : Str → Option Int} {c : Int} (h : AmOk ms rs out n am) (sh : ShowsN ms rs out n c) (eq : ∀ v, am (mA ms n) = some v → v = c) : AmOk ms rs out (n + 1) fun z => if z = mA ms n then some c else am z := by
  refine ⟨fun i hi v hv => ?_, fun y v e => ?_⟩
  · by_cases q : i = n
    · subst q
      have : v = c := Option.some.inj (hv.1.symm.trans sh.1)
      rw [this]
      exact if_pos rfl
    · have := h.has i (by omega) v hv
      by_cases z : mA ms i = mA ms n
      · show (if mA ms i = mA ms n then some c else am (mA ms i)) = _
        rw [if_pos z, eq v (by rw [← z]; exact this)]
      · show (if mA ms i = mA ms n then some c else am (mA ms i)) = _
        rw [if_neg z]
        exact this
  · have e : (if y = mA ms n then some c else am y) = some v := e
    by_cases z : y = mA ms n
    · rw [if_pos z] at e
      exact ⟨n, Nat.lt_succ_self n, by rw [← Option.some.inj e]; exact sh, z.symm⟩
    · rw [if_neg z] at e
      obtain ⟨i, hi, a⟩ := h.frm y v e
      exact ⟨i, by omega, a⟩
section
variable (K : PySem.W.Frag) (CN CP CM : Addr)
def sp_shown : Sp := fun vs H Q _ => ∃ (x t tw : Addr) (ps : List P3) (ms : List M3) (rs : List (Option Int)) (out : List Str), vs = [.ref x, .ref t, .ref tw] ∧ NetR K CN CP CM H x ps ms ∧ ms.length ≤ 12 ∧ SqT K H t (vR rs) ∧ rs.length = ms.length ∧ SqT K H tw (out.map V.str) ∧
  (ClashM ms rs out → ∀ H', Same H H' → Q .non H') ∧ ∀ (d : Addr) (kva : List (Key × V)) (am : Str → Option Int) H', Same H H' → H' d = some (.dK kva) → VA kva am → AmOk ms rs out ms.length am → Q (.ref d) H'
/-- some multiple of what the meters show that are not named is part of a flow -/
def PossN (ps : List P3) (ms : List M3) (rs : List (Option Int)) (out : List Str) : Prop :=
  ∃ (g : Nat → Int) (c : Int), c ≠ 0 ∧ CutF (pS ps) (pE ps) g ps.length ∧ ∀ i < ms.length, ∀ v, ShowsN ms rs out i v → ∀ k < ps.length, pN ps k = mA ms i → g k = c * v
def sp_fitr : Sp := fun vs H Q _ => ∃ (x t tw : Addr) (ps : List P3) (ms : List M3) (rs : List (Option Int)) (out : List Str), vs = [.ref x, .ref t, .ref tw] ∧ NetR K CN CP CM H x ps ms ∧ POk ps ∧ MOk ps ms ∧ SqT K H t (vR rs) ∧ rs.length = ms.length ∧ SqT K H tw (out.map V.str) ∧
  ∀ H', Same H H' → (¬ PossN ps ms rs out → Q .non H') ∧ ∀ r : Addr, PossN ps ms rs out → Q (.ref r) H'
end
theorem PossN.mono {ps : List P3} {ms : List M3} {rs : List (Option Int)} {out out' : List Str} (h : PossN ps ms rs out) (s : ∀ y ∈ out, y ∈ out') : PossN ps ms rs out' := by
  obtain ⟨g, c, c0, hg, e⟩ := h
  exact ⟨g, c, c0, hg, fun i hi v hv => e i hi v ⟨hv.1, fun m => hv.2 (s _ m)⟩⟩
/-- two meters that clash leave no flow possible -/
theorem ClashM.no {ps : List P3} {ms : List M3} {rs : List (Option Int)} {out : List Str} (mo : MOk ps ms) (h : ClashM ms rs out) : ¬ PossN ps ms rs out := fun ⟨g, c, c0, hg, e⟩ => by
  obtain ⟨i, j, v, w, hi, hj, sv, sw, ea, ne⟩ := h
  have hm := mo.on ms[i] (List.getElem_mem hi)
  obtain ⟨m1, m2, m3⟩ := m_at (ms := ms) (List.getElem?_eq_getElem hi)
  obtain ⟨q, hq, eq⟩ := List.mem_map.mp hm
  obtain ⟨k, hk⟩ := List.getElem?_of_mem hq
  have kn := (pN_at hk).1
  have kl := (List.getElem?_eq_some_iff.mp hk).1
  have e1 := e i hi v sv k kl (by rw [kn, m2, ← eq])
  have e2 := e j hj w sw k kl (by rw [kn, ← ea, m2, ← eq])
  rw [e1] at e2
  exact ne (Int.eq_of_mul_eq_mul_left c0 e2)
/-- amounts that clash leave no flow possible -/
theorem AmOk.no {ps : List P3} {ms : List M3} {rs : List (Option Int)} {out : List Str} {am : Str → Option Int} (h : AmOk ms rs out ms.length am) (c : Clash (pS ps) (pE ps) ps.length (freeA ps am) (x0A ps am)) : ¬ PossN ps ms rs out := fun ⟨g, d, d0, hg, e⟩ => by
  refine c.no d0 hg fun k hk nf => ?_
  cases q : am (pN ps k) with
  | none => exact absurd q nf
  | some v =>
    obtain ⟨i, hi, sv, ea⟩ := h.frm _ _ q
    rw [e i hi v sv k hk ea.symm, x0A, q]
    rfl
theorem AmOk.yes {ps : List P3} {ms : List M3} {rs : List (Option Int)} {out : List Str} {am : Str → Option Int} {fs : List Int} (h : AmOk ms rs out ms.length am) (cut : CutF (pS ps) (pE ps) (ent fs) ps.length) (a : ∀ k < ps.length, ∀ v, am (pN ps k) = some v → ent fs k = v) : PossN ps ms rs out :=
  ⟨ent fs, 1, by decide, cut, fun i hi v sv k hk ek => by rw [a k hk v (by rw [ek]; exact h.has i hi v sv), Int.one_mul]⟩
end RV
/-! sorted of tuples of texts. -/
namespace RV
open PySem L2 PySem.Spec PyProof.Rows TL
def shTT : Nat → Bool := fun _ => true
abbrev tkS (x : List Str) : List (Int ⊕ List Nat) := x.map fun s => Sum.inr s.cps.toList
/-- one row of texts before another one -/
def LexT (x y : List Str) : Prop := lexLt itemOrd (tkS x) (tkS y) = true
theorem LexT.irr (x : List Str) : ¬ LexT x x := fun h => by
  rw [LexT, lex_irrefl] at h
  cases h
theorem LexT.tr {x y z : List Str} (h : LexT x y) (k : LexT y z) : LexT x z := lex_trans _ _ _ h k
theorem tkS_inj : ∀ {x y : List Str}, tkS x = tkS y → x = y
  | [], [], _ => rfl
  | [], _ :: _, h => by cases h
  | _ :: _, [], h => by cases h
  | a :: x, b :: y, h => by
    have h1 : a.cps.toList = b.cps.toList := Sum.inr.inj (List.cons.inj h).1
    have e : a = b := by
      cases a
      cases b
      congr 1
      exact Array.toList_inj.mp h1
    rw [e, tkS_inj (x := x) (y := y) (List.cons.inj h).2]
theorem LexT.tot {x y : List Str} (h : ¬ LexT x y) (k : ¬ LexT y x) : x = y := by
  refine tkS_inj (lex_total (O := itemOrd) (tkS x) (tkS y) ?_ ?_)
  · cases e : lexLt itemOrd (tkS x) (tkS y) with
    | false => rfl
    | true => exact absurd e h
  · cases e : lexLt itemOrd (tkS y) (tkS x) with
    | false => rfl
    | true => exact absurd e k
theorem LexT.head {a b : Str} {x y : List Str} (h : Lt a b) : LexT (a :: x) (b :: y) := by
  refine lex_true.mpr (.inl ?_)
  show decide (a.cps.toList < b.cps.toList) = true
  have h : ltCps _ _ = true := h
  rw [ltCps_eq] at h
  exact h
theorem LexT.tail {a : Str} {x y : List Str} (h : LexT x y) : LexT (a :: x) (a :: y) := lex_true.mpr (.inr ⟨itemOrd.irrefl _, h⟩)
/-- a tuple of texts, where it stands -/
structure TxtsAt (h : Heap) (v : Value) (q : List Str) : Prop where
  ex : ∃ (a : Addr) (o : Obj) (its : List Value) (n : Nat), v = .ref a ∧ h.get? a = some o ∧ o.cls = .type "tuple" ∧ o.data = .seq its.toArray n ∧ Vals (q.map V.str) its
theorem txt_items : ∀ {q : List Str} {its : List Value} (i : Nat), Vals (q.map V.str) its → tupItems shTT i its = some (tkS q)
  | [], its, i, h => by cases h; rfl
  | s :: q, its, i, h => by
    cases h with
    | cons r rr =>
      obtain ⟨t, rfl⟩ := r
      rw [tupItems, if_pos (show shTT i = true from rfl), txt_items (i + 1) rr]
      rfl
theorem TxtsAt.key {h : Heap} {v : Value} {q : List Str} (p : TxtsAt h v q) : G.tupKeyC h shTT v = some (tkS q) := by
  obtain ⟨a, o, its, n, rfl, ho, hc, hd, r⟩ := p.ex
  have e : G.isTupObj h (.ref a) = true := by
    rw [G.isTupObj, ho]
    dsimp only
    rw [hc]
    rfl
  rw [G.tupKeyC, if_pos e, tupKey, ho]
  dsimp only
  rw [hd]
  exact txt_items 0 r
theorem TxtsAt.tup {h : Heap} {v : Value} {q : List Str} (p : TxtsAt h v q) (ne : q ≠ []) : ∃ f, TupOf h shTT v f := by
  obtain ⟨a, o, its, n, rfl, ho, hc, hd, r⟩ := p.ex
  cases q with
  | nil => exact absurd rfl ne
  | cons s q =>
    cases r with
    | cons r1 rr =>
      obtain ⟨t, rfl⟩ := r1
      exact ⟨.str s t, a, o, _, n, rfl, ho, hc, hd, rfl, (fun z => by cases z), (fun _ => ⟨_, _, rfl⟩)⟩
theorem txts_tups {h : Heap} : ∀ {vs : List Value}, (∀ v ∈ vs, ∃ q, q ≠ [] ∧ TxtsAt h v q) → ∃ fs, TupsOf h shTT vs fs
  | [], _ => ⟨[], .nil⟩
  | v :: vs, k => by
    obtain ⟨q, ne, p⟩ := k v List.mem_cons_self
    obtain ⟨f, t⟩ := p.tup ne
    obtain ⟨fs, r⟩ := txts_tups fun u hu => k u (List.mem_cons_of_mem _ hu)
    exact ⟨f :: fs, .cons t r⟩
def rSortTT (K : PySem.W.Frag) : List V → Hp → VK → Prop := fun vs H Q => ∃ (a : Addr) (xs : List V) (k : V → List Str), vs = [V.ref a] ∧ SqL K H a xs ∧ (∀ x ∈ xs, k x ≠ [] ∧ ∃ t, x = V.ref t ∧ H t = some (.tup ((k x).map V.str))) ∧
  ∀ ys p, ys.Perm xs → ys.Pairwise (fun x y => ¬ LexT (k y) (k x)) → H p = none → Q (.ref p) (upd H p (.lst ys))
theorem cr_sortTT {X : Cx} : CallR X (.builtin "sorted") (rSortTT X.K) := by
  intro pins s σ H vs us Q I rel h
  obtain ⟨a, xs, k, rfl, hs, hx, q⟩ := h
  obtain ⟨its, rv, hl, sz⟩ := I.list hs
  rw [Vals.ref1 rel]
  obtain ⟨e1, e2⟩ := refs_back rv fun x m => by
    obtain ⟨_, t, e, _⟩ := hx x m
    exact ⟨t, e⟩
  have pr : ∀ v ∈ its, k (backV v) ≠ [] ∧ TxtsAt s.heap v (k (backV v)) := fun v hv => by
    obtain ⟨t, rfl⟩ := e2 v hv
    have hm : V.ref t ∈ xs := by
      rw [e1]
      exact List.mem_map.mpr ⟨_, hv, rfl⟩
    obtain ⟨ne, t', e, ht⟩ := hx _ hm
    cases e
    obtain ⟨_, its2, r2, o, ho, hc, n, hd⟩ := I.hok _ _ ht
    exact ⟨ne, t, o, its2, n, rfl, ho, hc, hd, r2⟩
  obtain ⟨fs, ht⟩ := txts_tups fun v hv => ⟨_, pr v hv⟩
  refine G.sorted_tups hl.isList ht (fun v hv => ⟨_, (pr v hv).2.key⟩) (by rw [← rv.length]; exact sz) fun st pm so _ => ?_
  have pl : (arrOf st).toList.Perm (its.zip its) := by
    have := Array.perm_iff_toList_perm.mp pm
    rwa [pairsOf_toList] at this
  have same : ∀ z ∈ (arrOf st).toList, z.1 = z.2 ∧ z.1 ∈ its := fun z hz => mem_zip_self (pl.mem_iff.mp hz)
  have pm2 : ((arrOf st).toList.map (·.2)).Perm its := by
    have := pl.map Prod.snd
    rwa [List.map_snd_zip (Nat.le_refl _)] at this
  obtain ⟨ep, here⟩ := sortedAll_at s.heap its (Array.map (fun x => x.snd) (arrOf st))
  have asz : (arrOf st).size = (pairsOf its).size := pm.size_eq
  have r3 : ∀ u ∈ (arrOf st).toList.map (·.2), ∃ b, u = Value.ref b := fun u hu => e2 u (pm2.mem_iff.mp hu)
  have ord : (((arrOf st).toList.map (·.2)).map backV).Pairwise fun x y => ¬ LexT (k y) (k x) := by
    rw [List.map_map, List.pairwise_map, List.pairwise_iff_getElem]
    intro i j hi hj lt hlt
    have kk : ∀ m (hm : m < (arrOf st).toList.length), KK (G.tupKindC s.heap shTT) (arrOf st) m = tkS (k (backV ((arrOf st).toList[m]).2)) := fun m hm => by
      have hm2 : m < (arrOf st).size := by rw [← Array.length_toList]; exact hm
      obtain ⟨a1, a2⟩ := same _ (List.getElem_mem hm)
      have kp := (pr _ a2).2.key
      have el : (arrOf st).toList[m] = (arrOf st)[m] := rfl
      rw [KK, Array.getElem?_eq_getElem hm2]
      show ((G.tupKindC s.heap shTT).keyOf (arrOf st)[m].1).getD _ = _
      rw [← el]
      show (G.tupKeyC s.heap shTT ((arrOf st).toList[m]).1).getD [] = _
      rw [kp, ← a1]
      rfl
    have h1 := so i j (Nat.le_of_lt lt) (by rw [← asz, ← Array.length_toList]; exact hj)
    rw [kk i hi, kk j hj] at h1
    have h1 : lexLt itemOrd _ _ = false := h1
    have hlt : lexLt itemOrd _ _ = true := hlt
    exact absurd (h1.symm.trans hlt) Bool.false_ne_true
  refine ⟨.ref _, upd H (s.heap.objs.size + 1) (.lst (((arrOf st).toList.map (·.2)).map backV)), I.laid (t' := s.toks) (fun _ _ => sortedAll_old) (Nat.le_succ _) ⟨?_, (arrOf st).toList.map (·.2), ep, vals_back r3, ?_⟩, rfl, q _ _ ?_ ord (I.hok.fresh (Nat.le_succ _))⟩
  · rw [List.length_map, pm2.length_eq, ← rv.length]
    exact sz
  · have ea : (List.map (fun x => x.snd) (arrOf st).toList).toArray = Array.map (fun x => x.snd) (arrOf st) := by
      rw [← Array.toList_map]
    rw [ea]
    exact here
  · rw [e1]
    exact pm2.map backV
theorem cr_sortFTT {X : Cx} : CallR X (.builtin "sorted") (fun vs H Q => rSortF X.K vs H Q ∨ rSortTT X.K vs H Q) := by
  intro pins s σ H vs us Q I rel h
  rcases h with h | h
  · exact cr_sortF pins s σ H vs us Q I rel h
  · exact cr_sortTT pins s σ H vs us Q I rel h
end RV
/-! Sets of so many names; least explanations as data. -/
namespace RV
open PySem L2 TL
/-- the sets of so many names, in order -/
def subsF : List Str → Nat → List (List Str)
  | _, 0 => [[]]
  | [], _ + 1 => []
  | x :: xs, n + 1 => (subsF xs n).map (x :: ·) ++ subsF xs (n + 1)
theorem subsF_mem : ∀ {names : List Str} {n : Nat} {o : List Str}, o ∈ subsF names n ↔ o.Sublist names ∧ o.length = n
  | names, 0, o => by
    cases names <;> simp only [subsF, List.mem_singleton] <;> constructor
    · rintro rfl; exact ⟨List.Sublist.refl _, rfl⟩
    · intro h; exact List.eq_nil_of_length_eq_zero h.2
    · rintro rfl; exact ⟨List.nil_sublist _, rfl⟩
    · intro h; exact List.eq_nil_of_length_eq_zero h.2
  | [], n + 1, o => by
    simp only [subsF, List.not_mem_nil, false_iff]
    rintro ⟨h, l⟩
    rw [List.sublist_nil.mp h] at l
    cases l
  | x :: xs, n + 1, o => by
    simp only [subsF, List.mem_append, List.mem_map]
    constructor
    · rintro (⟨p, hp, rfl⟩ | h)
      · obtain ⟨a, b⟩ := subsF_mem.mp hp
        exact ⟨a.cons_cons x, by rw [List.length_cons, b]⟩
      · obtain ⟨a, b⟩ := subsF_mem.mp h
        exact ⟨a.cons x, b⟩
    · rintro ⟨h, l⟩
      cases h with
      | cons _ h => exact .inr (subsF_mem.mpr ⟨h, l⟩)
      | cons_cons _ h => exact .inl ⟨_, subsF_mem.mpr ⟨h, by simpa using l⟩, rfl⟩
theorem subsF_asc : ∀ {names : List Str} {n : Nat}, names.Pairwise Lt → (subsF names n).Pairwise LexT
  | names, 0, _ => by cases names <;> exact List.pairwise_singleton _ _
  | [], n + 1, _ => .nil
  | x :: xs, n + 1, h => by
    obtain ⟨h1, h2⟩ := List.pairwise_cons.mp h
    refine List.pairwise_append.mpr ⟨List.pairwise_map.mpr ((subsF_asc h2).imp fun z => z.tail), subsF_asc h2, fun a ha b hb => ?_⟩
    obtain ⟨p, hp, rfl⟩ := List.mem_map.mp ha
    obtain ⟨q1, q2⟩ := subsF_mem.mp hb
    cases b with
    | nil => cases q2
    | cons y b => exact LexT.head (h1 y (q1.subset List.mem_cons_self))
theorem subsF_len {n : Nat} : ∀ {names : List Str}, (subsF names n).length ≤ 2 ^ names.length := by
  induction n with
  | zero => intro names; cases names <;> exact Nat.one_le_two_pow
  | succ n ih =>
    intro names
    induction names with
    | nil => exact Nat.zero_le _
    | cons x xs ih2 =>
      rw [subsF, List.length_append, List.length_map, List.length_cons, Nat.pow_succ]
      have := ih (names := xs)
      omega
/-- rows with at most so many, item by item -/
def setsS (items : List Str) (size : Nat) : List (List Str) := items.foldl (fun acc it => acc ++ (acc.filter fun o => decide (o.length < size)).map (· ++ [it])) [[]]
theorem setsS_snoc (items : List Str) (it : Str) (size : Nat) : setsS (items ++ [it]) size = setsS items size ++ ((setsS items size).filter fun o => decide (o.length < size)).map (· ++ [it]) := by
  rw [setsS, List.foldl_append]
  rfl
theorem sub_snoc {o items : List Str} {it : Str} : o.Sublist (items ++ [it]) ↔ o.Sublist items ∨ ∃ p, p.Sublist items ∧ o = p ++ [it] := by
  constructor
  · intro h
    obtain ⟨a, b, rfl, ha, hb⟩ := List.sublist_append_iff.mp h
    cases hb with
    | cons _ h2 =>
      rw [List.sublist_nil.mp h2, List.append_nil]
      exact .inl ha
    | cons_cons _ h2 =>
      rw [List.sublist_nil.mp h2]
      exact .inr ⟨a, ha, rfl⟩
  · rintro (h | ⟨p, hp, rfl⟩)
    · exact h.trans (List.sublist_append_left _ _)
    · exact hp.append (List.Sublist.refl _)
theorem setsS_mem (size : Nat) (items : List Str) (o : List Str) : o ∈ setsS items size ↔ o.Sublist items ∧ o.length ≤ size := by
  induction h : items.length generalizing items o with
  | zero =>
    obtain rfl := List.eq_nil_of_length_eq_zero h
    simp only [setsS, List.foldl_nil, List.mem_singleton, List.sublist_nil]
    exact ⟨fun e => ⟨e, by rw [e]; exact Nat.zero_le _⟩, fun e => e.1⟩
  | succ m ih =>
    obtain ⟨init, it, rfl⟩ : ∃ init it, items = init ++ [it] := by
      cases e : items.reverse with
      | nil => rw [List.reverse_eq_nil_iff] at e; rw [e] at h; cases h
      | cons l r => exact ⟨r.reverse, l, by rw [← List.reverse_reverse items, e, List.reverse_cons]⟩
    have ih := fun o => ih init o (by simpa using h)
    rw [setsS_snoc, List.mem_append, ih, sub_snoc, List.mem_map]
    constructor
    · rintro (⟨a, b⟩ | ⟨p, hp, rfl⟩)
      · exact ⟨.inl a, b⟩
      · obtain ⟨p1, p2⟩ := List.mem_filter.mp hp
        have p2 := of_decide_eq_true p2
        exact ⟨.inr ⟨p, ((ih p).mp p1).1, rfl⟩, by rw [List.length_append]; exact p2⟩
    · rintro ⟨a | ⟨p, hp, rfl⟩, b⟩
      · exact .inl ⟨a, b⟩
      · rw [List.length_append, List.length_singleton] at b
        exact .inr ⟨p, List.mem_filter.mpr ⟨(ih p).mpr ⟨hp, by omega⟩, decide_eq_true (by omega)⟩, rfl⟩
theorem setsS_nodup (size : Nat) (items : List Str) (nd : items.Nodup) : (setsS items size).Nodup := by
  induction h : items.length generalizing items with
  | zero =>
    obtain rfl := List.eq_nil_of_length_eq_zero h
    exact List.nodup_cons.mpr ⟨by simp, .nil⟩
  | succ m ih =>
    obtain ⟨init, it, rfl⟩ : ∃ init it, items = init ++ [it] := by
      cases e : items.reverse with
      | nil => rw [List.reverse_eq_nil_iff] at e; rw [e] at h; cases h
      | cons l r => exact ⟨r.reverse, l, by rw [← List.reverse_reverse items, e, List.reverse_cons]⟩
    obtain ⟨n1, n2, n3⟩ := List.nodup_append.mp nd
    have nit : it ∉ init := fun m => n3 it m it List.mem_cons_self rfl
    have ih := ih init n1 (by simpa using h)
    rw [setsS_snoc]
    refine List.nodup_append.mpr ⟨ih, ?_, fun a ha b hb e => ?_⟩
    · refine List.Pairwise.map _ (fun a b ne e => ne ?_) (ih.filter _)
      exact (List.append_inj_left' e rfl)
    · obtain ⟨p, hp, rfl⟩ := List.mem_map.mp hb
      subst e
      have := ((setsS_mem size init _).mp ha).1.subset (List.mem_append_right _ List.mem_cons_self)
      exact nit this
theorem setsS_len (size : Nat) (items : List Str) : (setsS items size).length ≤ 2 ^ items.length := by
  induction h : items.length generalizing items with
  | zero =>
    obtain rfl := List.eq_nil_of_length_eq_zero h
    exact Nat.le_refl _
  | succ m ih =>
    obtain ⟨init, it, rfl⟩ : ∃ init it, items = init ++ [it] := by
      cases e : items.reverse with
      | nil => rw [List.reverse_eq_nil_iff] at e; rw [e] at h; cases h
      | cons l r => exact ⟨r.reverse, l, by rw [← List.reverse_reverse items, e, List.reverse_cons]⟩
    have ih := ih init (by simpa using h)
    rw [setsS_snoc, List.length_append, List.length_map, Nat.pow_succ]
    have := List.length_filter_le (fun o : List Str => decide (o.length < size)) (setsS init size)
    omega
/-- the sorted rows of just so many are the sets in order -/
theorem sorted_subs {items : List Str} {size : Nat} {ys : List (List Str)} (asc : items.Pairwise Lt) (p : ys.Perm ((setsS items size).filter fun o => decide (o.length = size))) (so : ys.Pairwise fun x y => ¬ LexT y x) : ys = subsF items size := by
  have nd : items.Nodup := asc.imp fun {a b} (h : Lt a b) (e : a = b) => Lt.irr b (e ▸ h)
  have ndy : ys.Nodup := p.nodup_iff.mpr ((setsS_nodup size items nd).filter _)
  have so2 : ys.Pairwise LexT := by
    have : ys.Pairwise fun x y => x ≠ y ∧ ¬ LexT y x := ndy.and so
    exact this.imp fun ⟨a, b⟩ => Classical.byContradiction fun c => a (LexT.tot c b)
  refine asc_uniq LexT.irr LexT.tr so2 (subsF_asc asc) fun o => ?_
  rw [p.mem_iff, List.mem_filter, setsS_mem, subsF_mem, decide_eq_true_eq]
  exact ⟨fun h => ⟨h.1.1, h.2⟩, fun h => ⟨⟨h.1, by omega⟩, h.2⟩⟩
/-! ### least explanations -/
/-- possible, and not without any one of them -/
def leastB (poss : List Str → Bool) (o : List Str) : Bool := poss o && !(o.any fun x => poss (o.filter fun y => decide (y ≠ x)))
/-- all candidates, small ones first -/
def candF (names : List Str) (most : Nat) : List (List Str) := (List.range (most + 1)).flatMap fun s => subsF names s
def explF (poss : List Str → Bool) (names : List Str) (most : Nat) : List (List Str) := (candF names most).filter (leastB poss)
/-- one more candidate, as the program looks at it -/
def stpX (poss : List Str → Bool) (found : List (List Str)) (o : List Str) : List (List Str) := if (found.filter fun p => p.all fun y => decide (y ∈ o)) = [] ∧ poss o = true then found ++ [o] else found
def MonoP (poss : List Str → Bool) : Prop := ∀ a b : List Str, (∀ y ∈ a, y ∈ b) → poss a = true → poss b = true
theorem least_in {poss : List Str → Bool} : ∀ (n : Nat) (o : List Str), o.length = n → poss o = true → ∃ p : List Str, p.Sublist o ∧ leastB poss p = true := by
  intro n
  induction n using Nat.strongRecOn with
  | ind n ih =>
    intro o hl ho
    by_cases h : (o.any fun x => poss (o.filter fun y => decide (y ≠ x))) = true
    · obtain ⟨x, hx, px⟩ := List.any_eq_true.mp h
      have sb : (o.filter fun y => decide (y ≠ x)).Sublist o := List.filter_sublist
      have lt : (o.filter fun y => decide (y ≠ x)).length < n := by
        rw [← hl]
        refine Nat.lt_of_le_of_ne sb.length_le fun e => ?_
        have := List.filter_eq_self.mp (sb.eq_of_length e) x hx
        simp at this
      obtain ⟨p, p1, p2⟩ := ih _ lt _ rfl px
      exact ⟨p, p1.trans sb, p2⟩
    · exact ⟨o, List.Sublist.refl _, by rw [leastB, ho]; simpa using h⟩
/-- what the program finds -/
theorem stpX_found {poss : List Str → Bool} (mono : MonoP poss) {pre : List (List Str)} {o : List Str} (nin : o ∉ pre) (nd : o.Nodup) (hn : ∀ p : List Str, p.Sublist o → p.length < o.length → p ∈ pre) (sub : ∀ p ∈ pre, p.length ≤ o.length ∧ p.Nodup)
    (same : ∀ p ∈ pre, p.length = o.length → (∀ y ∈ p, y ∈ o) → p = o) : stpX poss (pre.filter (leastB poss)) o = (pre ++ [o]).filter (leastB poss) := by
  have key : ((pre.filter (leastB poss)).filter fun p => p.all fun y => decide (y ∈ o)) = [] ∧ poss o = true ↔ leastB poss o = true := by
    constructor
    · rintro ⟨h1, h2⟩
      refine Classical.byContradiction fun c => ?_
      rw [leastB, h2, Bool.true_and, Bool.not_eq_true', Bool.not_eq_false] at c
      obtain ⟨x, hx, px⟩ := List.any_eq_true.mp c
      obtain ⟨p, p1, p2⟩ := least_in _ _ rfl px
      have sb : (o.filter fun y => decide (y ≠ x)).Sublist o := List.filter_sublist
      have lt : p.length < o.length := by
        refine Nat.lt_of_le_of_lt p1.length_le (Nat.lt_of_le_of_ne sb.length_le fun e => ?_)
        have := List.filter_eq_self.mp (sb.eq_of_length e) x hx
        simp at this
      have hp := hn p (p1.trans sb) lt
      have : p ∈ ((pre.filter (leastB poss)).filter fun p => p.all fun y => decide (y ∈ o)) := List.mem_filter.mpr ⟨List.mem_filter.mpr ⟨hp, p2⟩, List.all_eq_true.mpr fun y hy => decide_eq_true ((p1.trans sb).subset hy)⟩
      rw [h1] at this
      cases this
    · intro h
      rw [leastB, Bool.and_eq_true, Bool.not_eq_true'] at h
      refine ⟨List.filter_eq_nil_iff.mpr fun p hp ha => ?_, h.1⟩
      obtain ⟨p1, p2⟩ := List.mem_filter.mp hp
      rw [leastB, Bool.and_eq_true] at p2
      have ha : ∀ y ∈ p, y ∈ o := fun y hy => of_decide_eq_true (List.all_eq_true.mp ha y hy)
      obtain ⟨pl, pnd⟩ := sub p p1
      have ne : p ≠ o := fun e => nin (e ▸ p1)
      have : ∃ x ∈ o, x ∉ p := by
        refine Classical.byContradiction fun c => ne (same p p1 ?_ ha)
        refine Nat.le_antisymm pl ?_
        exact nodup_len nd fun x hx => Classical.byContradiction fun z => c ⟨x, hx, z⟩
      obtain ⟨x, hx, nx⟩ := this
      have : (o.any fun x => poss (o.filter fun y => decide (y ≠ x))) = true := List.any_eq_true.mpr ⟨x, hx, mono p _ (fun y hy => List.mem_filter.mpr ⟨ha y hy, decide_eq_true fun e => nx (e ▸ hy)⟩) p2.1⟩
      rw [h.2] at this
      cases this
  rw [stpX, List.filter_append]
  by_cases h : leastB poss o = true
  · rw [if_pos (key.mpr h), List.filter_cons_of_pos h, List.filter_nil]
  · rw [if_neg fun z => h (key.mp z), List.filter_cons_of_neg h, List.filter_nil, List.append_nil]
/-- sublists of names in order are known by their members -/
theorem sub_same {names p o : List Str} (asc : names.Pairwise Lt) (hp : p.Sublist names) (ho : o.Sublist names) (l : p.length = o.length) (h : ∀ y ∈ p, y ∈ o) : p = o := by
  have ap := asc.sublist hp
  have ao := asc.sublist ho
  have np : p.Nodup := ap.imp fun {a b} (h : Lt a b) (e : a = b) => Lt.irr b (e ▸ h)
  refine asc_uniq Lt.irr Lt.tr ap ao fun x => ⟨h x, fun hx => Classical.byContradiction fun nx => ?_⟩
  have := nodup_len (xs := x :: p) (ys := o) (List.nodup_cons.mpr ⟨nx, np⟩) fun y hy => by
    rcases List.mem_cons.mp hy with rfl | q
    · exact hx
    · exact h y q
  rw [List.length_cons] at this
  omega
/-- the candidates that come before the j-th one of size s -/
def preF (names : List Str) (s j : Nat) : List (List Str) := ((List.range s).flatMap fun s => subsF names s) ++ (subsF names s).take j
theorem preF_zero (names : List Str) (s : Nat) : preF names (s + 1) 0 = preF names s (subsF names s).length := by
  rw [preF, preF, List.take_zero, List.append_nil, List.take_length, List.range_succ, List.flatMap_append, List.flatMap_cons, List.flatMap_nil, List.append_nil]
theorem preF_succ {names : List Str} {s j : Nat} {o : List Str} (h : (subsF names s)[j]? = some o) : preF names s (j + 1) = preF names s j ++ [o] := by
  rw [preF, preF, List.take_add_one, h, List.append_assoc]
  rfl
theorem pre_mem {names : List Str} {s j : Nat} {p : List Str} (h : p ∈ preF names s j) : p.Sublist names ∧ p.length ≤ s := by
  rcases List.mem_append.mp h with q | q
  · obtain ⟨m, hm, q⟩ := List.mem_flatMap.mp q
    obtain ⟨a, b⟩ := subsF_mem.mp q
    have := List.mem_range.mp hm
    exact ⟨a, by omega⟩
  · obtain ⟨a, b⟩ := subsF_mem.mp (List.mem_of_mem_take q)
    exact ⟨a, by omega⟩
/-- one turn of the program -/
theorem stpX_pre {poss : List Str → Bool} (mono : MonoP poss) {names : List Str} (asc : names.Pairwise Lt) {s j : Nat} {o : List Str} (h : (subsF names s)[j]? = some o) : stpX poss ((preF names s j).filter (leastB poss)) o = (preF names s (j + 1)).filter (leastB poss) := by
  obtain ⟨ho, lo⟩ := subsF_mem.mp (List.mem_of_getElem? h)
  have ndl : ∀ {p : List Str}, p.Sublist names → p.Nodup := fun hp => (asc.sublist hp).imp fun {a b} (h : Lt a b) (e : a = b) => Lt.irr b (e ▸ h)
  rw [preF_succ h]
  refine stpX_found mono (fun m => ?_) (ndl ho) (fun p hp hl => ?_) (fun p hp => ?_) fun p hp hl hs => sub_same asc (pre_mem hp).1 ho hl hs
  · rcases List.mem_append.mp m with q | q
    · obtain ⟨m, hm, q⟩ := List.mem_flatMap.mp q
      have := (subsF_mem.mp q).2
      have := List.mem_range.mp hm
      omega
    · obtain ⟨i, hi, e⟩ := List.getElem_of_mem q
      rw [List.getElem_take] at e
      have hi2 : i < (subsF names s).length := by
        rw [List.length_take] at hi
        omega
      have hij : i < j := by
        rw [List.length_take] at hi
        omega
      have as := subsF_asc (n := s) asc
      have e2 : (subsF names s)[i]'hi2 = (subsF names s)[j]'(List.getElem?_eq_some_iff.mp h).1 := e.trans (List.getElem?_eq_some_iff.mp h).2.symm
      have := List.pairwise_iff_getElem.mp as i j hi2 (List.getElem?_eq_some_iff.mp h).1 hij
      rw [e2] at this
      exact LexT.irr _ this
  · exact List.mem_append_left _ (List.mem_flatMap.mpr ⟨p.length, List.mem_range.mpr (by omega), subsF_mem.mpr ⟨hp.trans ho, rfl⟩⟩)
  · obtain ⟨a, b⟩ := pre_mem hp
    exact ⟨by omega, ndl a⟩
theorem explF_pre (poss : List Str → Bool) (names : List Str) (most : Nat) : explF poss names most = (preF names (most + 1) 0).filter (leastB poss) := by
  rw [explF, candF, preF, List.take_zero, List.append_nil]
end RV
/-! Promises: doubtful meters, sets of names, explanations. -/
namespace RV
open PySem L2 TL
open PySem.Spec (ltCps)
theorem cutV_drop (xs : List V) (k : Nat) : cutV xs (some (k : Int)) none = xs.drop k := by
  unfold cutV
  rw [HT.sIx_nat, HT.sIx_none]
  by_cases h : k ≤ xs.length
  · rw [Nat.min_eq_left h, List.take_of_length_le (by rw [List.length_drop]; omega)]
  · rw [Nat.min_eq_right (by omega), List.drop_of_length_le (Nat.le_refl _), List.drop_of_length_le (by omega)]
    exact List.take_nil
theorem op_catTK {X : Cx} {K : PySem.W.Frag} (h : X.K = K := by rfl) : OpR X (binaryOp .Add) (rCatT K) := by
  subst h
  exact op_catT
theorem cr_allK {X : Cx} {K : PySem.W.Frag} (hc : X.calm = true) (h : X.K = K := by rfl) : CallR X (.builtin "all") (rAll K) := by
  subst h
  exact cr_all hc
/-- meters without a seal; those of them that are not silent -/
def unsN (ms : List M3) : List Str := ((List.range ms.length).filter fun k => !mZ ms k).map (mN ms)
def suspN (ms : List M3) (rs : List (Option Int)) : List Str := ((List.range ms.length).filter fun k => (rO rs k).isSome && !mZ ms k).map (mN ms)
/-- in order, each once -/
def OrdN (xs zs : List Str) : Prop := zs.Pairwise Lt ∧ ∀ y, y ∈ zs ↔ y ∈ xs
theorem OrdN.uniq {xs ys zs : List Str} (h : OrdN xs ys) (g : OrdN xs zs) : ys = zs := asc_uniq Lt.irr Lt.tr h.1 g.1 fun y => (h.2 y).trans (g.2 y).symm
theorem OrdN.of {xs zs : List Str} (nd : xs.Nodup) (h : Asc xs zs) : OrdN xs zs := ⟨asc_of h.1 (h.2.nodup_iff.mpr nd), fun _ => h.2.mem_iff⟩
theorem OrdN.len {xs zs : List Str} (h : OrdN xs zs) : zs.length ≤ xs.length := nodup_len (h.1.imp fun {a b} (h : Lt a b) (e : a = b) => Lt.irr b (e ▸ h)) fun x hx => (h.2 x).mp hx
theorem suspN_len (ms : List M3) (rs : List (Option Int)) : (suspN ms rs).length ≤ ms.length := by
  rw [suspN, List.length_map]
  exact Nat.le_trans (List.length_filter_le _ _) (by rw [List.length_range]; exact Nat.le_refl _)
/-- rows of texts, as tuples -/
abbrev XU := Addr × List Str
def oX (o : List Str) : HO := .tup (o.map V.str)
def XusAt (H : Hp) (os : List XU) : Prop := ∀ u ∈ os, H u.1 = some (oX u.2)
theorem XusAt.ext {H H' : Hp} {os : List XU} (h : XusAt H os) (s : Same H H') : XusAt H' os := fun u hu => s _ _ (h u hu)
section
variable (K : PySem.W.Frag) (CN CP CM : Addr)
def sp_uns : Sp := fun vs H Q _ => ∃ (x : Addr) (ps : List P3) (ms : List M3), vs = [.ref x] ∧ NetR K CN CP CM H x ps ms ∧ MOk ps ms ∧
  ∀ (t : Addr) (zs : List Str) H', Same H H' → H' t = some (oX zs) → OrdN (unsN ms) zs → Q (.ref t) H'
def sp_dbt : Sp := fun vs H Q _ => ∃ (x t : Addr) (ps : List P3) (ms : List M3) (rs : List (Option Int)), vs = [.ref x, .ref t] ∧ NetR K CN CP CM H x ps ms ∧ MOk ps ms ∧ SqT K H t (vR rs) ∧ rs.length = ms.length ∧
  ∀ (t : Addr) (zs : List Str) H', Same H H' → H' t = some (oX zs) → OrdN (suspN ms rs) zs → Q (.ref t) H'
def sp_subs (most : Nat) : Sp := fun vs H Q _ => ∃ (t : Addr) (names : List Str) (m : Nat), vs = [.ref t, .int (m : Nat)] ∧ H t = some (oX names) ∧ names.length ≤ 5 ∧ m ≤ most ∧
  ∀ (l : Addr) (os : List XU) H', Same H H' → H l = none → H' l = some (.lst (rf os)) → XusAt H' os → sn os = subsF names m → Q (.ref l) H'
/-- all least explanations -/
def sp_expl : Sp := fun vs H Q _ => ∃ (x t : Addr) (ps : List P3) (ms : List M3) (rs : List (Option Int)) (most : Nat), vs = [.ref x, .ref t, .int (most : Nat)] ∧ NetR K CN CP CM H x ps ms ∧ POk ps ∧ MOk ps ms ∧ ms.length ≤ 5 ∧ SqT K H t (vR rs) ∧ RdOk ms rs ∧ most ≤ 3 ∧
  ∀ (r : Addr) (os : List XU) (zs : List Str) (poss : List Str → Bool) H', Same H H' → H' r = some (.tup (rf os)) → XusAt H' os → OrdN (suspN ms rs) zs → (∀ o, poss o = true ↔ PossN ps ms rs o) → sn os = explF poss zs most → Q (.ref r) H'
end
theorem mN_inj {ms : List M3} (nd : (ms.map (·.1)).Nodup) {i j : Nat} (hi : i < ms.length) (hj : j < ms.length) (e : mN ms i = mN ms j) : i = j := by
  have h1 : (ms.map (·.1))[i]? = some (mN ms i) := by
    rw [List.getElem?_map, List.getElem?_eq_getElem hi, (m_at (ms := ms) (List.getElem?_eq_getElem hi)).1]
    rfl
  have h2 : (ms.map (·.1))[j]? = some (mN ms j) := by
    rw [List.getElem?_map, List.getElem?_eq_getElem hj, (m_at (ms := ms) (List.getElem?_eq_getElem hj)).1]
    rfl
  exact (List.getElem?_inj (by rw [List.length_map]; exact hi) nd).mp (by rw [h1, h2, e])
/-- those without a seal that are not silent -/
theorem susp_of {ms : List M3} {rs : List (Option Int)} (nd : (ms.map (·.1)).Nodup) {us : List Str} (h : OrdN (unsN ms) us) : OrdN (suspN ms rs) (us.filter fun y => !decide (y ∈ slN ms rs)) := by
  refine ⟨h.1.filter _, fun y => ?_⟩
  rw [List.mem_filter, h.2 y, show (!decide (y ∈ slN ms rs)) = true ↔ ¬ y ∈ slN ms rs from by simp]
  simp only [unsN, suspN, slN, List.mem_map, List.mem_filter, List.mem_range, Bool.not_eq_true', Bool.and_eq_true, not_exists, not_and]
  constructor
  · rintro ⟨⟨k, ⟨hk, hz⟩, rfl⟩, no⟩
    refine ⟨k, ⟨hk, ?_, hz⟩, rfl⟩
    cases e : rO rs k with
    | some v => rfl
    | none => exact absurd rfl (no k ⟨hk, by rw [e]; rfl⟩)
  · rintro ⟨k, ⟨hk, ho, hz⟩, rfl⟩
    refine ⟨⟨k, ⟨hk, hz⟩, rfl⟩, fun j hj e => ?_⟩
    obtain rfl := mN_inj nd hj.1 hk e
    have := hj.2
    cases q : rO rs j with
    | none => rw [q] at ho; cases ho
    | some v => rw [q] at this; cases this
theorem uns_mu (mu : List MU) : (mu.filter fun u => !u.2.2.2).map (fun u => V.str u.2.1) = (unsN (sn mu)).map V.str := by
  have e : ∀ k < mu.length, mN (sn mu) k = (mu.getD k (0, ("", "", false))).2.1 ∧ mZ (sn mu) k = (mu.getD k (0, ("", "", false))).2.2.2 := fun k hk => by
    have h := List.getElem?_eq_getElem hk
    obtain ⟨a, b, c⟩ := m_at (ms := sn mu) (sn_get h)
    rw [List.getD_eq_getElem?_getD, h]
    exact ⟨a, c⟩
  rw [filt_ix (fun u : MU => !u.2.2.2) (0, ("", "", false)) mu, unsN, sn_len, List.map_map, List.map_map]
  rw [List.filter_congr (q := fun k => !mZ (sn mu) k) fun k hk => by rw [(e k (List.mem_range.mp hk)).2]]
  refine List.map_congr_left fun k hk => ?_
  show V.str (mu.getD k (0, ("", "", false))).2.1 = V.str (mN (sn mu) k)
  rw [(e k (List.mem_range.mp (List.mem_filter.mp hk).1)).1]
theorem unsN_len (ms : List M3) : (unsN ms).length ≤ ms.length := by
  rw [unsN, List.length_map]
  exact Nat.le_trans (List.length_filter_le _ _) (by rw [List.length_range]; exact Nat.le_refl _)
theorem Lt.tot {a b : Str} (h : ¬ Lt a b) (k : ¬ Lt b a) : a = b := by
  have h1 : ltCps (cd a) (cd b) = false := by cases e : ltCps (cd a) (cd b); rfl; exact absurd e h
  have h2 : ltCps (cd b) (cd a) = false := by cases e : ltCps (cd b) (cd a); rfl; exact absurd e k
  have e := lt_tri h1 h2
  cases a
  cases b
  congr 1
  exact Array.toList_inj.mp e
theorem OrdN.ex : ∀ xs : List Str, ∃ zs, OrdN xs zs
  | [] => ⟨[], .nil, fun _ => Iff.rfl⟩
  | x :: xs => by
    obtain ⟨zs, h1, h2⟩ := OrdN.ex xs
    by_cases m : x ∈ zs
    · refine ⟨zs, h1, fun y => ?_⟩
      rw [h2 y, List.mem_cons]
      exact ⟨.inr, fun q => q.elim (fun e => e ▸ (h2 x).mp m) id⟩
    · have dec : ∀ y, Decidable (Lt y x) := fun y => inferInstanceAs (Decidable (ltCps (cd y) (cd x) = true))
      refine ⟨(zs.filter fun y => decide (Lt y x)) ++ x :: (zs.filter fun y => !decide (Lt y x)), ?_, fun y => ?_⟩
      · refine List.pairwise_append.mpr ⟨h1.filter _, List.pairwise_cons.mpr ⟨fun y hy => ?_, h1.filter _⟩, fun a ha b hb => ?_⟩
        · obtain ⟨hy, q⟩ := List.mem_filter.mp hy
          have q : ¬ Lt y x := by simpa using q
          exact Classical.byContradiction fun z => m (Lt.tot z q ▸ hy)
        · have qa : Lt a x := of_decide_eq_true (List.mem_filter.mp ha).2
          rcases List.mem_cons.mp hb with rfl | hb
          · exact qa
          · obtain ⟨hy, q⟩ := List.mem_filter.mp hb
            have q : ¬ Lt b x := by simpa using q
            exact qa.tr (Classical.byContradiction fun z => m (Lt.tot z q ▸ hy))
      · rw [List.mem_append, List.mem_cons, List.mem_filter, List.mem_filter, List.mem_cons, h2 y]
        by_cases q : Lt y x
        · simp [q]
          exact ⟨fun h => h.elim .inr .inl, fun h => h.elim .inr .inl⟩
        · simp [q]
theorem preF_len (names : List Str) (s j : Nat) : (preF names s j).length ≤ (s + 1) * 2 ^ names.length := by
  have h : ∀ s, ((List.range s).flatMap fun s => subsF names s).length ≤ s * 2 ^ names.length := by
    intro s
    induction s with
    | zero => simp
    | succ s ih =>
      rw [List.range_succ, List.flatMap_append, List.length_append, List.flatMap_cons, List.flatMap_nil, List.append_nil, Nat.succ_mul]
      have := subsF_len (n := s) (names := names)
      omega
  have h1 := h s
  have h2 := subsF_len (n := s) (names := names)
  rw [preF, List.length_append, List.length_take, Nat.succ_mul]
  omega
theorem filt_sn {us : List XU} (p : List Str → Bool) : sn (us.filter fun u => p u.2) = (sn us).filter p := by
  rw [sn, sn, List.filter_map]
  rfl
end RV
/-! Drawn flows and readings; equations of meters; promises. -/
namespace RV
open PySem L2 TL
/-- what stands, none of it the well -/
def Std (a : Addr) (H : Hp) (F : List (Addr × HO)) : Prop := ∀ p ∈ F, p.1 ≠ a ∧ H p.1 = some p.2
theorem Bag.of {H : Hp} {a : Addr} {n : Nat} {F : List (Addr × HO)} (w : WellAt H a n) (s : Std a H F) : Bag H a n [] F H := ⟨Grow.refl a H, w, (fun _ h => nomatch h), .nil, fun q hq => ⟨(s q hq).1, (s q hq).2, fun _ h => nomatch h⟩⟩
theorem Bag.std {H0 H : Hp} {a : Addr} {n : Nat} {M F : List (Addr × HO)} (h : Bag H0 a n M F H) : Std a H F := fun p hp => ⟨(h.f p hp).1, (h.f p hp).2.1⟩
def sp_numL : Sp := fun vs H Q _ => ∃ (a : Addr) (n : Nat), vs = [.ref a] ∧ WellAt H a n ∧ n < 900000 ∧ ∀ (z : Int) H', Grow a H H' → WellAt H' a (n + 2) → Q (.int z) H'
def sp_flowL : Sp := fun vs H Q _ => ∃ (a lr : Addr) (n size : Nat) (ru : List RWU), vs = [.ref a, .ref lr, .int (size : Nat)] ∧ WellAt H a n ∧ n < 800000 ∧ Std a H ((lr, .lst (rf ru)) :: ru.map fun r => (r.1, oI r.2)) ∧ (∀ r ∈ ru, r.2.length = size ∧ ∀ k, (ent r.2 k).natAbs ≤ 1) ∧ size ≤ 12 ∧ ru.length ≤ 12 ∧
  ∀ (l : Addr) (fs : List Int) H', Grow a H H' → WellAt H' a (n + 24) → l ≠ a → H' l = some (oI fs) → fs.length = size → Q (.ref l) H'
def sp_seenL : Sp := fun vs H Q _ => ∃ (a l lp lq lg lf : Addr) (n : Nat) (pl : List Str) (pu : List QU) (gu : List GU) (fs : List Int), vs = [.ref a, .ref l, .ref lf] ∧ WellAt H a n ∧ n < 800000 ∧ Std a H ((lf, oI fs) :: lM l lp lq lg pl pu gu) ∧ fs.length ≤ 12 ∧ gu.length ≤ 12 ∧ (∀ g ∈ gu, g.2.2.1 < fs.length) ∧
  ∀ (l2 : Addr) (rs : List (Option Int)) H', Grow a H H' → WellAt H' a (n + 36) → l2 ≠ a → H' l2 = some (.lst (vR rs)) → rs.length = gu.length → (∀ (k : Nat) g, gu[k]? = some g → g.2.2.2 = true → rO rs k ≠ none) → Q (.ref l2) H'
end RV
/-! The law's equations tell what is possible. -/
namespace RV
open PySem L2 TL
def factRow (rws : List (List Int)) (p : Nat) (v : Int) : List Int := (rws.map fun r => ent r p) ++ [-v, 0]
/-- a gauge's equation, if it shows something and is not named -/
def factO (gs : List G3) (rws : List (List Int)) (rs : List (Option Int)) (out : List Str) (i : Nat) : Option (List Int) :=
  match rO rs i with
  | some v => if (gs.getD i ("", 0, false)).1 ∈ out then none else some (factRow rws (gs.getD i ("", 0, false)).2.1 v)
  | none => none
def factsF (gs : List G3) (rws : List (List Int)) (rs : List (Option Int)) (out : List Str) : List (List Int) := (List.range gs.length).filterMap (factO gs rws rs out)
theorem factRow_len (rws : List (List Int)) (p : Nat) (v : Int) : (factRow rws p v).length = rws.length + 2 := by simp [factRow]
theorem factRow_ent {rws : List (List Int)} {p : Nat} {v : Int} : (∀ k < rws.length, ent (factRow rws p v) k = ent (rws.getD k []) p) ∧ ent (factRow rws p v) rws.length = -v := by
  refine ⟨fun k hk => ?_, ?_⟩
  · rw [ent, factRow, List.getD_eq_getElem?_getD, List.getElem?_append_left (by rw [List.length_map]; exact hk), List.getElem?_map, List.getElem?_eq_getElem hk, List.getD_eq_getElem?_getD, List.getElem?_eq_getElem hk]
    rfl
  · rw [ent, factRow, List.getD_eq_getElem?_getD, List.getElem?_append_right (by rw [List.length_map]; exact Nat.le_refl _), List.length_map, Nat.sub_self]
    rfl
theorem factRow_val (rws : List (List Int)) (p : Nat) (v : Int) (x : Nat → Int) (d : Int) : rowV rws.length (factRow rws p v) x d = comb rws x p + -v * d := by
  obtain ⟨a, b⟩ := factRow_ent (rws := rws) (p := p) (v := v)
  rw [rowV, b, comb]
  congr 1
  exact sumN_congr fun k hk => by rw [a k hk, Int.mul_comm]
theorem facts_mem {gs : List G3} {rws : List (List Int)} {rs : List (Option Int)} {out : List Str} {r : List Int} : r ∈ factsF gs rws rs out ↔ ∃ i, i < gs.length ∧ ∃ v, rO rs i = some v ∧ (gs.getD i ("", 0, false)).1 ∉ out ∧ r = factRow rws (gs.getD i ("", 0, false)).2.1 v := by
  rw [factsF, List.mem_filterMap]
  constructor
  · rintro ⟨i, hi, h⟩
    refine ⟨i, List.mem_range.mp hi, ?_⟩
    unfold factO at h
    cases e : rO rs i with
    | none => rw [e] at h; cases h
    | some v =>
      rw [e] at h
      dsimp only at h
      split at h
      · cases h
      · next ne => exact ⟨v, rfl, ne, (Option.some.inj h).symm⟩
  · rintro ⟨i, hi, v, e, ne, rfl⟩
    refine ⟨i, List.mem_range.mpr hi, ?_⟩
    unfold factO
    rw [e]
    dsimp only
    rw [if_neg ne]
section
variable {M : Mod} {most more : Nat}
theorem Mod.pSt (h : PlOk M most more) {k : Nat} (hk : k < M.qs.length) : pS M.ps k = M.pl.getD (stQ M.qs k) "" ∧ pE M.ps k = M.pl.getD (enQ M.qs k) "" ∧ stQ M.qs k < M.pl.length ∧ enQ M.qs k < M.pl.length ∧ pN M.ps k = (M.qs.getD k ("", 0, 0)).1 := by
  have e : M.ps[k]? = some (M.qs[k].1, M.pl.getD M.qs[k].2.1 "", M.pl.getD M.qs[k].2.2 "") := by
    rw [Mod.ps, List.getElem?_map, List.getElem?_eq_getElem hk]
    rfl
  obtain ⟨a, b, c⟩ := pN_at e
  have d : M.qs.getD k ("", 0, 0) = M.qs[k] := by rw [List.getD_eq_getElem?_getD, List.getElem?_eq_getElem hk]; rfl
  obtain ⟨_, q1, q2, _⟩ := h.qn _ (List.getElem_mem hk)
  rw [stQ, enQ, d]
  exact ⟨b, c, q1, q2, a⟩
theorem Mod.psl (M : Mod) : M.ps.length = M.qs.length := by rw [Mod.ps, List.length_map]
theorem Mod.cut (h : PlOk M most more) {g : Nat → Int} : CutF (stQ M.qs) (enQ M.qs) g M.qs.length ↔ CutF (pS M.ps) (pE M.ps) g M.ps.length := by
  rw [M.psl]
  constructor
  · intro c A
    rw [← c fun i => A (M.pl.getD i "")]
    unfold cutFl
    refine sumN_congr fun k hk => ?_
    obtain ⟨a, b, _⟩ := Mod.pSt h hk
    rw [a, b]
  · intro c A
    rw [← c fun s => A (M.pl.idxOf s)]
    unfold cutFl
    refine sumN_congr fun k hk => ?_
    obtain ⟨a, b, l1, l2, _⟩ := Mod.pSt h hk
    have ix : ∀ i, i < M.pl.length → M.pl.idxOf (M.pl.getD i "") = i := fun i hi => by
      rw [List.getD_eq_getElem?_getD, List.getElem?_eq_getElem hi]
      exact h.pd.idxOf_getElem i hi
    rw [a, b]
    dsimp only
    rw [ix _ l1, ix _ l2]
theorem Mod.msl (M : Mod) : M.ms.length = M.gs.length := by rw [Mod.ms, List.length_map]
theorem Mod.msa (h : PlOk M most more) {i : Nat} (hi : i < M.gs.length) : mN M.ms i = (M.gs.getD i ("", 0, false)).1 ∧ mA M.ms i = pN M.ps (M.gs.getD i ("", 0, false)).2.1 ∧ (M.gs.getD i ("", 0, false)).2.1 < M.qs.length ∧ mZ M.ms i = (M.gs.getD i ("", 0, false)).2.2 := by
  have d : M.gs.getD i ("", 0, false) = M.gs[i] := by rw [List.getD_eq_getElem?_getD, List.getElem?_eq_getElem hi]; rfl
  have e : M.ms[i]? = some (M.gs[i].1, (M.qs.getD M.gs[i].2.1 ("", 0, 0)).1, M.gs[i].2.2) := by
    rw [Mod.ms, List.getElem?_map, List.getElem?_eq_getElem hi]
    rfl
  obtain ⟨a, b, c⟩ := m_at e
  have lt := (h.gn _ (List.getElem_mem hi)).2
  rw [d]
  exact ⟨a, by rw [b, (Mod.pSt h lt).2.2.2.2], lt, c⟩
theorem poss_iff (h : PlOk M most more) {cs : List Nat} {rws : List (List Int)} (R : RingB (stQ M.qs) (enQ M.qs) M.qs.length cs rws) {rs : List (Option Int)} {out : List Str} : (solveR rws.length (factsF M.gs rws rs out) []).isSome = true ↔ PossN M.ps M.ms rs out := by
  have hl : ∀ r ∈ factsF M.gs rws rs out, r.length = rws.length + 2 := fun r hr => by
    obtain ⟨i, _, v, _, _, rfl⟩ := facts_mem.mp hr
    exact factRow_len _ _ _
  rw [show (solveR rws.length (factsF M.gs rws rs out) []).isSome = true ↔ solveR rws.length (factsF M.gs rws rs out) [] ≠ none from by cases solveR rws.length (factsF M.gs rws rs out) [] <;> simp, solveR_iff hl]
  have nd : (M.ps.map (·.1)).Nodup := by rw [Mod.names]; exact h.qd
  constructor
  · rintro ⟨x, d, d0, hz⟩
    refine ⟨comb rws x, d, d0, (Mod.cut h).mp (R.comb x), fun i hi v sv k hk ek => ?_⟩
    rw [M.msl] at hi
    rw [M.psl] at hk
    obtain ⟨m1, m2, m3, _⟩ := Mod.msa h hi
    have e : k = (M.gs.getD i ("", 0, false)).2.1 := pN_inj nd (by rw [M.psl]; exact hk) (by rw [M.psl]; exact m3) (ek.trans m2)
    have := hz _ (facts_mem.mpr ⟨i, hi, v, sv.1, by rw [← m1]; exact sv.2, rfl⟩)
    rw [factRow_val, ← e] at this
    rw [Int.neg_mul, Int.mul_comm] at this
    omega
  · rintro ⟨g, c, c0, hg, hz⟩
    refine ⟨fun j => g (cs.getD j 0), c, c0, fun r hr => ?_⟩
    obtain ⟨i, hi, v, e, ne, rfl⟩ := facts_mem.mp hr
    obtain ⟨m1, m2, m3, _⟩ := Mod.msa h hi
    rw [factRow_val, ← R.span ((Mod.cut h).mpr hg) _ m3, hz i (by rw [M.msl]; exact hi) v ⟨e, by rw [m1]; exact ne⟩ _ (by rw [M.psl]; exact m3) m2.symm, Int.neg_mul, Int.mul_comm]
    omega
end
section
variable (K : PySem.W.Frag)
/-- the model, rings, readings and names that the law's equations are made of -/
structure FctAt (H : Hp) (l lr t lo : Addr) (gu : List GU) (ru : List RWU) (rs : List (Option Int)) (out : List Str) (m : Nat) : Prop where
  ex : ∃ lp lq lg : Addr, H l = some (.lst [.ref lp, .ref lq, .ref lg]) ∧ H lg = some (.lst (rf gu))
  g : ∀ u ∈ gu, H u.1 = some (oG u.2) ∧ u.2.2.1 < m
  r : H lr = some (.lst (rf ru))
  w : ∀ r ∈ ru, H r.1 = some (oI r.2) ∧ r.2.length = m ∧ ∀ k, (ent r.2 k).natAbs ≤ 1
  s : SqT K H t (vR rs)
  o : SqL K H lo (out.map V.str) ∨ SqT K H lo (out.map V.str)
  rl : rs.length = gu.length
  g5 : gu.length ≤ 5
  r5 : ru.length ≤ 12
theorem FctAt.ext {H H' : Hp} {l lr t lo : Addr} {gu : List GU} {ru : List RWU} {rs : List (Option Int)} {out : List Str} {m : Nat} (h : FctAt K H l lr t lo gu ru rs out m) (s : Same H H') : FctAt K H' l lr t lo gu ru rs out m := by
  obtain ⟨lp, lq, lg, e1, e2⟩ := h.ex
  exact ⟨⟨lp, lq, lg, s _ _ e1, s _ _ e2⟩, fun u hu => ⟨s _ _ (h.g u hu).1, (h.g u hu).2⟩, s _ _ h.r, fun r hr => ⟨s _ _ (h.w r hr).1, (h.w r hr).2⟩, h.s.ext s, h.o.imp (fun z => z.ext s) (fun z => z.ext s), h.rl, h.g5, h.r5⟩
def sp_factsL : Sp := fun vs H Q _ => ∃ (l lr t lo : Addr) (gu : List GU) (ru : List RWU) (rs : List (Option Int)) (out : List Str) (m : Nat), vs = [.ref l, .ref lr, .ref t, .ref lo] ∧ FctAt K H l lr t lo gu ru rs out m ∧
  ∀ (lf : Addr) (fu : List RWU) H', Same H H' → H' lf = some (.lst (rf fu)) → (∀ r ∈ fu, H' r.1 = some (oI r.2)) → sn fu = factsF (sn gu) (sn ru) rs out → Q (.ref lf) H'
def sp_possL : Sp := fun vs H Q _ => ∃ (l lr t lo : Addr) (gu : List GU) (ru : List RWU) (rs : List (Option Int)) (out : List Str) (m : Nat), vs = [.ref l, .ref lr, .ref t, .ref lo] ∧ FctAt K H l lr t lo gu ru rs out m ∧
  ∀ H', Same H H' → Q (.bl (solveR ru.length (factsF (sn gu) (sn ru) rs out) []).isSome) H'
/-- the names of the meters without a seal that are not silent -/
def suspG (gs : List G3) (rs : List (Option Int)) : List Str := ((List.range gs.length).filter fun i => (rO rs i).isSome && !(gs.getD i ("", 0, false)).2.2).map fun i => (gs.getD i ("", 0, false)).1
def sp_suspL : Sp := fun vs H Q _ => ∃ (l t : Addr) (gu : List GU) (rs : List (Option Int)), vs = [.ref l, .ref t] ∧ (∃ lp lq lg : Addr, H l = some (.lst [.ref lp, .ref lq, .ref lg]) ∧ H lg = some (.lst (rf gu))) ∧ (∀ u ∈ gu, H u.1 = some (oG u.2)) ∧ SqT K H t (vR rs) ∧ rs.length = gu.length ∧ gu.length ≤ 12 ∧
  ∀ (ln : Addr) H', Same H H' → H ln = none → H' ln = some (.lst ((suspG (sn gu) rs).map V.str)) → Q (.ref ln) H'
end
theorem susp_eq {M : Mod} {most more : Nat} (h : PlOk M most more) (rs : List (Option Int)) : suspG M.gs rs = suspN M.ms rs := by
  rw [suspG, suspN, M.msl]
  rw [List.filter_congr (q := fun k => (rO rs k).isSome && !mZ M.ms k) fun i hi => by rw [(Mod.msa h (List.mem_range.mp hi)).2.2.2]]
  exact List.map_congr_left fun i hi => (Mod.msa h (List.mem_range.mp (List.mem_filter.mp hi).1)).1.symm
/-- what is made and stands -/
def ledX (os : List XU) : List (Addr × HO) := os.map fun u => (u.1, HO.lst (u.2.map V.str))
def sp_setsL (K : PySem.W.Frag) : Sp := fun vs H Q _ => ∃ (li : Addr) (items : List Str) (size : Nat), vs = [.ref li, .int (size : Int)] ∧ SqL K H li (items.map V.str) ∧ items.Nodup ∧ items.length ≤ 5 ∧ size ≤ 7 ∧
  ∀ (l : Addr) (os : List XU) (zs : List Str) H', Same H H' → H l = none → H' l = some (.lst (rf os)) → XusAt H' os → OrdN items zs → sn os = subsF zs size → Q (.ref l) H'
theorem setsS_cnt {items : List Str} {size : Nat} (h5 : items.length ≤ 5) : (setsS items size).length ≤ 128 := by
  have := setsS_len size items
  have : 2 ^ items.length ≤ 2 ^ 5 := Nat.pow_le_pow_right (by decide) h5
  omega
theorem nodup_one : ∀ {os : List (List Str)}, os.Nodup → (∀ o ∈ os, o = []) → os.length ≤ 1
  | [], _, _ => Nat.zero_le _
  | [_], _, _ => Nat.le_refl _
  | a :: b :: os, nd, h => by
    have := (List.nodup_cons.mp nd).1
    rw [h a List.mem_cons_self, h b (List.mem_cons_of_mem _ List.mem_cons_self)] at this
    exact absurd List.mem_cons_self this
/-- the texts of a tuple -/
def unS : V → Str
  | .str s => s
  | _ => ""
def kTup (H : Hp) : V → List Str
  | .ref a => match H a with
    | some (.tup xs) => xs.map unS
    | _ => []
  | _ => []
theorem kTup_at {H : Hp} {a : Addr} {o : List Str} (h : H a = some (.tup (o.map V.str))) : kTup H (.ref a) = o := by
  show (match H a with | some (.tup xs) => xs.map unS | _ => []) = o
  rw [h]
  dsimp only
  rw [List.map_map]
  exact (List.map_congr_left fun _ _ => rfl).trans (List.map_id o)
section
variable (K : PySem.W.Frag)
/-- the same without names -/
structure FctB (H : Hp) (l lr t : Addr) (gu : List GU) (ru : List RWU) (rs : List (Option Int)) (m : Nat) : Prop where
  ex : ∃ lp lq lg : Addr, H l = some (.lst [.ref lp, .ref lq, .ref lg]) ∧ H lg = some (.lst (rf gu))
  g : ∀ u ∈ gu, H u.1 = some (oG u.2) ∧ u.2.2.1 < m
  r : H lr = some (.lst (rf ru))
  w : ∀ r ∈ ru, H r.1 = some (oI r.2) ∧ r.2.length = m ∧ ∀ k, (ent r.2 k).natAbs ≤ 1
  s : SqT K H t (vR rs)
  rl : rs.length = gu.length
  g5 : gu.length ≤ 5
  r5 : ru.length ≤ 12
variable {K : PySem.W.Frag} {H H' : Hp} {l lr t lo : Addr} {gu : List GU} {ru : List RWU} {rs : List (Option Int)} {out : List Str} {m : Nat}
theorem FctB.at (h : FctB K H l lr t gu ru rs m) (o : SqL K H lo (out.map V.str) ∨ SqT K H lo (out.map V.str)) : FctAt K H l lr t lo gu ru rs out m := ⟨h.ex, h.g, h.r, h.w, h.s, o, h.rl, h.g5, h.r5⟩
theorem FctB.ext (h : FctB K H l lr t gu ru rs m) (s : Same H H') : FctB K H' l lr t gu ru rs m := by
  obtain ⟨lp, lq, lg, e1, e2⟩ := h.ex
  exact ⟨⟨lp, lq, lg, s _ _ e1, s _ _ e2⟩, fun u hu => ⟨s _ _ (h.g u hu).1, (h.g u hu).2⟩, s _ _ h.r, fun r hr => ⟨s _ _ (h.w r hr).1, (h.w r hr).2⟩, h.s.ext s, h.rl, h.g5, h.r5⟩
end
def possB (gs : List G3) (rws : List (List Int)) (rs : List (Option Int)) (o : List Str) : Bool := (solveR rws.length (factsF gs rws rs o) []).isSome
def sp_explL (K : PySem.W.Frag) : Sp := fun vs H Q _ => ∃ (l lr t : Addr) (gu : List GU) (ru : List RWU) (rs : List (Option Int)) (m bound : Nat), vs = [.ref l, .ref lr, .ref t, .int (bound : Nat)] ∧ FctB K H l lr t gu ru rs m ∧ (suspG (sn gu) rs).Nodup ∧ bound ≤ 3 ∧
  ∀ (lf : Addr) (os : List XU) (zs : List Str) H', Same H H' → H' lf = some (.lst (rf os)) → XusAt H' os → OrdN (suspG (sn gu) rs) zs → sn os = explF (possB (sn gu) (sn ru) rs) zs bound → Q (.ref lf) H'
theorem suspG_len (gs : List G3) (rs : List (Option Int)) : (suspG gs rs).length ≤ gs.length := by
  rw [suspG, List.length_map]
  exact Nat.le_trans (List.length_filter_le _ _) (by rw [List.length_range]; exact Nat.le_refl _)
end RV
/-! k55: explanations as data. -/
namespace RV
open PySem L2 TL
theorem Bag.dipW {H0 H : Hp} {a : Addr} {n : Nat} {M F : List (Addr × HO)} {q : Int} {Q : VK} {E : XK} (h : Bag H0 a n M F H) (hn : n < 1000000) (h0 : 0 < q) (h1 : q ≤ 10 ^ 60) (k : ∀ (r : Int) H', 0 ≤ r → r < q → Grow a H H' → Bag H0 a (n + 1) M F H' → Q (.int r) H') : Irr sp_dip [.ref a, .int q] H Q E :=
  irr ⟨a, q, n, rfl, h.well, hn, h0, h1, fun r H' r0 r1 g w => k r H' r0 r1 g (h.grow g w)⟩
def dXs (os : List (List Str)) : PyData := .tuple (os.map fun o => .tuple (o.map PyData.str))
theorem dp_Xs {K : PySem.W.Frag} {H : Hp} {r : Addr} {os : List XU} (e : H r = some (.tup (rf os))) (xa : XusAt H os) : Dp K H (.ref r) (dXs (sn os)) := by
  refine .tup (SqT.of e) ?_
  clear e
  induction os with
  | nil => exact .nil
  | cons u os ih => exact .cons (.tup (SqT.of (xa u List.mem_cons_self)) (dps _)) (ih fun v hv => xa v (List.mem_cons_of_mem _ hv))
theorem shw_Xs {os : List (List Str)} (hn : ∀ o ∈ os, (∀ y ∈ o, IsNm y) ∧ o.length ≤ 5) (hl : os.length ≤ 500) : Shw (dXs os) 2 302000 := by
  have h1 : ∀ d ∈ os.map (fun o => PyData.tuple (o.map PyData.str)), Shw d 1 600 := fun d hd => by
    obtain ⟨o, ho, rfl⟩ := List.mem_map.mp hd
    obtain ⟨a, b⟩ := hn o ho
    have : Shw (.tuple (o.map PyData.str)) (0 + 1) ((100 + 2) * (o.map PyData.str).length + 3) := shw_tuple fun d hd => by
      obtain ⟨y, hy, rfl⟩ := List.mem_map.mp hd
      exact (short_nm (a y hy)).shw
    rw [List.length_map] at this
    exact this.mono (by decide) (by omega)
  have := shw_tuple h1
  rw [List.length_map] at this
  exact this.mono (by decide) (by omega)
theorem shw_two {d e : PyData} (h : Shw d 2 302000) (g : Shw e 2 302000) : Shw (.list [d, e]) 60 700000 := by
  have : Shw (.list [d, e]) (2 + 1) ((302000 + 2) * [d, e].length + 3) := shw_list fun x hx => by
    rcases List.mem_cons.mp hx with rfl | hx
    · exact h
    · rw [List.mem_singleton.mp hx]; exact g
  exact this.mono (by decide) (by show _ * 2 + 3 ≤ _; decide)
/-- by the names net, readings, most -/
def gPE (vs zs : List V) : List V := match vs, zs with
  | [], [x, y, z] => [x, y, z]
  | _, _ => []
def gEN (vs zs : List Value) : List Value := match vs, zs with
  | [], [x, y, z] => [x, y, z]
  | _, _ => []
theorem gEN_rel {vs : List V} {us : List Value} {zs : List V} {ws : List Value} (r1 : Vals vs us) (r2 : Vals zs ws) : Vals (gPE vs zs) (gEN us ws) := by
  cases r1 with
  | cons a r => cases r2 <;> exact .nil
  | nil =>
    cases r2 with
    | nil => exact .nil
    | cons a r2 =>
      cases r2 with
      | nil => exact .nil
      | cons b r2 =>
        cases r2 with
        | nil => exact .nil
        | cons c r2 =>
          cases r2 with
          | nil => exact .cons a (.cons b (.cons c .nil))
          | cons d r2 => exact .nil
/-- what the program tells and what the law is due to -/
theorem expl_eq {M : Mod} {most more : Nat} (h : PlOk M most more) {cs : List Nat} {rws : List (List Int)} (R : RingB (stQ M.qs) (enQ M.qs) M.qs.length cs rws) {rs : List (Option Int)} {poss : List Str → Bool} (hp : ∀ o, poss o = true ↔ PossN M.ps M.ms rs o) : poss = possB M.gs rws rs := by
  funext o
  rw [Bool.eq_iff_iff, hp o, possB, poss_iff h R]
theorem explF_in {poss : List Str → Bool} {zs : List Str} {most : Nat} (hm : most ≤ 3) (hl : zs.length ≤ 5) : (∀ o ∈ explF poss zs most, o.Sublist zs ∧ o.length ≤ 5) ∧ (explF poss zs most).length ≤ 500 := by
  rw [explF_pre]
  refine ⟨fun o ho => ?_, ?_⟩
  · obtain ⟨a, _⟩ := pre_mem (List.mem_filter.mp ho).1
    exact ⟨a, Nat.le_trans a.length_le hl⟩
  · refine Nat.le_trans (List.length_filter_le _ _) (Nat.le_trans (preF_len _ _ _) ?_)
    have : (most + 1 + 1) * 2 ^ zs.length ≤ 5 * 2 ^ 5 := Nat.mul_le_mul (by omega) (Nat.pow_le_pow_right (by decide) hl)
    omega
def sp_right55 : Sp := fun vs H Q _ => ∃ (a : Addr) (n : Nat), vs = [.ref a] ∧ WellAt H a n ∧ n ≤ 100 ∧ ∀ H', Grow a H H' → Q (.bl true) H'
theorem nat_len : ∀ (n : Nat) {xs : List Nat}, xs.Nodup → (∀ x ∈ xs, x < n) → xs.length ≤ n
  | 0, xs, _, h => by
    cases xs with
    | nil => exact Nat.le_refl _
    | cons x xs => exact absurd (h x List.mem_cons_self) (Nat.not_lt_zero _)
  | n + 1, xs, nd, h => by
    have := nat_len n (xs := xs.erase n) (nd.erase n) fun x hx => by
      have h1 := h x (List.mem_of_mem_erase hx)
      have h2 : x ≠ n := ((List.Nodup.mem_erase_iff nd).mp hx).1
      omega
    rw [List.length_erase] at this
    split at this <;> omega
theorem RingB.few {α : Type} {st en : Nat → α} {n : Nat} {cs : List Nat} {rws : List (List Int)} (h : RingB st en n cs rws) : rws.length ≤ n := by
  rw [h.len]
  refine nat_len n ?_ h.lt
  refine List.pairwise_iff_getElem.mpr fun i j hi hj lt e => ?_
  have hj2 : j < rws.length := by rw [h.len]; exact hj
  have a := h.one i j cs[i] rws[j] (List.getElem?_eq_getElem hi) (List.getElem?_eq_getElem hj2)
  have b := h.one j j cs[j] rws[j] (List.getElem?_eq_getElem hj) (List.getElem?_eq_getElem hj2)
  rw [e, if_neg (Nat.ne_of_lt lt)] at a
  rw [a, if_pos rfl] at b
  cases b
end RV
/-! k55: the nets that are written out. -/
namespace RV
open PySem L2 TL
open PySem.Spec (ltCps)
/-- what is told, as data, where it stands -/
def RE (H : Hp) (r : Addr) (res : List (List Str)) : Prop := ∃ os : List XU, H r = some (.tup (rf os)) ∧ XusAt H os ∧ sn os = res
theorem RE.ext {H H' : Hp} {r : Addr} {res : List (List Str)} (h : RE H r res) (s : Same H H') : RE H' r res := by
  obtain ⟨os, e, x, n⟩ := h
  exact ⟨os, s _ _ e, x.ext s, n⟩
theorem RE.dp {K : PySem.W.Frag} {H : Hp} {r : Addr} {res : List (List Str)} (h : RE H r res) : Dp K H (.ref r) (dXs res) := by
  obtain ⟨os, e, x, n⟩ := h
  rw [← n]
  exact dp_Xs e x
theorem cut_all {st en : Nat → Nat} {x : Nat → Int} {n N : Nat} (lt : ∀ k < n, st k < N ∧ en k < N) (h : ∀ v < N, cutFl st en x (fun u => decide (u = v)) n = 0) : CutF st en x n := BndF.cutF fun v => by
  by_cases q : v < N
  · exact h v q
  · exact sumN_zero fun k hk => by
      obtain ⟨a, b⟩ := lt k hk
      dsimp only
      rw [decide_eq_false (show ¬ en k = v by omega), decide_eq_false (show ¬ st k = v by omega), Int.sub_self, Int.mul_zero]
theorem fo_leaf {st en : Nat → Nat} {S : Nat → Prop} {k : Nat} (h : Fo st en S) (h1 : st k ≠ en k) (h2 : ∀ j, S j → st j ≠ en k ∧ en j ≠ en k) : Fo st en (addS S k) := h.add fun c => by
  obtain ⟨j, sj, q⟩ := c.cross (A := fun v => v ≠ en k) h1 fun z => z rfl
  obtain ⟨a, b⟩ := h2 j sj
  rcases q with q | q
  · exact q.2 b
  · exact q.2 a
def plA : List Str := ["o", "a", "b", "c"]
def MA : Mod := ⟨plA, [("src", 0, 1), ("left", 1, 2), ("right", 1, 3), ("lout", 2, 0), ("rout", 3, 0)], [("m1", 0, false), ("m2", 1, false), ("m3", 2, false), ("m4", 3, false), ("m5", 4, false)]⟩
def MB : Mod := ⟨["a", "b"], [("p", 0, 1)], [("x", 0, false), ("y", 0, false)]⟩
def rwA : List (List Int) := [[1, 1, 0, 1, 0], [1, 0, 1, 0, 1]]
theorem ok_MA : PlOk MA 5 5 := by
  refine ⟨by decide, by decide, ?_, by decide, by decide, by decide, ?_, by decide, by decide, ?_, by decide⟩
  · show ∀ x ∈ MA.pl, isNm x.cps.toList = true
    decide +kernel
  · show ∀ q ∈ MA.qs, isNm q.1.cps.toList = true ∧ q.2.1 < MA.pl.length ∧ q.2.2 < MA.pl.length ∧ q.2.1 ≠ q.2.2
    decide +kernel
  · show ∀ g ∈ MA.gs, isNm g.1.cps.toList = true ∧ g.2.1 < MA.qs.length
    decide +kernel
theorem ok_MB : PlOk MB 5 5 := by
  refine ⟨by decide, by decide, ?_, by decide, by decide, by decide, ?_, by decide, by decide, ?_, by decide⟩
  · show ∀ x ∈ MB.pl, isNm x.cps.toList = true
    decide +kernel
  · show ∀ q ∈ MB.qs, isNm q.1.cps.toList = true ∧ q.2.1 < MB.pl.length ∧ q.2.2 < MB.pl.length ∧ q.2.1 ≠ q.2.2
    decide +kernel
  · show ∀ g ∈ MB.gs, isNm g.1.cps.toList = true ∧ g.2.1 < MB.qs.length
    decide +kernel
theorem rb_A : RingB (stQ MA.qs) (enQ MA.qs) MA.qs.length [3, 4] rwA := by
  refine ⟨rfl, by decide, fun r hr => ?_, by decide, ?_, ?_, ?_⟩
  · refine cut_all (N := 4) (by decide) ?_
    revert r
    decide +kernel
  · have h : ∀ i < 2, ∀ j < 2, ent (rwA.getD j []) (([3, 4] : List Nat).getD i 0) = if i = j then 1 else 0 := by decide +kernel
    intro i j c r hc hr
    have hi : i < 2 := (List.getElem?_eq_some_iff.mp hc).1
    have hj : j < 2 := (List.getElem?_eq_some_iff.mp hr).1
    have := h i hi j hj
    rw [List.getD_eq_getElem?_getD, hr, List.getD_eq_getElem?_getD, hc] at this
    exact this
  · have f0 : Fo (stQ MA.qs) (enQ MA.qs) fun _ => False := Fo.none fun _ h => h
    have f1 := fo_leaf (k := 0) f0 (by decide) fun _ h => h.elim
    have f2 := fo_leaf (k := 1) f1 (by decide) fun j h => by
      rcases h with h | rfl
      · exact h.elim
      · decide
    have f3 := fo_leaf (k := 2) f2 (by decide) fun j h => by
      rcases h with (h | rfl) | rfl
      · exact h.elim
      · decide
      · decide
    refine f3.mono fun k hk => ?_
    obtain ⟨lt, nm⟩ := hk
    have lt : k < 5 := lt
    rcases (show k = 0 ∨ k = 1 ∨ k = 2 ∨ k = 3 ∨ k = 4 by omega) with rfl | rfl | rfl | rfl | rfl
    · exact .inl (.inl (.inr rfl))
    · exact .inl (.inr rfl)
    · exact .inr rfl
    · exact absurd (by decide) nm
    · exact absurd (by decide) nm
  · intro r hr k
    have : ∀ r ∈ rwA, ∀ y ∈ r, y.natAbs ≤ 1 := by decide +kernel
    rw [ent, List.getD_eq_getElem?_getD]
    cases e : r[k]? with
    | none => decide
    | some y => exact this r hr y (List.mem_of_getElem? e)
theorem rb_B : RingB (stQ MB.qs) (enQ MB.qs) MB.qs.length [] [] := by
  refine ⟨rfl, (fun _ h => nomatch h), (fun _ h => nomatch h), (fun _ h => nomatch h), (fun i j c r hc _ => by simp at hc), ?_, fun _ h => nomatch h⟩
  have f0 : Fo (stQ MB.qs) (enQ MB.qs) fun _ => False := Fo.none fun _ h => h
  have f1 := fo_leaf (k := 0) f0 (by decide) fun _ h => h.elim
  refine f1.mono fun k hk => .inr ?_
  have lt : k < 1 := hk.1
  omega
theorem out_of55 {M : Mod} {most more : Nat} (ok : PlOk M most more) {cs : List Nat} {rws : List (List Int)} (R : RingB (stQ M.qs) (enQ M.qs) M.qs.length cs rws) {rs : List (Option Int)} {zs0 : List Str} {b : Nat} {res : List (List Str)} (hs : suspN M.ms rs = zs0) (asc : zs0.Pairwise fun a b => ltCps (cd a) (cd b) = true) (hr : explF (possB M.gs rws rs) zs0 b = res)
    {os : List XU} {zs : List Str} {poss : List Str → Bool} (oz : OrdN (suspN M.ms rs) zs) (hp : ∀ o, poss o = true ↔ PossN M.ps M.ms rs o) (es : sn os = explF poss zs b) : sn os = res := by
  have : zs = zs0 := oz.uniq (show OrdN (suspN M.ms rs) zs0 from ⟨asc, fun y => by rw [hs]⟩)
  rw [es, this, expl_eq ok R hp, hr]
def n5 : List Str := ["m1", "m2", "m3", "m4", "m5"]
def rA (e : Int) : List (Option Int) := [some 7, some 4, some 3, some 4, some e]
def rA2 : List (Option Int) := [some 7, some 4, none, some 5, none]
def res (b : Nat) : List (List Str) := match b with
  | 0 => []
  | 1 => [["m5"]]
  | 2 => [["m5"], ["m1", "m3"]]
  | _ => [["m5"], ["m1", "m3"], ["m2", "m3", "m4"]]
theorem asc5 : n5.Pairwise fun a b => ltCps (cd a) (cd b) = true := by decide +kernel
theorem su5 (e : Int) : suspN MA.ms (rA e) = n5 := by rfl
theorem ex5 (b : Nat) (hb : b < 4) : explF (possB MA.gs rwA (rA 5)) n5 b = res b := by
  rcases (show b = 0 ∨ b = 1 ∨ b = 2 ∨ b = 3 by omega) with rfl | rfl | rfl | rfl <;> decide +kernel
theorem ex3 : explF (possB MA.gs rwA (rA 3)) n5 3 = [[]] := by decide +kernel
def nN : List Str := ["m1", "m2", "m4"]
theorem exN : explF (possB MA.gs rwA rA2) nN 1 = ([["m2"], ["m4"]] : List (List Str)) := by decide +kernel
theorem suN : suspN MA.ms rA2 = nN := by decide +kernel
def nB : List Str := ["x", "y"]
def rB1 : List (Option Int) := [some 0, some 1]
def rB2 : List (Option Int) := [some 2, some 2]
theorem exB1 : explF (possB MB.gs [] rB1) nB 2 = ([["y"]] : List (List Str)) := by decide +kernel
theorem exB2 : explF (possB MB.gs [] rB2) nB 2 = ([["x", "y"]] : List (List Str)) := by decide +kernel
theorem suB1 : suspN MB.ms rB1 = nB := by decide +kernel
theorem suB2 : suspN MB.ms rB2 = nB := by decide +kernel
theorem ascN : nN.Pairwise fun a b => ltCps (cd a) (cd b) = true := by decide +kernel
theorem ascB : nB.Pairwise fun a b => ltCps (cd a) (cd b) = true := by decide +kernel
theorem ex3' : explF (possB MA.gs rwA (rA 3)) n5 3 = ([[]] : List (List Str)) := ex3
abbrev txA0 : Str := "pipe src o a\npipe left a b\npipe right a c\npipe lout b o\npipe rout c o\nmeter m1 src"
abbrev txA1 : Str := "\nmeter m2 left\nmeter m3 right\nmeter m4 lout\nmeter m5 rout"
abbrev txB0 : Str := "pipe p a b\nmeter x p\nmeter y p"
theorem tx_A55 : txA0 ++ txA1 = netT MA.ps MA.ms := by decide +kernel
theorem tx_B55 : txB0 = netT MB.ps MB.ms := by decide +kernel
def rs8 : List (List (List Str)) := [res 0, res 1, res 2, res 3, [[]], [["m2"], ["m4"]], [["y"]], [["x", "y"]]]
def dt8 : PyData := .list (rs8.map dXs)
theorem shw_dt8 : Shw dt8 60 4000000 := (shw_list (n := 2) (k := 302000) fun d hd => by
  obtain ⟨o, ho, rfl⟩ := List.mem_map.mp hd
  have h1 : ∀ o ∈ rs8, (∀ z ∈ o, (∀ y ∈ z, isNm y.cps.toList = true) ∧ z.length ≤ 5) ∧ o.length ≤ 500 := by decide +kernel
  exact shw_Xs (fun z hz => (h1 o ho).1 z hz) (h1 o ho).2 : Shw dt8 (2 + 1) _).mono (by decide) (by show _ * 8 + 3 ≤ _; decide)
end RV
/-! k55: explanations of written nets, one step; what is told and due as data. -/
namespace RV
open PySem L2 TL
open PySem.Spec (ltCps)
theorem expl_step {K : PySem.W.Frag} {CN CP CM : Addr} {H : Hp} {M : Mod} {cs : List Nat} {rws : List (List Int)} {x t : Addr} {rs : List (Option Int)} {zs0 : List Str} {b : Nat} {z : Int} {res : List (List Str)} {Q : VK} {E : XK} (nr : NetR K CN CP CM H x M.ps M.ms) (ok : PlOk M 5 5)
    (R : RingB (stQ M.qs) (enQ M.qs) M.qs.length cs rws) (ht : SqT K H t (vR rs)) (ro : RdOk M.ms rs) (hz : z = (b : Nat)) (hb : b ≤ 3) (hs : suspN M.ms rs = zs0) (asc : zs0.Pairwise fun a b => ltCps (cd a) (cd b) = true) (hr : explF (possB M.gs rws rs) zs0 b = res)
    (k : ∀ r H', Same H H' → RE H' r res → Q (.ref r) H') : Irr (sp_expl K CN CP CM) [.ref x, .ref t, .int z] H Q E := by
  subst hz
  have m5 : M.ms.length ≤ 5 := by rw [M.msl]; exact ok.gm
  refine irr ⟨x, t, M.ps, M.ms, rs, b, rfl, nr, ok.po (by decide), ok.mo (by decide), m5, ht, ro, hb, fun r os zs poss H' s e xa oz hp es => k r H' s ⟨os, e, xa, out_of55 ok R hs asc hr oz hp es⟩⟩
theorem rdA (e : Int) : RdOk MA.ms (rA e) := ⟨rfl, fun k hk h => absurd h (by
  have hk : k < 5 := hk
  rcases (show k = 0 ∨ k = 1 ∨ k = 2 ∨ k = 3 ∨ k = 4 by omega) with rfl | rfl | rfl | rfl | rfl <;> decide +kernel)⟩
theorem rdA2 : RdOk MA.ms rA2 := ⟨rfl, fun k hk h => absurd h (by
  have hk : k < 5 := hk
  rcases (show k = 0 ∨ k = 1 ∨ k = 2 ∨ k = 3 ∨ k = 4 by omega) with rfl | rfl | rfl | rfl | rfl <;> decide +kernel)⟩
theorem rdB {rs : List (Option Int)} (hl : rs.length = 2) : RdOk MB.ms rs := ⟨hl, fun k hk h => absurd h (by
  have hk : k < 2 := hk
  rcases (show k = 0 ∨ k = 1 by omega) with rfl | rfl <;> decide +kernel)⟩
theorem RE.nil {H : Hp} {r : Addr} (e : H r = some (.tup [])) : RE H r [] := ⟨[], e, (fun _ h => nomatch h), rfl⟩
theorem RE.one {H : Hp} {r a : Addr} {x : List Str} (e : H r = some (.tup [.ref a])) (h : H a = some (.tup (x.map V.str))) : RE H r [x] := ⟨[(a, x)], e, fun u hu => by rw [List.mem_singleton.mp hu]; exact h, rfl⟩
theorem RE.two {H : Hp} {r a b : Addr} {x y : List Str} (e : H r = some (.tup [.ref a, .ref b])) (h : H a = some (.tup (x.map V.str))) (g : H b = some (.tup (y.map V.str))) : RE H r [x, y] := ⟨[(a, x), (b, y)], e, fun u hu => by
  rcases List.mem_cons.mp hu with rfl | hu
  · exact h
  · rw [List.mem_singleton.mp hu]; exact g, rfl⟩
theorem RE.three {H : Hp} {r a b c : Addr} {x y z : List Str} (e : H r = some (.tup [.ref a, .ref b, .ref c])) (h : H a = some (.tup (x.map V.str))) (g : H b = some (.tup (y.map V.str))) (i : H c = some (.tup (z.map V.str))) : RE H r [x, y, z] := ⟨[(a, x), (b, y), (c, z)], e, fun u hu => by
  rcases List.mem_cons.mp hu with rfl | hu
  · exact h
  · rcases List.mem_cons.mp hu with rfl | hu
    · exact g
    · rw [List.mem_singleton.mp hu]; exact i, rfl⟩
theorem RE8 {K : PySem.W.Frag} {H : Hp} {L r0 r1 r2 r3 r4 r5 r6 r7 : Addr} (e : H L = some (.lst [.ref r0, .ref r1, .ref r2, .ref r3, .ref r4, .ref r5, .ref r6, .ref r7])) (h0 : RE H r0 (res 0)) (h1 : RE H r1 (res 1)) (h2 : RE H r2 (res 2)) (h3 : RE H r3 (res 3)) (h4 : RE H r4 [[]]) (h5 : RE H r5 [["m2"], ["m4"]]) (h6 : RE H r6 [["y"]]) (h7 : RE H r7 [["x", "y"]]) : Dp K H (.ref L) dt8 :=
  .lst (SqL.of e) (.cons h0.dp (.cons h1.dp (.cons h2.dp (.cons h3.dp (.cons h4.dp (.cons h5.dp (.cons h6.dp (.cons h7.dp .nil))))))))
theorem repr8 {K : PySem.W.Frag} {a : Addr} {H : Hp} {Q : VK} (hd : Dp K H (.ref a) dt8) (q : Q (.str dt8.shown) H) : rRepr K [.ref a] H Q := by
  unfold rRepr
  exact ⟨a, dt8, rfl, hd, shw_dt8.ok, shw_dt8.dp, Nat.le_trans shw_dt8.ln (by decide), q⟩
theorem put_same {H : Hp} {t : Addr} {o : HO} (nt : H t = none) : Same H (upd H t o) ∧ upd H t o t = some o := ⟨fun b u e => (upd_ne (ne_of_none e nt)).trans e, upd_same⟩
end RV
namespace RV
open PySem L2 TL
theorem RE.put {H : Hp} {r D : Addr} {acc : List V} {o : HO} {res : List (List Str)} (h : RE H r res) (e : H D = some (.lst acc)) : RE (upd H D o) r res := by
  obtain ⟨os, er, x, n⟩ := h
  refine ⟨os, ?_, fun u hu => ?_, n⟩
  · exact (upd_ne fun z => by rw [z, e] at er; cases er).trans er
  · have := x u hu
    exact (upd_ne fun z => by rw [z, e] at this; cases this).trans this
end RV
namespace RV
open PySem L2
def top (i : Nat) : Stmt := PySem.Challenge.pw_ringvotes_k55_whole_explanations.main.body.getD i (.Pass ⟨0, 0, 0, 0⟩)
abbrev s_is_number : Stmt := top 4
abbrev sc_is_number_N : List Str := ["value"]
theorem sc_is_number : FnScope sc_is_number_N ["value"] (defScope s_is_number) := ⟨rfl, rfl, rfl, by decide +kernel, rfl, by decide +kernel, by decide +kernel⟩
abbrev s_is_name : Stmt := top 5
abbrev sc_is_name_N : List Str := ["value", "letter"]
theorem sc_is_name : FnScope sc_is_name_N ["value"] (defScope s_is_name) := ⟨rfl, rfl, rfl, by decide +kernel, rfl, by decide +kernel, by decide +kernel⟩
abbrev s_UnknownName___init__ : Stmt := inClass (top 19) 0
abbrev sc_UnknownName___init___N : List Str := ["self", "given"]
abbrev s_Pipe___init__ : Stmt := inClass (top 24) 0
abbrev sc_Pipe___init___N : List Str := ["self", "name", "start", "end"]
theorem sc_Pipe___init__ : FnScope sc_Pipe___init___N ["self", "name", "start", "end"] (defScope s_Pipe___init__) := ⟨rfl, rfl, rfl, by decide +kernel, rfl, by decide +kernel, by decide +kernel⟩
abbrev s_Pipe_name : Stmt := inClass (top 24) 1
abbrev sc_Pipe_name_N : List Str := ["self"]
theorem sc_Pipe_name : FnScope sc_Pipe_name_N ["self"] (defScope s_Pipe_name) := ⟨rfl, rfl, rfl, by decide +kernel, rfl, by decide +kernel, by decide +kernel⟩
abbrev s_Pipe_start : Stmt := inClass (top 24) 2
abbrev sc_Pipe_start_N : List Str := ["self"]
theorem sc_Pipe_start : FnScope sc_Pipe_start_N ["self"] (defScope s_Pipe_start) := ⟨rfl, rfl, rfl, by decide +kernel, rfl, by decide +kernel, by decide +kernel⟩
abbrev s_Pipe_end : Stmt := inClass (top 24) 3
abbrev sc_Pipe_end_N : List Str := ["self"]
theorem sc_Pipe_end : FnScope sc_Pipe_end_N ["self"] (defScope s_Pipe_end) := ⟨rfl, rfl, rfl, by decide +kernel, rfl, by decide +kernel, by decide +kernel⟩
abbrev s_Pipe___eq__ : Stmt := inClass (top 24) 4
abbrev sc_Pipe___eq___N : List Str := ["self", "other"]
theorem sc_Pipe___eq__ : FnScope sc_Pipe___eq___N ["self", "other"] (defScope s_Pipe___eq__) := ⟨rfl, rfl, rfl, by decide +kernel, rfl, by decide +kernel, by decide +kernel⟩
abbrev s_Meter___init__ : Stmt := inClass (top 25) 0
abbrev sc_Meter___init___N : List Str := ["self", "name", "at", "sealed"]
theorem sc_Meter___init__ : FnScope sc_Meter___init___N ["self", "name", "at", "sealed"] (defScope s_Meter___init__) := ⟨rfl, rfl, rfl, by decide +kernel, rfl, by decide +kernel, by decide +kernel⟩
abbrev s_Meter_name : Stmt := inClass (top 25) 1
abbrev sc_Meter_name_N : List Str := ["self"]
theorem sc_Meter_name : FnScope sc_Meter_name_N ["self"] (defScope s_Meter_name) := ⟨rfl, rfl, rfl, by decide +kernel, rfl, by decide +kernel, by decide +kernel⟩
abbrev s_Meter_at : Stmt := inClass (top 25) 2
abbrev sc_Meter_at_N : List Str := ["self"]
theorem sc_Meter_at : FnScope sc_Meter_at_N ["self"] (defScope s_Meter_at) := ⟨rfl, rfl, rfl, by decide +kernel, rfl, by decide +kernel, by decide +kernel⟩
abbrev s_Meter_sealed : Stmt := inClass (top 25) 3
abbrev sc_Meter_sealed_N : List Str := ["self"]
theorem sc_Meter_sealed : FnScope sc_Meter_sealed_N ["self"] (defScope s_Meter_sealed) := ⟨rfl, rfl, rfl, by decide +kernel, rfl, by decide +kernel, by decide +kernel⟩
abbrev s_Meter___eq__ : Stmt := inClass (top 25) 4
abbrev sc_Meter___eq___N : List Str := ["self", "other"]
theorem sc_Meter___eq__ : FnScope sc_Meter___eq___N ["self", "other"] (defScope s_Meter___eq__) := ⟨rfl, rfl, rfl, by decide +kernel, rfl, by decide +kernel, by decide +kernel⟩
abbrev s_Net___init__ : Stmt := inClass (top 26) 0
abbrev sc_Net___init___N : List Str := ["self", "pipes", "meters"]
theorem sc_Net___init__ : FnScope sc_Net___init___N ["self", "pipes", "meters"] (defScope s_Net___init__) := ⟨rfl, rfl, rfl, by decide +kernel, rfl, by decide +kernel, by decide +kernel⟩
abbrev s_Net_read : Stmt := inClass (top 26) 1
abbrev sc_Net_read_N : List Str := ["cls", "text", "net"]
theorem sc_Net_read : FnScope sc_Net_read_N ["cls", "text"] (defScope s_Net_read) := ⟨rfl, rfl, rfl, by decide +kernel, rfl, by decide +kernel, by decide +kernel⟩
abbrev s_Net_pipes : Stmt := inClass (top 26) 2
abbrev sc_Net_pipes_N : List Str := ["self"]
theorem sc_Net_pipes : FnScope sc_Net_pipes_N ["self"] (defScope s_Net_pipes) := ⟨rfl, rfl, rfl, by decide +kernel, rfl, by decide +kernel, by decide +kernel⟩
abbrev s_Net_meters : Stmt := inClass (top 26) 3
abbrev sc_Net_meters_N : List Str := ["self"]
theorem sc_Net_meters : FnScope sc_Net_meters_N ["self"] (defScope s_Net_meters) := ⟨rfl, rfl, rfl, by decide +kernel, rfl, by decide +kernel, by decide +kernel⟩
abbrev s_Net_places : Stmt := inClass (top 26) 4
abbrev sc_Net_places_N : List Str := ["self", "part", "place"]
theorem sc_Net_places : FnScope sc_Net_places_N ["self"] (defScope s_Net_places) := ⟨rfl, rfl, rfl, by decide +kernel, rfl, by decide +kernel, by decide +kernel⟩
abbrev s_Net_pipe : Stmt := inClass (top 26) 5
abbrev sc_Net_pipe_N : List Str := ["self", "name", "index"]
abbrev s_Net_meter : Stmt := inClass (top 26) 6
abbrev sc_Net_meter_N : List Str := ["self", "name", "index"]
abbrev s_Net___add__ : Stmt := inClass (top 26) 7
abbrev sc_Net___add___N : List Str := ["self", "other", "index"]
abbrev s_Net___sub__ : Stmt := inClass (top 26) 8
abbrev sc_Net___sub___N : List Str := ["self", "other", "index"]
abbrev s_Net___contains__ : Stmt := inClass (top 26) 9
abbrev sc_Net___contains___N : List Str := ["self", "x"]
abbrev s_Net___len__ : Stmt := inClass (top 26) 10
abbrev sc_Net___len___N : List Str := ["self"]
theorem sc_Net___len__ : FnScope sc_Net___len___N ["self"] (defScope s_Net___len__) := ⟨rfl, rfl, rfl, by decide +kernel, rfl, by decide +kernel, by decide +kernel⟩
abbrev s_Net___str__ : Stmt := inClass (top 26) 11
abbrev sc_Net___str___N : List Str := ["self"]
theorem sc_Net___str__ : FnScope sc_Net___str___N ["self"] (defScope s_Net___str__) := ⟨rfl, rfl, rfl, by decide +kernel, rfl, by decide +kernel, by decide +kernel⟩
abbrev s_Net___repr__ : Stmt := inClass (top 26) 12
abbrev sc_Net___repr___N : List Str := ["self"]
abbrev s_Net___eq__ : Stmt := inClass (top 26) 13
abbrev sc_Net___eq___N : List Str := ["self", "other"]
theorem sc_Net___eq__ : FnScope sc_Net___eq___N ["self", "other"] (defScope s_Net___eq__) := ⟨rfl, rfl, rfl, by decide +kernel, rfl, by decide +kernel, by decide +kernel⟩
abbrev s_check_names : Stmt := top 27
abbrev sc_check_names_N : List Str := ["values", "value"]
theorem sc_check_names : FnScope sc_check_names_N ["values"] (defScope s_check_names) := ⟨rfl, rfl, rfl, by decide +kernel, rfl, by decide +kernel, by decide +kernel⟩
abbrev s_check_pipes : Stmt := top 28
abbrev sc_check_pipes_N : List Str := ["pipes", "names", "index", "part"]
theorem sc_check_pipes : FnScope sc_check_pipes_N ["pipes"] (defScope s_check_pipes) := ⟨rfl, rfl, rfl, by decide +kernel, rfl, by decide +kernel, by decide +kernel⟩
abbrev s_check_meters : Stmt := top 29
abbrev sc_check_meters_N : List Str := ["meters", "pipes", "names", "index", "part"]
theorem sc_check_meters : FnScope sc_check_meters_N ["meters", "pipes"] (defScope s_check_meters) := ⟨rfl, rfl, rfl, by decide +kernel, rfl, by decide +kernel, by decide +kernel⟩
abbrev s_index_of : Stmt := top 30
abbrev sc_index_of_N : List Str := ["parts", "name", "index", "part"]
theorem sc_index_of : FnScope sc_index_of_N ["parts", "name"] (defScope s_index_of) := ⟨rfl, rfl, rfl, by decide +kernel, rfl, by decide +kernel, by decide +kernel⟩
abbrev s_lines : Stmt := top 31
abbrev sc_lines_N : List Str := ["pipes", "meters", "part"]
theorem sc_lines : FnScope sc_lines_N ["pipes", "meters"] (defScope s_lines) := ⟨rfl, rfl, rfl, by decide +kernel, rfl, by decide +kernel, by decide +kernel⟩
abbrev s_pipe_line : Stmt := top 32
abbrev sc_pipe_line_N : List Str := ["part"]
theorem sc_pipe_line : FnScope sc_pipe_line_N ["part"] (defScope s_pipe_line) := ⟨rfl, rfl, rfl, by decide +kernel, rfl, by decide +kernel, by decide +kernel⟩
abbrev s_meter_line : Stmt := top 33
abbrev sc_meter_line_N : List Str := ["part", "seal"]
theorem sc_meter_line : FnScope sc_meter_line_N ["part"] (defScope s_meter_line) := ⟨rfl, rfl, rfl, by decide +kernel, rfl, by decide +kernel, by decide +kernel⟩
abbrev s_rows_in : Stmt := top 34
abbrev sc_rows_in_N : List Str := ["text", "line"]
theorem sc_rows_in : FnScope sc_rows_in_N ["text"] (defScope s_rows_in) := ⟨rfl, rfl, rfl, by decide +kernel, rfl, by decide +kernel, by decide +kernel⟩
abbrev s_pipes_in : Stmt := top 35
abbrev sc_pipes_in_N : List Str := ["text", "rows", "row"]
theorem sc_pipes_in : FnScope sc_pipes_in_N ["text"] (defScope s_pipes_in) := ⟨rfl, rfl, rfl, by decide +kernel, rfl, by decide +kernel, by decide +kernel⟩
abbrev s_meters_in : Stmt := top 36
abbrev sc_meters_in_N : List Str := ["text", "rows", "row"]
theorem sc_meters_in : FnScope sc_meters_in_N ["text"] (defScope s_meters_in) := ⟨rfl, rfl, rfl, by decide +kernel, rfl, by decide +kernel, by decide +kernel⟩
abbrev s_check_net : Stmt := top 38
abbrev sc_check_net_N : List Str := ["net"]
theorem sc_check_net : FnScope sc_check_net_N ["net"] (defScope s_check_net) := ⟨rfl, rfl, rfl, by decide +kernel, rfl, by decide +kernel, by decide +kernel⟩
abbrev s_check_number : Stmt := top 39
abbrev sc_check_number_N : List Str := ["number"]
theorem sc_check_number : FnScope sc_check_number_N ["number"] (defScope s_check_number) := ⟨rfl, rfl, rfl, by decide +kernel, rfl, by decide +kernel, by decide +kernel⟩
abbrev s_is_bound : Stmt := top 40
abbrev sc_is_bound_N : List Str := ["value"]
theorem sc_is_bound : FnScope sc_is_bound_N ["value"] (defScope s_is_bound) := ⟨rfl, rfl, rfl, by decide +kernel, rfl, by decide +kernel, by decide +kernel⟩
abbrev s_rooted : Stmt := top 42
abbrev sc_rooted_N : List Str := ["net", "parts", "links", "reached", "place"]
theorem sc_rooted : FnScope sc_rooted_N ["net", "parts"] (defScope s_rooted) := ⟨rfl, rfl, rfl, by decide +kernel, rfl, by decide +kernel, by decide +kernel⟩
abbrev s_fitting_flow : Stmt := top 43
abbrev sc_fitting_flow_N : List Str := ["net", "amounts", "found", "left", "part", "_", "far", "amount", "place"]
theorem sc_fitting_flow : FnScope sc_fitting_flow_N ["net", "amounts"] (defScope s_fitting_flow) := ⟨rfl, rfl, rfl, by decide +kernel, rfl, by decide +kernel, by decide +kernel⟩
abbrev s_reach_on : Stmt := top 44
abbrev sc_reach_on_N : List Str := ["parts", "reached", "links", "_", "part", "near", "far"]
theorem sc_reach_on : FnScope sc_reach_on_N ["parts", "reached", "links"] (defScope s_reach_on) := ⟨rfl, rfl, rfl, by decide +kernel, rfl, by decide +kernel, by decide +kernel⟩
abbrev s_check_readings : Stmt := top 46
abbrev sc_check_readings_N : List Str := ["net", "readings", "index", "part"]
theorem sc_check_readings : FnScope sc_check_readings_N ["net", "readings"] (defScope s_check_readings) := ⟨rfl, rfl, rfl, by decide +kernel, rfl, by decide +kernel, by decide +kernel⟩
abbrev s_is_reading : Stmt := top 47
abbrev sc_is_reading_N : List Str := ["part", "value"]
theorem sc_is_reading : FnScope sc_is_reading_N ["part", "value"] (defScope s_is_reading) := ⟨rfl, rfl, rfl, by decide +kernel, rfl, by decide +kernel, by decide +kernel⟩
abbrev s_silent_names : Stmt := top 48
abbrev sc_silent_names_N : List Str := ["net", "readings", "part", "seen"]
theorem sc_silent_names : FnScope sc_silent_names_N ["net", "readings"] (defScope s_silent_names) := ⟨rfl, rfl, rfl, by decide +kernel, rfl, by decide +kernel, by decide +kernel⟩
abbrev s_shown_amounts : Stmt := top 50
abbrev sc_shown_amounts_N : List Str := ["net", "readings", "wrong", "amounts", "part", "seen"]
theorem sc_shown_amounts : FnScope sc_shown_amounts_N ["net", "readings", "wrong"] (defScope s_shown_amounts) := ⟨rfl, rfl, rfl, by decide +kernel, rfl, by decide +kernel, by decide +kernel⟩
abbrev s_fitting_readings : Stmt := top 51
abbrev sc_fitting_readings_N : List Str := ["net", "readings", "wrong", "amounts"]
theorem sc_fitting_readings : FnScope sc_fitting_readings_N ["net", "readings", "wrong"] (defScope s_fitting_readings) := ⟨rfl, rfl, rfl, by decide +kernel, rfl, by decide +kernel, by decide +kernel⟩
abbrev s_unsealed : Stmt := top 53
abbrev sc_unsealed_N : List Str := ["net", "part"]
theorem sc_unsealed : FnScope sc_unsealed_N ["net"] (defScope s_unsealed) := ⟨rfl, rfl, rfl, by decide +kernel, rfl, by decide +kernel, by decide +kernel⟩
abbrev s_subsets : Stmt := top 54
abbrev sc_subsets_N : List Str := ["names", "many", "found", "index", "name", "rest"]
theorem sc_subsets : FnScope sc_subsets_N ["names", "many"] (defScope s_subsets) := ⟨rfl, rfl, rfl, by decide +kernel, rfl, by decide +kernel, by decide +kernel⟩
abbrev s_explanations : Stmt := top 56
abbrev sc_explanations_N : List Str := ["net", "readings", "most", "found", "many", "chosen", "lesser", "part", "name"]
theorem sc_explanations : FnScope sc_explanations_N ["net", "readings", "most"] (defScope s_explanations) := ⟨rfl, rfl, rfl, by decide +kernel, rfl, by decide +kernel, by decide +kernel⟩
abbrev s_doubtful : Stmt := top 57
abbrev sc_doubtful_N : List Str := ["net", "readings", "silent", "name"]
theorem sc_doubtful : FnScope sc_doubtful_N ["net", "readings"] (defScope s_doubtful) := ⟨rfl, rfl, rfl, by decide +kernel, rfl, by decide +kernel, by decide +kernel⟩
abbrev s_spring : Stmt := top 59
abbrev sc_spring_N : List Str := ["_law_script", "_law_k", "_law_cell", "_law_state", "_law_part"]
theorem sc_spring : FnScope sc_spring_N ["_law_script", "_law_k"] (defScope s_spring) := ⟨rfl, rfl, rfl, by decide +kernel, rfl, by decide +kernel, by decide +kernel⟩
abbrev s_take : Stmt := top 60
abbrev sc_take_N : List Str := ["_law_spring_here", "_law_many", "_law_digit", "_law_times", "_law_more"]
theorem sc_take : FnScope sc_take_N ["_law_spring_here", "_law_many"] (defScope s_take) := ⟨rfl, rfl, rfl, by decide +kernel, rfl, by decide +kernel, by decide +kernel⟩
abbrev s_titles : Stmt := top 61
abbrev sc_titles_N : List Str := ["_law_spring_here", "_law_many", "_law_signs", "_law_found", "_law_words", "_law_k", "_law_size", "_law_title", "_law_turn", "_law_spare", "_law_sign", "_law_one"]
theorem sc_titles : FnScope sc_titles_N ["_law_spring_here", "_law_many"] (defScope s_titles) := ⟨rfl, rfl, rfl, by decide +kernel, rfl, by decide +kernel, by decide +kernel⟩
abbrev s_plan : Stmt := top 62
abbrev sc_plan_N : List Str := ["_law_spring_here", "_law_tubes", "_law_gauges", "_law_spots", "_law_titles_here", "_law_many", "_law_round_here", "_law_pipes_here", "_law_meters_here", "_law_k", "_law_first", "_law_step", "_law_second", "_law_turned", "_law_even", "_law_tags", "_law_spot"]
theorem sc_plan : FnScope sc_plan_N ["_law_spring_here", "_law_tubes", "_law_gauges"] (defScope s_plan) := ⟨rfl, rfl, rfl, by decide +kernel, rfl, by decide +kernel, by decide +kernel⟩
abbrev s_grid : Stmt := top 63
abbrev sc_grid_N : List Str := ["_law_plan_here", "_law_lines", "_law_one"]
theorem sc_grid : FnScope sc_grid_N ["_law_plan_here"] (defScope s_grid) := ⟨rfl, rfl, rfl, by decide +kernel, rfl, by decide +kernel, by decide +kernel⟩
abbrev s_path : Stmt := top 64
abbrev sc_path_N : List Str := ["_law_tubes", "_law_kept", "_law_first", "_law_last", "_law_roads", "_law_turn", "_law_k", "_law_begin", "_law_finish"]
theorem sc_path : FnScope sc_path_N ["_law_tubes", "_law_kept", "_law_first", "_law_last"] (defScope s_path) := ⟨rfl, rfl, rfl, by decide +kernel, rfl, by decide +kernel, by decide +kernel⟩
abbrev s_rings : Stmt := top 65
abbrev sc_rings_N : List Str := ["_law_tubes", "_law_kept", "_law_found", "_law_k", "_law_way", "_law_ring", "_law_step", "_law_one"]
theorem sc_rings : FnScope sc_rings_N ["_law_tubes"] (defScope s_rings) := ⟨rfl, rfl, rfl, by decide +kernel, rfl, by decide +kernel, by decide +kernel⟩
abbrev s_number : Stmt := top 66
abbrev sc_number_N : List Str := ["_law_spring_here", "_law_way"]
theorem sc_number : FnScope sc_number_N ["_law_spring_here"] (defScope s_number) := ⟨rfl, rfl, rfl, by decide +kernel, rfl, by decide +kernel, by decide +kernel⟩
abbrev s_flow : Stmt := top 67
abbrev sc_flow_N : List Str := ["_law_spring_here", "_law_rings_here", "_law_size", "_law_flow_here", "_law_ring", "_law_times", "_law_k"]
theorem sc_flow : FnScope sc_flow_N ["_law_spring_here", "_law_rings_here", "_law_size"] (defScope s_flow) := ⟨rfl, rfl, rfl, by decide +kernel, rfl, by decide +kernel, by decide +kernel⟩
abbrev s_seen : Stmt := top 68
abbrev sc_seen_N : List Str := ["_law_spring_here", "_law_plan_here", "_law_flow_here", "_law_found", "_law_one", "_law_way"]
theorem sc_seen : FnScope sc_seen_N ["_law_spring_here", "_law_plan_here", "_law_flow_here"] (defScope s_seen) := ⟨rfl, rfl, rfl, by decide +kernel, rfl, by decide +kernel, by decide +kernel⟩
abbrev s_reduced : Stmt := top 69
abbrev sc_reduced_N : List Str := ["_law_done", "_law_row_here", "_law_mine", "_law_spot", "_law_lead", "_law_k"]
theorem sc_reduced : FnScope sc_reduced_N ["_law_done", "_law_row_here"] (defScope s_reduced) := ⟨rfl, rfl, rfl, by decide +kernel, rfl, by decide +kernel, by decide +kernel⟩
abbrev s_solved : Stmt := top 70
abbrev sc_solved_N : List Str := ["_law_rows_here", "_law_done", "_law_row_here", "_law_mine", "_law_spots", "_law_k"]
theorem sc_solved : FnScope sc_solved_N ["_law_rows_here"] (defScope s_solved) := ⟨rfl, rfl, rfl, by decide +kernel, rfl, by decide +kernel, by decide +kernel⟩
abbrev s_facts : Stmt := top 71
abbrev sc_facts_N : List Str := ["_law_plan_here", "_law_rings_here", "_law_shown", "_law_out", "_law_found", "_law_one", "_law_value", "_law_ring"]
theorem sc_facts : FnScope sc_facts_N ["_law_plan_here", "_law_rings_here", "_law_shown", "_law_out"] (defScope s_facts) := ⟨rfl, rfl, rfl, by decide +kernel, rfl, by decide +kernel, by decide +kernel⟩
abbrev s_possible : Stmt := top 72
abbrev sc_possible_N : List Str := ["_law_plan_here", "_law_rings_here", "_law_shown", "_law_out"]
theorem sc_possible : FnScope sc_possible_N ["_law_plan_here", "_law_rings_here", "_law_shown", "_law_out"] (defScope s_possible) := ⟨rfl, rfl, rfl, by decide +kernel, rfl, by decide +kernel, by decide +kernel⟩
abbrev s_sets : Stmt := top 73
abbrev sc_sets_N : List Str := ["_law_items_here", "_law_size", "_law_found", "_law_item", "_law_one"]
theorem sc_sets : FnScope sc_sets_N ["_law_items_here", "_law_size"] (defScope s_sets) := ⟨rfl, rfl, rfl, by decide +kernel, rfl, by decide +kernel, by decide +kernel⟩
abbrev s_suspects : Stmt := top 74
abbrev sc_suspects_N : List Str := ["_law_plan_here", "_law_shown", "_law_one", "_law_value"]
theorem sc_suspects : FnScope sc_suspects_N ["_law_plan_here", "_law_shown"] (defScope s_suspects) := ⟨rfl, rfl, rfl, by decide +kernel, rfl, by decide +kernel, by decide +kernel⟩
abbrev s_explained : Stmt := top 75
abbrev sc_explained_N : List Str := ["_law_plan_here", "_law_rings_here", "_law_shown", "_law_bound", "_law_found", "_law_names_here", "_law_size", "_law_one", "_law_less_here", "_law_left", "_law_tag", "_law_part"]
theorem sc_explained : FnScope sc_explained_N ["_law_plan_here", "_law_rings_here", "_law_shown", "_law_bound"] (defScope s_explained) := ⟨rfl, rfl, rfl, by decide +kernel, rfl, by decide +kernel, by decide +kernel⟩
abbrev s_right : Stmt := top 76
abbrev sc_right_N : List Str := ["_law_spring_here", "_law_plan_here", "_law_rings_here", "_law_grid_here", "_law_turn", "_law_shown", "_law_bound", "_law_due", "_law_told"]
theorem sc_right : FnScope sc_right_N ["_law_spring_here"] (defScope s_right) := ⟨rfl, rfl, rfl, by decide +kernel, rfl, by decide +kernel, by decide +kernel⟩
abbrev s_law : Stmt := top 77
abbrev sc_law_N : List Str := ["_law_script", "_law_lines", "_law_grid_here", "_law_told", "_law_pair", "_law_due", "_law_bound", "_law_shown", "_law_k"]
theorem sc_law : FnScope sc_law_N ["_law_script"] (defScope s_law) := ⟨rfl, rfl, rfl, by decide +kernel, rfl, by decide +kernel, by decide +kernel⟩
end RV
namespace RV
open PySem L2
section
variable {P : Program} {w : World} {K : PySem.W.Frag} {mg : Str → Option Value} {base : Heap}
theorem ok_is_name {f : Addr} {fd : FuncData} (F : Fun K "is_name" "is_name" s_is_name f fd) (T : Blt mg) (C : Cst mg) : FnOk P w K mg base CX0 1 f fd ["value"] (sp_is_name K) := by
  refine F.ok sc_is_name (fun vs H Q E h => ?_) (fun cdv A outer s H vs Q E hr h => ?_)
  · obtain ⟨_, rfl, _⟩ := h
    rfl
  · obtain ⟨v, rfl, k⟩ := h
    refine ⟨_, (pss_cons (ps_if (PW.pt (pw_or (pt_not (pt_val (pe_callB call_isi (by rfl) T.b_isinstance (by decide +kernel) (pa_cons (pv 0) (pa_cons (pe_bltn (v := .ty "str") (by rfl) T.b_str (by decide +kernel) rfl) pa_nil))))) (pw_or1 (pt_not (pt_chain op_le op_le pe_int (pe_callB call_len_str (by rfl) T.b_len (by decide +kernel) (pa_cons (pv 0) pa_nil)) (pe_gI C.c__LONGEST_NAME)))))) (pss_one (ps_ret pe_bl)) pss_nil)
      (pss_one (ps_ret (pe_and (pe_cmpR op_in_sign (pe_ix ix_str (pv 0) pe_int (fun _ _ => rfl)) (pe_gS C.c__LETTERS) (by rfl)) (pe_one (pe_callB (cr_all rfl) (by rfl) T.b_all (by decide +kernel) (pa_cons (pe_lc (own := [("letter", 1)]) (g := gName 1) (tt := tYes) rfl sc_is_name.nd (pi_str (pv 0)) (blkOk_by (N := sc_is_name_N) (sc := defScope s_is_name) (by decide +kernel)) (fun _ _ _ _ _ => pg_name (i := 1) sc_is_name.nd rfl (Or.inl rfl)) (fun _ _ _ _ _ => pts_nil) (fun _ _ _ _ _ => (pe_cmpR op_in_sign (pv 1) (pe_op op_add_str (pe_gS C.c__LETTERS) (pe_gS C.c__DIGITS)) (by rfl)))) pa_nil))))))), ?_⟩
    rcases k with ⟨x, rfl, hx, k⟩ | ⟨t, ty, kt, k⟩
    · refine ⟨_, rfl, _, _, .type "str", .type "str", true, rfl, .ty _, .base (.str x), kit_ty (by decide +kernel), true, rfl, ?_⟩
      refine iteF ⟨_, rfl, _, rfl, hx, _, _, rfl, rfl, _, rfl, ?_⟩
      have out : isNm (cd x) = false → Q (.bl false) H := fun e => e ▸ k H (Same.refl H)
      refine ite2 (fun h1 => ?_) (fun h1 => ?_)
      · refine ⟨_, _, rfl, rfl, _, rfl, ?_⟩
        have h1' := of_decide_eq_true h1
        cases e8 : decide ((x.length : Int) ≤ 8) with
        | false =>
          refine out ?_
          cases q : isNm (cd x) with
          | false => rfl
          | true =>
            have := isNm_len q
            rw [← cd_len] at this
            have h8 := of_decide_eq_false e8
            omega
        | true =>
          have h8 := of_decide_eq_true e8
          obtain ⟨c, r, ec⟩ : ∃ c r, cd x = c :: r := by
            cases e : cd x with
            | nil =>
              rw [cd_len, e] at h1'
              simp at h1'
            | cons c r => exact ⟨c, r, rfl⟩
          have hr7 : r.length ≤ 7 := by
            rw [cd_len, ec, List.length_cons] at h8
            omega
          refine ⟨_, rfl, x, _, c, rfl, rfl, hx, atI_nat (j := 0) (by show (cd x)[0]? = some c; rw [ec]; rfl), c, _, rfl, rfl, _, rfl, ?_⟩
          have el : decide (c ∈ cd "abcdefghijklmnopqrstuvwxyz") = lowC c := low_in c
          refine ite2 (fun hl => ?_) (fun hl => ?_)
          · have hl' : lowC c = true := el.symm.trans hl
            refine ⟨_, rfl, x, rfl, fun D nD => lc_str (z := x) (fun i H' => Same H H' ∧ H' D = some (.lst ((((cd x).take i).map tailC).map V.bl))) ⟨fun b o e => by rw [upd_ne (ne_of_none e nD)]; exact e, upd_same⟩ ?_ ?_⟩
            · rintro i d H6 hi ⟨s6, h6⟩
              refine ⟨rfl, _, rfl, _, _, rfl, rfl, by decide, d, _, rfl, rfl, _, h6, ?_, ?_⟩
              · rw [List.length_map, List.length_map, List.length_take, ← cd_len]
                exact Nat.lt_of_lt_of_le (show _ < 1000 by omega) (by decide)
              · refine ⟨fun b o e => by rw [upd_ne (ne_of_none e nD)]; exact s6 b o e, ?_⟩
                rw [upd_same]
                obtain ⟨hl6, e'⟩ := List.getElem?_eq_some_iff.mp hi
                rw [List.take_succ_eq_append_getElem hl6, e', List.map_append, List.map_append]
                show some (HO.lst (_ ++ [V.bl (decide (d ∈ cd (("abcdefghijklmnopqrstuvwxyz" : Str) ++ ("0123456789" : Str))))])) = _
                rw [tail_in]
                rfl
            · rintro H6 ⟨s6, h6⟩
              rw [List.take_of_length_le (Nat.le_refl _)] at h6
              refine ⟨D, _, rfl, SqL.of h6, ?_⟩
              have e : isNm (cd x) = ((cd x).map tailC).all id := by
                rw [ec]
                show (lowC c && r.all tailC && decide (r.length ≤ 7)) = (tailC c && (r.map tailC).all id)
                rw [hl', tail_of_low hl', decide_eq_true hr7, List.all_map]
                simp
              have := k H6 s6
              rwa [e] at this
          · refine out ?_
            have hl' : lowC c = false := by
              rw [← el]
              exact Bool.eq_false_iff.mpr hl
            rw [ec]
            simp [isNm, hl']
      · refine ⟨_, rfl, ?_⟩
        refine out ?_
        cases q : isNm (cd x) with
        | false => rfl
        | true =>
          have := isNm_len q
          rw [← cd_len] at this
          exact absurd (decide_eq_true (by omega)) h1
    · refine ⟨_, rfl, _, _, t, .type "str", false, rfl, .ty _, ty, kt, false, rfl, ?_⟩
      exact iteT (iteT k)
end
end RV
namespace RV
open PySem L2
section
variable {P : Program} {w : World} {K : PySem.W.Frag} {mg : Str → Option Value} {base : Heap}
theorem ok_check_names {f : Addr} {fd : FuncData} (F : Fun K "_check_names" "_check_names" s_check_names f fd) (h_is_name : Fn P w K mg base "is_name" 1 ["value"] (Irr (sp_is_name K))) : FnOk P w K mg base CX0 2 f fd ["values"] (sp_check K) := by
  refine F.ok sc_check_names (fun vs H Q E h => ?_) (fun cdv A outer s H vs Q E hr h => ?_)
  · obtain ⟨_, _, rfl, _⟩ := h
    rfl
  · obtain ⟨t, xs, rfl, ht, hx, k⟩ := h
    refine ⟨_, (pss_one (ps_for PassesOwn.never rfl (pi_tup (pv 0)) (pg_name (i := 1) sc_check_names.nd rfl (Or.inl rfl)) (pss_one (ps_if (pt_not (pt_val (pe_fn h_is_name (hr.mono (by decide)) (pa_cons (pv 1) pa_nil)))) (pss_one ps_never) pss_nil)))), ?_⟩
    have sqt : ∀ {H'}, Same H H' → SqT K H' t (xs.map V.str) := fun e => by
      rcases ht with (h | ⟨o, h⟩) | h
      · exact .inl (.inl (e _ _ h))
      · exact .inl (.inr ⟨o, e _ _ h⟩)
      · exact .inr h
    refine ⟨_, rfl, t, rfl, ⟨_, ht⟩, for_tup (K := K) (a := t) (xs := xs.map V.str) (fun i σ H' => Same H H' ∧ ∃ o, σ = [some (.ref t), o]) ⟨Same.refl H, none, rfl⟩ (fun _ _ _ _ h => sqt h.1) ?_ ?_⟩
    · rintro i v σ H' hi ⟨sm, o, rfl⟩
      obtain ⟨y, rfl, hy⟩ : ∃ y, v = V.str y ∧ y ∈ xs := by
        rw [List.getElem?_map] at hi
        cases e : xs[i]? with
        | none => rw [e] at hi; cases hi
        | some y => rw [e] at hi; exact ⟨y, (Option.some.inj hi).symm, List.mem_of_getElem? e⟩
      have hn := hx y hy
      have hl := isNm_len hn
      rw [← cd_len] at hl
      refine ⟨_, rfl, irr ⟨_, rfl, .inl ⟨y, rfl, szn (by omega), fun H2 s2 => ?_⟩⟩⟩
      rw [show isNm (cd y) = true from hn]
      exact ⟨true, rfl, sm.trans s2, _, rfl⟩
    · rintro σ H' ⟨sm, o, rfl⟩
      exact k H' sm
theorem ok_Pipe_i {C f : Addr} {fd : FuncData} (F : Fun K "__init__" "Pipe.__init__" s_Pipe___init__ f fd) (T : PClass K mg C) (h_check_names : Fn P w K mg base "_check_names" 2 ["values"] (Irr (sp_check K))) : FnOk P w K mg base CX0 3 f fd ["self", "name", "start", "end"] (sp_Pipe C) := by
  refine F.ok sc_Pipe___init__ (fun vs H Q E h => ?_) (fun cdv A outer s H vs Q E hr h => ?_)
  · obtain ⟨_, _, _, _, _, rfl, _⟩ := h
    rfl
  · obtain ⟨x, dx, n, st, e, rfl, hx, hn, hs, he, hne, k⟩ := h
    refine ⟨_, (pss_cons (ps_expr (pe_fn h_check_names (hr.mono (by decide)) (pa_cons (pe_tup (pa_cons (pv 1) (pa_cons (pv 2) (pa_cons (pv 3) pa_nil)))) pa_nil)))
      (pss_cons (ps_if (pt_cmpR op_eq (pv 3) (pv 2) (nomark _)) (pss_one ps_never) pss_nil)
      (pss_cons (ps_fld (pv 0) (pv 1) rfl)
      (pss_cons (ps_fld (pv 0) (pv 2) rfl)
      (pss_one (ps_fld (pv 0) (pv 3) rfl)))))), ?_⟩
    refine ⟨_, rfl, _, rfl, _, rfl, (by show 3 ≤ sizeLine; decide), fun p np => irr ⟨p, [n, st, e], rfl, SqT.of upd_same, ?_, fun H1 s1 => ?_⟩⟩
    · intro y hy
      simp only [List.mem_cons, List.not_mem_nil, or_false] at hy
      rcases hy with rfl | rfl | rfl
      · exact hn
      · exact hs
      · exact he
    have hx1 := s1 _ _ (show (upd H p (.tup ([n, st, e].map V.str))) x = _ by rw [upd_ne (ne_of_none hx np)]; exact hx)
    refine ⟨_, rfl, _, rfl, rfl, _, rfl, ?_⟩
    refine ite2 (fun q => absurd (of_decide_eq_true q) fun z => hne (V.str.inj z)) (fun _ => ?_)
    refine ⟨_, rfl, _, rfl, x, C, dx, _, rfl, hx1, T.x.cl, T.n1, (by show 0 < 1000; decide), ?_⟩
    refine ⟨_, rfl, _, rfl, x, C, dx, _, rfl, upd_same, T.x.cl, T.n2, (by have := putF_len "_name" (.str n) []; simp at this ⊢; omega), ?_⟩
    refine ⟨_, rfl, _, rfl, x, C, dx, _, rfl, upd_same, T.x.cl, T.n3, (by have := putF_len "_name" (.str n) []; have := putF_len "_start" (.str st) (putF "_name" (.str n) []); simp at *; omega), ?_⟩
    refine k _ (fun b o hb eb => ?_) ⟨dx, upd_same⟩
    rw [upd_ne hb, upd_ne hb, upd_ne hb]
    exact s1 _ _ (by rw [upd_ne (ne_of_none eb np)]; exact eb)
theorem ok_Meter_i {C f : Addr} {fd : FuncData} {kws : List (Str × V)} (F : FunD K "__init__" "Meter.__init__" (defArgs s_Meter___init__) (defBody s_Meter___init__) (defScope s_Meter___init__) [] kws f fd) (T : MClass K mg C) (h_check_names : Fn P w K mg base "_check_names" 2 ["values"] (Irr (sp_check K))) : FnOk P w K mg base CX0 3 f fd ["self", "name", "at", "sealed"] (sp_Meter C) := by
  refine F.ok sc_Meter___init__ (fun vs H Q E h => ?_) (fun cdv A outer s H vs Q E hr h => ?_)
  · obtain ⟨_, _, _, _, _, rfl, _⟩ := h
    rfl
  · obtain ⟨x, dx, n, a, z, rfl, hx, hn, ha, k⟩ := h
    refine ⟨_, (pss_cons (ps_expr (pe_fn h_check_names (hr.mono (by decide)) (pa_cons (pe_tup (pa_cons (pv 1) (pa_cons (pv 2) pa_nil))) pa_nil)))
      (pss_cons (ps_if (PW.pt (pw_and (pt_cmpR op_isnot_bl (pv 3) pe_bl (nomark _)) (pw_and1 (pt_cmpR op_isnot_bl (pv 3) pe_bl (nomark _))))) (pss_one ps_never) pss_nil)
      (pss_cons (ps_fld (pv 0) (pv 1) rfl)
      (pss_cons (ps_fld (pv 0) (pv 2) rfl)
      (pss_one (ps_fld (pv 0) (pv 3) rfl)))))), ?_⟩
    refine ⟨_, rfl, _, rfl, (by show 2 ≤ sizeLine; decide), fun p np => irr ⟨p, [n, a], rfl, SqT.of upd_same, ?_, fun H1 s1 => ?_⟩⟩
    · intro y hy
      simp only [List.mem_cons, List.not_mem_nil, or_false] at hy
      rcases hy with rfl | rfl
      · exact hn
      · exact ha
    have hx1 := s1 _ _ (show (upd H p (.tup ([n, a].map V.str))) x = _ by rw [upd_ne (ne_of_none hx np)]; exact hx)
    have rest : tSeq (sFld K (tVar 0) (tVar 1) "_name") (tSeq (sFld K (tVar 0) (tVar 2) "_at") (sFld K (tVar 0) (tVar 3) "_sealed")) { nx := fun _ H' => Q .non H', rt := Q } [some (.ref x), some (.str n), some (.str a), some (.bl z)] H1 := by
      refine ⟨_, rfl, _, rfl, x, C, dx, _, rfl, hx1, T.x.cl, T.n1, (by show 0 < 1000; decide), ?_⟩
      refine ⟨_, rfl, _, rfl, x, C, dx, _, rfl, upd_same, T.x.cl, T.n2, (by have := putF_len "_name" (.str n) []; simp at this ⊢; omega), ?_⟩
      refine ⟨_, rfl, _, rfl, x, C, dx, _, rfl, upd_same, T.x.cl, T.n3, (by have := putF_len "_name" (.str n) []; have := putF_len "_at" (.str a) (putF "_name" (.str n) []); simp at *; omega), ?_⟩
      refine k _ (fun b o hb eb => ?_) ⟨dx, upd_same⟩
      rw [upd_ne hb, upd_ne hb, upd_ne hb]
      exact s1 _ _ (by rw [upd_ne (ne_of_none eb np)]; exact eb)
    refine ⟨_, rfl, _, _, rfl, rfl, _, rfl, ?_⟩
    cases z with
    | true => exact rest
    | false => exact ⟨_, rfl, _, _, rfl, rfl, _, rfl, rest⟩
theorem ok_Pipe_q {C f : Addr} {fd : FuncData} (F : Fun K "__eq__" "Pipe.__eq__" s_Pipe___eq__ f fd) (T : PClass K mg C) (B : Blt mg) : FnOk P w K mg base CX0 1 f fd ["self", "other"] (sp_Peq C) := by
  refine F.ok sc_Pipe___eq__ (fun vs H Q E h => ?_) (fun cdv A outer s H vs Q E hr h => ?_)
  · obtain ⟨_, _, _, _, rfl, _⟩ := h
    rfl
  · obtain ⟨a, b, ⟨n, st, e⟩, ⟨n', s', e'⟩, rfl, ⟨dx, ha⟩, ⟨dy, hb⟩, k⟩ := h
    refine ⟨_, (pss_one (ps_ret (pe_and (pe_callB call_isi (by rfl) B.b_isinstance (by decide +kernel) (pa_cons (pv 1) (pa_cons (pe_gC T.k) pa_nil))) (pe_and (pe_cmpR op_eq (pe_fld (pv 0) rfl) (pe_fld (pv 1) rfl) (nomark _)) (pe_and (pe_cmpR op_eq (pe_fld (pv 0) rfl) (pe_fld (pv 1) rfl) (nomark _)) (pe_one (pe_cmpR op_eq (pe_fld (pv 0) rfl) (pe_fld (pv 1) rfl) (nomark _)))))))), ?_⟩
    have dd : decide ((n, st, e) = (n', s', e')) = decide (n = n' ∧ st = s' ∧ e = e') := by simp only [Prod.mk.injEq]
    rw [dd] at k
    refine ⟨_, rfl, _, _, _, .ref C, true, rfl, .own C, T.x.ty hb, T.me, true, rfl, iteT ?_⟩
    refine ⟨_, rfl, a, C, dx, _, _, rfl, ha, T.x.cl, T.n1, pipeF_n _ _ _, _, rfl, b, C, dy, _, _, rfl, hb, T.x.cl, T.n1, pipeF_n _ _ _, rfl, _, rfl, ?_⟩
    refine ite2 (fun h1 => ?_) (fun h1 => ?_)
    · have e1 : n = n' := V.str.inj (of_decide_eq_true h1)
      refine ⟨_, rfl, a, C, dx, _, _, rfl, ha, T.x.cl, T.n2, pipeF_s _ _ _, _, rfl, b, C, dy, _, _, rfl, hb, T.x.cl, T.n2, pipeF_s _ _ _, rfl, _, rfl, ?_⟩
      refine ite2 (fun h2 => ?_) (fun h2 => ?_)
      · have e2 : st = s' := V.str.inj (of_decide_eq_true h2)
        refine ⟨_, rfl, a, C, dx, _, _, rfl, ha, T.x.cl, T.n3, pipeF_e _ _ _, _, rfl, b, C, dy, _, _, rfl, hb, T.x.cl, T.n3, pipeF_e _ _ _, rfl, ?_⟩
        have e3 : decide (V.str e = V.str e') = decide (n = n' ∧ st = s' ∧ e = e') := by
          subst e1 e2
          by_cases q : e = e' <;> simp [q]
        show Q (.bl (decide (V.str e = V.str e'))) H
        rw [e3]
        exact k
      · have : decide (n = n' ∧ st = s' ∧ e = e') = false := decide_eq_false fun z => h2 (decide_eq_true (congrArg V.str z.2.1))
        rw [← this]
        exact k
    · have : decide (n = n' ∧ st = s' ∧ e = e') = false := decide_eq_false fun z => h1 (decide_eq_true (congrArg V.str z.1))
      rw [← this]
      exact k
theorem ok_Meter_q {C f : Addr} {fd : FuncData} (F : Fun K "__eq__" "Meter.__eq__" s_Meter___eq__ f fd) (T : MClass K mg C) (B : Blt mg) : FnOk P w K mg base CX0 1 f fd ["self", "other"] (sp_Meq C) := by
  refine F.ok sc_Meter___eq__ (fun vs H Q E h => ?_) (fun cdv A outer s H vs Q E hr h => ?_)
  · obtain ⟨_, _, _, _, rfl, _⟩ := h
    rfl
  · obtain ⟨a, b, ⟨n, st, e⟩, ⟨n', s', e'⟩, rfl, ⟨dx, ha⟩, ⟨dy, hb⟩, k⟩ := h
    refine ⟨_, (pss_one (ps_ret (pe_and (pe_callB call_isi (by rfl) B.b_isinstance (by decide +kernel) (pa_cons (pv 1) (pa_cons (pe_gC T.k) pa_nil))) (pe_and (pe_cmpR op_eq (pe_fld (pv 0) rfl) (pe_fld (pv 1) rfl) (nomark _)) (pe_and (pe_cmpR op_eq (pe_fld (pv 0) rfl) (pe_fld (pv 1) rfl) (nomark _)) (pe_one (pe_cmpR op_eq (pe_fld (pv 0) rfl) (pe_fld (pv 1) rfl) (nomark _)))))))), ?_⟩
    have dd : decide ((n, st, e) = (n', s', e')) = decide (n = n' ∧ st = s' ∧ e = e') := by simp only [Prod.mk.injEq]
    rw [dd] at k
    refine ⟨_, rfl, _, _, _, .ref C, true, rfl, .own C, T.x.ty hb, T.me, true, rfl, iteT ?_⟩
    refine ⟨_, rfl, a, C, dx, _, _, rfl, ha, T.x.cl, T.n1, metF_n _ _ _, _, rfl, b, C, dy, _, _, rfl, hb, T.x.cl, T.n1, metF_n _ _ _, rfl, _, rfl, ?_⟩
    refine ite2 (fun h1 => ?_) (fun h1 => ?_)
    · have e1 : n = n' := V.str.inj (of_decide_eq_true h1)
      refine ⟨_, rfl, a, C, dx, _, _, rfl, ha, T.x.cl, T.n2, metF_a _ _ _, _, rfl, b, C, dy, _, _, rfl, hb, T.x.cl, T.n2, metF_a _ _ _, rfl, _, rfl, ?_⟩
      refine ite2 (fun h2 => ?_) (fun h2 => ?_)
      · have e2 : st = s' := V.str.inj (of_decide_eq_true h2)
        refine ⟨_, rfl, a, C, dx, _, _, rfl, ha, T.x.cl, T.n3, metF_z _ _ _, _, rfl, b, C, dy, _, _, rfl, hb, T.x.cl, T.n3, metF_z _ _ _, rfl, ?_⟩
        have e3 : decide (V.bl e = V.bl e') = decide (n = n' ∧ st = s' ∧ e = e') := by
          subst e1 e2
          by_cases q : e = e' <;> simp [q]
        show Q (.bl (decide (V.bl e = V.bl e'))) H
        rw [e3]
        exact k
      · have : decide (n = n' ∧ st = s' ∧ e = e') = false := decide_eq_false fun z => h2 (decide_eq_true (congrArg V.str z.2.1))
        rw [← this]
        exact k
    · have : decide (n = n' ∧ st = s' ∧ e = e') = false := decide_eq_false fun z => h1 (decide_eq_true (congrArg V.str z.1))
      rw [← this]
      exact k
theorem ok_Pipe_name {C f : Addr} {fd : FuncData} (F : Fun K "name" "Pipe.name" s_Pipe_name f fd) (T : PClass K mg C) : FnOk P w K mg base CX0 1 f fd ["self"] (sp_pn C) := by
  refine F.ok sc_Pipe_name (fun vs H Q E h => ?_) (fun cdv A outer s H vs Q E hr h => ?_)
  · obtain ⟨_, _, rfl, _⟩ := h
    rfl
  · obtain ⟨a, q, rfl, ⟨dx, ha⟩, k⟩ := h
    refine ⟨_, (pss_one (ps_ret (pe_fld (pv 0) rfl))), ?_⟩
    exact ⟨_, rfl, a, C, dx, _, _, rfl, ha, T.x.cl, T.n1, pipeF_n _ _ _, k⟩
theorem ok_Pipe_start {C f : Addr} {fd : FuncData} (F : Fun K "start" "Pipe.start" s_Pipe_start f fd) (T : PClass K mg C) : FnOk P w K mg base CX0 1 f fd ["self"] (sp_ps C) := by
  refine F.ok sc_Pipe_start (fun vs H Q E h => ?_) (fun cdv A outer s H vs Q E hr h => ?_)
  · obtain ⟨_, _, rfl, _⟩ := h
    rfl
  · obtain ⟨a, q, rfl, ⟨dx, ha⟩, k⟩ := h
    refine ⟨_, (pss_one (ps_ret (pe_fld (pv 0) rfl))), ?_⟩
    exact ⟨_, rfl, a, C, dx, _, _, rfl, ha, T.x.cl, T.n2, pipeF_s _ _ _, k⟩
theorem ok_Pipe_end {C f : Addr} {fd : FuncData} (F : Fun K "end" "Pipe.end" s_Pipe_end f fd) (T : PClass K mg C) : FnOk P w K mg base CX0 1 f fd ["self"] (sp_pe C) := by
  refine F.ok sc_Pipe_end (fun vs H Q E h => ?_) (fun cdv A outer s H vs Q E hr h => ?_)
  · obtain ⟨_, _, rfl, _⟩ := h
    rfl
  · obtain ⟨a, q, rfl, ⟨dx, ha⟩, k⟩ := h
    refine ⟨_, (pss_one (ps_ret (pe_fld (pv 0) rfl))), ?_⟩
    exact ⟨_, rfl, a, C, dx, _, _, rfl, ha, T.x.cl, T.n3, pipeF_e _ _ _, k⟩
theorem ok_Meter_name {C f : Addr} {fd : FuncData} (F : Fun K "name" "Meter.name" s_Meter_name f fd) (T : MClass K mg C) : FnOk P w K mg base CX0 1 f fd ["self"] (sp_mn C) := by
  refine F.ok sc_Meter_name (fun vs H Q E h => ?_) (fun cdv A outer s H vs Q E hr h => ?_)
  · obtain ⟨_, _, rfl, _⟩ := h
    rfl
  · obtain ⟨a, q, rfl, ⟨dx, ha⟩, k⟩ := h
    refine ⟨_, (pss_one (ps_ret (pe_fld (pv 0) rfl))), ?_⟩
    exact ⟨_, rfl, a, C, dx, _, _, rfl, ha, T.x.cl, T.n1, metF_n _ _ _, k⟩
theorem ok_Meter_at {C f : Addr} {fd : FuncData} (F : Fun K "at" "Meter.at" s_Meter_at f fd) (T : MClass K mg C) : FnOk P w K mg base CX0 1 f fd ["self"] (sp_ma C) := by
  refine F.ok sc_Meter_at (fun vs H Q E h => ?_) (fun cdv A outer s H vs Q E hr h => ?_)
  · obtain ⟨_, _, rfl, _⟩ := h
    rfl
  · obtain ⟨a, q, rfl, ⟨dx, ha⟩, k⟩ := h
    refine ⟨_, (pss_one (ps_ret (pe_fld (pv 0) rfl))), ?_⟩
    exact ⟨_, rfl, a, C, dx, _, _, rfl, ha, T.x.cl, T.n2, metF_a _ _ _, k⟩
theorem ok_Meter_sealed {C f : Addr} {fd : FuncData} (F : Fun K "sealed" "Meter.sealed" s_Meter_sealed f fd) (T : MClass K mg C) : FnOk P w K mg base CX0 1 f fd ["self"] (sp_mz C) := by
  refine F.ok sc_Meter_sealed (fun vs H Q E h => ?_) (fun cdv A outer s H vs Q E hr h => ?_)
  · obtain ⟨_, _, rfl, _⟩ := h
    rfl
  · obtain ⟨a, q, rfl, ⟨dx, ha⟩, k⟩ := h
    refine ⟨_, (pss_one (ps_ret (pe_fld (pv 0) rfl))), ?_⟩
    exact ⟨_, rfl, a, C, dx, _, _, rfl, ha, T.x.cl, T.n3, metF_z _ _ _, k⟩
end
end RV
namespace RV
open PySem L2
section
variable {P : Program} {w : World} {K : PySem.W.Frag} {mg : Str → Option Value} {base : Heap} {CN CP CM : Addr}
theorem ok_index_of {f : Addr} {fd : FuncData} (F : Fun K "_index_of" "_index_of" s_index_of f fd) (T : Blt mg) (T2 : Blt2 mg) (h_pn : Prp P w K mg base CP "name" 1 (Irr (sp_pn CP))) : FnOk P w K mg base CX0 3 f fd ["parts", "name"] (sp_index K CP) := by
  refine F.ok sc_index_of (fun vs H Q E h => ?_) (fun cdv A outer s H vs Q E hr h => ?_)
  · obtain ⟨_, _, _, rfl, _⟩ := h
    rfl
  · obtain ⟨t, us, y, rfl, ht, hl, hy, k⟩ := h
    refine ⟨_, (pss_cons (ps_if (pt_not (pt_val (pe_callB call_isi (by rfl) T.b_isinstance (by decide +kernel) (pa_cons (pv 1) (pa_cons (pe_bltn (v := .ty "str") (by rfl) T.b_str (by decide +kernel) rfl) pa_nil))))) (pss_one (ps_ret pe_non)) pss_nil)
      (pss_cons (ps_for PassesOwn.never rfl (pi_enumT (by rfl) T2.b_enumerate (pa_cons (pv 0) pa_nil)) (pg_tup (by rfl) (pgs_cons (pg_name (i := 2) sc_index_of.nd rfl (Or.inl rfl)) (pgs_cons (pg_name (i := 3) sc_index_of.nd rfl (Or.inl rfl)) pgs_nil))) (pss_one (ps_if (pt_cmpR op_eq (pe_propN h_pn (hr.mono (by decide)) (pv 3)) (pv 1) (nomark _)) (pss_one (ps_ret (pv 2))) pss_nil)))
      (pss_one (ps_ret pe_non)))), ?_⟩
    refine ⟨_, rfl, _, _, .type "str", .type "str", true, rfl, .ty _, .base (.str _), kit_ty (by decide +kernel), true, rfl, iteF ?_⟩
    refine ⟨_, rfl, t, _, rfl, ht.t, for_enumT (xs := rf us) (fun i σ H' => (∃ o2 o3, σ = [some (.ref t), some (.str y), o2, o3]) ∧ Same H H' ∧ ∀ j q, j < i → (sn us)[j]? = some q → q.1 ≠ y) ⟨⟨none, none, rfl⟩, fun _ _ e => e, fun j q hj => absurd hj (Nat.not_lt_zero j)⟩ ?_ ?_ ?_⟩
    · rintro i σ H1 _ ⟨_, s1, _⟩
      exact ht.t.ext s1
    · rintro i x σ H1 T' hx' ⟨⟨o1, o2, rfl⟩, s1, hj⟩ nT
      rw [rf, List.getElem?_map] at hx'
      cases hu : us[i]? with
      | none => rw [hu] at hx'; cases hx'
      | some u =>
        rw [hu] at hx'
        obtain rfl : V.ref u.1 = x := Option.some.inj hx'
        have hm := List.mem_of_getElem? hu
        have s2 : Same H (upd H1 T' (.tup [.int (i : Nat), .ref u.1])) := fun b o e => by
          rw [upd_ne (ne_of_none (s1 b o e) nT)]
          exact s1 b o e
        obtain ⟨dx, ex⟩ := (ht.o u hm).ext s2
        refine ⟨T', _, rfl, SqT.of upd_same, rfl, _, _, rfl, _, _, rfl, rfl, ?_⟩
        refine ⟨_, rfl, u.1, dx, _, rfl, ex, irr ⟨u.1, u.2, rfl, ⟨dx, ex⟩, _, rfl, rfl, _, rfl, ?_⟩⟩
        refine ite2 (fun hq => ⟨_, rfl, k _ _ (by rw [sn, List.getElem?_map, hu]; exact congrArg some (V.str.inj (of_decide_eq_true hq))) s2⟩) fun hne => ?_
        refine ⟨⟨_, _, rfl⟩, s2, fun j q hji hq => ?_⟩
        by_cases e : j = i
        · subst e
          rw [sn, List.getElem?_map, hu] at hq
          obtain rfl : u.2 = q := Option.some.inj hq
          exact fun z => hne (decide_eq_true (congrArg V.str z))
        · exact hj j q (by omega) hq
    · rintro σ H1 ⟨⟨o1, o2, rfl⟩, s1, hj⟩
      obtain ⟨q, hq, e⟩ := List.mem_map.mp hy
      obtain ⟨j, hlt, ej⟩ := List.mem_iff_getElem.mp hq
      exact absurd e (hj j q (by rw [rf_len]; rwa [sn_len] at hlt) (by rw [List.getElem?_eq_getElem hlt, ej]))
/-- how many pipes and meters there may be -/
structure Cst3 (mg : Str → Option Value) : Prop where
  pipes : ∃ u, mg "MOST_PIPES" = some u ∧ RelV (.int 12) u
  meters : ∃ u, mg "MOST_METERS" = some u ∧ RelV (.int 12) u
theorem ok_check_pipes {f : Addr} {fd : FuncData} (F : Fun K "_check_pipes" "_check_pipes" s_check_pipes f fd) (T : Blt mg) (T2 : Blt2 mg) (C3 : Cst3 mg) (PC : PClass K mg CP) (h_pn : Prp P w K mg base CP "name" 1 (Irr (sp_pn CP))) : FnOk P w K mg base CX0 3 f fd ["pipes"] (sp_chkP K CP) := by
  refine F.ok sc_check_pipes (fun vs H Q E h => ?_) (fun cdv A outer s H vs Q E hr h => ?_)
  · obtain ⟨_, _, rfl, _⟩ := h
    rfl
  · obtain ⟨t, us, rfl, ht, po, k⟩ := h
    refine ⟨_, (pss_cons (ps_if (PW.pt (pw_or (pt_not (pt_val (pe_callB call_isi (by rfl) T.b_isinstance (by decide +kernel) (pa_cons (pv 0) (pa_cons (pe_bltn (v := .ty "tuple") (by rfl) T2.b_tuple (by decide +kernel) rfl) pa_nil))))) (pw_or1 (pt_not (pt_truth (pv 0) (by intro _; rfl)))))) (pss_one ps_never) pss_nil)
      (pss_cons (ps_set (i := 1) sc_check_pipes.nd rfl (Or.inl rfl) (pe_lst pa_nil))
      (pss_one (ps_for PassesOwn.never rfl (pi_enumT (by rfl) T2.b_enumerate (pa_cons (pv 0) pa_nil)) (pg_tup (by rfl) (pgs_cons (pg_name (i := 2) sc_check_pipes.nd rfl (Or.inl rfl)) (pgs_cons (pg_name (i := 3) sc_check_pipes.nd rfl (Or.inl rfl)) pgs_nil))) (pss_cons (ps_if (PW.pt (pw_or (pt_not (pt_val (pe_callB call_isi (by rfl) T.b_isinstance (by decide +kernel) (pa_cons (pv 3) (pa_cons (pe_gC PC.k) pa_nil))))) (pw_or (pt_cmpR op_in_seq (pe_propN h_pn (hr.mono (by decide)) (pv 3)) (pv 1) (by rfl)) (pw_or1 (pt_cmpR op_ge (pv 2) (pe_gI C3.pipes) (nomark _)))))) (pss_one ps_never) pss_nil) (pss_one (ps_expr (pe_bm PySem.F.plainAttrs_list PySem.F.slot_list_append PySem.F.type_list_append mt_append (pv 1) (pa_cons (pe_propN h_pn (hr.mono (by decide)) (pv 3)) pa_nil))))))))), ?_⟩
    refine ⟨_, rfl, _, _, .type "tuple", .type "tuple", true, rfl, .ty _, tyx_tup ht.t, kit_ty (by decide +kernel), true, rfl, iteF ?_⟩
    have une : (rf us).isEmpty = false := by
      cases us with
      | nil => exact absurd rfl po.n0
      | cons u us => rfl
    refine ⟨_, rfl, true, .inr (.inl ⟨rf us, ht.t, by rw [une]; rfl⟩), iteF ?_⟩
    refine ⟨by decide, fun nl nn => ?_⟩
    have ul : us.length ≤ 12 := by rw [← sn_len]; exact po.ln
    dsimp only [gName]
    refine ⟨_, rfl, t, _, rfl, ht.t.ext (fun b o e => by rw [upd_ne (ne_of_none e nn)]; exact e), for_enumT (xs := rf us) (fun i σ H' => (∃ o2 o3, σ = [some (.ref t), some (.ref nl), o2, o3]) ∧ Same H H' ∧ H' nl = some (.lst ((((sn us).take i).map (·.1)).map V.str))) ⟨⟨none, none, rfl⟩, fun b o e => by rw [upd_ne (ne_of_none e nn)]; exact e, upd_same⟩ ?_ ?_ ?_⟩
    · rintro i σ H1 _ ⟨_, s1, _⟩
      exact ht.t.ext s1
    · rintro i x σ H1 T' hx' ⟨⟨o1, o2, rfl⟩, s1, e1⟩ nT
      rw [rf, List.getElem?_map] at hx'
      cases hu : us[i]? with
      | none => rw [hu] at hx'; cases hx'
      | some u =>
        rw [hu] at hx'
        obtain rfl : V.ref u.1 = x := Option.some.inj hx'
        have hm := List.mem_of_getElem? hu
        have hlt := (List.getElem?_eq_some_iff.mp hu).1
        have s2 : Same H (upd H1 T' (.tup [.int (i : Nat), .ref u.1])) := fun b o e => by
          rw [upd_ne (ne_of_none (s1 b o e) nT)]
          exact s1 b o e
        have e2 := (upd_ne (o := .tup [.int (i : Nat), .ref u.1]) (ne_of_none e1 nT)).trans e1
        obtain ⟨dx, ex⟩ := (ht.o u hm).ext s2
        have hsn : (sn us)[i]? = some u.2 := by rw [sn, List.getElem?_map, hu]; rfl
        refine ⟨T', _, rfl, SqT.of upd_same, rfl, _, _, rfl, _, _, rfl, rfl, ?_⟩
        refine ⟨_, rfl, _, _, _, .ref CP, true, rfl, .own CP, PC.x.ty ex, PC.me, true, rfl, iteF ?_⟩
        refine ⟨_, rfl, u.1, dx, _, rfl, ex, irr ⟨u.1, u.2, rfl, ⟨dx, ex⟩, _, rfl, nl, _, rfl, .inl (SqL.of e2), rfl, strs_flat _, ?_⟩⟩
        rw [inV_str, decide_eq_false (nodup_take po.nd hsn)]
        refine ⟨_, rfl, iteF ⟨_, rfl, _, _, rfl, rfl, _, rfl, ?_⟩⟩
        refine ite2 (fun h => ?_) fun _ => ?_
        · have := of_decide_eq_true h
          omega
        refine ⟨_, rfl, .inl ⟨rfl, _, SqL.of e2⟩, _, rfl, u.1, dx, _, rfl, ex, irr ⟨u.1, u.2, rfl, ⟨dx, ex⟩, nl, _, _, rfl, rfl, e2, ?_, ⟨_, _, rfl⟩, fun b o e => ?_, ?_⟩⟩
        · rw [List.length_map, List.length_map]
          exact Nat.lt_of_le_of_lt (List.length_take_le _ _) (Nat.lt_of_lt_of_le (show i < 13 by omega) (by decide))
        · rw [upd_ne (ne_of_none e nn)]
          exact s2 b o e
        · rw [upd_same, List.take_add_one, hsn]
          simp
    · rintro σ H1 ⟨⟨o1, o2, rfl⟩, s1, _⟩
      exact k H1 s1
end
end RV
namespace RV
open PySem L2
section
variable {P : Program} {w : World} {K : PySem.W.Frag} {mg : Str → Option Value} {base : Heap} {CN CP CM : Addr}
theorem ok_check_meters {f : Addr} {fd : FuncData} (F : Fun K "_check_meters" "_check_meters" s_check_meters f fd) (T : Blt mg) (T2 : Blt2 mg) (C3 : Cst3 mg) (MC : MClass K mg CM) (h_mn : Prp P w K mg base CM "name" 1 (Irr (sp_mn CM))) (h_ma : Prp P w K mg base CM "at" 1 (Irr (sp_ma CM))) (h_index_of : Fn P w K mg base "_index_of" 3 ["parts", "name"] (Irr (sp_index K CP))) : FnOk P w K mg base CX0 4 f fd ["meters", "pipes"] (sp_chkM K CP CM) := by
  refine F.ok sc_check_meters (fun vs H Q E h => ?_) (fun cdv A outer s H vs Q E hr h => ?_)
  · obtain ⟨_, _, _, _, rfl, _⟩ := h
    rfl
  · obtain ⟨t, tp, us, pu, rfl, ht, hp, pl, mo, k⟩ := h
    refine ⟨_, (pss_cons (ps_if (pt_not (pt_val (pe_callB call_isi (by rfl) T.b_isinstance (by decide +kernel) (pa_cons (pv 0) (pa_cons (pe_bltn (v := .ty "tuple") (by rfl) T2.b_tuple (by decide +kernel) rfl) pa_nil))))) (pss_one ps_never) pss_nil)
      (pss_cons (ps_set (i := 2) sc_check_meters.nd rfl (Or.inl rfl) (pe_lst pa_nil))
      (pss_one (ps_for PassesOwn.never rfl (pi_enumT (by rfl) T2.b_enumerate (pa_cons (pv 0) pa_nil)) (pg_tup (by rfl) (pgs_cons (pg_name (i := 3) sc_check_meters.nd rfl (Or.inl rfl)) (pgs_cons (pg_name (i := 4) sc_check_meters.nd rfl (Or.inl rfl)) pgs_nil))) (pss_cons (ps_if (PW.pt (pw_or (pt_not (pt_val (pe_callB call_isi (by rfl) T.b_isinstance (by decide +kernel) (pa_cons (pv 4) (pa_cons (pe_gC MC.k) pa_nil))))) (pw_or (pt_cmpR op_in_seq (pe_propN h_mn (hr.mono (by decide)) (pv 4)) (pv 2) (by rfl)) (pw_or1 (pt_cmpR op_ge (pv 3) (pe_gI C3.meters) (nomark _)))))) (pss_one ps_never) pss_nil) (pss_cons (ps_if (pt_cmpR op_isN (pe_fn h_index_of (hr.mono (by decide)) (pa_cons (pv 1) (pa_cons (pe_propN h_ma (hr.mono (by decide)) (pv 4)) pa_nil))) pe_non (nomark _)) (pss_one ps_never) pss_nil) (pss_one (ps_expr (pe_bm PySem.F.plainAttrs_list PySem.F.slot_list_append PySem.F.type_list_append mt_append (pv 2) (pa_cons (pe_propN h_mn (hr.mono (by decide)) (pv 4)) pa_nil)))))))))), ?_⟩
    refine ⟨_, rfl, _, _, .type "tuple", .type "tuple", true, rfl, .ty _, tyx_tup ht.t, kit_ty (by decide +kernel), true, rfl, iteF ?_⟩
    refine ⟨by decide, fun nl nn => ?_⟩
    have ul : us.length ≤ 12 := by rw [← sn_len]; exact mo.ln
    dsimp only [gName]
    refine ⟨_, rfl, t, _, rfl, ht.t.ext (fun b o e => by rw [upd_ne (ne_of_none e nn)]; exact e), for_enumT (xs := rf us) (fun i σ H' => (∃ o3 o4, σ = [some (.ref t), some (.ref tp), some (.ref nl), o3, o4]) ∧ Same H H' ∧ H' nl = some (.lst ((((sn us).take i).map (·.1)).map V.str))) ⟨⟨none, none, rfl⟩, fun b o e => by rw [upd_ne (ne_of_none e nn)]; exact e, upd_same⟩ ?_ ?_ ?_⟩
    · rintro i σ H1 _ ⟨_, s1, _⟩
      exact ht.t.ext s1
    · rintro i x σ H1 T' hx' ⟨⟨o1, o2, rfl⟩, s1, e1⟩ nT
      rw [rf, List.getElem?_map] at hx'
      cases hu : us[i]? with
      | none => rw [hu] at hx'; cases hx'
      | some u =>
        rw [hu] at hx'
        obtain rfl : V.ref u.1 = x := Option.some.inj hx'
        have hm := List.mem_of_getElem? hu
        have hlt := (List.getElem?_eq_some_iff.mp hu).1
        have s2 : Same H (upd H1 T' (.tup [.int (i : Nat), .ref u.1])) := fun b o e => by
          rw [upd_ne (ne_of_none (s1 b o e) nT)]
          exact s1 b o e
        have e2 := (upd_ne (o := .tup [.int (i : Nat), .ref u.1]) (ne_of_none e1 nT)).trans e1
        have mu := (ht.o u hm).ext s2
        obtain ⟨dx, ex⟩ := id mu
        have hsn : (sn us)[i]? = some u.2 := by rw [sn, List.getElem?_map, hu]; rfl
        refine ⟨T', _, rfl, SqT.of upd_same, rfl, _, _, rfl, _, _, rfl, rfl, ?_⟩
        refine ⟨_, rfl, _, _, _, .ref CM, true, rfl, .own CM, MC.x.ty ex, MC.me, true, rfl, iteF ?_⟩
        refine ⟨_, rfl, u.1, dx, _, rfl, ex, irr ⟨u.1, u.2, rfl, mu, _, rfl, nl, _, rfl, .inl (SqL.of e2), rfl, strs_flat _, ?_⟩⟩
        rw [inV_str, decide_eq_false (nodup_take mo.nd hsn)]
        refine ⟨_, rfl, iteF ⟨_, rfl, _, _, rfl, rfl, _, rfl, ?_⟩⟩
        refine ite2 (fun h => ?_) fun _ => ?_
        · have := of_decide_eq_true h
          omega
        refine ⟨_, rfl, _, rfl, u.1, dx, _, rfl, ex, irr ⟨u.1, u.2, rfl, mu, irr ⟨tp, pu, u.2.2.1, rfl, hp.ext s2, pl, mo.on u.2 (List.mem_of_getElem? hsn), fun ix H2 _ s3 => ?_⟩⟩⟩
        refine ⟨rfl, _, rfl, iteF ?_⟩
        have e3 := s3 _ _ e2
        have mu3 := mu.ext s3
        obtain ⟨dx3, ex3⟩ := id mu3
        refine ⟨_, rfl, .inl ⟨rfl, _, SqL.of e3⟩, _, rfl, u.1, dx3, _, rfl, ex3, irr ⟨u.1, u.2, rfl, mu3, nl, _, _, rfl, rfl, e3, ?_, ⟨_, _, rfl⟩, fun b o e => ?_, ?_⟩⟩
        · rw [List.length_map, List.length_map]
          exact Nat.lt_of_le_of_lt (List.length_take_le _ _) (Nat.lt_of_lt_of_le (show i < 13 by omega) (by decide))
        · rw [upd_ne (ne_of_none e nn)]
          exact s3 _ _ (s2 b o e)
        · rw [upd_same, List.take_add_one, hsn]
          simp
    · rintro σ H1 ⟨⟨o1, o2, rfl⟩, s1, _⟩
      exact k H1 s1
theorem ok_Net_i {f : Addr} {fd : FuncData} {pds : List V} {kws : List (Str × V)} (F : FunD K "__init__" "Net.__init__" (defArgs s_Net___init__) (defBody s_Net___init__) (defScope s_Net___init__) pds kws f fd) (T : NClass K mg CN) (h_check_pipes : Fn P w K mg base "_check_pipes" 3 ["pipes"] (Irr (sp_chkP K CP))) (h_check_meters : Fn P w K mg base "_check_meters" 4 ["meters", "pipes"] (Irr (sp_chkM K CP CM))) : FnOk P w K mg base CX0 5 f fd ["self", "pipes", "meters"] (sp_Net K CN CP CM) := by
  refine F.ok sc_Net___init__ (fun vs H Q E h => ?_) (fun cdv A outer s H vs Q E hr h => ?_)
  · obtain ⟨_, _, _, _, _, _, rfl, _⟩ := h
    rfl
  · obtain ⟨x, dx, tp, tm, pu, mu, rfl, hx, hp, hm, po, mo, k⟩ := h
    refine ⟨_, (pss_cons (ps_expr (pe_fn h_check_pipes (hr.mono (by decide)) (pa_cons (pv 1) pa_nil)))
      (pss_cons (ps_expr (pe_fn h_check_meters (hr.mono (by decide)) (pa_cons (pv 2) (pa_cons (pv 1) pa_nil))))
      (pss_cons (ps_fld (pv 0) (pv 1) rfl)
      (pss_one (ps_fld (pv 0) (pv 2) rfl))))), ?_⟩
    refine ⟨_, rfl, irr ⟨tp, pu, rfl, hp, po, fun H1 s1 => ?_⟩⟩
    refine ⟨_, rfl, _, rfl, irr ⟨tm, tp, mu, pu, rfl, hm.ext s1, hp.ext s1, by rw [← sn_len]; exact po.ln, mo, fun H2 s2 => ?_⟩⟩
    have hx2 := s2 _ _ (s1 _ _ hx)
    refine ⟨_, rfl, _, rfl, x, CN, dx, _, rfl, hx2, T.x.cl, T.n1, (by show 0 < 1000; decide), ?_⟩
    refine ⟨_, rfl, _, rfl, x, CN, dx, _, rfl, upd_same, T.x.cl, T.n2, (by have := putF_len "_pipes" (.ref tp) []; simp at this ⊢; omega), ?_⟩
    refine k _ (fun b o hb eb => ?_) ⟨dx, upd_same⟩
    rw [upd_ne hb, upd_ne hb]
    exact s2 _ _ (s1 _ _ eb)
/-- the tuple of a net's pipes, of a net's meters -/
def sp_npi (CN : Addr) : Sp := fun vs H Q _ => ∃ (a dx tp tm : Addr), vs = [.ref a] ∧ H a = some (.ins CN dx (netF tp tm)) ∧ Q (.ref tp) H
def sp_nme (CN : Addr) : Sp := fun vs H Q _ => ∃ (a dx tp tm : Addr), vs = [.ref a] ∧ H a = some (.ins CN dx (netF tp tm)) ∧ Q (.ref tm) H
def sp_nlen (K : PySem.W.Frag) (CN : Addr) : Sp := fun vs H Q _ => ∃ (a dx tp tm : Addr) (xs : List V), vs = [.ref a] ∧ H a = some (.ins CN dx (netF tp tm)) ∧ SqT K H tp xs ∧ ∃ n : Nat, n = xs.length ∧ n < 2 ^ 62 ∧ Q (.int n) H
theorem ok_Net_p {f : Addr} {fd : FuncData} (F : Fun K "pipes" "Net.pipes" s_Net_pipes f fd) (T : NClass K mg CN) : FnOk P w K mg base CX0 1 f fd ["self"] (sp_npi CN) := by
  refine F.ok sc_Net_pipes (fun vs H Q E h => ?_) (fun cdv A outer s H vs Q E hr h => ?_)
  · obtain ⟨_, _, _, _, rfl, _⟩ := h
    rfl
  · obtain ⟨a, dx, tp, tm, rfl, ha, k⟩ := h
    refine ⟨_, (pss_one (ps_ret (pe_fld (pv 0) rfl))), ?_⟩
    exact ⟨_, rfl, a, CN, dx, _, _, rfl, ha, T.x.cl, T.n1, netF_p _ _, k⟩
theorem ok_Net_m {f : Addr} {fd : FuncData} (F : Fun K "meters" "Net.meters" s_Net_meters f fd) (T : NClass K mg CN) : FnOk P w K mg base CX0 1 f fd ["self"] (sp_nme CN) := by
  refine F.ok sc_Net_meters (fun vs H Q E h => ?_) (fun cdv A outer s H vs Q E hr h => ?_)
  · obtain ⟨_, _, _, _, rfl, _⟩ := h
    rfl
  · obtain ⟨a, dx, tp, tm, rfl, ha, k⟩ := h
    refine ⟨_, (pss_one (ps_ret (pe_fld (pv 0) rfl))), ?_⟩
    exact ⟨_, rfl, a, CN, dx, _, _, rfl, ha, T.x.cl, T.n2, netF_m _ _, k⟩
theorem ok_Net_l {f : Addr} {fd : FuncData} (F : Fun K "__len__" "Net.__len__" s_Net___len__ f fd) (T : NClass K mg CN) (B : Blt mg) : FnOk P w K mg base CX0 1 f fd ["self"] (sp_nlen K CN) := by
  refine F.ok sc_Net___len__ (fun vs H Q E h => ?_) (fun cdv A outer s H vs Q E hr h => ?_)
  · obtain ⟨_, _, _, _, _, rfl, _⟩ := h
    rfl
  · obtain ⟨a, dx, tp, tm, xs, rfl, ha, ht, n, en, nb, k⟩ := h
    refine ⟨_, (pss_one (ps_ret (pe_callB call_len_seq (by rfl) B.b_len (by decide +kernel) (pa_cons (pe_fld (pv 0) rfl) pa_nil)))), ?_⟩
    refine ⟨_, rfl, a, CN, dx, _, _, rfl, ha, T.x.cl, T.n1, netF_p _ _, tp, xs, rfl, .inr ht, ?_⟩
    rw [← en]
    exact k
end
end RV
namespace RV
open PySem L2 TL
section
variable {P : Program} {w : World} {K : PySem.W.Frag} {mg : Str → Option Value} {base : Heap} {CN CP CM : Addr}
theorem ok_pipe_line {f : Addr} {fd : FuncData} (F : Fun K "_pipe_line" "_pipe_line" s_pipe_line f fd) (h_pn : Prp P w K mg base CP "name" 1 (Irr (sp_pn CP))) (h_ps : Prp P w K mg base CP "start" 1 (Irr (sp_ps CP))) (h_pe : Prp P w K mg base CP "end" 1 (Irr (sp_pe CP))) : FnOk P w K mg base CX0 3 f fd ["part"] (sp_pline CP) := by
  refine F.ok sc_pipe_line (fun vs H Q E h => ?_) (fun cdv A outer s H vs Q E hr h => ?_)
  · obtain ⟨_, _, rfl, _⟩ := h
    rfl
  · obtain ⟨a, q, rfl, ha, h1, h2, h3, k⟩ := h
    refine ⟨_, (pss_one (ps_ret (pe_joined (.cons pe_str (.cons (pe_fmt (pe_propN h_pn (hr.mono (by decide)) (pv 0))) (.cons pe_str (.cons (pe_fmt (pe_propN h_ps (hr.mono (by decide)) (pv 0))) (.cons pe_str (.cons (pe_fmt (pe_propN h_pe (hr.mono (by decide)) (pv 0))) .nil))))))))), ?_⟩
    obtain ⟨dx, ea⟩ := id ha
    have l1 := nm8 h1
    have l2 := nm8 h2
    have l3 := nm8 h3
    have e1 : Str.length " " = 1 := by decide +kernel
    have e2 : Str.length Str.empty = 0 := by decide +kernel
    have e3 : Str.length "pipe " = 5 := by decide +kernel
    refine ⟨_, rfl, ?_, _, rfl, a, dx, _, rfl, ea, irr ⟨a, q, rfl, ha, .inl ⟨_, rfl, szn (by omega), _, rfl, ?_, _, rfl, ?_, _, rfl, a, dx, _, rfl, ea, irr ⟨a, q, rfl, ha, .inl ⟨_, rfl, szn (by omega), _, rfl, ?_, _, rfl, ?_, _, rfl, a, dx, _, rfl, ea, irr ⟨a, q, rfl, ha, .inl ⟨_, rfl, szn (by omega), _, rfl, ?_, k⟩⟩⟩⟩⟩⟩⟩
    all_goals (repeat rw [sl_app]); rw [e2, e3]; try rw [e1]
    all_goals exact szn (by omega)
theorem ok_meter_line {f : Addr} {fd : FuncData} (F : Fun K "_meter_line" "_meter_line" s_meter_line f fd) (h_mn : Prp P w K mg base CM "name" 1 (Irr (sp_mn CM))) (h_ma : Prp P w K mg base CM "at" 1 (Irr (sp_ma CM))) (h_mz : Prp P w K mg base CM "sealed" 1 (Irr (sp_mz CM))) : FnOk P w K mg base CX0 3 f fd ["part"] (sp_mline CM) := by
  refine F.ok sc_meter_line (fun vs H Q E h => ?_) (fun cdv A outer s H vs Q E hr h => ?_)
  · obtain ⟨_, _, rfl, _⟩ := h
    rfl
  · obtain ⟨a, q, rfl, ha, h1, h2, k⟩ := h
    refine ⟨_, (pss_cons (ps_set (i := 1) sc_meter_line.nd rfl (Or.inl rfl) (pe_ifExp (pt_val (pe_propN h_mz (hr.mono (by decide)) (pv 0))) pe_str pe_str))
      (pss_one (ps_ret (pe_joined (.cons pe_str (.cons (pe_fmt (pe_propN h_mn (hr.mono (by decide)) (pv 0))) (.cons pe_str (.cons (pe_fmt (pe_propN h_ma (hr.mono (by decide)) (pv 0))) (.cons (pe_fmt (pv 1)) .nil))))))))), ?_⟩
    obtain ⟨dx, ea⟩ := id ha
    have l1 := nm8 h1
    have l2 := nm8 h2
    have e1 : Str.length " " = 1 := by decide +kernel
    have e2 : Str.length Str.empty = 0 := by decide +kernel
    have e3 : Str.length "meter " = 6 := by decide +kernel
    have e4 : ∀ z, (mseal z).length ≤ 7 := fun z => by
      cases z
      · show Str.length "" ≤ 7
        decide +kernel
      · show Str.length " sealed" ≤ 7
        decide +kernel
    have l4 := e4 q.2.2
    refine seq_of (fun σ' H' => σ' = [some (.ref a), some (.str (mseal q.2.2))] ∧ H' = H) ?rest (fun N hN => ?main)
    case main =>
      refine ⟨_, rfl, a, dx, _, rfl, ea, irr ⟨a, q, rfl, ha, q.2.2, rfl, ?_⟩⟩
      cases hz : q.2.2 with
      | true => exact iteT (hN _ _ ⟨by rw [hz]; rfl, rfl⟩)
      | false => exact iteF (hN _ _ ⟨by rw [hz]; rfl, rfl⟩)
    rintro σ1 H1 ⟨rfl, rfl⟩
    refine ⟨_, rfl, ?_, _, rfl, a, dx, _, rfl, ea, irr ⟨a, q, rfl, ha, .inl ⟨_, rfl, szn (by omega), _, rfl, ?_, _, rfl, ?_, _, rfl, a, dx, _, rfl, ea, irr ⟨a, q, rfl, ha, .inl ⟨_, rfl, szn (by omega), _, rfl, ?_, _, rfl, .inl ⟨_, rfl, szn (by omega), _, rfl, ?_, k⟩⟩⟩⟩⟩⟩
    all_goals (repeat rw [sl_app]); rw [e2, e3]; try rw [e1]
    all_goals exact szn (by omega)
end
end RV
namespace RV
open PySem L2 TL
section
variable {P : Program} {w : World} {K : PySem.W.Frag} {mg : Str → Option Value} {base : Heap} {CN CP CM : Addr}
theorem ok_lines {f : Addr} {fd : FuncData} (F : Fun K "_lines" "_lines" s_lines f fd) (h_pipe_line : Fn P w K mg base "_pipe_line" 3 ["part"] (Irr (sp_pline CP))) (h_meter_line : Fn P w K mg base "_meter_line" 3 ["part"] (Irr (sp_mline CM))) : FnOk P w K mg base CX0 4 f fd ["pipes", "meters"] (sp_lines K CP CM) := by
  refine F.ok sc_lines (fun vs H Q E h => ?_) (fun cdv A outer s H vs Q E hr h => ?_)
  · obtain ⟨_, _, _, _, rfl, _⟩ := h
    rfl
  · obtain ⟨tp, tm, pu, mu, rfl, hp, hm, np, nm, pl, ml, k⟩ := h
    refine ⟨_, (pss_one (ps_ret (pe_op op_cat (pe_lc (own := [("part", 2)]) (g := gName 2) (tt := tYes) rfl sc_lines.nd (pi_tup (pv 0)) (blkOk_by (N := sc_lines_N) (sc := defScope s_lines) (by decide +kernel)) (fun _ _ _ _ _ => pg_name (i := 2) sc_lines.nd rfl (Or.inl rfl)) (fun _ _ _ _ _ => pts_nil) (fun _ _ _ _ _ => (pe_fn h_pipe_line (hr.mono (by decide)) (pa_cons (pv 2) pa_nil)))) (pe_lc (own := [("part", 2)]) (g := gName 2) (tt := tYes) rfl sc_lines.nd (pi_tup (pv 1)) (blkOk_by (N := sc_lines_N) (sc := defScope s_lines) (by decide +kernel)) (fun _ _ _ _ _ => pg_name (i := 2) sc_lines.nd rfl (Or.inl rfl)) (fun _ _ _ _ _ => pts_nil) (fun _ _ _ _ _ => (pe_fn h_meter_line (hr.mono (by decide)) (pa_cons (pv 2) pa_nil))))))), ?_⟩
    refine ⟨_, rfl, tp, rfl, ⟨_, hp.t⟩, fun D nD => lc_to (xs := rf pu) (((sn pu).map pline).map V.str) (by rw [List.length_map, List.length_map, sn_len, rf_len]) walk_tup nD (by rw [rf_len]; omega) (fun H' s' => hp.t.ext s') (fun _ => rfl) (fun j x y hx hy H2 s2 R kR => ?_) fun H2 s2 hD => ?_⟩
    · rw [rf, List.getElem?_map] at hx
      cases hu : pu[j]? with
      | none => rw [hu] at hx; cases hx
      | some u =>
        rw [hu] at hx
        obtain rfl : V.ref u.1 = x := Option.some.inj hx
        rw [List.getElem?_map, List.getElem?_map, sn, List.getElem?_map, hu] at hy
        obtain rfl : V.str (pline u.2) = y := Option.some.inj hy
        have hm := List.mem_of_getElem? hu
        have n := np u.2 (List.mem_map.mpr ⟨u, hm, rfl⟩)
        exact ⟨_, rfl, irr ⟨u.1, u.2, rfl, (hp.o u hm).ext s2, n.1, n.2.1, n.2.2, kR _ (Same.refl _)⟩⟩
    refine ⟨_, rfl, tm, rfl, ⟨_, hm.t.ext s2⟩, fun D2 nD2 => lc_to (xs := rf mu) (((sn mu).map mline).map V.str) (by rw [List.length_map, List.length_map, sn_len, rf_len]) walk_tup nD2 (by rw [rf_len]; omega) (fun H' s' => (hm.t.ext s2).ext s') (fun _ => rfl) (fun j x y hx hy H3 s3 R kR => ?_) fun H3 s3 hD2 => ?_⟩
    · rw [rf, List.getElem?_map] at hx
      cases hu : mu[j]? with
      | none => rw [hu] at hx; cases hx
      | some u =>
        rw [hu] at hx
        obtain rfl : V.ref u.1 = x := Option.some.inj hx
        rw [List.getElem?_map, List.getElem?_map, sn, List.getElem?_map, hu] at hy
        obtain rfl : V.str (mline u.2) = y := Option.some.inj hy
        have hmu := List.mem_of_getElem? hu
        have n := nm u.2 (List.mem_map.mpr ⟨u, hmu, rfl⟩)
        exact ⟨_, rfl, irr ⟨u.1, u.2, rfl, ((hm.o u hmu).ext s2).ext s3, n.1, n.2, kR _ (Same.refl _)⟩⟩
    refine ⟨D, D2, _, _, rfl, rfl, s3 _ _ hD, hD2, ?_, fun lo nlo => ?_⟩
    · simp only [List.length_map, sn_len]
      exact Nat.le_trans (show pu.length + mu.length ≤ 40 by omega) (by decide)
    · refine k lo _ ⟨fun b o e => ?_, fun p hp => ?_⟩
      · rw [upd_ne (ne_of_none (s3 _ _ (s2 _ _ e)) nlo)]
        exact s3 _ _ (s2 _ _ e)
      · rw [List.mem_singleton.mp hp]
        refine ⟨?_, by rw [upd_same, netL, List.map_append]⟩
        show H lo = none
        cases e : H lo with
        | none => rfl
        | some o => rw [s3 _ _ (s2 _ _ e)] at nlo; cases nlo
theorem ok_Net_s {f : Addr} {fd : FuncData} (F : Fun K "__str__" "Net.__str__" s_Net___str__ f fd) (T : NClass K mg CN) (h_lines : Fn P w K mg base "_lines" 4 ["pipes", "meters"] (Irr (sp_lines K CP CM))) : FnOk P w K mg base CX0 5 f fd ["self"] (sp_nstr K CN CP CM) := by
  refine F.ok sc_Net___str__ (fun vs H Q E h => ?_) (fun cdv A outer s H vs Q E hr h => ?_)
  · obtain ⟨_, _, _, rfl, _⟩ := h
    rfl
  · obtain ⟨x, ps, ms, rfl, hx, np, nm, pl, ml, k⟩ := h
    refine ⟨_, (pss_one (ps_ret (pe_join pe_str (pe_fn h_lines (hr.mono (by decide)) (pa_cons (pe_fld (pv 0) rfl) (pa_cons (pe_fld (pv 0) rfl) pa_nil)))))), ?_⟩
    obtain ⟨dx, tp, tm, pu, mu, ex, hp, hm, rfl, rfl⟩ := hx.ex
    refine ⟨⟨_, rfl⟩, _, rfl, x, CN, dx, _, _, rfl, ex, T.x.cl, T.n1, netF_p _ _, _, rfl, x, CN, dx, _, _, rfl, ex, T.x.cl, T.n2, netF_m _ _, irr ⟨tp, tm, pu, mu, rfl, hp, hm, np, nm, by rw [← sn_len]; exact pl, by rw [← sn_len]; exact ml, fun m H' kp => ⟨_, m, netL (sn pu) (sn mu), rfl, rfl, .inl (SqL.of (kp.at List.mem_cons_self)), ?_, k H' kp.sm⟩⟩⟩
    have h1 := netL_sum np nm
    have h2 : (netL (sn pu) (sn mu)).length = (sn pu).length + (sn mu).length := by rw [netL, List.length_append, List.length_map, List.length_map]
    have h3 : Str.length "\n" = 1 := by decide +kernel
    rw [h3]
    omega
end
end RV
namespace RV
open PySem L2 TL
section
variable {P : Program} {w : World} {K : PySem.W.Frag} {mg : Str → Option Value} {base : Heap} {CN CP CM : Addr}
theorem ok_Net_q {f : Addr} {fd : FuncData} (F : Fun K "__eq__" "Net.__eq__" s_Net___eq__ f fd) (T : NClass K mg CN) (B : Blt mg) (oP : OwnEq P w K mg base CP 1 (sp_Peq CP)) (oM : OwnEq P w K mg base CM 1 (sp_Meq CM)) : FnOk P w K mg base CX0 4 f fd ["self", "other"] (sp_Neq K CN CP CM) := by
  refine F.ok sc_Net___eq__ (fun vs H Q E h => ?_) (fun cdv A outer s H vs Q E hr h => ?_)
  · obtain ⟨_, _, _, _, _, rfl, _⟩ := h
    rfl
  · obtain ⟨a, b, ps, ms, ms', rfl, ha, hb, hor, k⟩ := h
    refine ⟨_, (pss_one (ps_ret (pe_and (pe_callB call_isi (by rfl) B.b_isinstance (by decide +kernel) (pa_cons (pv 1) (pa_cons (pe_gC T.k) pa_nil))) (pe_and (pe_cmpR (op_eqTup (rc_pipes oP) (hr.mono (by decide))) (pe_fld (pv 0) rfl) (pe_fld (pv 1) rfl) (nomark _)) (pe_one (pe_cmpR (op_eqTup (rc_meters oM) (hr.mono (by decide))) (pe_fld (pv 0) rfl) (pe_fld (pv 1) rfl) (nomark _))))))), ?_⟩
    obtain ⟨dx, tp, tm, pu, mu, ex, hp, hm, e1, e2⟩ := ha.ex
    obtain ⟨dx', tp', tm', pu', mu', ex', hp', hm', e1', e2'⟩ := hb.ex
    refine ⟨_, rfl, _, _, _, .ref CN, true, rfl, .own CN, T.x.ty ex', T.me, true, rfl, iteT ?_⟩
    refine ⟨_, rfl, a, CN, dx, _, _, rfl, ex, T.x.cl, T.n1, netF_p _ _, _, rfl, b, CN, dx', _, _, rfl, ex', T.x.cl, T.n1, netF_p _ _, .inl ⟨dtup_of hp.t hp'.t (e1.trans e1'.symm) fun i u v hu hv e => ?_, fun H1 s1 => ⟨true, rfl, iteT ?_⟩⟩⟩
    · obtain ⟨dy, ey⟩ := hp.o u (List.mem_of_getElem? hu)
      obtain ⟨dz, ez⟩ := hp'.o v (List.mem_of_getElem? hv)
      exact ⟨u.1, v.1, dy, dz, _, _, rfl, rfl, ey, ez, u.2, ⟨dy, ey⟩, by rw [e]; exact ⟨dz, ez⟩⟩
    refine ⟨_, rfl, a, CN, dx, _, _, rfl, s1 _ _ ex, T.x.cl, T.n2, netF_m _ _, _, rfl, b, CN, dx', _, _, rfl, s1 _ _ ex', T.x.cl, T.n2, netF_m _ _, ?_⟩
    have hm1 := hm.ext s1
    have hm1' := hm'.ext s1
    by_cases e : ms = ms'
    · refine .inl ⟨dtup_of hm1.t hm1'.t (e2.trans (e.trans e2'.symm)) fun i u v hu hv e => ?_, fun H2 s2 => ?_⟩
      · obtain ⟨dy, ey⟩ := hm1.o u (List.mem_of_getElem? hu)
        obtain ⟨dz, ez⟩ := hm1'.o v (List.mem_of_getElem? hv)
        exact ⟨u.1, v.1, dy, dz, _, _, rfl, rfl, ey, ez, u.2, ⟨dy, ey⟩, by rw [e]; exact ⟨dz, ez⟩⟩
      · have := k H2 fun b o e => s2 b o (s1 b o e)
        rwa [decide_eq_true e] at this
    · have hl1 : (rf mu).length = ms.length := by rw [rf_len, ← sn_len, e2]
      have hl2 : (rf mu').length = ms'.length := by rw [rf_len, ← sn_len, e2']
      refine .inr ⟨tm, tm', _, _, rfl, rfl, hm1.t, hm1'.t, ?_, ?_, ?_⟩
      · rw [hl1, hl2, List.length_eq_zero_iff, List.length_eq_zero_iff]
        exact hor.resolve_left e
      · rw [hl1, hl2]
        rcases hor.resolve_left e with z | z
        · subst z
          intro q
          exact e (List.length_eq_zero_iff.mp q.symm).symm
        · subst z
          intro q
          exact e (List.length_eq_zero_iff.mp q)
      · have := k H1 s1
        rwa [decide_eq_false e] at this
theorem ok_rows_in {f : Addr} {fd : FuncData} (F : Fun K "_rows_in" "_rows_in" s_rows_in f fd) : FnOk P w K mg base CX0 1 f fd ["text"] sp_rows := by
  refine F.ok sc_rows_in (fun vs H Q E h => ?_) (fun cdv A outer s H vs Q E hr h => ?_)
  · obtain ⟨_, _, rfl, _⟩ := h
    rfl
  · obtain ⟨ps, ms, rfl, ok, k⟩ := h
    refine ⟨_, (pss_one (ps_ret (pe_lc (own := [("line", 1)]) (g := gName 1) (tt := tYes) rfl sc_rows_in.nd (pi_list (pe_split (pv 0) pe_str)) (blkOk_by (N := sc_rows_in_N) (sc := defScope s_rows_in) (by decide +kernel)) (fun _ _ _ _ _ => pg_name (i := 1) sc_rows_in.nd rfl (Or.inl rfl)) (fun _ _ _ _ _ => pts_nil) (fun _ _ _ _ _ => (pe_split (pv 1) pe_str))))), ?_⟩
    have tl := netT_len ok.pn ok.mn ok.pl ok.ml
    refine ⟨_, rfl, ⟨_, rfl⟩, _, _, rfl, rfl, by decide +kernel, Nat.le_trans (show _ ≤ 5010 by omega) (by decide), fun p np => ?_⟩
    rw [split_netT ok.n0 ok.pn ok.mn]
    have s1 : Same H (upd H p (.lst ((netL ps ms).map V.str))) := fun b o e => (upd_ne (ne_of_none e np)).trans e
    have hll : ((netL ps ms).map V.str).length = ps.length + ms.length := by rw [List.length_map, netL, List.length_append, List.length_map, List.length_map]
    have hl1 : SqL K (upd H p (.lst ((netL ps ms).map V.str))) p ((netL ps ms).map V.str) := SqL.of upd_same
    have := ok.pl
    have := ok.ml
    refine ⟨p, rfl, ⟨_, hl1⟩, fun D nD => lc_new (β := RU) (xs := (netL ps ms).map V.str) (fun u => .ref u.1) (fun j u H' => H' u.1 = some (.lst (u.2.map V.str)) ∧ u.1 ≠ D ∧ (rowsL ps ms)[j]? = some u.2) walk_list nD (by omega) (fun H' s' => hl1.ext s') (fun _ => rfl) (fun j u H' H'' s' z => ⟨s' _ _ z.1, z.2⟩) (fun j u H' acc acc' _ z => ⟨by rw [upd_ne z.2.1]; exact z.1, z.2⟩) (fun j x hx H2 s2 hD R kR => ?_) fun us H2 s2 ul up hD => ?_⟩
    · rw [List.getElem?_map] at hx
      cases hu : (netL ps ms)[j]? with
      | none => rw [hu] at hx; cases hx
      | some z =>
        rw [hu] at hx
        obtain rfl : V.str z = x := Option.some.inj hx
        obtain ⟨row, er, hl, es⟩ : ∃ row, (rowsL ps ms)[j]? = some row ∧ z.length ≤ 40 ∧ Txt.split z " " = row := by
          unfold netL at hu
          unfold rowsL
          rw [List.getElem?_append] at hu ⊢
          rw [List.length_map] at hu ⊢
          split at hu
          · rename_i hlt
            rw [if_pos hlt]
            rw [List.getElem?_map] at hu ⊢
            cases hq : ps[j]? with
            | none => rw [hq] at hu; cases hu
            | some q =>
              rw [hq] at hu
              obtain rfl : pline q = z := Option.some.inj hu
              have n := ok.pn q (List.mem_of_getElem? hq)
              exact ⟨_, rfl, pline_len n.1 n.2.1 n.2.2, split_pline n.1 n.2.1 n.2.2⟩
          · rename_i hlt
            rw [if_neg hlt]
            rw [List.getElem?_map] at hu ⊢
            cases hq : ms[j - ps.length]? with
            | none => rw [hq] at hu; cases hu
            | some q =>
              rw [hq] at hu
              obtain rfl : mline q = z := Option.some.inj hu
              have n := ok.mn q (List.mem_of_getElem? hq)
              exact ⟨_, rfl, mline_len n.1 n.2, split_mline n.1 n.2⟩
        obtain ⟨acc, eD⟩ := hD
        refine ⟨_, rfl, ⟨_, rfl⟩, _, _, rfl, rfl, by decide +kernel, szn (by omega), fun t nt => ?_⟩
        rw [es]
        exact kR (t, row) _ (fun b o e => (upd_ne (ne_of_none e nt)).trans e) ⟨upd_same, fun e => (by rw [show t = D from e, eD] at nt; cases nt), er⟩
    · refine k D us H2 (fun b o e => s2 b o (s1 b o e)) ⟨hD, fun u hu => ?_⟩ (List.ext_getElem? fun j => ?_)
      · obtain ⟨j, hj, e⟩ := List.mem_iff_getElem.mp hu
        exact (up j u (by rw [List.getElem?_eq_getElem hj, e])).1
      · rw [sn, List.getElem?_map]
        cases e : us[j]? with
        | some u => exact (up j u e).2.2.symm
        | none =>
          rw [List.getElem?_eq_none_iff] at e
          rw [List.getElem?_eq_none (by rw [rowsL, List.length_append, List.length_map, List.length_map]; omega)]
          rfl
end
end RV
namespace RV
open PySem L2 TL
section
variable {P : Program} {w : World} {K : PySem.W.Frag} {mg : Str → Option Value} {base : Heap} {CN CP CM : Addr}
theorem ok_pipes_in {f : Addr} {fd : FuncData} (F : Fun K "_pipes_in" "_pipes_in" s_pipes_in f fd) (T : Blt mg) (T2 : Blt2 mg) (h_rows_in : Fn P w K mg base "_rows_in" 1 ["text"] (Irr sp_rows)) (h_Pipe : Mkr P w K mg base "Pipe" CP 3 (Irr (sp_Pipe CP)) []) : FnOk P w K mg base CX0 5 f fd ["text"] (sp_pin K CP) := by
  refine F.ok sc_pipes_in (fun vs H Q E h => ?_) (fun cdv A outer s H vs Q E hr h => ?_)
  · obtain ⟨_, _, rfl, _⟩ := h
    rfl
  · obtain ⟨ps, ms, rfl, ok, po, k⟩ := h
    refine ⟨_, (pss_cons (ps_setLc (i := 1) (own := [("row", 2)]) (g := gName 2) rfl sc_pipes_in.nd rfl rfl (sw_true rfl rfl rfl (by decide +kernel)) (pi_list (pe_fn h_rows_in (hr.mono (by decide)) (pa_cons (pv 0) pa_nil))) (blkOk_by (N := sc_pipes_in_N) (sc := defScope s_pipes_in) (by decide +kernel)) (fun _ _ _ _ _ => pg_name (i := 2) sc_pipes_in.nd rfl (Or.inl rfl)) (fun _ _ _ _ _ => pts_one (PW.pt (pw_and (pt_cmpR op_eq (pe_ix ix_listK (pv 2) pe_int (fun _ _ => rfl)) pe_str (nomark _)) (pw_and1 (pt_cmpR op_eq (pe_callB call_lenK (by rfl) T.b_len (by decide +kernel) (pa_cons (pv 2) pa_nil)) pe_int (nomark _)))))) (fun _ _ _ _ _ => (pv 2)))
      (pss_one (ps_ret (pe_callTy call_tuple_of (by rfl) T2.b_tuple (by decide +kernel) (pa_cons (pe_lc (own := [("row", 2)]) (g := gName 2) (tt := tYes) rfl sc_pipes_in.nd (pi_list (pv 1)) (blkOk_by (N := sc_pipes_in_N) (sc := defScope s_pipes_in) (by decide +kernel)) (fun _ _ _ _ _ => pg_name (i := 2) sc_pipes_in.nd rfl (Or.inl rfl)) (fun _ _ _ _ _ => pts_nil) (fun _ _ _ _ _ => (pe_mk h_Pipe (hr.mono (by decide)) (pa_cons (pe_ix ix_listK (pv 2) pe_int (fun _ _ => rfl)) (pa_cons (pe_ix ix_listK (pv 2) pe_int (fun _ _ => rfl)) (pa_cons (pe_ix ix_listK (pv 2) pe_int (fun _ _ => rfl)) pa_nil)))))) pa_nil))))), ?_⟩
    refine ⟨_, rfl, irr ⟨ps, ms, rfl, ok, fun l us H1 s1 rw1 er => ⟨l, rfl, ⟨_, SqL.of rw1.l⟩, fun D nD => ?_⟩⟩⟩
    have hl1 : SqL K H1 l (rf us) := SqL.of rw1.l
    have ul : us.length ≤ 40 := by
      rw [← sn_len, er, rowsL, List.length_append, List.length_map, List.length_map]
      have := ok.pl
      have := ok.ml
      omega
    have row_of : ∀ u ∈ us, (∃ q, u.2 = prow q) ∨ ∃ q, u.2 = mrow q := fun u hu => by
      have : u.2 ∈ rowsL ps ms := by rw [← er]; exact List.mem_map.mpr ⟨u, hu, rfl⟩
      rcases List.mem_append.mp this with h | h
      · obtain ⟨q, _, e⟩ := List.mem_map.mp h
        exact .inl ⟨q, e.symm⟩
      · obtain ⟨q, _, e⟩ := List.mem_map.mp h
        exact .inr ⟨q, e.symm⟩
    refine lc_keep (us := us) (fun u => isP u.2) walk_list nD (by omega) (fun H' s' => hl1.ext s') (fun _ => rfl) (fun u hu H2 s2 R kR => ?_) (fun u hu H2 R r => ⟨_, rfl, r⟩) fun H2 s2 hD => ?_
    · have eu := s2 _ _ (rw1.o u hu)
      rcases row_of u hu with ⟨q, e⟩ | ⟨q, e⟩
      · rw [e] at eu
        have kR' := kR H2 (Same.refl H2)
        rw [e, isP_p] at kR'
        refine ⟨_, rfl, u.1, _, 0, _, rfl, rfl, SqL.of eu, rfl, rfl, _, rfl, ite2 (fun _ => ?_) fun h => absurd (decide_eq_true rfl) h⟩
        exact ⟨_, rfl, u.1, _, rfl, .inl (SqL.of eu), rfl, _, rfl, kR'⟩
      · have kR' := kR H2 (Same.refl H2)
        rw [e, isP_m] at kR'
        obtain ⟨r, er⟩ : ∃ r : List Str, mrow q = ("meter" : Str) :: r := by unfold mrow; split <;> exact ⟨_, rfl⟩
        rw [e, er] at eu
        refine ⟨_, rfl, u.1, _, 0, .str "meter", rfl, rfl, SqL.of eu, atI_nat (j := 0) rfl, rfl, _, rfl, ite2 (fun h => ?_) fun _ => kR'⟩
        exact absurd (V.str.inj (of_decide_eq_true h)).symm p_ne_m
    generalize hfu : us.filter (fun u => isP u.2) = fu at hD
    have efu : sn fu = ps.map prow := by rw [← hfu, sn_filter, er, rows_p]
    have ofu : ∀ u ∈ fu, H2 u.1 = some (.lst (u.2.map V.str)) := fun u hu => s2 _ _ (rw1.o u (List.mem_filter.mp (by rw [hfu]; exact hu : u ∈ us.filter (fun u => isP u.2)) |>.1))
    have lfu : fu.length = ps.length := by rw [← sn_len, efu, List.length_map]
    have hl2 : SqL K H2 D (rf fu) := SqL.of hD
    dsimp only [gName]
    refine ⟨_, rfl, D, rfl, ⟨_, hl2⟩, fun D2 nD2 => lc_new (β := PU) (xs := rf fu) (fun u => .ref u.1) (fun j u H' => PipeAt CP H' u.1 u.2 ∧ ps[j]? = some u.2) walk_list nD2 (by rw [rf_len, lfu]; have := ok.pl; omega) (fun H' s' => hl2.ext s') (fun _ => rfl) (fun j u H' H'' s' z => ⟨z.1.ext s', z.2⟩) (fun j u H' acc acc' e z => ⟨z.1.gro e Grow.put, z.2⟩) (fun j x hx H3 s3 hD3 R kR => ?_) fun bs H3 s3 bl bp hD3 => ?_⟩
    · obtain ⟨u, hu, rfl⟩ := rf_get hx
      have hs := sn_get hu
      rw [efu, List.getElem?_map] at hs
      cases hq : ps[j]? with
      | none => rw [hq] at hs; cases hs
      | some q =>
        rw [hq] at hs
        have e : u.2 = prow q := (Option.some.inj hs).symm
        have eu := s3 _ _ (ofu u (List.mem_of_getElem? hu))
        rw [e] at eu
        obtain ⟨n1, n2, n3, n4⟩ := po.nm q (List.mem_of_getElem? hq)
        refine ⟨_, rfl, u.1, _, 1, _, rfl, rfl, SqL.of eu, rfl, _, rfl, u.1, _, 2, _, rfl, rfl, SqL.of eu, rfl, _, rfl, u.1, _, 3, _, rfl, rfl, SqL.of eu, rfl, ?_⟩
        exact fun x dx hx hd ne => Pipe_kp n1 n2 n3 n4 hx hd ne fun H4 s4 pa => kR (x, q) H4 s4 ⟨pa, hq⟩
    · refine ⟨D2, _, rfl, .inl ⟨SqL.of hD3, fun t nt => ?_⟩⟩
      have s4 : Same H3 (upd H3 t (.tup (bs.map fun u => .ref u.1))) := fun b o e => (upd_ne (ne_of_none e nt)).trans e
      refine k t bs _ (fun b o e => s4 b o (s3 b o (s2 b o (s1 b o e)))) ⟨SqT.of upd_same, fun u hu => ?_⟩ (List.ext_getElem? fun j => ?_)
      · obtain ⟨j, hj, e⟩ := List.mem_iff_getElem.mp hu
        exact (bp j u (by rw [List.getElem?_eq_getElem hj, e])).1.ext s4
      · cases e : bs[j]? with
        | some u => rw [sn_get e]; exact (bp j u e).2.symm
        | none =>
          rw [List.getElem?_eq_none_iff] at e
          rw [rf_len, lfu] at bl
          rw [List.getElem?_eq_none (by rw [sn_len]; omega), List.getElem?_eq_none (by omega)]
theorem ok_meters_in {f : Addr} {fd : FuncData} (F : Fun K "_meters_in" "_meters_in" s_meters_in f fd) (T : Blt mg) (T2 : Blt2 mg) (h_rows_in : Fn P w K mg base "_rows_in" 1 ["text"] (Irr sp_rows)) (h_MeterK : MkrK P w K mg base "Meter" CM 3 2 ["sealed"] (Irr (sp_Meter CM)) gM2) : FnOk P w K mg base CX0 5 f fd ["text"] (sp_min K CM) := by
  refine F.ok sc_meters_in (fun vs H Q E h => ?_) (fun cdv A outer s H vs Q E hr h => ?_)
  · obtain ⟨_, _, rfl, _⟩ := h
    rfl
  · obtain ⟨ps, ms, rfl, ok, k⟩ := h
    refine ⟨_, (pss_cons (ps_setLc (i := 1) (own := [("row", 2)]) (g := gName 2) rfl sc_meters_in.nd rfl rfl (sw_true rfl rfl rfl (by decide +kernel)) (pi_list (pe_fn h_rows_in (hr.mono (by decide)) (pa_cons (pv 0) pa_nil))) (blkOk_by (N := sc_meters_in_N) (sc := defScope s_meters_in) (by decide +kernel)) (fun _ _ _ _ _ => pg_name (i := 2) sc_meters_in.nd rfl (Or.inl rfl)) (fun _ _ _ _ _ => pts_one (PW.pt (pw_and (pt_cmpR op_eq (pe_ix ix_listK (pv 2) pe_int (fun _ _ => rfl)) pe_str (nomark _)) (pw_and1 (pt_cmpR (op_inK (K := K)) (pe_callB call_lenK (by rfl) T.b_len (by decide +kernel) (pa_cons (pv 2) pa_nil)) (pe_tup (pa_cons pe_int (pa_cons pe_int pa_nil))) (by rfl)))))) (fun _ _ _ _ _ => (pv 2)))
      (pss_one (ps_ret (pe_callTy call_tuple_of (by rfl) T2.b_tuple (by decide +kernel) (pa_cons (pe_lc (own := [("row", 2)]) (g := gName 2) (tt := tYes) rfl sc_meters_in.nd (pi_list (pv 1)) (blkOk_by (N := sc_meters_in_N) (sc := defScope s_meters_in) (by decide +kernel)) (fun _ _ _ _ _ => pg_name (i := 2) sc_meters_in.nd rfl (Or.inl rfl)) (fun _ _ _ _ _ => pts_nil) (fun _ _ _ _ _ => (pe_mkK h_MeterK (hr.mono (by decide)) (pa_cons (pe_ix ix_listK (pv 2) pe_int (fun _ _ => rfl)) (pa_cons (pe_ix ix_listK (pv 2) pe_int (fun _ _ => rfl)) pa_nil)) (pk_cons (pe_cmpR op_eq (pe_callB call_lenK (by rfl) T.b_len (by decide +kernel) (pa_cons (pv 2) pa_nil)) pe_int (nomark _)) pk_nil)))) pa_nil))))), ?_⟩
    refine ⟨_, rfl, irr ⟨ps, ms, rfl, ok, fun l us H1 s1 rw1 er => ⟨l, rfl, ⟨_, SqL.of rw1.l⟩, fun D nD => ?_⟩⟩⟩
    have hl1 : SqL K H1 l (rf us) := SqL.of rw1.l
    have ul : us.length ≤ 40 := by
      rw [← sn_len, er, rowsL, List.length_append, List.length_map, List.length_map]
      have := ok.pl
      have := ok.ml
      omega
    have row_of : ∀ u ∈ us, (∃ q, u.2 = prow q) ∨ ∃ q, u.2 = mrow q := fun u hu => by
      have : u.2 ∈ rowsL ps ms := by rw [← er]; exact List.mem_map.mpr ⟨u, hu, rfl⟩
      rcases List.mem_append.mp this with h | h
      · obtain ⟨q, _, e⟩ := List.mem_map.mp h
        exact .inl ⟨q, e.symm⟩
      · obtain ⟨q, _, e⟩ := List.mem_map.mp h
        exact .inr ⟨q, e.symm⟩
    refine lc_keep (us := us) (fun u => isM u.2) walk_list nD (by omega) (fun H' s' => hl1.ext s') (fun _ => rfl) (fun u hu H2 s2 R kR => ?_) (fun u hu H2 R r => ⟨_, rfl, r⟩) fun H2 s2 hD => ?_
    · have eu := s2 _ _ (rw1.o u hu)
      rcases row_of u hu with ⟨q, e⟩ | ⟨q, e⟩
      · rw [e] at eu
        have kR' := kR H2 (Same.refl H2)
        rw [e, isM_p] at kR'
        refine ⟨_, rfl, u.1, _, 0, .str "pipe", rfl, rfl, SqL.of eu, rfl, rfl, _, rfl, ite2 (fun h => ?_) fun _ => kR'⟩
        exact absurd (V.str.inj (of_decide_eq_true h)) p_ne_m
      · obtain ⟨r, er, lr⟩ : ∃ r : List Str, mrow q = ("meter" : Str) :: r ∧ (r.length = 2 ∨ r.length = 3) := by
          unfold mrow
          split
          · exact ⟨_, rfl, .inr rfl⟩
          · exact ⟨_, rfl, .inl rfl⟩
        have em : isM u.2 = true := by rw [e, isM_m]
        rw [e, er] at eu
        refine ⟨_, rfl, u.1, _, 0, .str "meter", rfl, rfl, SqL.of eu, atI_nat (j := 0) rfl, rfl, _, rfl, ite2 (fun _ => ?_) fun h => absurd (decide_eq_true rfl) h⟩
        refine ⟨_, rfl, u.1, _, rfl, .inl (SqL.of eu), (by show 2 ≤ sizeLine; decide), fun t nt => ⟨t, _, rfl, .inr (SqT.of upd_same), rfl, rfl, ?_⟩⟩
        have kR' := kR _ (fun b o e => (upd_ne (o := .tup [.int 3, .int 4]) (ne_of_none e nt)).trans e)
        rw [em] at kR'
        have ev : inV (V.int ((List.map V.str (("meter" : Str) :: r)).length : Nat)) [V.int 3, V.int 4] = true := by
          rw [List.length_map, List.length_cons]
          rcases lr with z | z <;> rw [z] <;> rfl
        refine ⟨_, rfl, ?_⟩
        rw [ev]
        exact kR'
    generalize hfu : us.filter (fun u => isM u.2) = fu at hD
    have efu : sn fu = ms.map mrow := by rw [← hfu, sn_filter, er, rows_m]
    have ofu : ∀ u ∈ fu, H2 u.1 = some (.lst (u.2.map V.str)) := fun u hu => s2 _ _ (rw1.o u (List.mem_filter.mp (by rw [hfu]; exact hu : u ∈ us.filter (fun u => isM u.2)) |>.1))
    have lfu : fu.length = ms.length := by rw [← sn_len, efu, List.length_map]
    have hl2 : SqL K H2 D (rf fu) := SqL.of hD
    dsimp only [gName]
    refine ⟨_, rfl, D, rfl, ⟨_, hl2⟩, fun D2 nD2 => lc_new (β := MU) (xs := rf fu) (fun u => .ref u.1) (fun j u H' => MetAt CM H' u.1 u.2 ∧ ms[j]? = some u.2) walk_list nD2 (by rw [rf_len, lfu]; have := ok.ml; omega) (fun H' s' => hl2.ext s') (fun _ => rfl) (fun j u H' H'' s' z => ⟨z.1.ext s', z.2⟩) (fun j u H' acc acc' e z => ⟨z.1.gro e Grow.put, z.2⟩) (fun j x hx H3 s3 hD3 R kR => ?_) fun bs H3 s3 bl bp hD3 => ?_⟩
    · obtain ⟨u, hu, rfl⟩ := rf_get hx
      have hs := sn_get hu
      rw [efu, List.getElem?_map] at hs
      cases hq : ms[j]? with
      | none => rw [hq] at hs; cases hs
      | some q =>
        rw [hq] at hs
        have e : u.2 = mrow q := (Option.some.inj hs).symm
        have eu := s3 _ _ (ofu u (List.mem_of_getElem? hu))
        obtain ⟨n1, n2⟩ := ok.mn q (List.mem_of_getElem? hq)
        obtain ⟨r, er, lr⟩ : ∃ r : List Str, mrow q = ("meter" : Str) :: q.1 :: q.2.1 :: r ∧ decide ((r.length + 3 : Nat) = 4) = q.2.2 := by
          unfold mrow
          split
          · rename_i hz
            exact ⟨_, rfl, by rw [hz]; rfl⟩
          · rename_i hz
            exact ⟨_, rfl, by simp at hz; rw [hz]; rfl⟩
        rw [e, er] at eu
        refine ⟨_, rfl, u.1, _, 1, .str q.1, rfl, rfl, SqL.of eu, atI_nat (j := 1) rfl, _, rfl, u.1, _, 2, .str q.2.1, rfl, rfl, SqL.of eu, atI_nat (j := 2) rfl, ?_⟩
        refine ⟨_, rfl, u.1, _, rfl, .inl (SqL.of eu), rfl, rfl, rfl, ?_⟩
        have ez : decide (V.int ((List.map V.str (("meter" : Str) :: q.1 :: q.2.1 :: r)).length : Nat) = V.int 4) = q.2.2 := by
          rw [← lr, List.length_map, List.length_cons, List.length_cons, List.length_cons]
          refine decide_eq_decide.mpr ⟨fun h => ?_, fun h => ?_⟩
          · have := V.int.inj h
            omega
          · congr 1
            omega
        rw [ez]
        exact fun x dx hx hd ne => Meter_kp n1 n2 hx hd ne fun H4 s4 pa => kR (x, q) H4 s4 ⟨pa, hq⟩
    · refine ⟨D2, _, rfl, .inl ⟨SqL.of hD3, fun t nt => ?_⟩⟩
      have s4 : Same H3 (upd H3 t (.tup (bs.map fun u => .ref u.1))) := fun b o e => (upd_ne (ne_of_none e nt)).trans e
      refine k t bs _ (fun b o e => s4 b o (s3 b o (s2 b o (s1 b o e)))) ⟨SqT.of upd_same, fun u hu => ?_⟩ (List.ext_getElem? fun j => ?_)
      · obtain ⟨j, hj, e⟩ := List.mem_iff_getElem.mp hu
        exact (bp j u (by rw [List.getElem?_eq_getElem hj, e])).1.ext s4
      · cases e : bs[j]? with
        | some u => rw [sn_get e]; exact (bp j u e).2.symm
        | none =>
          rw [List.getElem?_eq_none_iff] at e
          rw [rf_len, lfu] at bl
          rw [List.getElem?_eq_none (by rw [sn_len]; omega), List.getElem?_eq_none (by omega)]
theorem ok_Net_r {f : Addr} {fd : FuncData} (F : Fun K "read" "Net.read" s_Net_read f fd) (T : Blt mg) (h_Net : Mkr P w K mg base "Net" CN 5 (Irr (sp_Net K CN CP CM)) []) (h_pipes_in : Fn P w K mg base "_pipes_in" 5 ["text"] (Irr (sp_pin K CP))) (h_meters_in : Fn P w K mg base "_meters_in" 5 ["text"] (Irr (sp_min K CM))) (h_str : OwnM P w K mg base CN "__str__" 5 (Irr (sp_nstr K CN CP CM))) : FnOk P w K mg base CX0 8 f fd ["cls", "text"] (sp_nread K CN CP CM) := by
  refine F.ok sc_Net_read (fun vs H Q E h => ?_) (fun cdv A outer s H vs Q E hr h => ?_)
  · obtain ⟨_, _, rfl, _⟩ := h
    rfl
  · obtain ⟨ps, ms, rfl, po, mo, k⟩ := h
    refine ⟨_, (pss_cons (ps_if (pt_not (pt_val (pe_callB call_isi (by rfl) T.b_isinstance (by decide +kernel) (pa_cons (pv 1) (pa_cons (pe_bltn (v := .ty "str") (by rfl) T.b_str (by decide +kernel) rfl) pa_nil))))) (pss_one ps_never) pss_nil)
      (pss_cons (ps_try_thru0 (pss_one (ps_set (i := 2) sc_Net_read.nd rfl (Or.inl rfl) (pe_mkL (i := 0) h_Net (hr.mono (by decide)) rfl (Or.inl rfl) (pa_cons (pe_fn h_pipes_in (hr.mono (by decide)) (pa_cons (pv 1) pa_nil)) (pa_cons (pe_fn h_meters_in (hr.mono (by decide)) (pa_cons (pv 1) pa_nil)) pa_nil))))))
      (pss_cons (ps_if (pt_cmpR op_ne (pe_callTy (call_strO h_str (hr.mono (by decide))) (by rfl) T.b_str (by decide +kernel) (pa_cons (pv 2) pa_nil)) (pv 1) (nomark _)) (pss_one ps_never) pss_nil)
      (pss_one (ps_ret (pv 2)))))), ?_⟩
    have ok := TOk.of po mo
    refine ⟨_, rfl, _, _, .type "str", .type "str", true, rfl, .ty _, .base (.str _), kit_ty (by decide +kernel), true, rfl, iteF ?_⟩
    refine ⟨rfl, _, rfl, irr ⟨ps, ms, rfl, ok, po, fun tp pu H1 s1 hp ep => ⟨_, rfl, irr ⟨ps, ms, rfl, ok, fun tm mu H2 s2 hm em => ?_⟩⟩⟩⟩
    have hp2 := hp.ext s2
    refine fun x dx hx hd ne => Net_kp hp2 hm (ep ▸ po) (by rw [ep, em]; exact mo) hx hd ne fun H3 s3 hn => ?_
    rw [ep, em] at hn
    obtain ⟨dx', tp', tm', pu', mu', ex, _⟩ := id hn.ex
    refine ⟨_, rfl, x, dx', _, rfl, ex, irr ⟨x, ps, ms, rfl, hn, ok.pn, ok.mn, ok.pl, ok.ml, fun H4 s4 => ?_⟩⟩
    refine ⟨_, rfl, _, rfl, rfl, _, rfl, ?_⟩
    refine ite2 (fun h => ?_) (fun _ => ?_)
    · simp at h
    exact ⟨_, rfl, k x H4 (fun b o e => s4 b o (s3 b o (s2 b o (s1 b o e)))) (hn.ext s4)⟩
end
end RV
namespace RV
open PySem L2
/-! Net(p, m); Meter(n, a, sealed=z); Net.read(text=t) -/
theorem chainN {f t0 : Addr} {K : PySem.W.Frag} {fd : FuncData} (F : FunD K "__init__" "Net.__init__" (defArgs s_Net___init__) (defBody s_Net___init__) (defScope s_Net___init__) [.ref t0] [] f fd) : ∃ ds, Vals [] ds ∧ Binds K fd ["self", "pipes", "meters"] ds := by
  refine FunD.binds1 F 3 1 (by simp) rfl fun T kV doc pm an cdv ct us its h1 h2 => ?_
  match us, h1, its, h2 with
  | [x, y, z], _, [d], _ => exact ⟨_, rfl, rfl⟩
def gM2' (us ws : List Value) : List Value := match us, ws with
  | [x, n, a], [z] => [x, n, a, z]
  | _, _ => []
theorem gM2_rel {vs : List V} {us : List Value} {zs : List V} {ws : List Value} (r1 : Vals vs us) (r2 : Vals zs ws) : Vals (gM2 vs zs) (gM2' us ws) := by
  cases r1 with
  | nil => cases r2 <;> exact .nil
  | cons a1 r1 =>
    cases r1 with
    | nil => cases r2 <;> exact .nil
    | cons a2 r1 =>
      cases r1 with
      | nil => cases r2 <;> exact .nil
      | cons a3 r1 =>
        cases r1 with
        | cons a4 r1 => cases r2 <;> exact .nil
        | nil =>
          cases r2 with
          | nil => exact .nil
          | cons b r2 =>
            cases r2 with
            | nil => exact .cons a1 (.cons a2 (.cons a3 (.cons b .nil)))
            | cons c r2 => exact .nil
theorem kbM2 {f : Addr} {K : PySem.W.Frag} {fd : FuncData} (F : FunD K "__init__" "Meter.__init__" (defArgs s_Meter___init__) (defBody s_Meter___init__) (defScope s_Meter___init__) [] [("sealed", V.bl false)] f fd) :
    KBn K fd ["self", "name", "at", "sealed"] 3 ["sealed"] gM2' gM2 := by
  refine ⟨fun s us ws X h1 h2 => ?_, gM2_rel⟩
  obtain ⟨oc, od, dV, kV, doc, pm, an, cdv, ct, osl, rfl, lk, hcd, hD, hK⟩ := F.ex
  rcases hD with ⟨_, rfl⟩ | ⟨e, _⟩
  · match us, h1, ws, h2 with
    | [x, n, a], _, [z], _ => exact BindsTo.of_eq rfl
  · exact absurd rfl e
def gR' (us ws : List Value) : List Value := match us, ws with
  | [x], [t] => [x, t]
  | _, _ => []
theorem gR_rel {vs : List V} {us : List Value} {zs : List V} {ws : List Value} (r1 : Vals vs us) (r2 : Vals zs ws) : Vals (gR vs zs) (gR' us ws) := by
  cases r1 with
  | nil => exact .nil
  | cons a r =>
    cases r with
    | cons b r => exact .nil
    | nil =>
      cases r2 with
      | nil => exact .nil
      | cons c r2 =>
        cases r2 with
        | nil => exact .cons a (.cons c .nil)
        | cons d r2 => exact .nil
theorem kbNR {f : Addr} {K : PySem.W.Frag} {fd : FuncData} (F : Fun K "read" "Net.read" s_Net_read f fd) : KBn K fd ["cls", "text"] 1 ["text"] gR' gR := by
  refine ⟨fun s us ws X h1 h2 => ?_, gR_rel⟩
  obtain ⟨oc, od, kV, doc, pm, an, cdv, ct, osl, rfl, lk, hcd⟩ := F.ex
  match us, h1, ws, h2 with
  | [x], _, [t], _ => exact BindsTo.of_eq rfl
end RV
namespace RV
open PySem L2 TL
theorem pls_take {ps : List P3} {i : Nat} {p : P3} (h : ps[i]? = some p) : pls (ps.take (i + 1)) = pls (ps.take i) ++ [p.2.1, p.2.2] := by
  rw [List.take_add_one, h, pls, pls, List.flatMap_append]
  rfl
section
variable {P : Program} {w : World} {K : PySem.W.Frag} {mg : Str → Option Value} {base : Heap} {CN CP CM : Addr}
theorem ok_Net_pl {f : Addr} {fd : FuncData} (F : Fun K "places" "Net.places" s_Net_places f fd) (T : Blt mg) (T2 : Blt2 mg) (NC : NClass K mg CN) (h_ps : Prp P w K mg base CP "start" 1 (Irr (sp_ps CP))) (h_pe : Prp P w K mg base CP "end" 1 (Irr (sp_pe CP))) : FnOk P w K mg base CX0 3 f fd ["self"] (sp_plc K CN CP CM) := by
  refine F.ok sc_Net_places (fun vs H Q E h => ?_) (fun cdv A outer s H vs Q E hr h => ?_)
  · obtain ⟨_, _, _, rfl, _⟩ := h
    rfl
  · obtain ⟨x, ps, ms, rfl, nr, pl, k⟩ := h
    refine ⟨_, (pss_one (ps_ret (pe_callTy call_tuple_of (by rfl) T2.b_tuple (by decide +kernel) (pa_cons (pe_callB (cr_sortS rfl) (by rfl) T2.b_sorted (by decide +kernel) (pa_cons
      (pe_set2 (own := [("part", 1), ("place", 2)]) (ws := [2]) (g := gName 1) (g1 := gName 2) (tt := tYes) (tt1 := tYes) rfl sc_Net_places.nd (pi_tup (pe_fld (pv 0) rfl)) (blkOk_by (N := sc_Net_places_N) (sc := defScope s_Net_places) (by decide +kernel)) (by decide) (fun _ _ _ _ _ => pg_name (i := 1) sc_Net_places.nd rfl (Or.inl rfl)) (fun _ _ _ _ _ => pts_nil)
        (fun _ _ _ _ _ => pi_tupK (K := K) (pe_tup (pa_cons (pe_propN h_ps (hr.mono (by decide)) (pv 1)) (pa_cons (pe_propN h_pe (hr.mono (by decide)) (pv 1)) pa_nil)))) (fun _ _ _ _ _ => pg_name (i := 2) sc_Net_places.nd rfl (Or.inl rfl)) (fun _ _ _ _ _ => pts_nil) (fun _ _ _ _ _ => pv 2)) pa_nil)) pa_nil)))), ?_⟩
    obtain ⟨dx, tp, tm, pu, mu, ex, hp, hm, ep, em⟩ := id nr.ex
    have pul : pu.length ≤ 12 := by rw [← sn_len, ep]; exact pl
    refine ⟨_, rfl, x, CN, dx, _, _, rfl, ex, NC.x.cl, NC.n1, netF_p _ _, ?_⟩
    refine ⟨tp, rfl, ⟨_, hp.t⟩, fun D nD => ?_⟩
    have s0 : Same H (upd H D (SetT P w D (fun _ => false) 0)) := fun b o e => (upd_ne (ne_of_none e nD)).trans e
    refine cl_walk (walk_tup (xs := rf pu)) (fun i H' => ∃ (S : Str → Bool) (n : Nat), Sb D (upd H D (SetT P w D (fun _ => false) 0)) H' ∧ H' D = some (SetT P w D S n) ∧ n ≤ 2 * i ∧ ∀ z, S z = true ↔ z ∈ pls (ps.take i)) ⟨_, 0, Sb.refl _, upd_same, Nat.zero_le _, fun z => by simp [pls]⟩ ?_ ?_ ?_
    · rintro i H' _ ⟨_, _, sb, _⟩
      exact hp.t.ext (Sb.same s0 nD sb)
    · rintro i v Ha Hb hi ⟨S, n, sb, hD, hn, hS⟩ ⟨rfl, hx⟩
      rw [rf_len] at hi
      obtain ⟨u, hu, rfl⟩ := rf_get hx
      have hpi : ps[i]? = some u.2 := ep ▸ sn_get hu
      have hm2 := List.mem_of_getElem? hu
      have pa := (hp.o u hm2).ext (Sb.same s0 nD sb)
      obtain ⟨dp, edp⟩ := id pa
      dsimp only [gName]
      have e0 : ∀ (σ : L2.St) (H : Hp) (R : Bool → Hp → Prop), R true H → tYes σ H R := fun _ _ _ r => r
      refine ⟨rfl, e0 _ _ _ ?_⟩
      simp only [↓reduceIte]
      refine ⟨_, rfl, u.1, dp, _, rfl, edp, irr ⟨u.1, u.2, rfl, pa, _, rfl, u.1, dp, _, rfl, edp, irr ⟨u.1, u.2, rfl, pa, ⟨(by show 2 ≤ sizeLine; decide), fun T1 nT1 => ⟨T1, rfl, ⟨_, SqT.of upd_same⟩, ?_⟩⟩⟩⟩⟩
      have s1 : Same Hb (upd Hb T1 (.tup [.str u.2.2.1, .str u.2.2.2])) := fun b o e => (upd_ne (ne_of_none e nT1)).trans e
      have nDT : T1 ≠ D := fun z => by rw [z, hD] at nT1; cases nT1
      refine cl_walk (walk_tup (xs := [V.str u.2.2.1, V.str u.2.2.2])) (fun j H' => ∃ (S : Str → Bool) (n : Nat), Sb D (upd Hb T1 (.tup [.str u.2.2.1, .str u.2.2.2])) H' ∧ H' D = some (SetT P w D S n) ∧ n ≤ 2 * i + j ∧ ∀ z, S z = true ↔ z ∈ pls (ps.take i) ++ [u.2.2.1, u.2.2.2].take j) ⟨S, n, Sb.refl _, s1 _ _ hD, by omega, fun z => by simp [hS]⟩ ?_ ?_ ?_
      · rintro j H' _ ⟨_, _, sb1, _⟩
        exact SqT.of (sb1 _ _ nDT upd_same)
      · rintro j v Hc Hd hj ⟨S1, n1, sb1, hD1, hn1, hS1⟩ ⟨rfl, hv⟩
        have hv2 : ∃ z, v = .str z ∧ [u.2.2.1, u.2.2.2][j]? = some z := by
          match j, hj with
          | 0, _ => exact ⟨_, (Option.some.inj hv).symm, rfl⟩
          | 1, _ => exact ⟨_, (Option.some.inj hv).symm, rfl⟩
        obtain ⟨z, rfl, hz⟩ := hv2
        have hj : j < 2 := hj
        dsimp only [gName]
        refine ⟨rfl, e0 _ _ _ ?_⟩
        simp only [↓reduceIte]
        refine ⟨_, rfl, z, S1, n1, rfl, hD1, by omega, fun n' hn' => ⟨_, n', fun b o ne e => (upd_ne ne).trans (sb1 b o ne e), upd_same, by omega, fun y => ?_⟩⟩
        rw [Bool.or_eq_true, decide_eq_true_eq, hS1 y, List.take_add_one, hz]
        simp only [List.mem_append, Option.toList_some, List.mem_singleton, or_assoc]
      · rintro H' ⟨S1, n1, sb1, hD1, hn1, hS1⟩
        have hn1 : n1 ≤ 2 * i + 2 := hn1
        refine ⟨S1, n1, fun b o ne e => sb1 b o ne (s1 _ _ (sb b o ne e)), hD1, by omega, fun y => ?_⟩
        rw [hS1 y, pls_take hpi]
        rfl
    · rintro H' ⟨S, n, sb, hD, hn, hS⟩
      rw [rf_len] at hn hS
      refine ⟨D, S, n, rfl, hD, fun xs p h1 h2 h3 h4 np => ?_⟩
      refine ⟨p, xs.map V.str, rfl, .inl ⟨SqL.of upd_same, fun l nl => ?_⟩⟩
      have sH := Sb.same s0 nD sb
      have sA : Same H (upd H' p (.lst (xs.map V.str))) := fun b o e => (upd_ne (ne_of_none (sH _ _ e) np)).trans (sH _ _ e)
      refine k l xs _ (fun b o e => (upd_ne (ne_of_none (sA _ _ e) nl)).trans (sA _ _ e)) upd_same ⟨h1, h2, fun z => (h3 z).trans ((hS z).trans ?_)⟩ (by omega)
      rw [show pu.length = ps.length by rw [← ep, sn_len], List.take_length]
end
end RV
namespace RV
open PySem L2 TL
section
variable {P : Program} {w : World} {K : PySem.W.Frag} {mg : Str → Option Value} {base : Heap} {CN CP CM : Addr}
theorem ok_is_number {f : Addr} {fd : FuncData} (F : Fun K "is_number" "is_number" s_is_number f fd) (T : Blt mg) (T2 : Blt2 mg) : FnOk P w K mg base CX0 1 f fd ["value"] (sp_is_number K) := by
  refine F.ok sc_is_number (fun vs H Q E h => ?_) (fun cdv A outer s H vs Q E hr h => ?_)
  · obtain ⟨_, rfl, _⟩ := h
    rfl
  · obtain ⟨v, rfl, k⟩ := h
    refine ⟨_, (pss_one (ps_ret (pe_and (pe_callB call_isi (by rfl) T.b_isinstance (by decide +kernel) (pa_cons (pv 0) (pa_cons (pe_bltn (v := .ty "int") (by rfl) T.b_int (by decide +kernel) rfl) pa_nil))) (pe_one (pe_not (pe_callB call_isi (by rfl) T.b_isinstance (by decide +kernel) (pa_cons (pv 0) (pa_cons (pe_bltn (v := .ty "bool") (by rfl) T2.b_bool (by decide +kernel) rfl) pa_nil)))))))), ?_⟩
    rcases k with ⟨z, rfl, k⟩ | ⟨b, rfl, k⟩ | ⟨t, ty, kt, k⟩
    · refine ⟨_, rfl, _, _, .type "int", .type "int", true, rfl, .ty _, .base (.int z), kit_ty (by decide +kernel), true, rfl, ?_⟩
      exact iteT ⟨_, rfl, _, _, .type "int", .type "bool", false, rfl, .ty _, .base (.int z), kit_ty (by decide +kernel), false, rfl, k⟩
    · refine ⟨_, rfl, _, _, .type "bool", .type "int", true, rfl, .ty _, .base (.bl b), kit_ty (by decide +kernel), true, rfl, ?_⟩
      exact iteT ⟨_, rfl, _, _, .type "bool", .type "bool", true, rfl, .ty _, .base (.bl b), kit_ty (by decide +kernel), true, rfl, k⟩
    · refine ⟨_, rfl, _, _, t, .type "int", false, rfl, .ty _, ty, kt, false, rfl, ?_⟩
      exact iteF k
end
end RV
/-! springs: the wells of the later laws -/
namespace RV
open PySem L2
section
variable {P : Program} {w : World} {K : PySem.W.Frag} {mg : Str → Option Value} {base : Heap}
theorem ok_spring {f : Addr} {fd : FuncData} (F : Fun K "_law_spring" "_law_spring" s_spring f fd) (T : Blt mg) : FnOk P w K mg base CX0 1 f fd ["_law_script", "_law_k"] (sp_spring K) := by
  refine F.ok sc_spring (fun vs H Q E h => ?_) (fun cdv A outer s H vs Q E hr h => ?_)
  · obtain ⟨_, _, _, rfl, _⟩ := h
    rfl
  · obtain ⟨c, ns, i, rfl, hS, hl, hi, k⟩ := h
    refine ⟨_, (pss_cons (ps_set (i := 2) sc_spring.nd rfl (Or.inl rfl) (pe_ifExp (pt_cmpR op_lt (pv 1) (pe_callB call_len_seq (by rfl) T.b_len (by decide +kernel) (pa_cons (pv 0) pa_nil)) (nomark _)) (pe_callTy call_int1 (by rfl) T.b_int (by decide +kernel) (pa_cons (pe_ix ix_list (pv 0) (pv 1) (fun _ _ => rfl)) pa_nil)) (pe_op op_add (pe_op op_mul pe_int (pv 1)) pe_int)))
      (pss_cons (ps_set (i := 3) sc_spring.nd rfl (Or.inl rfl) (pe_op op_add pe_int (pe_op op_mul pe_int (pv 1))))
      (pss_cons (ps_for PassesOwn.never rfl (pi_list (pe_slice sl_list (pv 0) po_none (po_some pe_int))) (pg_name (i := 4) sc_spring.nd rfl (Or.inl rfl)) (pss_one (ps_set (i := 3) sc_spring.nd rfl (Or.inl rfl) (pe_op op_mod (pe_callTy call_int1 (by rfl) T.b_int (by decide +kernel) (pa_cons (pe_op op_add (pe_op op_add (pe_op op_mul (pv 3) pe_int) (pe_op op_mul (pe_callTy call_int1 (by rfl) T.b_int (by decide +kernel) (pa_cons (pv 4) pa_nil)) pe_int)) pe_int) pa_nil)) pe_int))))
      (pss_cons (ps_set (i := 3) sc_spring.nd rfl (Or.inl rfl) (pe_op op_mod (pe_callTy call_int1 (by rfl) T.b_int (by decide +kernel) (pa_cons (pe_op op_add (pe_op op_add (pe_op op_mul (pv 3) (pv 3)) (pe_op op_mul (pv 2) pe_int)) pe_int) pa_nil)) pe_int))
      (pss_one (ps_ret (pe_lst (pa_cons (pe_op op_mod (pe_callTy call_int1 (by rfl) T.b_int (by decide +kernel) (pa_cons (pe_op op_add (pe_op op_mul (pv 3) pe_int) pe_int) pa_nil)) pe_int) (pa_cons (pe_ifExp (pt_cmpR op_ge (pe_callB call_abs (by rfl) T.b_abs (by decide +kernel) (pa_cons (pv 2) pa_nil)) (pe_op op_pow pe_int pe_int) (nomark _)) (pe_callB call_abs (by rfl) T.b_abs (by decide +kernel) (pa_cons (pv 2) pa_nil)) pe_int) (pa_cons (pv 1) pa_nil)))))))))), ?_⟩
    refine seq_of (fun σ' H' => ∃ z : Int, σ' = [some (.ref c), some (.int i), some (.int z), none, none] ∧ H' = H) ?rest (fun N hN => ?main)
    case main =>
      refine tif_int (b := decide ((i : Int) < ns.length)) (fun R r => ⟨_, rfl, _, rfl, c, _, rfl, .inl hS, _, _, rfl, rfl, _, rfl, by rw [List.length_map]; exact r⟩) (fun hb => ?_) (fun hb => ?_) (fun z => hN _ _ ⟨z, rfl, rfl⟩)
      · have hlt : (i : Int) < ns.length := of_decide_eq_true hb
        have hlt' : i < ns.length := by omega
        exact ⟨ns[i], fun R r => ⟨_, rfl, _, rfl, c, _, _, _, rfl, rfl, hS, atI_nat (by rw [List.getElem?_map, List.getElem?_eq_getElem hlt']; rfl), .inl ⟨_, rfl, r⟩⟩⟩
      · exact ⟨5 * i + 3, fun R r => ⟨_, rfl, _, _, rfl, rfl, .inl ⟨by decide, by decide⟩, _, _, rfl, rfl, r⟩⟩
    rintro σ1 H1 ⟨z, rfl, rfl⟩
    refine ⟨_, rfl, _, _, rfl, rfl, .inl ⟨by decide, by decide⟩, _, _, rfl, rfl, ?_⟩
    dsimp only [gName]
    refine ⟨_, rfl, _, rfl, c, _, rfl, hS, fun p np => ?_⟩
    obtain ⟨ms, em, lm⟩ := cutV_int ns none (some 3)
    rw [em]
    have s1 : Same H1 (upd H1 p (.lst (ms.map V.int))) := fun b o e => (upd_ne (ne_of_none e np)).trans e
    have hp : SqL K (upd H1 p (.lst (ms.map V.int))) p (ms.map V.int) := SqL.of upd_same
    revert s1 hp
    generalize upd H1 p (.lst (ms.map V.int)) = H2
    intro s1 hp
    refine ⟨p, rfl, ⟨_, hp⟩, for_list (K := K) (a := p) (xs := ms.map V.int) (fun j σ H' => H' = H2 ∧ ∃ (y : Int) (o : Option V), 0 ≤ y ∧ y < 2147483543 ∧ σ = [some (.ref c), some (.int i), some (.int z), some (.int y), o]) ⟨rfl, _, none, ?_, ?_, rfl⟩ (fun j σ H' _ h => by rw [h.1]; exact hp) ?_ ?_⟩
    · show (0 : Int) ≤ 991 + 613 * (i : Int)
      omega
    · show 991 + 613 * (i : Int) < 2147483543
      omega
    · rintro j y σ H' hj ⟨rfl, y', o, y0, y1, rfl⟩
      obtain ⟨u, rfl⟩ : ∃ u, y = V.int u := by
        rw [List.getElem?_map] at hj
        cases e : ms[j]? with
        | none => rw [e] at hj; cases hj
        | some u => rw [e] at hj; exact ⟨u, (Option.some.inj hj).symm⟩
      dsimp only [gName]
      refine ⟨_, rfl, _, _, rfl, rfl, .inr ⟨by decide, by decide⟩, _, rfl, .inl ⟨_, rfl, _, _, rfl, rfl, .inr ⟨by decide, by decide⟩, _, _, rfl, rfl, _, _, rfl, rfl, .inl ⟨_, rfl, _, _, rfl, rfl, (by show (0 : Int) < 2147483543; decide), rfl, _, _, ?_, ?_, rfl⟩⟩⟩
      · exact Int.emod_nonneg _ (by decide)
      · exact Int.emod_lt_of_pos _ (by decide)
    · rintro σ H' ⟨rfl, y, o, y0, y1, rfl⟩
      refine ⟨_, rfl, _, rfl, _, _, rfl, rfl, .inl ⟨by omega, by omega⟩, _, rfl, _, _, rfl, rfl, .inr ⟨by decide, by decide⟩, _, _, rfl, rfl, _, _, rfl, rfl, .inl ⟨_, rfl, _, _, rfl, rfl, (by show (0 : Int) < 2147483543; decide), ?_⟩⟩
      dsimp only [gName]
      generalize hx : (y * y + z * 7 + 11) % 2147483543 = x
      have hx0 : 0 ≤ x ∧ x < 2147483543 := by subst hx; exact ⟨Int.emod_nonneg _ (by decide), Int.emod_lt_of_pos _ (by decide)⟩
      refine ⟨_, rfl, _, _, rfl, rfl, .inr ⟨by decide, by decide⟩, _, _, rfl, rfl, .inl ⟨_, rfl, _, _, rfl, rfl, (by show (0 : Int) < 2147483543; decide), ?_⟩⟩
      dsimp only
      generalize hx2 : (x * 40009 + 77) % 2147483543 = x2
      have hx3 : 0 ≤ x2 ∧ x2 < 2147483629 := by subst hx2; omega
      refine ⟨_, rfl, _, rfl, _, _, rfl, rfl, ⟨by decide, by decide, by decide⟩, _, _, rfl, rfl, _, rfl, ?_⟩
      have out : ∀ y : Int, 0 ≤ y → ∀ p, H' p = none → Q (.ref p) (upd H' p (.lst [.int x2, .int y, .int i])) := fun y hy q nq =>
        k q _ (by
          cases e : H1 q with
          | none => rfl
          | some o => rw [s1 _ _ e] at nq; cases nq) (fun b o e => (upd_ne (ne_of_none (s1 b o e) nq)).trans (s1 b o e)) ⟨_, _, _, upd_same, hx3, hy, by omega⟩
      have hz : (0 : Int) ≤ if z < 0 then -z else z := by split <;> omega
      refine ite2 (fun _ => ?_) (fun _ => ?_)
      · exact ⟨_, rfl, _, rfl, _, rfl, (by show 3 ≤ sizeLine; decide), out _ hz⟩
      · exact ⟨_, rfl, (by show 3 ≤ sizeLine; decide), out _ (by decide)⟩
theorem ok_take {f : Addr} {fd : FuncData} (F : Fun K "_law_take" "_law_take" s_take f fd) (T : Blt mg) : FnOk P w K mg base CX0 1 f fd ["_law_spring_here", "_law_many"] sp_dip := by
  refine F.ok sc_take (fun vs H Q E h => ?_) (fun cdv A outer s H vs Q E hr h => ?_)
  · obtain ⟨_, _, _, rfl, _⟩ := h
    rfl
  · obtain ⟨a, m, n, rfl, ⟨x, y, z, e, hx, hy, hz⟩, hn, hm, hm2, k⟩ := h
    refine ⟨_, (pss_cons (ps_if (pt_cmpR op_gt (pe_ix ix_list (pv 0) pe_int (fun _ _ => rfl)) pe_int (nomark _)) (pss_cons (ps_asg (pe_callB call_divmodW (by rfl) T.b_divmod (by decide +kernel) (pa_cons (pe_ix ix_list (pv 0) pe_int (fun _ _ => rfl)) (pa_cons (pv 1) pa_nil))) (pg_tup (by rfl) (pgs_cons (pg_sub (pv 0) pe_int set_list) (pgs_cons (pg_name (i := 2) sc_take.nd rfl (Or.inl rfl)) pgs_nil)))) (pss_one (ps_ret (pv 2)))) pss_nil)
      (pss_cons (ps_asg (pe_op op_add (pe_ix ix_list (pv 0) pe_int (fun _ _ => rfl)) pe_int) (pg_sub (pv 0) pe_int set_list))
      (pss_cons (ps_par (i := 3) (j := 4) (by rfl) sc_take.nd rfl rfl (by decide) rfl rfl (pa_cons (pe_op op_add pe_int (pe_op op_mul pe_int (pe_ix ix_list (pv 0) pe_int (fun _ _ => rfl)))) (pa_cons (pe_op op_add (pe_op op_mul pe_int (pe_ix ix_list (pv 0) pe_int (fun _ _ => rfl))) pe_int) pa_nil)) (by rfl))
      (pss_cons (ps_asg (pe_op op_mod (pe_callTy call_int1 (by rfl) T.b_int (by decide +kernel) (pa_cons (pe_op op_add (pe_op op_mul (pe_ix ix_list (pv 0) pe_int (fun _ _ => rfl)) (pv 3)) (pv 4)) pa_nil)) pe_int) (pg_sub (pv 0) pe_int set_list))
      (pss_one (ps_ret (pe_op op_mod (pe_callTy call_int1 (by rfl) T.b_int (by decide +kernel) (pa_cons (pe_op op_fdiv (pe_ix ix_list (pv 0) pe_int (fun _ _ => rfl)) pe_int) pa_nil)) (pv 1)))))))), ?_⟩
    refine ⟨_, rfl, a, _, 1, _, rfl, rfl, SqL.of e, rfl, _, _, rfl, rfl, _, rfl, ?_⟩
    refine ite2 (fun hp => ?_) (fun _ => ?_)
    · refine ⟨_, rfl, a, _, 1, _, rfl, rfl, SqL.of e, rfl, _, rfl, _, _, rfl, ⟨hm, ?_⟩, fun p np => ?_⟩
      · refine PyProof.noPylong_of_log2 ?_
        have q := PySem.Flt.log2_lt_of (n := m.natAbs) (k := 200) (by decide) (by omega)
        omega
      · have npa : a ≠ p := fun w => by rw [← w, e] at np; cases np
        refine ⟨p, _, rfl, SqT.of upd_same, rfl, _, _, rfl, ⟨_, rfl, a, _, _, 1, rfl, rfl, Eq.trans (upd_ne npa) e, rfl, _, _, rfl, ⟨rfl, _, rfl, ?_⟩⟩⟩
        refine k _ _ (Int.emod_nonneg _ (by omega)) (Int.emod_lt_of_pos _ hm) (fun b o hb eb => ?_) ⟨_, _, _, upd_same, hx, Int.ediv_nonneg hy (by omega), hz.1, by omega⟩
        rw [upd_ne hb, upd_ne (ne_of_none eb np)]
        exact eb
    · refine ⟨_, rfl, a, _, 2, _, rfl, rfl, SqL.of e, rfl, _, _, rfl, rfl, _, rfl, a, _, _, 2, rfl, rfl, e, rfl, ?_⟩
      refine ⟨_, rfl, a, _, 2, _, rfl, rfl, SqL.of upd_same, rfl, _, _, rfl, rfl, .inl ⟨by decide, by decide⟩, _, _, rfl, rfl, _, rfl, a, _, 2, _, rfl, rfl, SqL.of upd_same, rfl, _, _, rfl, rfl, .inl ⟨by decide, by decide⟩, _, _, rfl, rfl, _, _, rfl, ?_⟩
      dsimp only
      refine ⟨_, rfl, a, _, 0, _, rfl, rfl, SqL.of upd_same, rfl, _, rfl, _, _, rfl, rfl, .inl ⟨by omega, by omega⟩, _, rfl, _, _, rfl, rfl, .inl ⟨_, rfl, _, _, rfl, rfl, (by show (0 : Int) < 2147483543; decide), _, rfl, a, _, _, 0, rfl, rfl, upd_same, rfl, ?_⟩⟩
      refine ⟨_, rfl, a, _, 0, _, rfl, rfl, SqL.of upd_same, rfl, _, _, rfl, rfl, ⟨by decide, by decide⟩, .inl ⟨_, rfl, _, rfl, _, _, rfl, rfl, hm, ?_⟩⟩
      refine k _ _ (Int.emod_nonneg _ (by omega)) (Int.emod_lt_of_pos _ hm) (fun b o hb eb => by rw [upd_ne hb, upd_ne hb]; exact eb) ⟨_, _, _, upd_same, ⟨Int.emod_nonneg _ (by decide), Int.lt_of_lt_of_le (Int.emod_lt_of_pos _ (by decide)) (by decide)⟩, hy, by omega, by omega⟩
end
end RV
/-! names of the later laws -/
namespace RV
open PySem L2 TL
section
variable {P : Program} {w : World} {K : PySem.W.Frag} {mg : Str → Option Value} {base : Heap}
theorem ok_titles {f : Addr} {fd : FuncData} (F : Fun K "_law_titles" "_law_titles" s_titles f fd) (T : Blt mg) (h_take : Fn P w K mg base "_law_take" 1 ["_law_spring_here", "_law_many"] (Irr sp_dip)) : FnOk P w K mg base CX0 2 f fd ["_law_spring_here", "_law_many"] sp_names := by
  refine F.ok sc_titles (fun vs H Q E h => ?_) (fun cdv A outer s H vs Q E hr h => ?_)
  · obtain ⟨_, _, _, rfl, _⟩ := h
    rfl
  · obtain ⟨a, n, m, rfl, wl, hn, hm, k⟩ := h
    refine ⟨_, (pss_cons (ps_asg (pe_tup (pa_cons pe_str (pa_cons (pe_lst pa_nil) pa_nil))) (pg_tup (by rfl) (pgs_cons (pg_name (i := 2) sc_titles.nd rfl (Or.inl rfl)) (pgs_cons (pg_name (i := 3) sc_titles.nd rfl (Or.inr rfl)) pgs_nil))))
      (pss_cons (ps_set (i := 4) sc_titles.nd rfl (Or.inl rfl) (pe_lst (pa_cons pe_str (pa_cons pe_str (pa_cons pe_str (pa_cons pe_str (pa_cons pe_str (pa_cons pe_str (pa_cons pe_str (pa_cons pe_str pa_nil))))))))))
      (pss_cons (ps_for PassesOwn.never rfl (pi_range1 rfl T.b_range (pa_cons (pv 1) pa_nil)) (pg_name (i := 5) sc_titles.nd rfl (Or.inl rfl)) (pss_cons (ps_asg (pe_tup (pa_cons (pe_ix ix_list (pe_lst (pa_cons pe_int (pa_cons pe_int (pa_cons pe_int (pa_cons pe_int (pa_cons pe_int (pa_cons pe_int pa_nil))))))) (pe_fn h_take (hr.mono (by decide)) (pa_cons (pv 0) (pa_cons pe_int pa_nil))) (fun _ _ => rfl)) (pa_cons (pe_ix ix_str (pv 2) (pe_fn h_take (hr.mono (by decide)) (pa_cons (pv 0) (pa_cons pe_int pa_nil))) (fun _ _ => rfl)) pa_nil))) (pg_tup (by rfl) (pgs_cons (pg_name (i := 6) sc_titles.nd rfl (Or.inl rfl)) (pgs_cons (pg_name (i := 7) sc_titles.nd rfl (Or.inr rfl)) pgs_nil)))) (pss_cons (ps_for PassesOwn.never rfl (pi_range1 rfl T.b_range (pa_cons (pv 6) pa_nil)) (pg_name (i := 8) sc_titles.nd rfl (Or.inl rfl)) (pss_one (ps_set (i := 7) sc_titles.nd rfl (Or.inr rfl) (pe_op op_add_str (pv 7) (pe_ix ix_str (pv 2) (pe_fn h_take (hr.mono (by decide)) (pa_cons (pv 0) (pa_cons pe_int pa_nil))) (fun _ _ => rfl)))))) (pss_cons (ps_if (pt_cmpR op_eq (pe_fn h_take (hr.mono (by decide)) (pa_cons (pv 0) (pa_cons pe_int pa_nil))) pe_int (nomark _)) (pss_one (ps_set (i := 7) sc_titles.nd rfl (Or.inr rfl) (pe_ix ix_list (pv 4) (pe_fn h_take (hr.mono (by decide)) (pa_cons (pv 0) (pa_cons pe_int pa_nil))) (fun _ _ => rfl)))) pss_nil) (pss_cons (ps_set (i := 9) sc_titles.nd rfl (Or.inl rfl) (pe_op op_cat (pe_lst (pa_cons (pv 7) pa_nil)) (pe_lc (own := [("_law_sign", 10)]) (g := gName 10) (tt := tYes) rfl sc_titles.nd (pi_str (pv 2)) (blkOk_by (N := sc_titles_N) (sc := defScope s_titles) (by decide +kernel)) (fun _ _ _ _ _ => pg_name (i := 10) sc_titles.nd rfl (Or.inl rfl)) (fun _ _ _ _ _ => pts_nil) (fun _ _ _ _ _ => (pe_op op_add_str (pe_slice sl_str (pv 7) po_none (po_some pe_int)) (pv 10)))))) (pss_one (ps_expr (pe_bm PySem.F.plainAttrs_list PySem.F.slot_list_append PySem.F.type_list_append mt_append (pv 3) (pa_cons (pe_ix ix_list (pe_lc (own := [("_law_one", 11)]) (g := gName 11) rfl sc_titles.nd (pi_list (pv 9)) (blkOk_by (N := sc_titles_N) (sc := defScope s_titles) (by decide +kernel)) (fun _ _ _ _ _ => pg_name (i := 11) sc_titles.nd rfl (Or.inl rfl)) (fun _ _ _ _ _ => pts_one (pt_cmpR (op_notInK (K := K)) (pv 11) (pv 3) (by rfl))) (fun _ _ _ _ _ => (pv 11))) pe_int (fun _ _ => rfl)) pa_nil)))))))))
      (pss_one (ps_ret (pv 3)))))), ?_⟩
    have b0 := Bag.start wl
    refine ⟨by decide, fun fl f0 => ⟨(by show 2 ≤ sizeLine; decide), fun T0 nT0 => ⟨T0, _, rfl, SqT.of upd_same, rfl, _, _, rfl, _, _, rfl, rfl, ?_⟩⟩⟩
    have b1 := (b0.newM (o := .lst []) f0).new (o := .tup [.str signs, .ref fl]) nT0
    dsimp only
    refine ⟨(by show 8 ≤ sizeLine; decide), fun W0 nW0 => ?_⟩
    have b2 := (b1.new (o := .lst (words3.map V.str)) nW0).sub (F' := [(W0, .lst (words3.map V.str))]) fun p hp => by
      rw [List.mem_singleton.mp hp]
      exact List.mem_cons_self
    dsimp only [gName]
    refine ⟨_, rfl, m, rfl, by omega, by omega, for_range (lo := 0) (n := m) (fun j σ H' => ∃ (xs : List Str) (o5 o6 o7 o8 o9 o10 o11 : Option V), σ = [some (.ref a), some (.int m), some (.str signs), some (.ref fl), some (.ref W0), o5, o6, o7, o8, o9, o10, o11] ∧
      xs.length = j ∧ xs.Nodup ∧ (∀ x ∈ xs, IsNm x) ∧ Bag H a (n + 15 * j) [(fl, .lst (xs.map V.str))] [(W0, .lst (words3.map V.str))] H') ?_ ?_ ?_⟩
    · exact ⟨[], _, _, _, _, _, _, _, rfl, rfl, .nil, (fun _ hx => nomatch hx), b2⟩
    · rintro j σ H2 hj ⟨xs, o5, o6, o7, o8, o9, o10, o11, rfl, xl, xd, xn, b3⟩
      dsimp only [gName]
      rw [Int.zero_add]
      -- size, first sign
      refine ⟨(by show 6 ≤ sizeLine; decide), fun q0 nq0 => ?_⟩
      have b4 := b3.new (o := .lst [.int 0, .int 0, .int 1, .int 1, .int 3, .int 7]) nq0
      refine ⟨_, rfl, b4.dip (by omega) (by decide) (by decide) fun r H3 r0 r1 b5 => ?_⟩
      obtain ⟨sz, hsz, esz⟩ := sizes_at r0 r1
      refine ⟨q0, _, _, _, rfl, rfl, SqL.of (b5.at List.mem_cons_self), esz, _, rfl, _, rfl, b5.dip (by omega) (by decide) (by decide) fun r H4 r0 r1 b6 => ?_⟩
      obtain ⟨c, hc, lc⟩ := at_low r0 r1
      refine ⟨signs, _, c, rfl, rfl, by decide, hc, (by show 2 ≤ sizeLine; decide), fun T1 nT1 => ⟨T1, _, rfl, SqT.of upd_same, rfl, _, _, rfl, _, _, rfl, rfl, ?_⟩⟩
      have b7 := ((b6.new (o := .tup [.int sz, .str ⟨#[c]⟩]) nT1).wm (m := n + 15 * j + 2) (by omega)).sub (F' := [(W0, .lst (words3.map V.str))]) fun p hp => List.mem_cons_of_mem _ (List.mem_cons_of_mem _ hp)
      dsimp only
      -- the further signs
      refine ⟨_, rfl, (sz : Int), rfl, by omega, by omega, for_range (lo := 0) (n := sz) (fun t σ H' => ∃ (x : Str) (o8 : Option V), σ = [some (.ref a), some (.int m), some (.str signs), some (.ref fl), some (.ref W0), some (.int (j : Int)), some (.int (sz : Int)), some (.str x), o8, o9, o10, o11] ∧
        IsNm x ∧ x.length = t + 1 ∧ Bag H a (n + 15 * j + 2 + t) [(fl, .lst (xs.map V.str))] [(W0, .lst (words3.map V.str))] H') ?_ ?_ ?_⟩
      · exact ⟨_, _, rfl, isNm_iff.mpr ⟨c, [], rfl, lc, rfl, by decide⟩, rfl, b7⟩
      · rintro t σ H5 ht ⟨x, o8, rfl, nx, lx, b8⟩
        dsimp only [gName]
        refine ⟨_, rfl, _, rfl, _, rfl, b8.dip (by omega) (by decide) (by decide) fun r H6 r0 r1 b9 => ?_⟩
        obtain ⟨d, hd, ld⟩ := at_tail r0 r1
        refine ⟨signs, _, d, rfl, rfl, by decide, hd, _, _, rfl, rfl, szn (by rw [lx]; show t + 1 + 1 ≤ 1000; omega), _, _, rfl, ?_, by rw [sl_app, lx]; rfl, b9⟩
        show isNm (cd _) = true
        rw [cd_app]
        exact isNm_snoc nx (by rw [← cd_len]; omega) ld
      rintro σ H5 ⟨x, o8', rfl, nx, lx, b8⟩
      dsimp only
      -- a word
      refine seq_of (fun σ' H' => ∃ x : Str, IsNm x ∧ σ' = [some (.ref a), some (.int m), some (.str signs), some (.ref fl), some (.ref W0), some (.int (j : Int)), some (.int (sz : Int)), some (.str x), o8', o9, o10, o11] ∧ Bag H a (n + 15 * j + 12) [(fl, .lst (xs.map V.str))] [(W0, .lst (words3.map V.str))] H') ?rest3 (fun N hN => ?main3)
      case main3 =>
        refine ⟨_, rfl, b8.dip (by omega) (by decide) (by decide) fun r H6 _ _ b9 => ⟨rfl, _, rfl, ite2 (fun _ => ?_) fun _ => hN _ _ ⟨x, nx, rfl, b9.wm (by omega)⟩⟩⟩
        refine ⟨_, rfl, _, rfl, b9.dip (by omega) (by decide) (by decide) fun r H7 r0 r1 b10 => ?_⟩
        obtain ⟨y, hy, hyn⟩ := word3_at r0 r1
        exact ⟨W0, _, r, .str y, rfl, rfl, SqL.of (b10.at List.mem_cons_self), hy, hN _ _ ⟨y, hyn, rfl, b10.wm (by omega)⟩⟩
      rintro σ3 H6 ⟨y, ny, rfl, b9⟩
      clear b8 nx lx b7 b6 b5 b4
      have ly := nm8 ny
      -- the spare ones
      refine ⟨_, rfl, (by show 1 ≤ sizeLine; decide), fun p np => ?_⟩
      have b10 := b9.new (o := .lst [.str y]) np
      refine ⟨_, rfl, signs, rfl, fun D nD => lc_str (z := signs) (fun i H' => Bag H a (n + 15 * j + 12) [(D, .lst (((cands y).take i).map V.str)), (fl, .lst (xs.map V.str))] ((p, .lst [.str y]) :: [(W0, .lst (words3.map V.str))]) H') (b10.newM nD) ?_ ?_⟩
      · rintro i c H7 hi b11
        refine ⟨rfl, _, rfl, _, rfl, _, rfl, szn (by omega), _, rfl, _, _, rfl, rfl, ?_, _, b11.am List.mem_cons_self, ?_, ?_⟩
        · rw [show cutS y none (some 7) = cutS y none (some ((7 : Nat) : Int)) from rfl, cd_len, cd_pre, List.length_take, ← cd_len]
          have e2 : Str.length ⟨#[c]⟩ = 1 := rfl
          rw [e2]
          exact szn (by omega)
        · rw [List.length_map, List.length_take]
          exact Nat.lt_of_lt_of_le (show min i (cands y).length < 1000 by rw [cands_len]; omega) (by decide)
        · have e : (cands y)[i]? = some (cutS y none (some 7) ++ ⟨#[c]⟩) := by
            unfold cands
            rw [List.getElem?_map, hi]
            rfl
          rw [List.take_add_one, e, List.map_append]
          exact b11.put0
      rintro H7 b11
      rw [List.take_of_length_le (by rw [cands_len, cd_signs]; decide)] at b11
      refine ⟨p, D, _, _, rfl, rfl, b11.at List.mem_cons_self, b11.am List.mem_cons_self, ?_, fun q nq => ?_⟩
      · rw [List.length_map, cands_len]
        exact (by show 1 + 36 ≤ sizeLine; decide)
      have b12 := b11.frz.new (o := .lst ([V.str y] ++ (cands y).map V.str)) nq
      have eq1 : [V.str y] ++ (cands y).map V.str = (y :: cands y).map V.str := rfl
      rw [eq1] at b12 ⊢
      have esp : SqL K _ q ((y :: cands y).map V.str) := SqL.of (b12.at List.mem_cons_self)
      have eF := b12.am List.mem_cons_self
      dsimp only [gName]
      refine ⟨_, rfl, .inl ⟨rfl, _, SqL.of eF⟩, _, rfl, q, rfl, ⟨_, esp⟩, fun D2 nD2 => lc_keepV (xs := (y :: cands y).map V.str) (fun v => !inV v (xs.map V.str)) walk_list nD2 (by rw [List.length_map, List.length_cons, cands_len]; decide) (fun H' s' => esp.ext s') (fun _ => rfl) (fun v hv H8 s8 R kR => ?_) (fun v hv H8 R r => ⟨_, rfl, r⟩) fun H8 s8 hD2 => ?_⟩
      · obtain ⟨z, _, rfl⟩ := List.mem_map.mp hv
        exact ⟨_, rfl, _, rfl, fl, _, rfl, .inl (SqL.of (s8 _ _ eF)), rfl, strs_flat _, _, rfl, kR⟩
      have b13 := b12.same s8
      have ef : ((y :: cands y).map V.str).filter (fun v => !inV v (xs.map V.str)) = ((y :: cands y).filter fun z => !decide (z ∈ xs)).map V.str := by
        rw [List.filter_map]
        congr 1
        exact List.filter_congr fun y _ => by rw [Function.comp, inV_str]
      rw [ef] at hD2
      obtain ⟨z, hz, hzx⟩ := one_free (cands_nodup y) (xs := xs) (by rw [cands_len]; omega)
      have hm2 : z ∈ (y :: cands y).filter (fun z => !decide (z ∈ xs)) := List.mem_filter.mpr ⟨List.mem_cons_of_mem _ hz, by simp [hzx]⟩
      cases eg : (y :: cands y).filter (fun z => !decide (z ∈ xs)) with
      | nil => rw [eg] at hm2; cases hm2
      | cons u us =>
        rw [eg] at hD2
        have hu : u ∈ (y :: cands y).filter (fun z => !decide (z ∈ xs)) := by rw [eg]; exact List.mem_cons_self
        obtain ⟨hu1, hu2⟩ := List.mem_filter.mp hu
        have hux : u ∉ xs := by simpa using hu2
        have hun : IsNm u := by
          rcases List.mem_cons.mp hu1 with z | z
          · rw [z]; exact ny
          · exact cands_nm ny u z
        refine ⟨D2, _, 0, .str u, rfl, rfl, SqL.of hD2, atI_nat (j := 0) rfl, fl, _, _, rfl, rfl, b13.am List.mem_cons_self, ?_, xs ++ [u], _, _, _, _, _, _, _, rfl, by rw [List.length_append, xl]; rfl, nodup_snoc xd hux, fun z hz => ?_, ?_⟩
        · rw [List.length_map, xl]
          exact Nat.lt_of_lt_of_le (show j < 20 by omega) (by decide)
        · exact (List.mem_append.mp hz).elim (xn z) fun w => by rw [List.mem_singleton.mp w]; exact hun
        · rw [List.map_append]
          exact ((b13.put0 (o' := .lst (xs.map V.str ++ [V.str u]))).wm (by omega)).sub fun p hp => by
            rw [List.mem_singleton.mp hp]
            exact List.mem_cons_of_mem _ (List.mem_cons_of_mem _ (List.mem_cons_of_mem _ List.mem_cons_self))
    · rintro σ H2 ⟨xs, o5, o6, o7, o8, o9, o10, o11, rfl, xl, xd, xn, b3⟩
      exact ⟨_, rfl, k fl xs H2 f0 (b3.m _ List.mem_cons_self).2.1 b3.gr (b3.well.mono (by omega)) (b3.am List.mem_cons_self) xl xd xn⟩
end
end RV
/-! drawn nets of the later laws -/
namespace RV
open PySem L2 TL
section
variable {P : Program} {w : World} {K : PySem.W.Frag} {mg : Str → Option Value} {base : Heap}
theorem ok_plan {f : Addr} {fd : FuncData} (F : Fun K "_law_plan" "_law_plan" s_plan f fd) (T : Blt mg) (h_take : Fn P w K mg base "_law_take" 1 ["_law_spring_here", "_law_many"] (Irr sp_dip)) (h_titles : Fn P w K mg base "_law_titles" 2 ["_law_spring_here", "_law_many"] (Irr sp_names)) : FnOk P w K mg base CX0 3 f fd ["_law_spring_here", "_law_tubes", "_law_gauges"] sp_plan := by
  refine F.ok sc_plan (fun vs H Q E h => ?_) (fun cdv A outer s H vs Q E hr h => ?_)
  · obtain ⟨_, _, _, _, rfl, _⟩ := h
    rfl
  · obtain ⟨a, n, most, more, rfl, wl, hn, m1, m12, o12, k⟩ := h
    refine ⟨_, (pss_cons (ps_par (i := 3) (j := 4) (by rfl) sc_plan.nd rfl rfl (by decide) rfl rfl (pa_cons (pe_fn h_titles (hr.mono (by decide)) (pa_cons (pv 0) (pa_cons (pe_op op_add pe_int (pe_fn h_take (hr.mono (by decide)) (pa_cons (pv 0) (pa_cons pe_int pa_nil)))) pa_nil))) (pa_cons (pe_fn h_titles (hr.mono (by decide)) (pa_cons (pv 0) (pa_cons (pe_op op_add pe_int (pe_fn h_take (hr.mono (by decide)) (pa_cons (pv 0) (pa_cons (pv 1) pa_nil)))) pa_nil))) pa_nil)) (by rfl))
      (pss_cons (ps_asg (pe_tup (pa_cons (pe_callB call_len_seq (by rfl) T.b_len (by decide +kernel) (pa_cons (pv 3) pa_nil)) (pa_cons (pe_cmpR op_eq (pe_fn h_take (hr.mono (by decide)) (pa_cons (pv 0) (pa_cons pe_int pa_nil))) pe_int (nomark _)) (pa_cons (pe_lst pa_nil) (pa_cons (pe_lst pa_nil) pa_nil))))) (pg_tup (by rfl) (pgs_cons (pg_name (i := 5) sc_plan.nd rfl (Or.inl rfl)) (pgs_cons (pg_name (i := 6) sc_plan.nd rfl (Or.inl rfl)) (pgs_cons (pg_name (i := 7) sc_plan.nd rfl (Or.inl rfl)) (pgs_cons (pg_name (i := 8) sc_plan.nd rfl (Or.inl rfl)) pgs_nil))))))
      (pss_cons (ps_for PassesOwn.never rfl (pi_range1 rfl T.b_range (pa_cons (pe_callB call_len_seq (by rfl) T.b_len (by decide +kernel) (pa_cons (pv 4) pa_nil)) pa_nil)) (pg_name (i := 9) sc_plan.nd rfl (Or.inl rfl)) (pss_cons (ps_set (i := 10) sc_plan.nd rfl (Or.inl rfl) (pe_ifExp (PW.pt (pw_and (pt_val (pv 6)) (pw_and1 (pt_cmpR op_lt (pv 9) (pv 5) (nomark _))))) (pv 9) (pe_fn h_take (hr.mono (by decide)) (pa_cons (pv 0) (pa_cons (pv 5) pa_nil))))) (pss_cons (ps_set (i := 11) sc_plan.nd rfl (Or.inl rfl) (pe_ifExp (PW.pt (pw_and (pt_val (pv 6)) (pw_and1 (pt_cmpR op_lt (pv 9) (pv 5) (nomark _))))) pe_int (pe_op op_add pe_int (pe_fn h_take (hr.mono (by decide)) (pa_cons (pv 0) (pa_cons (pe_op op_sub (pv 5) pe_int) pa_nil)))))) (pss_cons (ps_set (i := 12) sc_plan.nd rfl (Or.inl rfl) (pe_op op_mod (pe_callTy call_int1 (by rfl) T.b_int (by decide +kernel) (pa_cons (pe_op op_add (pv 10) (pv 11)) pa_nil)) (pv 5))) (pss_cons (ps_set (i := 13) sc_plan.nd rfl (Or.inl rfl) (pe_cmpR op_eq (pe_fn h_take (hr.mono (by decide)) (pa_cons (pv 0) (pa_cons pe_int pa_nil))) pe_int (nomark _))) (pss_one (ps_expr (pe_bm PySem.F.plainAttrs_list PySem.F.slot_list_append PySem.F.type_list_append mt_append (pv 7) (pa_cons (pe_ifExp (pt_val (pv 13)) (pe_tup (pa_cons (pe_ix ix_list (pv 4) (pv 9) (fun _ _ => rfl)) (pa_cons (pv 12) (pa_cons (pv 10) pa_nil)))) (pe_tup (pa_cons (pe_ix ix_list (pv 4) (pv 9) (fun _ _ => rfl)) (pa_cons (pv 10) (pa_cons (pv 12) pa_nil))))) pa_nil)))))))))
      (pss_cons (ps_par (i := 14) (j := 15) (by rfl) sc_plan.nd rfl rfl (by decide) rfl rfl (pa_cons (pe_cmpR op_eq (pe_fn h_take (hr.mono (by decide)) (pa_cons (pv 0) (pa_cons pe_int pa_nil))) pe_int (nomark _)) (pa_cons (pe_fn h_titles (hr.mono (by decide)) (pa_cons (pv 0) (pa_cons (pe_fn h_take (hr.mono (by decide)) (pa_cons (pv 0) (pa_cons (pe_op op_add (pv 2) pe_int) pa_nil))) pa_nil))) pa_nil)) (by rfl))
      (pss_cons (ps_for PassesOwn.never rfl (pi_range1 rfl T.b_range (pa_cons (pe_callB call_len_seq (by rfl) T.b_len (by decide +kernel) (pa_cons (pv 15) pa_nil)) pa_nil)) (pg_name (i := 9) sc_plan.nd rfl (Or.inl rfl)) (pss_cons (ps_set (i := 16) sc_plan.nd rfl (Or.inl rfl) (pe_ifExp (PW.pt (pw_and (pt_val (pv 14)) (pw_and1 (pt_cmpR op_lt (pv 9) (pe_callB call_len_seq (by rfl) T.b_len (by decide +kernel) (pa_cons (pv 4) pa_nil)) (nomark _))))) (pv 9) (pe_fn h_take (hr.mono (by decide)) (pa_cons (pv 0) (pa_cons (pe_callB call_len_seq (by rfl) T.b_len (by decide +kernel) (pa_cons (pv 4) pa_nil)) pa_nil))))) (pss_one (ps_expr (pe_bm PySem.F.plainAttrs_list PySem.F.slot_list_append PySem.F.type_list_append mt_append (pv 8) (pa_cons (pe_tup (pa_cons (pe_ix ix_list (pv 15) (pv 9) (fun _ _ => rfl)) (pa_cons (pv 16) (pa_cons (pe_cmpR op_eq (pe_fn h_take (hr.mono (by decide)) (pa_cons (pv 0) (pa_cons pe_int pa_nil))) pe_int (nomark _)) pa_nil)))) pa_nil))))))
      (pss_one (ps_ret (pe_lst (pa_cons (pv 3) (pa_cons (pv 7) (pa_cons (pv 8) pa_nil))))))))))), ?_⟩
    have b0 := Bag.start wl
    refine ⟨_, rfl, _, rfl, b0.dip (by omega) (by decide) (by decide) fun r H1 r0 r1 b1 => ?_⟩
    obtain ⟨cn, rfl⟩ := Int.eq_ofNat_of_zero_le r0
    refine ⟨_, _, rfl, rfl, irr ⟨a, _, 2 + cn, rfl, b1.well, by omega, by omega, fun lp pl H2 np pa g2 w2 ep pll pld pln => ?_⟩⟩
    have b2 := (b1.grow g2 w2).add pa ep
    refine ⟨_, rfl, _, rfl, _, rfl, b2.dip (by omega) (by omega) (by omega) fun r H3 r0' r1' b3 => ?_⟩
    obtain ⟨sz, rfl⟩ := Int.eq_ofNat_of_zero_le r0'
    refine ⟨_, _, rfl, rfl, irr ⟨a, _, 1 + sz, rfl, b3.well, by omega, by omega, fun lt tl H4 nt ta g4 w4 et tll tld tln => ?_⟩⟩
    have b4 := (b3.grow g4 w4).add ta et
    refine ⟨_, _, rfl, ?_⟩
    dsimp only
    have p25 : 2 ≤ pl.length ∧ pl.length ≤ 5 := by omega
    have t1m : 1 ≤ tl.length ∧ tl.length ≤ most := by omega
    -- what stays
    refine ⟨_, rfl, lp, _, rfl, .inl (SqL.of (b4.at (List.mem_cons_of_mem _ List.mem_cons_self))), _, rfl, b4.dip (by omega) (by decide) (by decide) fun r H5 _ _ b5 => ⟨rfl, ?_⟩⟩
    generalize decide (V.int r = V.int 0) = rd
    rw [List.length_map]
    refine ⟨by decide, fun lq nq => ⟨by decide, fun lg ng => ⟨(by show 4 ≤ sizeLine; decide), fun T0 nT0 => ⟨T0, _, rfl, SqT.of upd_same, rfl, _, _, rfl, _, _, rfl, _, _, rfl, _, _, rfl, rfl, ?_⟩⟩⟩⟩
    have b6 := ((((b5.newM (o := .lst []) nq).newM (o := .lst []) ng).new (o := .tup [.int (pl.length : Int), .bl rd, .ref lq, .ref lg]) nT0).sub (F' := [(lt, .lst (tl.map V.str)), (lp, .lst (pl.map V.str))]) fun p hp => List.mem_cons_of_mem _ hp).wm (m := n + 410) (by omega)
    dsimp only
    have tn : ∀ {j : Nat} (h : j < tl.length), atI (tl.map V.str) (j : Int) = some (V.str tl[j]) := fun {j} h => atI_nat (by rw [List.getElem?_map, List.getElem?_eq_getElem h]; rfl)
    -- the pipes
    refine ⟨_, rfl, lt, _, rfl, .inl (SqL.of (b6.at List.mem_cons_self)), ?_⟩
    rw [List.length_map]
    refine ⟨(tl.length : Int), rfl, by omega, by omega, for_range (lo := 0) (n := tl.length) (fun j σ H' => ∃ (pu : List QU) (o9 o10 o11 o12 o13 : Option V), σ = [some (.ref a), some (.int most), some (.int more), some (.ref lp), some (.ref lt), some (.int (pl.length : Int)), some (.bl rd), some (.ref lq), some (.ref lg), o9, o10, o11, o12, o13, none, none, none] ∧
      pu.length = j ∧ (sn pu).map (·.1) = tl.take j ∧ (∀ q ∈ sn pu, q.2.1 < pl.length ∧ q.2.2 < pl.length ∧ q.2.1 ≠ q.2.2) ∧ Bag H a (n + 410 + 3 * j) [(lg, .lst []), (lq, .lst (rf pu))] ((lt, .lst (tl.map V.str)) :: (lp, .lst (pl.map V.str)) :: pu.map fun u => (u.1, oQ u.2)) H') ?_ ?_ ?_⟩
    · exact ⟨[], _, _, _, _, _, rfl, rfl, rfl, (fun _ hq => nomatch hq), b6⟩
    · rintro j σ H6 hj ⟨pu, o9, o10, o11, o12, o13, rfl, ul, un, uq, b7⟩
      dsimp only [gName]
      rw [Int.zero_add]
      -- first
      refine seq_of (fun σ' H' => ∃ f : Nat, f < pl.length ∧ σ' = [some (.ref a), some (.int most), some (.int more), some (.ref lp), some (.ref lt), some (.int (pl.length : Int)), some (.bl rd), some (.ref lq), some (.ref lg), some (.int (j : Int)), some (.int (f : Int)), o11, o12, o13, none, none, none] ∧ Bag H a (n + 410 + 3 * j + 1) [(lg, .lst []), (lq, .lst (rf pu))] ((lt, .lst (tl.map V.str)) :: (lp, .lst (pl.map V.str)) :: pu.map fun u => (u.1, oQ u.2)) H') ?rest1 (fun N hN => ?main1)
      case main1 =>
        cases rd with
        | true =>
          refine ⟨_, rfl, true, rfl, iteT ⟨_, rfl, _, rfl, _, _, rfl, rfl, _, rfl, ite2 (fun h => ?_) fun _ => ?_⟩⟩
          · have := of_decide_eq_true h
            exact ⟨_, rfl, hN _ _ ⟨j, by omega, rfl, b7.wm (by omega)⟩⟩
          · refine ⟨_, rfl, _, rfl, b7.dip (by omega) (by omega) (by omega) fun r H7 r0 r1 b8 => ?_⟩
            obtain ⟨q, rfl⟩ := Int.eq_ofNat_of_zero_le r0
            exact hN _ _ ⟨q, by omega, rfl, b8⟩
        | false =>
          refine ⟨_, rfl, false, rfl, iteF (iteF ⟨_, rfl, _, rfl, b7.dip (by omega) (by omega) (by omega) fun r H7 r0 r1 b8 => ?_⟩)⟩
          obtain ⟨q, rfl⟩ := Int.eq_ofNat_of_zero_le r0
          exact hN _ _ ⟨q, by omega, rfl, b8⟩
      rintro σ1 H7 ⟨f1, hf1, rfl, b8⟩
      refine seq_of (fun σ' H' => ∃ f : Nat, f + 1 < pl.length ∧ σ' = [some (.ref a), some (.int most), some (.int more), some (.ref lp), some (.ref lt), some (.int (pl.length : Int)), some (.bl rd), some (.ref lq), some (.ref lg), some (.int (j : Int)), some (.int (f1 : Int)), some (.int ((1 + f : Nat) : Int)), o12, o13, none, none, none] ∧ Bag H a (n + 410 + 3 * j + 2) [(lg, .lst []), (lq, .lst (rf pu))] ((lt, .lst (tl.map V.str)) :: (lp, .lst (pl.map V.str)) :: pu.map fun u => (u.1, oQ u.2)) H') ?rest2 (fun N hN => ?main2)
      case main2 =>
        have dr : ∀ {Q' : VK}, (∀ (q : Nat) H', q + 1 < pl.length → Bag H a (n + 410 + 3 * j + 2) [(lg, .lst []), (lq, .lst (rf pu))] ((lt, .lst (tl.map V.str)) :: (lp, .lst (pl.map V.str)) :: pu.map fun u => (u.1, oQ u.2)) H' → Q' (.int ((1 + q : Nat) : Int)) H') → tOp (rI0 fun i j => V.int (i + j)) (tC (.int 1)) (tCall (Irr sp_dip) [] E0 (tCons (tVar 0) (tCons (tOp (rI0 fun i j => V.int (i - j)) (tVar 5) (tC (.int 1))) tNil))) [some (.ref a), some (.int most), some (.int more), some (.ref lp), some (.ref lt), some (.int (pl.length : Int)), some (.bl rd), some (.ref lq), some (.ref lg), some (.int (j : Int)), some (.int (f1 : Int)), o11, o12, o13, none, none, none] H7 Q' := fun {Q'} kq => by
          refine ⟨_, rfl, _, rfl, _, _, rfl, rfl, b8.dip (by omega) (by omega) (by omega) fun r H8 r0 r1 b9 => ?_⟩
          obtain ⟨q, rfl⟩ := Int.eq_ofNat_of_zero_le r0
          refine ⟨_, _, rfl, rfl, ?_⟩
          have := kq q H8 (by omega) b9
          rwa [show ((1 + q : Nat) : Int) = 1 + (q : Int) by omega] at this
        cases rd with
        | true =>
          refine ⟨_, rfl, true, rfl, iteT ⟨_, rfl, _, rfl, _, _, rfl, rfl, _, rfl, ite2 (fun h => ?_) fun _ => ?_⟩⟩
          · exact hN _ _ ⟨0, by omega, rfl, b8.wm (by omega)⟩
          · exact dr fun q H8 hq b9 => hN _ _ ⟨q, hq, rfl, b9⟩
        | false =>
          exact ⟨_, rfl, false, rfl, iteF (iteF (dr fun q H8 hq b9 => hN _ _ ⟨q, hq, rfl, b9⟩))⟩
      rintro σ2 H8 ⟨f2, hf2, rfl, b9⟩
      have hjt : j < tl.length := hj
      have em : ((f1 : Int) + ((1 + f2 : Nat) : Int)) % (pl.length : Int) = (((f1 + (1 + f2)) % pl.length : Nat) : Int) := by
        rw [show (f1 : Int) + ((1 + f2 : Nat) : Int) = ((f1 + (1 + f2) : Nat) : Int) by omega]
        exact (Int.natCast_emod (f1 + (1 + f2)) pl.length).symm
      refine ⟨_, rfl, _, rfl, _, _, rfl, rfl, .inl ⟨_, rfl, _, rfl, _, _, rfl, rfl, (by show (0 : Int) < (pl.length : Int); omega), ?_⟩⟩
      dsimp only [gName]
      rw [em]
      have hs2 : (f1 + (1 + f2)) % pl.length < pl.length := Nat.mod_lt _ (by omega)
      have hne : (f1 + (1 + f2)) % pl.length ≠ f1 := step_ne hf1 hf2
      revert hs2 hne
      generalize (f1 + (1 + f2)) % pl.length = s2
      intro hs2 hne
      refine ⟨_, rfl, b9.dip (by omega) (by decide) (by decide) fun r H9 _ _ b10 => ⟨rfl, ?_⟩⟩
      generalize decide (V.int r = V.int 0) = tu
      have eQ := b10.am (p := lq) (List.mem_cons_of_mem _ List.mem_cons_self)
      have eT := b10.at List.mem_cons_self
      have fin : ∀ (x y : Nat), x < pl.length → y < pl.length → x ≠ y → ∀ tt, H9 tt = none → ∃ (pu' : List QU), rf pu' = rf pu ++ [.ref tt] ∧ pu'.length = j + 1 ∧ (sn pu').map (·.1) = tl.take (j + 1) ∧ (∀ q ∈ sn pu', q.2.1 < pl.length ∧ q.2.2 < pl.length ∧ q.2.1 ≠ q.2.2) ∧
          Bag H a (n + 410 + 3 * (j + 1)) [(lg, .lst []), (lq, .lst (rf pu'))] ((lt, .lst (tl.map V.str)) :: (lp, .lst (pl.map V.str)) :: pu'.map fun u => (u.1, oQ u.2)) (upd (upd H9 tt (oQ (tl[j], x, y))) lq (.lst (rf pu ++ [.ref tt]))) := fun x y hx hy hxy tt nt => by
        have e : rf (pu ++ [(tt, tl[j], x, y)]) = rf pu ++ [.ref tt] := by rw [rf, List.map_append]; rfl
        refine ⟨pu ++ [(tt, tl[j], x, y)], e, by rw [List.length_append, ul]; rfl, ?_, fun q hq => ?_, ?_⟩
        · rw [sn, List.map_append, List.map_append]
          show (sn pu).map (·.1) ++ [tl[j]] = _
          rw [un, List.take_add_one, List.getElem?_eq_getElem hjt]
          rfl
        · rw [sn, List.map_append] at hq
          rcases List.mem_append.mp hq with z | z
          · exact uq q z
          · rw [List.mem_singleton.mp z]
            exact ⟨hx, hy, hxy⟩
        · rw [e]
          refine (((b10.new (o := oQ (tl[j], x, y)) nt).put (i := 1) rfl (o' := .lst (rf pu ++ [.ref tt]))).wm (m := n + 410 + 3 * (j + 1)) (by omega)).sub fun p hp => ?_
          rw [List.map_append] at hp
          simp only [List.mem_cons, List.mem_append, List.map_cons, List.map_nil, List.not_mem_nil, or_false] at hp ⊢
          rcases hp with z | z | z | z
          · exact .inr (.inl z)
          · exact .inr (.inr (.inl z))
          · exact .inr (.inr (.inr z))
          · exact .inl z
      have hlq : (rf pu).length < sizeLine := by
        rw [rf_len, ul]
        exact Nat.lt_of_lt_of_le (show j < 20 by omega) (by decide)
      dsimp only [gName]
      cases tu with
      | true =>
        refine ⟨_, rfl, .inl ⟨rfl, _, SqL.of eQ⟩, _, rfl, true, rfl, iteT ⟨_, rfl, _, rfl, lt, _, _, _, rfl, rfl, SqL.of eT, tn hjt, _, rfl, _, rfl, (by show 3 ≤ sizeLine; decide), fun tt nt => ?_⟩⟩
        obtain ⟨pu', c1, c2, c3, c4, c5⟩ := fin s2 f1 hs2 hf1 hne tt nt
        refine ⟨lq, _, _, rfl, rfl, (upd_ne (ne_of_none eQ nt)).trans eQ, hlq, pu', _, _, _, _, _, rfl, c2, c3, c4, c5⟩
      | false =>
        refine ⟨_, rfl, .inl ⟨rfl, _, SqL.of eQ⟩, _, rfl, false, rfl, iteF ⟨_, rfl, _, rfl, lt, _, _, _, rfl, rfl, SqL.of eT, tn hjt, _, rfl, _, rfl, (by show 3 ≤ sizeLine; decide), fun tt nt => ?_⟩⟩
        obtain ⟨pu', c1, c2, c3, c4, c5⟩ := fin f1 s2 hf1 hs2 (fun e => hne e.symm) tt nt
        refine ⟨lq, _, _, rfl, rfl, (upd_ne (ne_of_none eQ nt)).trans eQ, hlq, pu', _, _, _, _, _, rfl, c2, c3, c4, c5⟩
    rintro σ H6 ⟨pu, o9, o10, o11, o12, o13, rfl, ul, un, uq, b7⟩
    dsimp only
    refine ⟨_, rfl, b7.dip (by omega) (by decide) (by decide) fun r H7 _ _ b8 => ⟨rfl, ?_⟩⟩
    generalize decide (V.int r = V.int 0) = ev
    refine ⟨_, rfl, _, rfl, _, rfl, _, _, rfl, rfl, b8.dip (by omega) (by omega) (by omega) fun r H8 r0 r1 b9 => ?_⟩
    obtain ⟨gm, rfl⟩ := Int.eq_ofNat_of_zero_le r0
    refine irr ⟨a, _, gm, rfl, b9.well, by omega, by omega, fun ln gl H9 nln na g9 w9 el gll gld gln => ?_⟩
    have b10 := (b9.addN nln na g9 w9 el).wm (m := n + 700) (by omega)
    refine ⟨_, _, rfl, ?_⟩
    dsimp only
    have gn : ∀ {j : Nat} (h : j < gl.length), atI (gl.map V.str) (j : Int) = some (V.str gl[j]) := fun {j} h => atI_nat (by rw [List.getElem?_map, List.getElem?_eq_getElem h]; rfl)
    refine ⟨_, rfl, ln, _, rfl, .inl (SqL.of (b10.at List.mem_cons_self)), ?_⟩
    rw [List.length_map]
    refine ⟨(gl.length : Int), rfl, by omega, by omega, for_range (lo := 0) (n := gl.length) (fun j σ H' => ∃ (gu : List GU) (o9 o16 : Option V), σ = [some (.ref a), some (.int most), some (.int more), some (.ref lp), some (.ref lt), some (.int (pl.length : Int)), some (.bl rd), some (.ref lq), some (.ref lg), o9, o10, o11, o12, o13, some (.bl ev), some (.ref ln), o16] ∧
      gu.length = j ∧ (sn gu).map (·.1) = gl.take j ∧ (∀ g ∈ sn gu, g.2.1 < tl.length) ∧ Bag H a (n + 700 + 2 * j) [(lg, .lst (rf gu)), (lq, .lst (rf pu))] ((ln, .lst (gl.map V.str)) :: (lt, .lst (tl.map V.str)) :: (lp, .lst (pl.map V.str)) :: ((pu.map fun u => (u.1, oQ u.2)) ++ gu.map fun u => (u.1, oG u.2))) H') ?_ ?_ ?_⟩
    · refine ⟨[], _, _, rfl, rfl, rfl, (fun _ hq => nomatch hq), b10.sub fun p hp => ?_⟩
      simp only [List.map_nil, List.append_nil] at hp
      exact hp
    · rintro j σ H10 hj ⟨gu, o9', o16, rfl, gul, gun, guq, b11⟩
      dsimp only [gName]
      rw [Int.zero_add]
      refine seq_of (fun σ' H' => ∃ f : Nat, f < tl.length ∧ σ' = [some (.ref a), some (.int most), some (.int more), some (.ref lp), some (.ref lt), some (.int (pl.length : Int)), some (.bl rd), some (.ref lq), some (.ref lg), some (.int (j : Int)), o10, o11, o12, o13, some (.bl ev), some (.ref ln), some (.int (f : Int))] ∧ Bag H a (n + 700 + 2 * j + 1) [(lg, .lst (rf gu)), (lq, .lst (rf pu))] ((ln, .lst (gl.map V.str)) :: (lt, .lst (tl.map V.str)) :: (lp, .lst (pl.map V.str)) :: ((pu.map fun u => (u.1, oQ u.2)) ++ gu.map fun u => (u.1, oG u.2))) H') ?rest4 (fun N hN => ?main4)
      case main4 =>
        have mT : (lt, HO.lst (tl.map V.str)) ∈ ((ln, .lst (gl.map V.str)) :: (lt, .lst (tl.map V.str)) :: (lp, .lst (pl.map V.str)) :: ((pu.map fun u => (u.1, oQ u.2)) ++ gu.map fun u => (u.1, oG u.2))) := List.mem_cons_of_mem _ List.mem_cons_self
        have dr : ∀ {N : V → Hp → Prop}, (∀ (q : Nat) H', q < tl.length → Bag H a (n + 700 + 2 * j + 1) [(lg, .lst (rf gu)), (lq, .lst (rf pu))] ((ln, .lst (gl.map V.str)) :: (lt, .lst (tl.map V.str)) :: (lp, .lst (pl.map V.str)) :: ((pu.map fun u => (u.1, oQ u.2)) ++ gu.map fun u => (u.1, oG u.2))) H' → N (.int (q : Int)) H') → Irr sp_dip [.ref a, .int (tl.length : Int)] H10 N E0 := fun {N} kq => b11.dip (by omega) (by omega) (by omega) fun r H8 r0 r1 b9 => by
          obtain ⟨q, rfl⟩ := Int.eq_ofNat_of_zero_le r0
          exact kq q H8 (by omega) b9
        have lenE : ((tl.map V.str).length : Int) = (tl.length : Int) := by rw [List.length_map]
        cases ev with
        | true =>
          refine ⟨_, rfl, true, rfl, iteT ⟨_, rfl, _, rfl, lt, _, rfl, .inl (SqL.of (b11.at mT)), _, _, rfl, rfl, _, rfl, ?_⟩⟩
          rw [lenE]
          refine ite2 (fun h => ?_) fun _ => ?_
          · have := of_decide_eq_true h
            exact ⟨_, rfl, hN _ _ ⟨j, by omega, rfl, b11.wm (by omega)⟩⟩
          · refine ⟨_, rfl, _, rfl, lt, _, rfl, .inl (SqL.of (b11.at mT)), ?_⟩
            rw [lenE]
            exact dr fun q H8 hq b9 => hN _ _ ⟨q, hq, rfl, b9⟩
        | false =>
          refine ⟨_, rfl, false, rfl, iteF (iteF ⟨_, rfl, _, rfl, lt, _, rfl, .inl (SqL.of (b11.at mT)), ?_⟩)⟩
          rw [lenE]
          exact dr fun q H8 hq b9 => hN _ _ ⟨q, hq, rfl, b9⟩
      rintro σ2 H11 ⟨pq, hpq, rfl, b12⟩
      have eG := b12.am (p := lg) List.mem_cons_self
      have eL := b12.at List.mem_cons_self
      refine ⟨_, rfl, .inl ⟨rfl, _, SqL.of eG⟩, _, rfl, _, rfl, ln, _, _, _, rfl, rfl, SqL.of eL, gn hj, _, rfl, _, rfl, b12.dip (by omega) (by decide) (by decide) fun r H12 _ _ b13 => ⟨rfl, ?_⟩⟩
      generalize decide (V.int r = V.int 0) = shut
      refine ⟨(by show 3 ≤ sizeLine; decide), fun tt nt => ?_⟩
      have b14 := b13.new (o := oG (gl[j], pq, shut)) nt
      have e : rf (gu ++ [(tt, gl[j], pq, shut)]) = rf gu ++ [.ref tt] := by rw [rf, List.map_append]; rfl
      refine ⟨lg, _, _, rfl, rfl, b14.am List.mem_cons_self, ?_, gu ++ [(tt, gl[j], pq, shut)], _, _, rfl, by rw [List.length_append, gul]; rfl, ?_, fun g hg => ?_, ?_⟩
      · rw [rf_len, gul]
        exact Nat.lt_of_lt_of_le (show j < 20 by omega) (by decide)
      · rw [sn, List.map_append, List.map_append]
        show (sn gu).map (·.1) ++ [gl[j]] = _
        rw [gun, List.take_add_one, List.getElem?_eq_getElem hj]
        rfl
      · rw [sn, List.map_append] at hg
        rcases List.mem_append.mp hg with z | z
        · exact guq g z
        · rw [List.mem_singleton.mp z]
          exact hpq
      · rw [e]
        refine ((b14.put0 (o' := .lst (rf gu ++ [.ref tt]))).wm (m := n + 700 + 2 * (j + 1)) (by omega)).sub fun p hp => ?_
        rw [List.map_append] at hp
        simp only [List.mem_cons, List.mem_append, List.map_cons, List.map_nil, List.not_mem_nil, or_false] at hp ⊢
        rcases hp with z | z | z | z | z | z
        · exact .inr (.inl z)
        · exact .inr (.inr (.inl z))
        · exact .inr (.inr (.inr (.inl z)))
        · exact .inr (.inr (.inr (.inr (.inl z))))
        · exact .inr (.inr (.inr (.inr (.inr z))))
        · exact .inl z
    rintro σ3 H10 ⟨gu, o9', o16, rfl, gul, gun, guq, b11⟩
    refine ⟨_, rfl, _, rfl, _, rfl, (by show 3 ≤ sizeLine; decide), fun l nl => ?_⟩
    have b12 := ((b11.new (o := .lst [.ref lp, .ref lq, .ref lg]) nl).frz.frz).wm (m := n + 2000) (by omega)
    rw [List.take_length] at gun un
    refine k l lp lq lg pl pu gu _ (b12.sub fun p hp => ?_) ⟨p25.1, p25.2, pln, pld, by show 1 ≤ (sn pu).length; rw [sn_len]; omega, by show (sn pu).length ≤ most; rw [sn_len]; omega, fun q hq => ?_, by show ((sn pu).map (·.1)).Nodup; rw [un]; exact tld, by show (sn gu).length ≤ more; rw [sn_len]; omega, fun g hg => ?_, by show ((sn gu).map (·.1)).Nodup; rw [gun]; exact gld⟩
    · simp only [lM, List.mem_cons] at hp ⊢
      rcases hp with z | z | z | z | z
      · exact .inr (.inr (.inl z))
      · exact .inr (.inr (.inr (.inr (.inr (.inl z)))))
      · exact .inl z
      · exact .inr (.inl z)
      · exact .inr (.inr (.inr (.inr (.inr (.inr z)))))
    · have hq1 : q.1 ∈ tl := by rw [← un]; exact List.mem_map.mpr ⟨q, hq, rfl⟩
      obtain ⟨c1, c2, c3⟩ := uq q hq
      exact ⟨tln _ hq1, c1, c2, c3⟩
    · have hg1 : g.1 ∈ gl := by rw [← gun]; exact List.mem_map.mpr ⟨g, hg, rfl⟩
      exact ⟨gln _ hg1, by show g.2.1 < (sn pu).length; rw [sn_len, ul]; exact guq g hg⟩
end
end RV
/-! the text of a drawn net -/
namespace RV
open PySem L2 TL
section
variable {P : Program} {w : World} {K : PySem.W.Frag} {mg : Str → Option Value} {base : Heap}
theorem ok_grid {f : Addr} {fd : FuncData} (F : Fun K "_law_grid" "_law_grid" s_grid f fd) : FnOk P w K mg base CX0 1 f fd ["_law_plan_here"] sp_grid := by
  refine F.ok sc_grid (fun vs H Q E h => ?_) (fun cdv A outer s H vs Q E hr h => ?_)
  · obtain ⟨_, _, _, _, rfl, _⟩ := h
    rfl
  · obtain ⟨l, M, most, more, rfl, md, ok, m12, o12, k⟩ := h
    refine ⟨_, (pss_cons (ps_setLc (i := 1) (own := [("_law_one", 2)]) (g := gName 2) (tt := tYes) rfl sc_grid.nd rfl rfl (sw_true rfl rfl rfl (by decide +kernel)) (pi_list (pe_ix ix_list (pv 0) pe_int (fun _ _ => rfl))) (blkOk_by (N := sc_grid_N) (sc := defScope s_grid) (by decide +kernel)) (fun _ _ _ _ _ => pg_name (i := 2) sc_grid.nd rfl (Or.inl rfl)) (fun _ _ _ _ _ => pts_nil) (fun _ _ _ _ _ => (pe_op op_add_str (pe_op op_add_str (pe_op op_add_str (pe_op op_add_str (pe_op op_add_str pe_str (pe_ix (ix_tupK (K := K)) (pv 2) pe_int (fun _ _ => rfl))) pe_str) (pe_ix (ix_listK (K := K)) (pe_ix (ix_listK (K := K)) (pv 0) pe_int (fun _ _ => rfl)) (pe_ix (ix_tupK (K := K)) (pv 2) pe_int (fun _ _ => rfl)) (fun _ _ => rfl))) pe_str) (pe_ix (ix_listK (K := K)) (pe_ix (ix_listK (K := K)) (pv 0) pe_int (fun _ _ => rfl)) (pe_ix (ix_tupK (K := K)) (pv 2) pe_int (fun _ _ => rfl)) (fun _ _ => rfl)))))
      (pss_cons (ps_for PassesOwn.never rfl (pi_list (pe_ix ix_list (pv 0) pe_int (fun _ _ => rfl))) (pg_name (i := 2) sc_grid.nd rfl (Or.inl rfl)) (pss_one (ps_expr (pe_bm PySem.F.plainAttrs_list PySem.F.slot_list_append PySem.F.type_list_append mt_append (pv 1) (pa_cons (pe_op op_add_str (pe_op op_add_str (pe_op op_add_str (pe_op op_add_str pe_str (pe_ix ix_tup (pv 2) pe_int (fun _ _ => rfl))) pe_str) (pe_ix ix_tup (pe_ix ix_list (pe_ix ix_list (pv 0) pe_int (fun _ _ => rfl)) (pe_ix ix_tup (pv 2) pe_int (fun _ _ => rfl)) (fun _ _ => rfl)) pe_int (fun _ _ => rfl))) (pe_ifExp (pt_truth (pe_ix ix_tup (pv 2) pe_int (fun _ _ => rfl)) (by intro _; rfl)) pe_str pe_str)) pa_nil)))))
      (pss_one (ps_ret (pe_bm PySem.F.plainAttrs_str PySem.F.slot_str_join PySem.F.type_str_join mt_join pe_str (pa_cons (pv 1) pa_nil)))))), ?_⟩
    obtain ⟨lp, lq, lg, pu, gu, e1, e2, kp⟩ := md.ex
    have ekl : H l = some (.lst [.ref lp, .ref lq, .ref lg]) := kp (l, _) List.mem_cons_self
    have ekp : H lp = some (.lst (M.pl.map V.str)) := kp (lp, _) (List.mem_cons_of_mem _ List.mem_cons_self)
    have ekq : H lq = some (.lst (rf pu)) := kp (lq, _) (List.mem_cons_of_mem _ (List.mem_cons_of_mem _ List.mem_cons_self))
    have ekg : H lg = some (.lst (rf gu)) := kp (lg, _) (List.mem_cons_of_mem _ (List.mem_cons_of_mem _ (List.mem_cons_of_mem _ List.mem_cons_self)))
    have eku : ∀ u ∈ pu, H u.1 = some (oQ u.2) := fun u hu => kp (u.1, _) (List.mem_cons_of_mem _ (List.mem_cons_of_mem _ (List.mem_cons_of_mem _ (List.mem_cons_of_mem _ (List.mem_append_left _ (List.mem_map.mpr ⟨u, hu, rfl⟩))))))
    have ekv : ∀ u ∈ gu, H u.1 = some (oG u.2) := fun u hu => kp (u.1, _) (List.mem_cons_of_mem _ (List.mem_cons_of_mem _ (List.mem_cons_of_mem _ (List.mem_cons_of_mem _ (List.mem_append_right _ (List.mem_map.mpr ⟨u, hu, rfl⟩))))))
    have po := ok.po m12
    have mo := ok.mo o12
    have ul : pu.length ≤ 12 := by rw [← sn_len, e1]; exact Nat.le_trans ok.qm m12
    have gl : gu.length ≤ 12 := by rw [← sn_len, e2]; exact Nat.le_trans ok.gm o12
    have atp : ∀ {i : Nat} (h : i < M.pl.length), atI (M.pl.map V.str) (i : Int) = some (V.str (M.pl.getD i "")) := fun {i} h => atI_nat (by rw [List.getElem?_map, List.getElem?_eq_getElem h, getD_lt h]; rfl)
    have ep1 : Str.length " " = 1 := by decide +kernel
    have ep5 : Str.length "pipe " = 5 := by decide +kernel
    have ep6 : Str.length "meter " = 6 := by decide +kernel
    have psl : M.ps.length = pu.length := by rw [Mod.ps, List.length_map, ← e1, sn_len]
    refine ⟨_, rfl, l, _, 1, _, rfl, rfl, SqL.of ekl, rfl, lq, rfl, ⟨_, SqL.of ekq⟩, fun ll nl => lc_to (xs := rf pu) ((M.ps.map pline).map V.str) (by rw [List.length_map, List.length_map, psl, rf_len]) walk_list nl (by rw [rf_len]; omega) (fun H' s' => SqL.of (s' _ _ ekq)) (fun _ => rfl) (fun j v y hv hy H1 s1 R kR => ?_) fun H1 s1 eL => ?_⟩
    · obtain ⟨u, hu, rfl⟩ := rf_get hv
      have hsg := sn_get hu
      rw [e1] at hsg
      have hm := List.mem_of_getElem? hsg
      obtain ⟨n1, n2, n3, n4⟩ := ok.qn _ hm
      have eu := s1 _ _ (eku u (List.mem_of_getElem? hu))
      have hps : M.ps[j]? = some (u.2.1, M.pl.getD u.2.2.1 "", M.pl.getD u.2.2.2 "") := by rw [Mod.ps, List.getElem?_map, hsg]; rfl
      rw [List.getElem?_map, List.getElem?_map, hps] at hy
      obtain rfl := Option.some.inj hy
      obtain ⟨b1, b2, b3, _⟩ := po.nm _ (List.mem_of_getElem? hps)
      have l1 := nm8 b1
      have l2 := nm8 b2
      have l3 := nm8 b3
      dsimp only at l1 l2 l3
      refine ⟨_, rfl, u.1, _, 0, .str u.2.1, rfl, rfl, SqT.of eu, rfl, _, _, rfl, rfl, ?_, _, _, rfl, rfl, ?_, _, rfl, l, _, 0, _, rfl, rfl, SqL.of (s1 _ _ ekl), rfl, _, rfl, u.1, _, 1, _, rfl, rfl, SqT.of eu, rfl, lp, _, _, _, rfl, rfl, SqL.of (s1 _ _ ekp), atp n2, _, _, rfl, rfl, ?_, _, _, rfl, rfl, ?_, _, rfl, l, _, 0, _, rfl, rfl, SqL.of (s1 _ _ ekl), rfl, _, rfl, u.1, _, 2, _, rfl, rfl, SqT.of eu, rfl, lp, _, _, _, rfl, rfl, SqL.of (s1 _ _ ekp), atp n3, _, _, rfl, rfl, ?_, ?_⟩
      · rw [ep5]; exact szn (by omega)
      · rw [sl_app, ep5, ep1]; exact szn (by omega)
      · rw [sl_app, sl_app, ep5, ep1]; exact szn (by omega)
      · rw [sl_app, sl_app, sl_app, ep5, ep1]; exact szn (by omega)
      · rw [sl_app, sl_app, sl_app, sl_app, ep5, ep1]; exact szn (by omega)
      rw [pline_app2]
      exact kR H1 (Same.refl _)
    have hl0 : H ll = none := nl
    have ens : M.ms.length = gu.length := by rw [Mod.ms, List.length_map, ← e2, sn_len]
    dsimp only [gName]
    refine ⟨_, rfl, l, _, 2, _, rfl, rfl, SqL.of (s1 _ _ ekl), rfl, lg, rfl, ⟨_, SqL.of (s1 _ _ ekg)⟩, for_list (xs := rf gu) (fun j σ H' => (∃ o2, σ = [some (.ref l), some (.ref ll), o2]) ∧ Same H H' ∧ H' ll = some (.lst ((M.ps.map pline).map V.str ++ ((M.ms.take j).map mline).map V.str))) ⟨⟨_, rfl⟩, s1, by rw [eL]; simp⟩ (fun j σ H' _ z => SqL.of (z.2.1 _ _ ekg)) ?_ ?_⟩
    · rintro j y σ H2 hy ⟨⟨o2, rfl⟩, s2, eL2⟩
      obtain ⟨u, hu, rfl⟩ := rf_get hy
      have hsg := sn_get hu
      rw [e2] at hsg
      have hm := List.mem_of_getElem? hsg
      obtain ⟨n1, n2⟩ := ok.gn _ hm
      have eu := s2 _ _ (ekv u (List.mem_of_getElem? hu))
      have hms : M.ms[j]? = some (u.2.1, (M.qs.getD u.2.2.1 ("", 0, 0)).1, u.2.2.2) := by rw [Mod.ms, List.getElem?_map, hsg]; rfl
      obtain ⟨b1, b2⟩ := mo.nm _ (List.mem_of_getElem? hms)
      have l1 := nm8 b1
      have l2 := nm8 b2
      dsimp only at l1 l2
      have hqu : u.2.2.1 < pu.length := by rw [← sn_len, e1]; exact n2
      have eq1 := sn_get (List.getElem?_eq_getElem hqu)
      rw [e1] at eq1
      have eq2 : M.qs.getD u.2.2.1 ("", 0, 0) = (pu[u.2.2.1]).2 := by rw [List.getD, eq1]; rfl
      have epq := s2 _ _ (eku _ (List.getElem_mem hqu))
      rw [eq2] at hms l2
      have atq : atI (rf pu) ((u.2.2.1 : Nat) : Int) = some (V.ref (pu[u.2.2.1]).1) := atI_nat (by rw [rf, List.getElem?_map, List.getElem?_eq_getElem hqu]; rfl)
      have e3 : (mseal u.2.2.2).length ≤ 7 := by cases u.2.2.2 <;> decide +kernel
      have ez0 : Str.length "" = 0 := by decide +kernel
      have ez7 : Str.length " sealed" = 7 := by decide +kernel
      have ed := mline_app (u.2.1, (pu[u.2.2.1]).2.1, u.2.2.2)
      dsimp only at ed
      dsimp only [gName]
      refine ⟨_, rfl, .inl ⟨rfl, _, SqL.of eL2⟩, _, rfl, u.1, _, 0, .str u.2.1, rfl, rfl, SqT.of eu, rfl, _, _, rfl, rfl, ?_, _, _, rfl, rfl, ?_, _, rfl, l, _, 1, _, rfl, rfl, SqL.of (s2 _ _ ekl), rfl, _, rfl, u.1, _, 1, _, rfl, rfl, SqT.of eu, rfl, lq, _, _, _, rfl, rfl, SqL.of (s2 _ _ ekq), atq, _, _, 0, .str (pu[u.2.2.1]).2.1, rfl, rfl, SqT.of epq, rfl, _, _, rfl, rfl, ?_, _, rfl, u.1, _, 2, .bl u.2.2.2, rfl, rfl, SqT.of eu, rfl, u.2.2.2, rfl, ?_⟩
      · rw [ep6]; exact szn (by omega)
      · rw [sl_app, ep6, ep1]; exact szn (by omega)
      · rw [sl_app, sl_app, ep6, ep1]; exact szn (by omega)
      cases hz : u.2.2.2
      refine iteF ?_
      rotate_left
      refine iteT ?_
      all_goals
        rw [hz] at ed hms
        refine ⟨_, _, rfl, rfl, ?_, ll, _, _, rfl, rfl, eL2, ?_, ⟨_, rfl⟩, fun b o e => ?_, ?_⟩
        · rw [sl_app, sl_app, sl_app, ep6, ep1]; first | rw [ez0] | rw [ez7]
          exact szn (by omega)
        · simp only [List.length_append, List.length_map]
          have h1 := List.length_take_le' j M.ms
          have h2 := po.ln
          have h3 := mo.ln
          exact Nat.lt_of_le_of_lt (show _ ≤ 30 by omega) (by decide)
        · rw [upd_ne (ne_of_none e hl0)]
          exact s2 _ _ e
        · rw [upd_same, List.take_add_one, hms, List.map_append, List.map_append, List.append_assoc]
          exact congrArg (fun z => some (HO.lst (_ ++ (_ ++ [V.str z])))) ed
    rintro σ H2 ⟨⟨o2, rfl⟩, s2, eL2⟩
    rw [rf_len, ← ens, List.take_length, ← List.map_append] at eL2
    have pn : PNm M.ps := fun p hp => ⟨(po.nm p hp).1, (po.nm p hp).2.1, (po.nm p hp).2.2.1⟩
    have mn : MNm M.ms := fun p hp => mo.nm p hp
    have h1 := netL_sum pn mn
    have h2 : (netL M.ps M.ms).length = M.ps.length + M.ms.length := by rw [netL, List.length_append, List.length_map, List.length_map]
    have h3 : Str.length "\n" = 1 := by decide +kernel
    have h4 := po.ln
    have h5 := mo.ln
    refine ⟨rfl, _, rfl, _, ll, netL M.ps M.ms, rfl, rfl, .inl (SqL.of eL2), ?_, k _ s2⟩
    rw [h3]
    omega
end
end RV
/-! a way along kept pipes -/
namespace RV
open PySem L2 TL
section
variable {P : Program} {w : World} {K : PySem.W.Frag} {mg : Str → Option Value} {base : Heap}
theorem ok_pathB {f : Addr} {fd : FuncData} (F : Fun K "_law_path" "_law_path" s_path f fd) (T : Blt mg) : FnOk P w K mg base CX0 1 f fd ["_law_tubes", "_law_kept", "_law_first", "_law_last"] (sp_pathB K) := by
  refine F.ok sc_path (fun vs H Q E h => ?_) (fun cdv A outer s H vs Q E hr h => ?_)
  · obtain ⟨_, _, _, _, _, _, rfl, _⟩ := h
    rfl
  · obtain ⟨lt, lk, pu, kept, first, last, rfl, eT, eP, eK, k12, p12, kn, k⟩ := h
    have hu : (A.deeper (PyProof.Rows.envOfC "_law_path" (defScope s_path) s.heap.objs.size f cdv)).units + 1 < cLine := by have := hr.units; omega
    refine ⟨_, (pss_cons (ps_set (i := 4) sc_path.nd rfl (Or.inl rfl) (pe_disp (pps_cons (pv 2) (pe_lst pa_nil) pps_nil) rfl rfl (by simp) (by simp)))
      (pss_cons (ps_for PassesOwn.never rfl (pi_range1 rfl T.b_range (pa_cons (pe_callB call_len_seq (by rfl) T.b_len (by decide +kernel) (pa_cons (pv 1) pa_nil)) pa_nil)) (pg_name (i := 5) sc_path.nd rfl (Or.inl rfl)) (pss_one (ps_for PassesOwn.never rfl (pi_list (pv 1)) (pg_name (i := 6) sc_path.nd rfl (Or.inl rfl)) (pss_cons (ps_par (i := 7) (j := 8) (by rfl) sc_path.nd rfl rfl (by decide) rfl rfl (pa_cons (pe_ix ix_tup (pe_ix ix_list (pv 0) (pv 6) (fun _ _ => rfl)) pe_int (fun _ _ => rfl)) (pa_cons (pe_ix ix_tup (pe_ix ix_list (pv 0) (pv 6) (fun _ _ => rfl)) pe_int (fun _ _ => rfl)) pa_nil)) (by rfl)) (pss_one (ps_if (PW.pt (pw_and (pt_cmp (pc_din hu (pv 7) (pv 4))) (pw_and1 (pt_cmp (pc_dnotin hu (pv 8) (pv 4)))))) (pss_one (ps_dput hu (pv 4) (pv 8) (pe_op op_cat (pe_dget hu (pv 4) (pv 7) (fun _ _ => rfl)) (pe_lst (pa_cons (pe_tup (pa_cons (pv 6) (pa_cons pe_int pa_nil))) pa_nil))) (by rfl))) (pss_one (ps_if (PW.pt (pw_and (pt_cmp (pc_din hu (pv 8) (pv 4))) (pw_and1 (pt_cmp (pc_dnotin hu (pv 7) (pv 4)))))) (pss_one (ps_dput hu (pv 4) (pv 7) (pe_op op_cat (pe_dget hu (pv 4) (pv 8) (fun _ _ => rfl)) (pe_lst (pa_cons (pe_tup (pa_cons (pv 6) (pa_cons (pe_un un_neg pe_int) pa_nil))) pa_nil))) (by rfl))) pss_nil))))))))
      (pss_one (ps_ret (pe_dget1 hu (pv 4) (pv 3) ⟨rfl, rfl, rfl, rfl⟩))))), ?_⟩
    intro d nd
    have c0 := (Cel.start H).newM (o := .dK []) nd
    refine ⟨_, rfl, by decide, fun l0 nl0 => ?_⟩
    have c1 := c0.new (o := .lst []) nl0
    refine ⟨c1.am List.mem_cons_self, [(.inl (first : Int), .ref l0)], rfl, by simp, ?_⟩
    rw [show mergeK [] [((Sum.inl (first : Int) : Key), V.ref l0)] = kvW [(first, l0, [])] from rfl]
    have c2 := (c1.put0 (o' := .dK (kvW [(first, l0, [])]))).sub (F' := ledW [(first, l0, [])]) fun p hp => hp
    dsimp only [gName]
    have eKH : ∀ {H' : Hp}, Same H H' → SqL K H' lk (kept.map vI) := fun s => eK.ext s
    refine ⟨_, rfl, lk, _, rfl, .inl (eKH c2.sm), ?_⟩
    rw [List.length_map]
    refine ⟨(kept.length : Int), rfl, by omega, by omega, for_range (lo := 0) (n := kept.length) (fun r σ H' => ∃ (rs : List WU) (o5 o6 o7 o8 : Option V), σ = [some (.ref lt), some (.ref lk), some (.int (first : Int)), some (.int (last : Int)), some (.ref d), o5, o6, o7, o8] ∧ rs.map (·.1) = roundsK (stQ (sn pu)) (enQ (sn pu)) kept first r ∧ WaysOk pu.length (r * kept.length) rs ∧ WaysTo (stQ (sn pu)) (enQ (sn pu)) kept first rs ∧ Cel H [(d, .dK (kvW rs))] (ledW rs) H') ?_ ?_ ?_⟩
    · exact ⟨[(first, l0, [])], _, _, _, _, rfl, rfl, ⟨(fun r hr s hs => by rw [List.mem_singleton.mp hr] at hs; exact absurd hs (by simp)), (fun r hr => by rw [List.mem_singleton.mp hr]; exact Nat.zero_le _), (by show 1 ≤ 0 * kept.length + 1; omega)⟩, (fun r hr => by rw [List.mem_singleton.mp hr]; exact StepsTo.start), c2⟩
    · rintro r σ H1 hr1 ⟨rs, o5, o6, o7, o8, rfl, ek, wo, wt, c3⟩
      dsimp only [gName]
      refine ⟨_, rfl, lk, rfl, ⟨_, eKH c3.sm⟩, for_list (xs := kept.map vI) (fun i σ H' => ∃ (rs : List WU) (o5 o6 o7 o8 : Option V), σ = [some (.ref lt), some (.ref lk), some (.int (first : Int)), some (.int (last : Int)), some (.ref d), o5, o6, o7, o8] ∧ rs.map (·.1) = (kept.take i).foldl (stepK (stQ (sn pu)) (enQ (sn pu))) (roundsK (stQ (sn pu)) (enQ (sn pu)) kept first r) ∧ WaysOk pu.length (r * kept.length + i) rs ∧ WaysTo (stQ (sn pu)) (enQ (sn pu)) kept first rs ∧ Cel H [(d, .dK (kvW rs))] (ledW rs) H') ⟨rs, _, _, _, _, rfl, ek, wo, wt, c3⟩ (fun i σ H' _ z => by obtain ⟨_, _, _, _, _, _, _, _, _, c⟩ := z; exact eKH c.sm) ?_ ?_⟩
      · clear ek wo wt c3 c2 c1 c0
        rintro i v σ H2 hv ⟨rs, o5, o6, o7, o8, rfl, ek, wo, wt, c3⟩
        obtain ⟨q, hq, rfl⟩ : ∃ q, kept[i]? = some q ∧ v = vI q := by
          rw [List.getElem?_map] at hv
          cases e : kept[i]? with
          | none => rw [e] at hv; cases hv
          | some q => rw [e] at hv; exact ⟨q, rfl, (Option.some.inj hv).symm⟩
        have hqm := List.mem_of_getElem? hq
        have hqp := kn q hqm
        have eT2 : SqL K H2 lt (rf pu) := eT.ext c3.sm
        have epu := c3.old (eP _ (List.getElem_mem hqp))
        have atp : atI (rf pu) ((q : Nat) : Int) = some (V.ref (pu[q]).1) := atI_nat (by rw [rf, List.getElem?_map, List.getElem?_eq_getElem hqp]; rfl)
        obtain ⟨es, en⟩ := q_at (sn_get (List.getElem?_eq_getElem hqp))
        have etk : (kept.take (i + 1)).foldl (stepK (stQ (sn pu)) (enQ (sn pu))) (roundsK (stQ (sn pu)) (enQ (sn pu)) kept first r) = stepK (stQ (sn pu)) (enQ (sn pu)) (rs.map (·.1)) q := by
          rw [List.take_add_one, hq, Option.toList_some, List.foldl_append, ek]
          rfl
        rw [etk]
        dsimp only [gName]
        refine ⟨_, rfl, _, rfl, lt, _, _, _, rfl, rfl, eT2, atp, pu[q].1, _, 1, _, rfl, rfl, SqT.of epu, rfl, _, rfl, _, rfl, lt, _, _, _, rfl, rfl, eT2, atp, pu[q].1, _, 2, _, rfl, rfl, SqT.of epu, rfl, _, _, rfl, ?_⟩
        dsimp only
        rw [← es, ← en]
        unfold stepK
        have fwd : ∀ r' ∈ rs, r'.1 = stQ (sn pu) q → enQ (sn pu) q ∉ rs.map (·.1) → ∀ t : Addr, StepsTo (stQ (sn pu)) (enQ (sn pu)) kept (rs.map (·.1) ++ [enQ (sn pu) q]) first (enQ (sn pu) q) (stW (r'.2.2 ++ [(t, q, 1)])) := fun r' hr' e1 ne t => by
          rw [stW, List.map_append]
          have := wt r' hr'
          rw [e1] at this
          exact this.fwd hqm (by rw [← e1]; exact List.mem_map.mpr ⟨r', hr', rfl⟩) ne
        have bwd : ∀ r' ∈ rs, r'.1 = enQ (sn pu) q → stQ (sn pu) q ∉ rs.map (·.1) → ∀ t : Addr, StepsTo (stQ (sn pu)) (enQ (sn pu)) kept (rs.map (·.1) ++ [stQ (sn pu) q]) first (stQ (sn pu) q) (stW (r'.2.2 ++ [(t, q, -1)])) := fun r' hr' e1 ne t => by
          rw [stW, List.map_append]
          have := wt r' hr'
          rw [e1] at this
          exact this.bwd hqm (by rw [← e1]; exact List.mem_map.mpr ⟨r', hr', rfl⟩) ne
        generalize hstq : stQ (sn pu) q = b at fwd bwd ⊢
        generalize henq : enQ (sn pu) q = e at fwd bwd ⊢
        have ed := c3.am List.mem_cons_self
        have get : ∀ (x : Nat) (H' : Hp), H' d = some (.dK (kvW rs)) → DGet H' d (.int (x : Int)) (valV (kvW rs) (.inl (x : Int))) := fun x H' e => DGet.k (k := Sum.inl (x : Int)) e
        have isd : ∀ x : Nat, ∀ H' : Hp, H' d = some (.dK (kvW rs)) → ∃ o, DGet H' d (.int (x : Int)) o ∧ o.isSome = decide (x ∈ rs.map (·.1)) := fun x H' e => by
          refine ⟨_, get x H' e, ?_⟩
          by_cases m : x ∈ rs.map (·.1)
          · obtain ⟨r', _, _, h3⟩ := valW_some m
            rw [h3, decide_eq_true m]
            rfl
          · rw [valW_none m, decide_eq_false m]
            rfl
        have fin : ∀ (y : Nat) (c : Int) (r' : WU), r' ∈ rs → y ∉ rs.map (·.1) → (∀ t : Addr, StepsTo (stQ (sn pu)) (enQ (sn pu)) kept (rs.map (·.1) ++ [y]) first y (stW (r'.2.2 ++ [(t, q, c)]))) → ∀ t l1 l2, H2 t = none → upd H2 t (oS (t, q, c)) l1 = none → upd (upd H2 t (oS (t, q, c))) l1 (.lst [.ref t]) l2 = none →
            ∃ rs' : List WU, rs'.map (·.1) = rs.map (·.1) ++ [y] ∧ WaysOk pu.length (r * kept.length + (i + 1)) rs' ∧ WaysTo (stQ (sn pu)) (enQ (sn pu)) kept first rs' ∧ Cel H [(d, .dK (kvW rs'))] (ledW rs') (upd (upd (upd (upd H2 t (oS (t, q, c))) l1 (.lst [.ref t])) l2 (.lst (rf r'.2.2 ++ [.ref t]))) d (.dK (putK (kvW rs) (.inl (y : Int)) (.ref l2)))) := fun y c r' hr' hy hst t l1 l2 nt nl1 nl2 => by
          have e1 : putK (kvW rs) (.inl (y : Int)) (.ref l2) = kvW (rs ++ [(y, l2, r'.2.2 ++ [(t, q, c)])]) := by
            rw [putK_new _ (valW_none hy), kvW, kvW, List.map_append]
            rfl
          refine ⟨rs ++ [(y, l2, r'.2.2 ++ [(t, q, c)])], by rw [List.map_append]; rfl, wo.put hr' hqp, wt.put (hst t), ?_⟩
          rw [e1]
          refine ((((c3.new nt).new nl1).new nl2).put0).sub fun p hp => ?_
          rcases ledW_put hr' p hp with z | z | z
          · exact List.mem_cons.mpr (.inl z)
          · exact List.mem_cons_of_mem _ (List.mem_cons_of_mem _ (List.mem_cons.mpr (.inl z)))
          · exact List.mem_cons_of_mem _ (List.mem_cons_of_mem _ (List.mem_cons_of_mem _ z))
        have sd : ∀ {t l1 l2 : Addr} {o1 o2 o3 : HO}, H2 t = none → upd H2 t o1 l1 = none → upd (upd H2 t o1) l1 o2 l2 = none → upd (upd (upd H2 t o1) l1 o2) l2 o3 d = some (.dK (kvW rs)) := fun n1 n2 n3 => (upd_ne (ne_of_none ((upd_ne (ne_of_none ((upd_ne (ne_of_none ed n1)).trans ed) n2)).trans ((upd_ne (ne_of_none ed n1)).trans ed)) n3)).trans ((upd_ne (ne_of_none ((upd_ne (ne_of_none ed n1)).trans ed) n2)).trans ((upd_ne (ne_of_none ed n1)).trans ed))
        have lenr : (kvW rs).length < sizeLine := by
          rw [kvW, List.length_map]
          have h1 := wo.all
          have h2 : r * kept.length ≤ 12 * 12 := Nat.mul_le_mul (by omega) k12
          have hi := (List.getElem?_eq_some_iff.mp hq).1
          exact Nat.lt_of_le_of_lt (show rs.length ≤ 200 by omega) (by decide)
        have lenw : ∀ r' ∈ rs, (rf r'.2.2).length + [V.ref d].length ≤ sizeLine := fun r' hr' => by
          rw [rf_len]
          have h1 := wo.ln r' hr'
          have h2 : r * kept.length ≤ 12 * 12 := Nat.mul_le_mul (by omega) k12
          have hi := (List.getElem?_eq_some_iff.mp hq).1
          exact szn (show r'.2.2.length + 1 ≤ 1000 by omega)
        have wo1 : WaysOk pu.length (r * kept.length + (i + 1)) rs := wo.mono (by omega)
        obtain ⟨ob, gb, ib⟩ := isd b H2 ed
        obtain ⟨oe, ge, ie⟩ := isd e H2 ed
        by_cases mb : b ∈ rs.map (·.1) <;> by_cases me : e ∈ rs.map (·.1)
        · refine ⟨_, rfl, _, rfl, d, ob, rfl, gb, true, by rw [ib, decide_eq_true mb], iteT ⟨_, rfl, _, rfl, d, oe, rfl, ge, false, by rw [ie, decide_eq_true me]; rfl, iteF ?_⟩⟩
          refine ⟨_, rfl, _, rfl, d, oe, rfl, ge, true, by rw [ie, decide_eq_true me], iteT ⟨_, rfl, _, rfl, d, ob, rfl, gb, false, by rw [ib, decide_eq_true mb]; rfl, iteF ?_⟩⟩
          exact ⟨rs, _, _, _, _, rfl, by rw [if_neg (fun z => z.2 me), if_neg (fun z => z.2 mb)], wo1, wt, c3⟩
        · refine ⟨_, rfl, _, rfl, d, ob, rfl, gb, true, by rw [ib, decide_eq_true mb], iteT ⟨_, rfl, _, rfl, d, oe, rfl, ge, true, by rw [ie, decide_eq_false me]; rfl, iteT ?_⟩⟩
          obtain ⟨r', hr', er1, vr⟩ := valW_some mb
          have er' : ∀ {t l1 : Addr} {o1 o2 : HO}, H2 t = none → upd H2 t o1 l1 = none → upd (upd H2 t o1) l1 o2 r'.2.1 = some (.lst (rf r'.2.2)) := fun n1 n2 => by
            have a := c3.at (ledW_l hr')
            exact (upd_ne (ne_of_none ((upd_ne (ne_of_none a n1)).trans a) n2)).trans ((upd_ne (ne_of_none a n1)).trans a)
          refine ⟨_, rfl, _, rfl, d, _, rfl, by rw [← vr]; exact get b H2 ed, _, rfl, (by show 2 ≤ sizeLine; decide), fun t nt => ⟨(by show 1 ≤ sizeLine; decide), fun l1 nl1 => ⟨r'.2.1, l1, _, _, rfl, rfl, er' nt nl1, upd_same, lenw r' hr', fun l2 nl2 => ?_⟩⟩⟩
          obtain ⟨rs', f1, f2, ft, f3⟩ := fin e 1 r' hr' me (fwd r' hr' er1 me) t l1 l2 nt nl1 nl2
          exact ⟨_, rfl, _, rfl, d, _, rfl, DPut.k (k := Sum.inl (e : Int)) (sd nt nl1 nl2) lenr, rs', _, _, _, _, rfl, by rw [if_pos ⟨mb, me⟩]; exact f1, f2, ft, f3⟩
        · refine ⟨_, rfl, _, rfl, d, ob, rfl, gb, false, by rw [ib, decide_eq_false mb], iteF ?_⟩
          refine ⟨_, rfl, _, rfl, d, oe, rfl, ge, true, by rw [ie, decide_eq_true me], iteT ⟨_, rfl, _, rfl, d, ob, rfl, gb, true, by rw [ib, decide_eq_false mb]; rfl, iteT ?_⟩⟩
          obtain ⟨r', hr', er1, vr⟩ := valW_some me
          have er' : ∀ {t l1 : Addr} {o1 o2 : HO}, H2 t = none → upd H2 t o1 l1 = none → upd (upd H2 t o1) l1 o2 r'.2.1 = some (.lst (rf r'.2.2)) := fun n1 n2 => by
            have a := c3.at (ledW_l hr')
            exact (upd_ne (ne_of_none ((upd_ne (ne_of_none a n1)).trans a) n2)).trans ((upd_ne (ne_of_none a n1)).trans a)
          refine ⟨_, rfl, _, rfl, d, _, rfl, by rw [← vr]; exact get e H2 ed, _, rfl, _, rfl, (by show 2 ≤ sizeLine; decide), fun t nt => ⟨(by show 1 ≤ sizeLine; decide), fun l1 nl1 => ⟨r'.2.1, l1, _, _, rfl, rfl, er' nt nl1, upd_same, lenw r' hr', fun l2 nl2 => ?_⟩⟩⟩
          obtain ⟨rs', f1, f2, ft, f3⟩ := fin b (-1) r' hr' mb (bwd r' hr' er1 mb) t l1 l2 nt nl1 nl2
          exact ⟨_, rfl, _, rfl, d, _, rfl, DPut.k (k := Sum.inl (b : Int)) (sd nt nl1 nl2) lenr, rs', _, _, _, _, rfl, by rw [if_neg (fun z => mb z.1), if_pos ⟨me, mb⟩]; exact f1, f2, ft, f3⟩
        · refine ⟨_, rfl, _, rfl, d, ob, rfl, gb, false, by rw [ib, decide_eq_false mb], iteF ?_⟩
          refine ⟨_, rfl, _, rfl, d, oe, rfl, ge, false, by rw [ie, decide_eq_false me], iteF ?_⟩
          exact ⟨rs, _, _, _, _, rfl, by rw [if_neg (fun z => mb z.1), if_neg (fun z => me z.1)], wo1, wt, c3⟩
      · rintro σ H2 ⟨rs, o5, o6, o7, o8, rfl, ek, wo, wt, c3⟩
        refine ⟨rs, _, _, _, _, rfl, ?_, wo.mono ?_, wt, c3⟩
        · rw [ek, List.length_map, List.take_length]
          rfl
        · rw [List.length_map, Nat.add_mul]
          omega
    · rintro σ H1 ⟨rs, o5, o6, o7, o8, rfl, ek, wo, wt, c3⟩
      have ed := c3.am List.mem_cons_self
      have h2 : kept.length * kept.length ≤ 12 * 12 := Nat.mul_le_mul k12 k12
      refine ⟨_, rfl, d, rfl, .inl ⟨_, .inl ed⟩, _, rfl, _, DGet.k (k := Sum.inl (last : Int)) ed, ?_⟩
      obtain ⟨k1, k2⟩ := k H1 c3.sm
      have iff := roundsK_all (st := stQ (sn pu)) (en := enQ (sn pu)) (kept := kept) first last
      by_cases m : last ∈ rs.map (·.1)
      · obtain ⟨r', hr', er1, vr⟩ := valW_some m
        rw [vr]
        refine k2 r'.2.1 r'.2.2 (rs.map (·.1)) (iff.mp (by rw [← ek]; exact m)) (c3.at (ledW_l hr')) (fun s hs => ⟨c3.at (ledW_s hr' hs), wo.st r' hr' s hs⟩) ?_ (by have := wt r' hr'; rw [er1] at this; exact this)
        have := wo.ln r' hr'
        omega
      · rw [valW_none m]
        exact k1 fun c => m (by rw [ek]; exact iff.mpr c)
end
end RV
/-! rings of pipes -/
namespace RV
open PySem L2 TL
section
variable {P : Program} {w : World} {K : PySem.W.Frag} {mg : Str → Option Value} {base : Heap}
theorem ok_ringsB {f : Addr} {fd : FuncData} (F : Fun K "_law_rings" "_law_rings" s_rings f fd) (T : Blt mg) (h_path : Fn P w K mg base "_law_path" 1 ["_law_tubes", "_law_kept", "_law_first", "_law_last"] (Irr (sp_pathB K))) : FnOk P w K mg base CX0 2 f fd ["_law_tubes"] (sp_ringsB K) := by
  refine F.ok sc_rings (fun vs H Q E h => ?_) (fun cdv A outer s H vs Q E hr h => ?_)
  · obtain ⟨_, _, rfl, _⟩ := h
    rfl
  · obtain ⟨lt, pu, rfl, eT, eP, p12, k⟩ := h
    refine ⟨_, (pss_cons (ps_par (i := 1) (j := 2) (by rfl) sc_rings.nd rfl rfl (by decide) rfl rfl (pa_cons (pe_lst pa_nil) (pa_cons (pe_lst pa_nil) pa_nil)) (by rfl))
      (pss_cons (ps_for PassesOwn.never rfl (pi_range1 rfl T.b_range (pa_cons (pe_callB call_len_seq (by rfl) T.b_len (by decide +kernel) (pa_cons (pv 0) pa_nil)) pa_nil)) (pg_name (i := 3) sc_rings.nd rfl (Or.inl rfl)) (pss_cons (ps_set (i := 4) sc_rings.nd rfl (Or.inl rfl) (pe_fn h_path (hr.mono (by decide)) (pa_cons (pv 0) (pa_cons (pv 1) (pa_cons (pe_ix ix_tup (pe_ix ix_list (pv 0) (pv 3) (fun _ _ => rfl)) pe_int (fun _ _ => rfl)) (pa_cons (pe_ix ix_tup (pe_ix ix_list (pv 0) (pv 3) (fun _ _ => rfl)) pe_int (fun _ _ => rfl)) pa_nil)))))) (pss_one (ps_if (pt_cmpR op_isN (pv 4) pe_non (nomark _)) (pss_one (ps_expr (pe_bm PySem.F.plainAttrs_list PySem.F.slot_list_append PySem.F.type_list_append mt_append (pv 1) (pa_cons (pv 3) pa_nil)))) (pss_cons (ps_setLc (i := 5) (own := [("_law_one", 7)]) (g := gName 7) (tt := tYes) rfl sc_rings.nd rfl rfl (sw_true rfl rfl rfl (by decide +kernel)) (pi_list (pv 0)) (blkOk_by (N := sc_rings_N) (sc := defScope s_rings) (by decide +kernel)) (fun _ _ _ _ _ => pg_name (i := 7) sc_rings.nd rfl (Or.inl rfl)) (fun _ _ _ _ _ => pts_nil) (fun _ _ _ _ _ => pe_int)) (pss_cons (ps_asg pe_int (pg_sub (pv 5) (pv 3) set_list)) (pss_cons (ps_for PassesOwn.never rfl (pi_list (pv 4)) (pg_name (i := 6) sc_rings.nd rfl (Or.inl rfl)) (pss_one (ps_asg (pe_ix ix_tup (pv 6) pe_int (fun _ _ => rfl)) (pg_sub (pv 5) (pe_ix ix_tup (pv 6) pe_int (fun _ _ => rfl)) set_list)))) (pss_one (ps_expr (pe_bm PySem.F.plainAttrs_list PySem.F.slot_list_append PySem.F.type_list_append mt_append (pv 2) (pa_cons (pv 5) pa_nil)))))))))))
      (pss_one (ps_ret (pv 2))))), ?_⟩
    refine ⟨by decide, fun lk nk => ⟨by decide, fun lf nf => ?_⟩⟩
    have c0 := ((Cel.start H).newM (o := .lst []) nk).newM (o := .lst []) nf
    have f0 : H lf = none := ((Cel.start H).newM (o := .lst []) nk).none0 nf
    refine ⟨_, _, rfl, ?_⟩
    dsimp only
    refine ⟨_, rfl, lt, _, rfl, .inl (eT.ext c0.sm), ?_⟩
    rw [rf_len]
    refine ⟨(pu.length : Int), rfl, by omega, by omega, for_range (lo := 0) (n := pu.length) (fun j σ H' => ∃ (kept cs : List Nat) (ru : List RWU) (o3 o4 o5 o6 o7 : Option V), σ = [some (.ref lt), some (.ref lk), some (.ref lf), o3, o4, o5, o6, o7] ∧ (∀ i ∈ kept, i < j) ∧ kept.length ≤ j ∧ ru.length ≤ j ∧ (∀ r ∈ ru, H r.1 = none) ∧
      RingI (stQ (sn pu)) (enQ (sn pu)) pu.length j kept cs (sn ru) ∧ Cel H [(lf, .lst (rf ru)), (lk, .lst (kept.map vI))] (ru.map fun r => (r.1, oI r.2)) H') ?_ ?_ ?_⟩
    · exact ⟨[], [], [], _, _, _, _, _, rfl, (fun _ h => nomatch h), Nat.le_refl _, Nat.le_refl _, (fun _ h => nomatch h), RingI.start, c0⟩
    · rintro j σ H1 hj ⟨kept, cs, ru, o3, o4, o5, o6, o7, rfl, kj, kl, fll, r0, ri, c1⟩
      have eT1 := eT.ext c1.sm
      have epu := c1.old (eP _ (List.getElem_mem hj))
      have atp : atI (rf pu) ((j : Nat) : Int) = some (V.ref (pu[j]).1) := atI_nat (by rw [rf, List.getElem?_map, List.getElem?_eq_getElem hj]; rfl)
      obtain ⟨es, en⟩ := q_at (sn_get (List.getElem?_eq_getElem hj))
      have eK := c1.am (p := lk) (List.mem_cons_of_mem _ List.mem_cons_self)
      dsimp only [gName]
      rw [Int.zero_add]
      refine ⟨_, rfl, _, rfl, _, rfl, _, rfl, lt, _, _, _, rfl, rfl, eT1, atp, pu[j].1, _, 2, _, rfl, rfl, SqT.of epu, rfl, _, rfl, _, rfl, lt, _, _, _, rfl, rfl, eT1, atp, pu[j].1, _, 1, _, rfl, rfl, SqT.of epu, rfl, ?_⟩
      refine irr ⟨lt, lk, pu, kept, enQ (sn pu) j, stQ (sn pu) j, by rw [es, en]; rfl, eT1, fun u hu => c1.old (eP u hu), SqL.of eK, by omega, p12, fun i hi => by have := kj i hi; omega, fun H2 s2 => ⟨fun nc => ?_, fun wy ss keys hc ew hss hl wst => ?_⟩⟩
      · have c2 := c1.same s2
        have eK2 := c2.am (p := lk) (List.mem_cons_of_mem _ List.mem_cons_self)
        dsimp only [gName]
        refine ⟨_, rfl, rfl, _, rfl, iteT ⟨_, rfl, .inl ⟨rfl, _, SqL.of eK2⟩, _, rfl, lk, _, _, rfl, rfl, eK2, ?_, kept ++ [j], cs, ru, _, _, _, _, _, rfl, fun i hi => ?_, ?_, by omega, r0, ri.keep fun z => nc z.symm, ?_⟩⟩
        · rw [List.length_map]
          exact Nat.lt_of_le_of_lt (show _ ≤ 20 by omega) (by decide)
        · rcases List.mem_append.mp hi with z | z
          · have := kj i z
            omega
          · rw [List.mem_singleton.mp z]
            omega
        · rw [List.length_append, List.length_singleton]
          omega
        · rw [List.map_append]
          exact c2.put (i := 1) rfl
      · have c2 := c1.same s2
        have eT2 := eT.ext c2.sm
        dsimp only [gName]
        refine ⟨_, rfl, rfl, _, rfl, iteF ?_⟩
        refine ⟨_, rfl, lt, rfl, ⟨_, eT2⟩, fun D nD => lc_to (xs := rf pu) ((List.replicate pu.length (0 : Int)).map V.int) (by rw [List.length_map, List.length_replicate, rf_len]) walk_list nD (by rw [rf_len]; omega) (fun H' s' => eT2.ext s') (fun _ => rfl) (fun i v y hv hy H3 s3 R kR => ?_) fun H3 s3 hD => ?_⟩
        · obtain ⟨z, hz, rfl⟩ := List.mem_map.mp (List.mem_of_getElem? hy)
          rw [(List.mem_replicate.mp hz).2] at kR
          exact kR H3 (Same.refl _)
        have c3 := c2.addM nD s3 hD
        have hss3 : ∀ s ∈ ss, H3 s.1 = some (oS s) := fun s hs => s3 _ _ (hss s hs).1
        have ew3 := s3 _ _ ew
        have nDw : wy ≠ D := fun z => by rw [z, nD] at ew; cases ew
        have nDs : ∀ s ∈ ss, s.1 ≠ D := fun s hs z => by have := (hss s hs).1; rw [z, nD] at this; cases this
        dsimp only [gName]
        refine ⟨_, rfl, _, rfl, D, _, _, j, rfl, rfl, hD, ixN_nat (by rw [List.length_map, List.length_replicate]; exact hj), ?_⟩
        have c4 : Cel H [(D, .lst (((List.replicate pu.length (0 : Int)).map V.int).set j (.int 1))), (lf, .lst (rf ru)), (lk, .lst (kept.map vI))] (ru.map fun r => (r.1, oI r.2)) _ := c3.put0
        have e4 : ((List.replicate pu.length (0 : Int)).map V.int).set j (.int 1) = ((List.replicate pu.length (0 : Int)).set j 1).map V.int := (List.map_set ..).symm
        rw [e4] at c4 ⊢
        have ri4 : RowI (stQ (sn pu)) (enQ (sn pu)) pu.length j (stW ss) 0 ((List.replicate pu.length (0 : Int)).set j 1) := RowI.start hj
        revert c4 ri4
        generalize (List.replicate pu.length (0 : Int)).set j 1 = ring
        intro c4 ri4
        have keep : ∀ {p : Addr} {o : HO}, p ≠ D → H3 p = some o → upd H3 D (.lst (ring.map V.int)) p = some o := fun n e => (upd_ne n).trans e
        have ew4 := keep nDw ew3
        have hss4 : ∀ s ∈ ss, upd H3 D (.lst (ring.map V.int)) s.1 = some (oS s) := fun s hs => keep (nDs s hs) (hss3 s hs)
        generalize upd H3 D (.lst (ring.map V.int)) = H4 at c4 ew4 hss4 ⊢
        refine ⟨_, rfl, wy, rfl, ⟨_, SqL.of ew4⟩, for_list (xs := rf ss) (fun i σ H' => ∃ (ring : List Int) (o6 o7 : Option V), σ = [some (.ref lt), some (.ref lk), some (.ref lf), some (.int (j : Int)), some (.ref wy), some (.ref D), o6, o7] ∧ RowI (stQ (sn pu)) (enQ (sn pu)) pu.length j (stW ss) i ring ∧ (∀ s ∈ ss, H' s.1 = some (oS s)) ∧ H' wy = some (.lst (rf ss)) ∧
          Cel H [(D, .lst (ring.map V.int)), (lf, .lst (rf ru)), (lk, .lst (kept.map vI))] (ru.map fun r => (r.1, oI r.2)) H') ⟨ring, _, _, rfl, ri4, hss4, ew4, c4⟩ (fun i σ H' _ z => by obtain ⟨_, _, _, _, _, _, e, _⟩ := z; exact SqL.of e) ?_ ?_⟩
        · rintro i v σ H5 hv ⟨ring, o6, o7, rfl, rl, hs5, ew5, c5⟩
          obtain ⟨s, hs, rfl⟩ := rf_get hv
          have hsm := List.mem_of_getElem? hs
          have es5 := hs5 s hsm
          have lt5 := (hss s hsm).2
          have eD5 := c5.am (p := D) List.mem_cons_self
          dsimp only [gName]
          refine ⟨_, rfl, s.1, _, 1, _, rfl, rfl, SqT.of es5, rfl, _, rfl, _, rfl, s.1, _, 0, _, rfl, rfl, SqT.of es5, rfl, D, _, _, s.2.1, rfl, rfl, eD5, ixN_nat (by rw [List.length_map, rl.len]; exact lt5), ring.set s.2.1 s.2.2, _, _, rfl, rl.next (s := s.2) (by rw [stW, List.getElem?_map, hs]; rfl) lt5 wst.nd (fun q => by have := kj s.2.1 ((wst.inn s.2 (List.mem_map.mpr ⟨s, hsm, rfl⟩)).1); omega) (wst.sg s.2 (List.mem_map.mpr ⟨s, hsm, rfl⟩)), fun s' hs' => (upd_ne (nDs s' hs')).trans (hs5 s' hs'), (upd_ne nDw).trans ew5, ?_⟩
          rw [List.map_set]
          exact c5.put0
        · rintro σ H5 ⟨ring, o6, o7, rfl, rl, hs5, ew5, c5⟩
          have eF5 := c5.am (p := lf) (List.mem_cons_of_mem _ List.mem_cons_self)
          dsimp only
          have rl' : RowI (stQ (sn pu)) (enQ (sn pu)) pu.length j (stW ss) (stW ss).length ring := by
            rw [rf_len] at rl
            rw [stW, List.length_map]
            exact rl
          have r2 := ri.close rl'.len (rl'.ring wst) rl'.one (fun k ne nz => by
            refine Classical.byContradiction fun q => nz (rl'.off k ne fun m => ?_)
            obtain ⟨s, hs, rfl⟩ := List.mem_map.mp m
            exact q (wst.inn s (List.mem_of_mem_take hs)).1) rl'.sm
          refine ⟨_, rfl, .inl ⟨rfl, _, SqL.of eF5⟩, _, rfl, lf, _, _, rfl, rfl, eF5, Nat.lt_of_le_of_lt (show _ ≤ 20 by rw [rf_len]; omega) (by decide), kept, cs ++ [j], ru ++ [(D, ring)], _, _, _, _, _, rfl, fun i hi => by have := kj i hi; omega, by omega, by rw [List.length_append, List.length_singleton]; omega, fun r hr => (List.mem_append.mp hr).elim (r0 r) fun z => by rw [List.mem_singleton.mp z]; exact (c5.m _ List.mem_cons_self).1, by rw [show sn (ru ++ [(D, ring)]) = sn ru ++ [ring] from List.map_append]; exact r2, ?_⟩
          have c6 : Cel H [(D, .lst (ring.map V.int)), (lf, .lst (rf ru ++ [.ref D])), (lk, .lst (kept.map vI))] (ru.map fun r => (r.1, oI r.2)) _ := c5.put (i := 1) rfl
          rw [rf, List.map_append, List.map_append]
          exact c6.frz.sub fun p hp => by
            rcases List.mem_append.mp hp with z | z
            · exact List.mem_cons_of_mem _ z
            · exact List.mem_cons.mpr (.inl (List.mem_singleton.mp z))
    · rintro σ H1 ⟨kept, cs, ru, o3, o4, o5, o6, o7, rfl, kj, kl, fll, r0, ri, c1⟩
      refine ⟨_, rfl, k lf ru cs H1 c1.sm f0 (c1.am List.mem_cons_self) (fun r hr => ⟨r0 r hr, c1.at (List.mem_map.mpr ⟨r, hr, rfl⟩)⟩) ri.done⟩
end
end RV
/-! checks, readings, silent meters -/
namespace RV
open PySem L2 TL
theorem vR_at {rs : List (Option Int)} {j : Nat} {y : V} (h : (vR rs)[j]? = some y) : y = vO (rO rs j) := by
  rw [vR, List.getElem?_map] at h
  cases z : rs[j]? with
  | none => rw [z] at h; cases h
  | some c =>
    rw [z] at h
    rw [rO, List.getD, z]
    exact (Option.some.inj h).symm
theorem vR_get {rs : List (Option Int)} {j : Nat} (h : j < rs.length) : (vR rs)[j]? = some (vO (rO rs j)) := by
  rw [vR, List.getElem?_map, List.getElem?_eq_getElem h, rO, List.getD, List.getElem?_eq_getElem h]
  rfl
section
variable {P : Program} {w : World} {K : PySem.W.Frag} {mg : Str → Option Value} {base : Heap} {CN CP CM : Addr}
theorem ok_chkn {f : Addr} {fd : FuncData} (F : Fun K "check_net" "check_net" s_check_net f fd) (T : Blt mg) (NC : NClass K mg CN) : FnOk P w K mg base CX0 1 f fd ["net"] (sp_chkn K CN CP CM) := by
  refine F.ok sc_check_net (fun vs H Q E h => ?_) (fun cdv A outer s H vs Q E hr h => ?_)
  · obtain ⟨_, _, _, rfl, _⟩ := h
    rfl
  · obtain ⟨x, ps, ms, rfl, nr, k⟩ := h
    refine ⟨_, (pss_one (ps_if (pt_not (pt_val (pe_callB call_isi (by rfl) T.b_isinstance (by decide +kernel) (pa_cons (pv 0) (pa_cons (pe_gC NC.k) pa_nil))))) (pss_one ps_never) pss_nil)), ?_⟩
    obtain ⟨dx, tp, tm, pu, mu, ex, hp, hm, rfl, rfl⟩ := nr.ex
    exact ⟨_, rfl, _, _, _, .ref CN, true, rfl, .own CN, NC.x.ty ex, NC.me, true, rfl, iteF k⟩
theorem ok_isr {f : Addr} {fd : FuncData} (F : Fun K "is_reading" "is_reading" s_is_reading f fd) (h_mz : Prp P w K mg base CM "sealed" 1 (Irr (sp_mz CM))) (h_num : Fn P w K mg base "is_number" 1 ["value"] (Irr (sp_is_number K))) : FnOk P w K mg base CX0 3 f fd ["part", "value"] (sp_isr CM) := by
  refine F.ok sc_is_reading (fun vs H Q E h => ?_) (fun cdv A outer s H vs Q E hr h => ?_)
  · obtain ⟨_, _, _, rfl, _⟩ := h
    rfl
  · obtain ⟨a, m, o, rfl, ma, k⟩ := h
    refine ⟨_, (pss_cons (ps_if (pt_cmpR op_isN (pv 1) pe_non (nomark _)) (pss_one (ps_ret (pe_not (pe_propN h_mz (hr.mono (by decide)) (pv 0))))) pss_nil)
      (pss_one (ps_ret (pe_fn h_num (hr.mono (by decide)) (pa_cons (pv 1) pa_nil))))), ?_⟩
    obtain ⟨dx, ex⟩ := id ma
    refine ⟨_, rfl, rfl, _, rfl, ?_⟩
    rw [vO_non]
    cases o with
    | none =>
      refine iteT ⟨_, rfl, a, dx, _, rfl, ex, irr ⟨a, m, rfl, ma, _, rfl, ?_⟩⟩
      exact k
    | some c => exact iteF ⟨_, rfl, irr ⟨.int c, rfl, .inl ⟨c, rfl, k⟩⟩⟩
theorem ok_chr {f : Addr} {fd : FuncData} (F : Fun K "check_readings" "check_readings" s_check_readings f fd) (T : Blt mg) (T2 : Blt2 mg) (h_nm : Prp P w K mg base CN "meters" 1 (Irr (sp_nme CN))) (h_isr : Fn P w K mg base "is_reading" 3 ["part", "value"] (Irr (sp_isr CM))) : FnOk P w K mg base CX0 4 f fd ["net", "readings"] (sp_chr K CN CP CM) := by
  refine F.ok sc_check_readings (fun vs H Q E h => ?_) (fun cdv A outer s H vs Q E hr h => ?_)
  · obtain ⟨_, _, _, _, _, rfl, _⟩ := h
    rfl
  · obtain ⟨x, t, ps, ms, rs, rfl, nr, ml, ht, ro, k⟩ := h
    refine ⟨_, (pss_cons (ps_if (PW.pt (pw_or (pt_not (pt_val (pe_callB call_isi (by rfl) T.b_isinstance (by decide +kernel) (pa_cons (pv 1) (pa_cons (pe_bltn (v := .ty "tuple") (by rfl) T2.b_tuple (by decide +kernel) rfl) pa_nil))))) (pw_or1 (pt_cmpR op_ne (pe_callB call_len_seq (by rfl) T.b_len (by decide +kernel) (pa_cons (pv 1) pa_nil)) (pe_callB call_len_seq (by rfl) T.b_len (by decide +kernel) (pa_cons (pe_propN h_nm (hr.mono (by decide)) (pv 0)) pa_nil)) (nomark _))))) (pss_one ps_never) pss_nil)
      (pss_one (ps_for PassesOwn.never rfl (pi_enumT (by rfl) T2.b_enumerate (pa_cons (pe_propN h_nm (hr.mono (by decide)) (pv 0)) pa_nil)) (pg_tup (by rfl) (pgs_cons (pg_name (i := 2) sc_check_readings.nd rfl (Or.inl rfl)) (pgs_cons (pg_name (i := 3) sc_check_readings.nd rfl (Or.inl rfl)) pgs_nil))) (pss_one (ps_if (pt_not (pt_val (pe_fn h_isr (hr.mono (by decide)) (pa_cons (pv 3) (pa_cons (pe_ix ix_tup (pv 1) (pv 2) (fun _ _ => rfl)) pa_nil))))) (pss_one ps_never) pss_nil))))), ?_⟩
    obtain ⟨dx, tp, tm, pu, mu, ex, hp, hm, ep, em⟩ := id nr.ex
    have mul : mu.length = ms.length := by rw [← em, sn_len]
    refine ⟨_, rfl, _, _, .type "tuple", .type "tuple", true, rfl, .ty _, tyx_tup ht, kit_ty (by decide +kernel), true, rfl, iteF ?_⟩
    refine ⟨_, rfl, t, _, rfl, .inr ht, _, rfl, x, dx, _, rfl, ex, irr ⟨x, dx, tp, tm, rfl, ex, tm, _, rfl, .inr hm.t, rfl, ?_⟩⟩
    refine ⟨_, rfl, ?_⟩
    rw [vR, List.length_map, rf_len, mul, ro.len, decide_eq_true rfl]
    refine iteF ?_
    refine ⟨_, rfl, x, dx, _, rfl, ex, irr ⟨x, dx, tp, tm, rfl, ex, tm, _, rfl, hm.t, for_enumT (xs := rf mu) (fun i σ H' => (∃ o2 o3, σ = [some (.ref x), some (.ref t), o2, o3]) ∧ Same H H') ⟨⟨none, none, rfl⟩, Same.refl H⟩ ?_ ?_ ?_⟩⟩
    · rintro i σ H1 _ ⟨_, s1⟩
      exact hm.t.ext s1
    · rintro i v σ H1 T' hv ⟨⟨o2, o3, rfl⟩, s1⟩ nT
      obtain ⟨u, hu, rfl⟩ := rf_get hv
      have hil : i < ms.length := by rw [← mul]; exact (List.getElem?_eq_some_iff.mp hu).1
      have hmi := m_at (ms := ms) (em ▸ sn_get hu)
      have s2 : Same H (upd H1 T' (.tup [.int (i : Nat), .ref u.1])) := fun b o e => (upd_ne (ne_of_none (s1 b o e) nT)).trans (s1 b o e)
      have ma := (hm.o u (List.mem_of_getElem? hu)).ext s2
      refine ⟨T', _, rfl, SqT.of upd_same, rfl, _, _, rfl, _, _, rfl, rfl, ?_⟩
      refine ⟨_, rfl, _, rfl, _, rfl, t, _, _, _, rfl, rfl, ht.ext s2, atI_nat (vR_get (by rw [ro.len]; exact hil)), irr ⟨u.1, u.2, rO rs i, rfl, ma, ?_⟩⟩
      have hz : ((rO rs i).isSome || !u.2.2.2) = true := by
        cases q : u.2.2.2 with
        | false => simp
        | true =>
          have := ro.sea i hil (by rw [hmi.2.2, q])
          cases z : rO rs i with
          | none => exact absurd z this
          | some c => rfl
      rw [hz]
      exact ⟨_, rfl, iteF ⟨⟨_, _, rfl⟩, s2⟩⟩
    · rintro σ H1 ⟨_, s1⟩
      exact k H1 s1
theorem ok_sln {f : Addr} {fd : FuncData} (F : Fun K "silent_names" "silent_names" s_silent_names f fd) (hz : mg "zip" = none) (h_nm : Prp P w K mg base CN "meters" 1 (Irr (sp_nme CN))) (h_mn : Prp P w K mg base CM "name" 1 (Irr (sp_mn CM))) : FnOk P w K mg base CX0 3 f fd ["net", "readings"] (sp_sln K CN CP CM) := by
  refine F.ok sc_silent_names (fun vs H Q E h => ?_) (fun cdv A outer s H vs Q E hr h => ?_)
  · obtain ⟨_, _, _, _, _, rfl, _⟩ := h
    rfl
  · obtain ⟨x, t, ps, ms, rs, rfl, nr, ml, ht, rl, k⟩ := h
    refine ⟨_, (pss_one (ps_ret (pe_lc (own := [("part", 2), ("seen", 3)]) (g := gPr K 2 3) rfl sc_silent_names.nd (RZ.pi_zipA (by rfl) hz (pa_cons (pe_propN h_nm (hr.mono (by decide)) (pv 0)) (pa_cons (pv 1) pa_nil))) (blkOk_by (N := sc_silent_names_N) (sc := defScope s_silent_names) (by decide +kernel)) (fun _ _ _ _ _ => pg_tupK (by rfl) (pgs_cons (pg_name (i := 2) sc_silent_names.nd rfl (Or.inl rfl)) (pgs_cons (pg_name (i := 3) sc_silent_names.nd rfl (Or.inl rfl)) pgs_nil))) (fun _ _ _ _ _ => pts_one (pt_cmpR op_isN (pv 3) pe_non (nomark _))) (fun _ _ _ _ _ => (pe_propN h_mn (hr.mono (by decide)) (pv 2)))))), ?_⟩
    obtain ⟨dx, tp, tm, pu, mu, ex, hp, hm, ep, em⟩ := id nr.ex
    have mul : mu.length = ms.length := by rw [← em, sn_len]
    refine ⟨_, rfl, x, dx, _, rfl, ex, irr ⟨x, dx, tp, tm, rfl, ex, _, rfl, tm, t, rf mu, vR rs, rfl, .inr ⟨hm.t, ht, fun D nD => ?_⟩⟩⟩
    refine lc_zipI (fun j => (rO rs j).isNone) (fun j => V.str (mN ms j)) hm.t ht (by rw [rf_len, vR, List.length_map, mul, rl]) (by rw [rf_len, mul]; omega) nD (fun _ _ => rfl) (fun j v y hv hy H2 s2 R kR => ?_) (fun j v y hv hy H2 s2 R kR => ?_) fun H2 s2 hD => ?_
    · obtain rfl := vR_at hy
      refine ⟨_, rfl, rfl, _, rfl, ?_⟩
      rw [vO_non]
      exact kR H2 (Same.refl _)
    · obtain ⟨u, hu, rfl⟩ := rf_get hv
      have ma := (hm.o u (List.mem_of_getElem? hu)).ext s2
      obtain ⟨du, edu⟩ := id ma
      refine ⟨_, rfl, u.1, du, _, rfl, edu, irr ⟨u.1, u.2, rfl, ma, ?_⟩⟩
      rw [← (m_at (ms := ms) (em ▸ sn_get hu)).1]
      exact kR H2 (Same.refl _)
    · refine k D H2 s2 nD ?_
      rw [hD, rf_len, mul, slN, List.map_map]
      rfl
theorem ok_isb {f : Addr} {fd : FuncData} (F : Fun K "is_bound" "is_bound" s_is_bound f fd) (c_most : ∃ u, mg "MOST_FAULTS" = some u ∧ RelV (.int 3) u) (h_num : Fn P w K mg base "is_number" 1 ["value"] (Irr (sp_is_number K))) : FnOk P w K mg base CX0 2 f fd ["value"] sp_isb := by
  refine F.ok sc_is_bound (fun vs H Q E h => ?_) (fun cdv A outer s H vs Q E hr h => ?_)
  · obtain ⟨_, rfl, _⟩ := h
    rfl
  · obtain ⟨c, rfl, c0, c3, k⟩ := h
    refine ⟨_, (pss_one (ps_ret (pe_and (pe_fn h_num (hr.mono (by decide)) (pa_cons (pv 0) pa_nil)) (pe_one (pe_chain op_le op_le pe_int (pv 0) (pe_gI c_most)))))), ?_⟩
    refine ⟨_, rfl, irr ⟨.int c, rfl, .inl ⟨c, rfl, true, rfl, iteT ⟨_, rfl, _, _, rfl, rfl, true, by dsimp only; rw [decide_eq_true c0], iteT ⟨_, _, rfl, rfl, ?_⟩⟩⟩⟩⟩
    dsimp only
    rw [decide_eq_true c3]
    exact k
def sp_chnum : Sp := fun vs H Q _ => ∃ (c : Int), vs = [.int c] ∧ 0 ≤ c ∧ c ≤ 3 ∧ Q .non H
theorem ok_chnum {f : Addr} {fd : FuncData} (F : Fun K "check_number" "check_number" s_check_number f fd) (h_isb : Fn P w K mg base "is_bound" 2 ["value"] (Irr sp_isb)) : FnOk P w K mg base CX0 3 f fd ["number"] sp_chnum := by
  refine F.ok sc_check_number (fun vs H Q E h => ?_) (fun cdv A outer s H vs Q E hr h => ?_)
  · obtain ⟨_, rfl, _⟩ := h
    rfl
  · obtain ⟨c, rfl, c0, c3, k⟩ := h
    refine ⟨_, (pss_one (ps_if (pt_not (pt_val (pe_fn h_isb (hr.mono (by decide)) (pa_cons (pv 0) pa_nil)))) (pss_one ps_never) pss_nil)), ?_⟩
    exact ⟨_, rfl, irr ⟨c, rfl, c0, c3, true, rfl, iteF k⟩⟩
end
end RV
/-! links found from what is reached -/
namespace RV
open PySem L2 TL
section
variable {P : Program} {w : World} {K : PySem.W.Frag} {mg : Str → Option Value} {base : Heap} {CN CP CM : Addr}
theorem ok_reach {f : Addr} {fd : FuncData} (F : Fun K "_reach_on" "_reach_on" s_reach_on f fd) (h_ps : Prp P w K mg base CP "start" 1 (Irr (sp_ps CP))) (h_pe : Prp P w K mg base CP "end" 1 (Irr (sp_pe CP))) : FnOk P w K mg base CX0 3 f fd ["parts", "reached", "links"] (sp_reach CP) := by
  refine F.ok sc_reach_on (fun vs H Q E h => ?_) (fun cdv A outer s H vs Q E hr h => ?_)
  · obtain ⟨_, _, _, _, _, _, rfl, _⟩ := h
    rfl
  · obtain ⟨lp, d, l, pu, I, acc, rfl, eL, eP, i12, il, nll, rc, b1, b2, k⟩ := h
    have hu : (A.deeper (PyProof.Rows.envOfC "_reach_on" (defScope s_reach_on) s.heap.objs.size f cdv)).units + 1 < cLine := by have := hr.units; omega
    refine ⟨_, (pss_one (ps_for PassesOwn.never rfl (pi_list (pv 0)) (pg_name (i := 3) sc_reach_on.nd rfl (Or.inl rfl)) (pss_one (ps_for PassesOwn.never rfl (pi_list (pv 0)) (pg_name (i := 4) sc_reach_on.nd rfl (Or.inl rfl)) (pss_one (ps_if (pt_cmpR op_ne (pe_cmp (pc_din hu (pe_propN h_ps (hr.mono (by decide)) (pv 4)) (pv 1))) (pe_cmp (pc_din hu (pe_propN h_pe (hr.mono (by decide)) (pv 4)) (pv 1))) (nomark _)) (pss_cons (ps_asg (pe_ifExp (pt_cmp (pc_din hu (pe_propN h_ps (hr.mono (by decide)) (pv 4)) (pv 1))) (pe_tup (pa_cons (pe_propN h_ps (hr.mono (by decide)) (pv 4)) (pa_cons (pe_propN h_pe (hr.mono (by decide)) (pv 4)) pa_nil))) (pe_tup (pa_cons (pe_propN h_pe (hr.mono (by decide)) (pv 4)) (pa_cons (pe_propN h_ps (hr.mono (by decide)) (pv 4)) pa_nil)))) (pg_tup (by rfl) (pgs_cons (pg_name (i := 5) sc_reach_on.nd rfl (Or.inl rfl)) (pgs_cons (pg_name (i := 6) sc_reach_on.nd rfl (Or.inl rfl)) pgs_nil)))) (pss_cons (ps_dput hu (pv 1) (pv 6) pe_bl (by rfl)) (pss_one (ps_expr (pe_bm PySem.F.plainAttrs_list PySem.F.slot_list_append PySem.F.type_list_append mt_append (pv 2) (pa_cons (pe_tup (pa_cons (pv 4) (pa_cons (pv 5) (pa_cons (pv 6) pa_nil)))) pa_nil)))))) pss_nil)))))), ?_⟩
    have nLd : lp ≠ d := fun e => by have := rc.ed; rw [← e, eL] at this; cases this
    have lpA : ∀ {a : AccR Str} {H' : Hp}, RchS H d l pu a H' → H' lp = some (.lst (I.map fun i => .ref (pu.getD i puD).1)) := fun c => c.sb _ _ nLd nll eL
    have pA : ∀ {a : AccR Str} {H' : Hp}, RchS H d l pu a H' → ∀ u ∈ pu, PipeAt CP H' u.1 u.2 := fun c u hu => by
      obtain ⟨dx, e⟩ := eP u hu
      refine ⟨dx, c.sb _ _ (fun z => ?_) (fun z => ?_) e⟩
      · have := rc.ed; rw [← z, e] at this; cases this
      · obtain ⟨lu, e1, _⟩ := rc.el
        rw [← z, e] at e1
        cases e1
    refine ⟨_, rfl, lp, rfl, ⟨_, SqL.of eL⟩, for_list (xs := I.map fun i => V.ref (pu.getD i puD).1) (fun r σ H' => ∃ (o3 o4 o5 o6 : Option V), σ = [some (.ref lp), some (.ref d), some (.ref l), o3, o4, o5, o6] ∧ RchS H d l pu (rndsR (pS (sn pu)) (pE (sn pu)) I acc r) H') ⟨_, _, _, _, rfl, rc⟩ (fun r σ H' _ z => by obtain ⟨_, _, _, _, _, c⟩ := z; exact SqL.of (lpA c)) ?_ ?_⟩
    · rintro r v σ H1 hv ⟨o3, o4, o5, o6, rfl, c1⟩
      have hr12 := (List.getElem?_eq_some_iff.mp hv).1
      rw [List.length_map] at hr12
      dsimp only [gName]
      refine ⟨_, rfl, lp, rfl, ⟨_, SqL.of (lpA c1)⟩, for_list (xs := I.map fun i => V.ref (pu.getD i puD).1) (fun i σ H' => ∃ (o3 o4 o5 o6 : Option V), σ = [some (.ref lp), some (.ref d), some (.ref l), o3, o4, o5, o6] ∧ RchS H d l pu ((I.take i).foldl (stpR (pS (sn pu)) (pE (sn pu))) (rndsR (pS (sn pu)) (pE (sn pu)) I acc r)) H') ⟨_, _, _, _, rfl, c1⟩ (fun i σ H' _ z => by obtain ⟨_, _, _, _, _, c⟩ := z; exact SqL.of (lpA c)) ?_ ?_⟩
      · clear c1
        rintro i v2 σ H2 hv2 ⟨p3, p4, p5, p6, rfl, c2⟩
        obtain ⟨q, hq, rfl⟩ : ∃ q, I[i]? = some q ∧ v2 = V.ref (pu.getD q puD).1 := by
          rw [List.getElem?_map] at hv2
          cases e : I[i]? with
          | none => rw [e] at hv2; cases hv2
          | some q => rw [e] at hv2; exact ⟨q, rfl, (Option.some.inj hv2).symm⟩
        have qp := il q (List.mem_of_getElem? hq)
        obtain ⟨ea, es, ee, _⟩ := pu_at qp
        have hlen := rndsR_len (st := pS (sn pu)) (en := pE (sn pu)) I acc r
        have hlen2 := foldR_len (st := pS (sn pu)) (en := pE (sn pu)) (I.take i) (rndsR (pS (sn pu)) (pE (sn pu)) I acc r)
        have ilt := (List.getElem?_eq_some_iff.mp hq).1
        have itk : (I.take i).length ≤ 12 := by rw [List.length_take]; omega
        have h144 : r * I.length ≤ 12 * 12 := Nat.mul_le_mul (by omega) i12
        rw [List.take_add_one, hq, Option.toList_some, List.foldl_append, List.foldl_cons, List.foldl_nil]
        generalize (I.take i).foldl (stpR (pS (sn pu)) (pE (sn pu))) (rndsR (pS (sn pu)) (pE (sn pu)) I acc r) = ac at c2 hlen2 ⊢
        have bl1 : ac.1.length ≤ 6000 := by omega
        have bl2 : ac.2.length ≤ 6000 := by omega
        have pa := pA c2 pu[q] (List.getElem_mem qp)
        rw [ea]
        obtain ⟨dx, ex⟩ := id pa
        obtain ⟨os, gs, is⟩ := mkT_is c2.ed (pS (sn pu) q)
        obtain ⟨oe, ge, ie⟩ := mkT_is c2.ed (pE (sn pu) q)
        have fin : ∀ (v w : Str) (T0 : Addr), v ∉ ac.1 → H2 T0 = none → stpR (pS (sn pu)) (pE (sn pu)) ac q = (ac.1 ++ [v], ac.2 ++ [(q, w, v)]) →
            (tSeq (sDPut (tVar 1) (tVar 6) (tC (V.bl true))) (tDrop (tBM K "list" rAppend (tVar 2) (tCons (tTup (tCons (tVar 4) (tCons (tVar 5) (tCons (tVar 6) tNil)))) tNil)))) { nx := fun σ H' => ∃ o3 o4 o5 o6, σ = [some (V.ref lp), some (V.ref d), some (V.ref l), o3, o4, o5, o6] ∧ RchS H d l pu (stpR (pS (sn pu)) (pE (sn pu)) ac q) H', rt := Q, bk := fun σ H' => ∃ o3 o4 o5 o6, σ = [some (V.ref lp), some (V.ref d), some (V.ref l), o3, o4, o5, o6] ∧ RchS H d l pu (rndsR (pS (sn pu)) (pE (sn pu)) I acc (r + 1)) H', ct := fun σ H' => ∃ o3 o4 o5 o6, σ = [some (V.ref lp), some (V.ref d), some (V.ref l), o3, o4, o5, o6] ∧ RchS H d l pu (stpR (pS (sn pu)) (pE (sn pu)) ac q) H' }
              [some (V.ref lp), some (V.ref d), some (V.ref l), p3, some (V.ref pu[q].1), some (.str w), some (.str v)] (upd H2 T0 (.tup [.str w, .str v])) := by
          intro v w T0 nv nT0 es
          have c3 := c2.new (o := .tup [.str w, .str v]) nT0
          revert c3
          generalize upd H2 T0 (.tup [.str w, .str v]) = H3
          intro c3
          obtain ⟨lu, e1, e2, e3⟩ := c3.el
          refine ⟨_, rfl, _, rfl, d, _, rfl, DPut.k (k := Sum.inr v) c3.ed (Nat.lt_of_le_of_lt (show (mkT ac.1).length ≤ 6000 by rw [mkT, List.length_map]; exact bl1) (by decide)), ?_⟩
          rw [mkT_put nv]
          have el4 : upd H3 d (.dK (mkT (ac.1 ++ [v]))) l = some (.lst (rf lu)) := (upd_ne c3.ne).trans e1
          refine ⟨_, rfl, .inl ⟨rfl, _, SqL.of el4⟩, _, rfl, _, rfl, _, rfl, (by show 3 ≤ sizeLine; decide), fun T1 nT1 => ?_⟩
          have q2 : V.ref pu[q].1 = V.ref (pu.getD q puD).1 := by rw [ea]
          rw [q2]
          obtain ⟨f1, f2⟩ := c3.add (k := q) (w := w) e1 e2 e3 nT1
          refine ⟨l, _, _, rfl, rfl, f1, ?_, _, _, _, _, rfl, ?_⟩
          · rw [rf_len, ← sn_len, e2]
            exact Nat.lt_of_le_of_lt bl2 (by decide)
          · rw [es]
            exact f2
        refine ⟨_, rfl, _, dx, _, rfl, ex, irr ⟨_, _, rfl, pa, _, rfl, d, os, rfl, es ▸ gs, _, rfl, _, dx, _, rfl, ex, irr ⟨_, _, rfl, pa, _, rfl, d, oe, rfl, ee ▸ ge, rfl, _, rfl, ?_⟩⟩⟩
        rw [is, ie]
        by_cases m1 : pS (sn pu) q ∈ ac.1 <;> by_cases m2 : pE (sn pu) q ∈ ac.1
        · rw [decide_eq_true m1, decide_eq_true m2]
          refine iteF ⟨_, _, _, _, rfl, ?_⟩
          rw [stpR, if_pos (by rw [decide_eq_true m1, decide_eq_true m2])]
          exact c2
        · rw [decide_eq_true m1, decide_eq_false m2]
          refine iteT ?_
          refine ⟨_, rfl, _, dx, _, rfl, ex, irr ⟨_, _, rfl, pa, _, rfl, d, os, rfl, es ▸ gs, true, by rw [is, decide_eq_true m1], iteT ?_⟩⟩
          refine ⟨_, rfl, _, dx, _, rfl, ex, irr ⟨_, _, rfl, pa, _, rfl, _, dx, _, rfl, ex, irr ⟨_, _, rfl, pa, (by show 2 ≤ sizeLine; decide), fun T0 nT0 => ?_⟩⟩⟩
          refine ⟨T0, _, rfl, SqT.of upd_same, rfl, _, _, rfl, _, _, rfl, rfl, ?_⟩
          rw [← es, ← ee]
          exact fin _ _ T0 m2 nT0 (by rw [stpR, if_neg (by rw [decide_eq_true m1, decide_eq_false m2]; decide), if_pos m1])
        · rw [decide_eq_false m1, decide_eq_true m2]
          refine iteT ?_
          refine ⟨_, rfl, _, dx, _, rfl, ex, irr ⟨_, _, rfl, pa, _, rfl, d, os, rfl, es ▸ gs, false, by rw [is, decide_eq_false m1], iteF ?_⟩⟩
          refine ⟨_, rfl, _, dx, _, rfl, ex, irr ⟨_, _, rfl, pa, _, rfl, _, dx, _, rfl, ex, irr ⟨_, _, rfl, pa, (by show 2 ≤ sizeLine; decide), fun T0 nT0 => ?_⟩⟩⟩
          refine ⟨T0, _, rfl, SqT.of upd_same, rfl, _, _, rfl, _, _, rfl, rfl, ?_⟩
          rw [← es, ← ee]
          exact fin _ _ T0 m1 nT0 (by rw [stpR, if_neg (by rw [decide_eq_false m1, decide_eq_true m2]; decide), if_neg m1])
        · rw [decide_eq_false m1, decide_eq_false m2]
          refine iteF ⟨_, _, _, _, rfl, ?_⟩
          rw [stpR, if_pos (by rw [decide_eq_false m1, decide_eq_false m2])]
          exact c2
      · rintro σ H2 ⟨p3, p4, p5, p6, rfl, c2⟩
        rw [List.take_of_length_le (by rw [List.length_map]; exact Nat.le_refl _)] at c2
        exact ⟨_, _, _, _, rfl, c2⟩
    · rintro σ H1 ⟨o3, o4, o5, o6, rfl, c1⟩
      rw [List.length_map] at c1
      exact k H1 c1
end
end RV
/-! links of a forest -/
namespace RV
open PySem L2 TL
section
variable {P : Program} {w : World} {K : PySem.W.Frag} {mg : Str → Option Value} {base : Heap} {CN CP CM : Addr}
theorem ok_rooted {f : Addr} {fd : FuncData} (F : Fun K "rooted" "rooted" s_rooted f fd) (h_npl : Prp P w K mg base CN "places" 3 (Irr (sp_plc K CN CP CM))) (h_reach : Fn P w K mg base "_reach_on" 3 ["parts", "reached", "links"] (Irr (sp_reach CP))) : FnOk P w K mg base CX0 5 f fd ["net", "parts"] (sp_rooted K CN CP CM) := by
  refine F.ok sc_rooted (fun vs H Q E h => ?_) (fun cdv A outer s H vs Q E hr h => ?_)
  · obtain ⟨_, _, _, _, _, rfl, _⟩ := h
    rfl
  · obtain ⟨x, lp, pu, ms, I, rfl, nr, p12, eP, eL, i12, il, k⟩ := h
    have hu : (A.deeper (PyProof.Rows.envOfC "rooted" (defScope s_rooted) s.heap.objs.size f cdv)).units + 1 < cLine := by have := hr.units; omega
    refine ⟨_, (pss_cons (ps_set (i := 2) sc_rooted.nd rfl (Or.inl rfl) (pe_lst pa_nil))
      (pss_cons (ps_set (i := 3) sc_rooted.nd rfl (Or.inl rfl) pe_dnewK)
      (pss_cons (ps_for PassesOwn.never rfl (pi_tup (pe_propN h_npl (hr.mono (by decide)) (pv 0))) (pg_name (i := 4) sc_rooted.nd rfl (Or.inl rfl)) (pss_one (ps_if (pt_cmp (pc_dnotin hu (pv 4) (pv 3))) (pss_cons (ps_dput hu (pv 3) (pv 4) pe_bl (by rfl)) (pss_one (ps_expr (pe_fn h_reach (hr.mono (by decide)) (pa_cons (pv 1) (pa_cons (pv 3) (pa_cons (pv 2) pa_nil))))))) pss_nil)))
      (pss_one (ps_ret (pv 2)))))), ?_⟩
    refine ⟨by decide, fun l nl => ?_⟩
    dsimp only [gName]
    intro d nd
    have c0 := ((Cel.start H).newM (o := .lst []) nl).newM (o := .dK []) nd
    have dNone : H d = none := (c0.m _ List.mem_cons_self).1
    have ed := c0.am List.mem_cons_self
    have el := c0.am (List.mem_cons_of_mem _ List.mem_cons_self)
    have sm := c0.sm
    revert ed el sm
    generalize upd (upd H l (.lst [])) d (.dK []) = H1
    intro ed el sm
    clear c0
    dsimp only [gName]
    obtain ⟨dx, tp, tm, pu0, mu, ex, hp, hm, ep, em⟩ := id nr.ex
    have ex1 := sm _ _ ex
    refine ⟨_, rfl, x, dx, _, rfl, ex1, irr ⟨x, sn pu, ms, rfl, nr.ext sm, by rw [sn_len]; exact p12, fun t zs H2 s2 et sp z24 => ?_⟩⟩
    have ed2 := s2 _ _ ed
    have el2 := s2 _ _ el
    have sm2 := sm.trans s2
    have r0 : RchS H2 d l pu ([], []) H2 := ⟨fun _ _ _ _ e => e, ed2, [], el2, rfl, fun _ h => (nomatch h)⟩
    have ndl : lp ≠ d := fun e => by have := sm2 _ _ eL; rw [e, ed2] at this; cases this
    have nll : lp ≠ l := fun e => by rw [e, nl] at eL; cases eL
    have tA : ∀ {a : AccR Str} {H' : Hp}, RchS H2 d l pu a H' → SqT K H' t (zs.map V.str) := fun c => SqT.of (c.sb _ _ (fun e => by rw [e, ed2] at et; cases et) (fun e => by rw [e, el2] at et; cases et) et)
    have lpA : ∀ {a : AccR Str} {H' : Hp}, RchS H2 d l pu a H' → H' lp = some (.lst (I.map fun i => .ref (pu.getD i puD).1)) := fun c => c.sb _ _ ndl nll (sm2 _ _ eL)
    have pA : ∀ {a : AccR Str} {H' : Hp}, RchS H2 d l pu a H' → ∀ u ∈ pu, PipeAt CP H' u.1 u.2 := fun c u hu => by
      obtain ⟨dx, e⟩ := (eP u hu).ext sm2
      refine ⟨dx, c.sb _ _ (fun z => ?_) (fun z => ?_) e⟩
      · rw [← z, e] at ed2; cases ed2
      · rw [← z, e] at el2; cases el2
    refine ⟨t, rfl, ⟨_, SqT.of et⟩, for_tup (xs := zs.map V.str) (fun i σ H' => ∃ (o4 : Option V), σ = [some (.ref x), some (.ref lp), some (.ref l), some (.ref d), o4] ∧ RchS H2 d l pu ((zs.take i).foldl (rootR (pS (sn pu)) (pE (sn pu)) I) ([], [])) H') ⟨_, rfl, r0⟩ (fun i σ H' _ z => by obtain ⟨_, _, c⟩ := z; exact tA c) ?_ ?_⟩
    · rintro i v σ H3 hv ⟨o4, rfl, c3⟩
      obtain ⟨q, hq, rfl⟩ : ∃ q, zs[i]? = some q ∧ v = V.str q := by
        rw [List.getElem?_map] at hv
        cases e : zs[i]? with
        | none => rw [e] at hv; cases hv
        | some q => rw [e] at hv; exact ⟨q, rfl, (Option.some.inj hv).symm⟩
      have ilt := (List.getElem?_eq_some_iff.mp hq).1
      have hlen := rootedR_len (st := pS (sn pu)) (en := pE (sn pu)) I (zs.take i) ([], [])
      have h144 : I.length * I.length ≤ 12 * 12 := Nat.mul_le_mul i12 i12
      have hlen2 : (zs.take i).length * (1 + I.length * I.length) ≤ 24 * 145 := Nat.mul_le_mul (by rw [List.length_take]; omega) (by omega)
      rw [List.take_add_one, hq, Option.toList_some, List.foldl_append, List.foldl_cons, List.foldl_nil]
      dsimp only at hlen
      rw [List.length_nil, List.length_nil] at hlen
      generalize (zs.take i).foldl (rootR (pS (sn pu)) (pE (sn pu)) I) ([], []) = ac at c3 hlen ⊢
      obtain ⟨oq, gq, iq⟩ := mkT_is c3.ed q
      dsimp only [gName]
      by_cases m : q ∈ ac.1
      · refine ⟨_, rfl, _, rfl, d, oq, rfl, gq, false, by rw [iq, decide_eq_true m]; rfl, iteF ⟨_, rfl, ?_⟩⟩
        rw [rootR, if_pos m]
        exact c3
      · refine ⟨_, rfl, _, rfl, d, oq, rfl, gq, true, by rw [iq, decide_eq_false m]; rfl, iteT ?_⟩
        refine ⟨_, rfl, _, rfl, d, _, rfl, DPut.k (k := Sum.inr q) c3.ed (Nat.lt_of_le_of_lt (show (mkT ac.1).length ≤ 6000 by rw [mkT, List.length_map]; omega) (by decide)), ?_⟩
        rw [mkT_put m]
        have c4 := c3.put (v := q)
        generalize upd H3 d (.dK (mkT (ac.1 ++ [q]))) = H4 at c4 ⊢
        refine ⟨_, rfl, _, rfl, _, rfl, irr ⟨lp, d, l, pu, I, (ac.1 ++ [q], ac.2), rfl, lpA c4, pA c4, i12, il, nll, c4.self, ?_, ?_, fun H5 c5 => ⟨_, rfl, ?_⟩⟩⟩
        · dsimp only
          rw [List.length_append, List.length_singleton]
          omega
        · dsimp only
          omega
        · rw [rootR, if_neg m]
          exact c5.of c4.sb
    · rintro σ H3 ⟨o4, rfl, c3⟩
      rw [List.length_map, List.take_length] at c3
      obtain ⟨lu, e1, e2, e3⟩ := c3.el
      exact ⟨_, rfl, k l lu zs H3 (fun b o e => c3.sb _ _ (fun z => by rw [z, dNone] at e; cases e) (fun z => by rw [z, nl] at e; cases e) (sm2 _ _ e)) e1 e3 sp z24 e2⟩
end
end RV
/-! a flow with given amounts -/
namespace RV
open PySem L2 TL
section
variable {P : Program} {w : World} {K : PySem.W.Frag} {mg : Str → Option Value} {base : Heap} {CN CP CM : Addr}
theorem ok_fit {f : Addr} {fd : FuncData} (F : Fun K "fitting_flow" "fitting_flow" s_fitting_flow f fd) (T : Blt mg) (T2 : Blt2 mg) (h_np : Prp P w K mg base CN "pipes" 1 (Irr (sp_npi CN))) (h_pn : Prp P w K mg base CP "name" 1 (Irr (sp_pn CP))) (h_ps : Prp P w K mg base CP "start" 1 (Irr (sp_ps CP))) (h_pe : Prp P w K mg base CP "end" 1 (Irr (sp_pe CP))) (h_npl : Prp P w K mg base CN "places" 3 (Irr (sp_plc K CN CP CM))) (h_rooted : Fn P w K mg base "rooted" 5 ["net", "parts"] (Irr (sp_rooted K CN CP CM))) : FnOk P w K mg base CX0 7 f fd ["net", "amounts"] (sp_fit K CN CP CM) := by
  refine F.ok sc_fitting_flow (fun vs H Q E h => ?_) (fun cdv A outer s H vs Q E hr h => ?_)
  · obtain ⟨_, _, _, _, _, _, rfl, _⟩ := h
    rfl
  · obtain ⟨x, d, ps, ms, kva, am, rfl, nr, po, eD, va, kN, kT⟩ := h
    have hu : (A.deeper (PyProof.Rows.envOfC "fitting_flow" (defScope s_fitting_flow) s.heap.objs.size f cdv)).units + 1 < cLine := by have := hr.units; omega
    have hu2 := hu
    refine ⟨_, (pss_cons (ps_set (i := 2) sc_fitting_flow.nd rfl (Or.inr rfl) (pe_dc (own := [("part", 4)]) (g := gName 4) (tt := tYes) rfl sc_fitting_flow.nd (pi_tup (pe_propN h_np (hr.mono (by decide)) (pv 0))) (blkOk_by (N := sc_fitting_flow_N) (sc := defScope s_fitting_flow) (by decide +kernel)) (fun _ _ _ _ _ => pg_name (i := 4) sc_fitting_flow.nd rfl (Or.inl rfl)) (fun _ _ _ _ _ => pts_nil) (fun _ _ _ _ _ => (pe_propN h_pn (hr.mono (by decide)) (pv 4))) (fun _ _ _ _ _ => pe_dget2 hu2 (pv 1) (pe_propN h_pn (hr.mono (by decide)) (pv 4)) pe_int ⟨rfl, rfl, rfl, rfl⟩)))
      (pss_cons (ps_set (i := 3) sc_fitting_flow.nd rfl (Or.inr rfl) (pe_dc (own := [("place", 8)]) (g := gName 8) (tt := tYes) rfl sc_fitting_flow.nd (pi_tup (pe_propN h_npl (hr.mono (by decide)) (pv 0))) (blkOk_by (N := sc_fitting_flow_N) (sc := defScope s_fitting_flow) (by decide +kernel)) (fun _ _ _ _ _ => pg_name (i := 8) sc_fitting_flow.nd rfl (Or.inl rfl)) (fun _ _ _ _ _ => pts_nil) (fun _ _ _ _ _ => pv 8) (fun _ _ _ _ _ => pe_int)))
      (pss_cons (ps_for PassesOwn.never rfl (pi_tup (pe_propN h_np (hr.mono (by decide)) (pv 0))) (pg_name (i := 4) sc_fitting_flow.nd rfl (Or.inl rfl)) (pss_cons (ps_daug hu (pv 3) (pe_propN h_pe (hr.mono (by decide)) (pv 4)) (pe_dget hu (pv 2) (pe_propN h_pn (hr.mono (by decide)) (pv 4)) (fun _ _ => rfl)) in_add (fun _ _ _ => rfl)) (pss_one (ps_daug hu (pv 3) (pe_propN h_ps (hr.mono (by decide)) (pv 4)) (pe_dget hu (pv 2) (pe_propN h_pn (hr.mono (by decide)) (pv 4)) (fun _ _ => rfl)) in_sub (fun _ _ _ => rfl)))))
      (pss_cons (ps_for PassesOwn.never rfl (pi_list (pe_revL (pe_fn h_rooted (hr.mono (by decide)) (pa_cons (pv 0) (pa_cons (pe_lc (own := [("part", 4)]) (g := gName 4) rfl sc_fitting_flow.nd (pi_tup (pe_propN h_np (hr.mono (by decide)) (pv 0))) (blkOk_by (N := sc_fitting_flow_N) (sc := defScope s_fitting_flow) (by decide +kernel)) (fun _ _ _ _ _ => pg_name (i := 4) sc_fitting_flow.nd rfl (Or.inl rfl)) (fun _ _ _ _ _ => pts_one (pt_cmp (pc_dnotin hu2 (pe_propN h_pn (hr.mono (by decide)) (pv 4)) (pv 1)))) (fun _ _ _ _ _ => (pv 4))) pa_nil))))) (pg_tup (by rfl) (pgs_cons (pg_name (i := 4) sc_fitting_flow.nd rfl (Or.inl rfl)) (pgs_cons (pg_name (i := 5) sc_fitting_flow.nd rfl (Or.inl rfl)) (pgs_cons (pg_name (i := 6) sc_fitting_flow.nd rfl (Or.inl rfl)) pgs_nil)))) (pss_cons (ps_set (i := 7) sc_fitting_flow.nd rfl (Or.inl rfl) (pe_ifExp (pt_cmpR op_eq (pe_propN h_ps (hr.mono (by decide)) (pv 4)) (pv 6) (nomark _)) (pe_dget hu (pv 3) (pv 6) (fun _ _ => rfl)) (pe_un un_neg (pe_dget hu (pv 3) (pv 6) (fun _ _ => rfl))))) (pss_cons (ps_dput hu (pv 2) (pe_propN h_pn (hr.mono (by decide)) (pv 4)) (pv 7) (by rfl)) (pss_cons (ps_daug hu (pv 3) (pe_propN h_pe (hr.mono (by decide)) (pv 4)) (pv 7) in_add (fun _ _ _ => rfl)) (pss_one (ps_daug hu (pv 3) (pe_propN h_ps (hr.mono (by decide)) (pv 4)) (pv 7) in_sub (fun _ _ _ => rfl)))))))
      (pss_cons (ps_if (pt_val (pe_callB (cr_any rfl) (by rfl) T.b_any (by decide +kernel) (pa_cons (pe_lc (own := [("place", 8)]) (g := gName 8) (tt := tYes) rfl sc_fitting_flow.nd (pi_tup (pe_propN h_npl (hr.mono (by decide)) (pv 0))) (blkOk_by (N := sc_fitting_flow_N) (sc := defScope s_fitting_flow) (by decide +kernel)) (fun _ _ _ _ _ => pg_name (i := 8) sc_fitting_flow.nd rfl (Or.inl rfl)) (fun _ _ _ _ _ => pts_nil) (fun _ _ _ _ _ => (pe_cmpR op_ne (pe_dget hu2 (pv 3) (pv 8) (fun _ _ => rfl)) pe_int (nomark _)))) pa_nil))) (pss_one (ps_ret pe_non)) pss_nil)
      (pss_one (ps_ret (pe_callTy call_tuple_of (by rfl) T2.b_tuple (by decide +kernel) (pa_cons (pe_lc (own := [("part", 4)]) (g := gName 4) (tt := tYes) rfl sc_fitting_flow.nd (pi_tup (pe_propN h_np (hr.mono (by decide)) (pv 0))) (blkOk_by (N := sc_fitting_flow_N) (sc := defScope s_fitting_flow) (by decide +kernel)) (fun _ _ _ _ _ => pg_name (i := 4) sc_fitting_flow.nd rfl (Or.inl rfl)) (fun _ _ _ _ _ => pts_nil) (fun _ _ _ _ _ => (pe_dget hu2 (pv 2) (pe_propN h_pn (hr.mono (by decide)) (pv 4)) (fun _ _ => rfl)))) pa_nil))))))))), ?_⟩
    obtain ⟨dx, tp, tm, pu, mu, ex, hp, hm, ep, em⟩ := id nr.ex
    have pul : pu.length = ps.length := by rw [← ep, sn_len]
    have p12 := po.ln
    have pAt : ∀ i u, pu[i]? = some u → pN ps i = u.2.1 ∧ pS ps i = u.2.2.1 ∧ pE ps i = u.2.2.2 := fun i u hu => pN_at (ep ▸ sn_get hu)
    have e0 : ∀ (σ : L2.St) (H : Hp) (R : Bool → Hp → Prop), R true H → tYes σ H R := fun _ _ _ r => r
    refine ⟨_, rfl, x, dx, _, rfl, ex, irr ⟨x, dx, tp, tm, rfl, ex, tp, rfl, ⟨_, hp.t⟩, fun df nf => ?_⟩⟩
    have sf : Same H (upd H df (.dK [])) := fun b o e => (upd_ne (ne_of_none e nf)).trans e
    refine dc_it (n := ps.length) (by rw [← pul, ← rf_len]; exact walk_tup (K := K) (xs := rf pu)) (fun i H' => ∃ kf, Same H H' ∧ H' df = some (.dK kf) ∧ VF ps kf i (x0A ps am) ∧ kf.length ≤ i) ⟨[], sf, upd_same, fun _ z => absurd z (Nat.not_lt_zero _), Nat.le_refl _⟩ (fun i H' _ z => by obtain ⟨_, s', _⟩ := z; exact hp.t.ext s') ?_ ?_
    · rintro i v Ha Hb hi ⟨kf, s1, eF, vf, lf⟩ ⟨rfl, hv⟩
      obtain ⟨u, hu2, rfl⟩ := rf_get hv
      obtain ⟨n1, n2, n3⟩ := pAt i u hu2
      have pa := (hp.o u (List.mem_of_getElem? hu2)).ext s1
      obtain ⟨du, edu⟩ := id pa
      refine ⟨rfl, ?_⟩
      refine e0 _ _ _ ?_
      simp only [↓reduceIte]
      have isd : IsD Hb d := .inl ⟨_, .inl (s1 _ _ eD)⟩
      refine ⟨_, rfl, u.1, du, _, rfl, edu, irr ⟨u.1, u.2, rfl, pa, _, rfl, d, rfl, isd, _, rfl, u.1, du, _, rfl, edu, irr ⟨u.1, u.2, rfl, pa, _, DGet.k (k := Sum.inr u.2.1) (s1 _ _ eD), kf, .inr u.2.1, rfl, eF, Nat.lt_of_le_of_lt lf (Nat.lt_of_lt_of_le (show i < 12 by omega) (by decide)), putK kf (.inr u.2.1) (.int (x0A ps am i)), fun b o e => ?_, ?_, fun k hk => ?_, ?_⟩⟩⟩
      · rw [upd_ne (ne_of_none e nf)]
        exact s1 _ _ e
      · rw [upd_same, va u.2.1, x0A, n1]
        cases am u.2.1 <;> rfl
      · rw [valV_put]
        by_cases e : k = i
        · subst e
          rw [if_pos (by rw [n1])]
        · rw [if_neg fun q => e (pN_inj po.nd (by omega) hi (by rw [n1]; injection q))]
          exact vf k (by omega)
      · have := length_putK kf (.inr u.2.1 : Key) (.int (x0A ps am i))
        omega
    · rintro H1 ⟨kf, s1, eF, vf, lf⟩
      dsimp only [gName]
      have ex1 := s1 _ _ ex
      have nr1 := nr.ext s1
      refine ⟨_, rfl, x, dx, _, rfl, ex1, irr ⟨x, ps, ms, rfl, nr1, p12, fun t zs H2 s2 et sp z24 => ⟨t, rfl, ⟨_, SqT.of et⟩, fun dl nl => ?_⟩⟩⟩
      have s12 := s1.trans s2
      have sl : Same H2 (upd H2 dl (.dK [])) := fun b o e => (upd_ne (ne_of_none e nl)).trans e
      have nfl : dl ≠ df := (ne_of_none (s2 _ _ eF) nl).symm
      refine dc_it (n := zs.length) (List.length_map (as := zs) V.str ▸ walk_tup (K := K) (xs := zs.map V.str)) (fun i H' => ∃ kl, Same H2 H' ∧ H' dl = some (.dK kl) ∧ VL (zs.take i) kl (fun _ => 0) ∧ kl.length ≤ i) ⟨[], sl, upd_same, fun z hz => absurd hz (by simp), Nat.le_refl _⟩ (fun i H' _ z => by obtain ⟨_, s', _⟩ := z; exact (SqT.of et).ext s') ?_ ?_
      · rintro i v Ha Hb hi ⟨kl, s3, eK, vl, ll⟩ ⟨rfl, hv⟩
        rw [List.getElem?_map, List.getElem?_eq_getElem hi] at hv
        obtain rfl := Option.some.inj hv
        refine ⟨rfl, ?_⟩
        refine e0 _ _ _ ?_
        simp only [↓reduceIte]
        refine ⟨_, rfl, kl, .inr zs[i], rfl, eK, Nat.lt_of_le_of_lt ll (Nat.lt_of_lt_of_le (show i < 24 by omega) (by decide)), putK kl (.inr zs[i]) (.int 0), fun b o e => ?_, upd_same, ?_, ?_⟩
        · rw [upd_ne (ne_of_none e nl)]
          exact s3 _ _ e
        · have et2 : zs.take (i + 1) = zs.take i ++ [zs[i]] := by rw [List.take_add_one, List.getElem?_eq_getElem hi]; rfl
          rw [et2]
          intro z hz
          rw [valV_put]
          by_cases e : z = zs[i]
          · rw [if_pos (by rw [e])]
          · rw [if_neg fun q => e (by injection q)]
            rcases List.mem_append.mp hz with q | q
            · exact vl z q
            · exact absurd (List.mem_singleton.mp q) e
        · have := length_putK kl (.inr zs[i] : Key) (.int 0)
          omega
      · rintro H3 ⟨kl, s3, eK, vl, ll⟩
        rw [List.take_length] at vl
        dsimp only [gName]
        have s13 := s12.trans s3
        have F0 : FitS H df dl ps zs (x0A ps am) (leftP (pS ps) (pE ps) (x0A ps am) 0) 24 H3 := ⟨nfl, fun b o _ _ e => s13 _ _ e, kf, kl, s3 _ _ (s2 _ _ eF), vf, by omega, eK, vl, by omega⟩
        have ex3 := s13 _ _ ex
        refine ⟨_, rfl, x, dx, _, rfl, ex3, irr ⟨x, dx, tp, tm, rfl, ex3, tp, rfl, ⟨_, hp.t.ext s13⟩, ?_⟩⟩
        have nfH : H df = none := nf
        have nlH : H dl = none := by
          cases e : H dl with
          | none => rfl
          | some o => rw [s12 _ _ e] at nl; cases nl
        refine for_tup (xs := rf pu) (fun i σ H' => ∃ (o4 o5 o6 o7 o8 : Option V), σ = [some (.ref x), some (.ref d), some (.ref df), some (.ref dl), o4, o5, o6, o7, o8] ∧ FitS H df dl ps zs (x0A ps am) (leftP (pS ps) (pE ps) (x0A ps am) i) (24 + 2 * i) H') ⟨_, _, _, _, _, rfl, F0⟩ (fun i σ H' _ z => by obtain ⟨_, _, _, _, _, _, c⟩ := z; exact hp.t.ext (c.old2 nfH nlH)) ?_ ?_
        · rintro i v σ H4 hv ⟨o4, o5, o6, o7, o8, rfl, F4⟩
          obtain ⟨u, hu2, rfl⟩ := rf_get hv
          have hi : i < ps.length := by rw [← pul]; exact (List.getElem?_eq_some_iff.mp hu2).1
          obtain ⟨n1, n2, n3⟩ := pAt i u hu2
          obtain ⟨dp, edp⟩ := (hp.o u (List.mem_of_getElem? hu2)).ext (F4.old2 nfH nlH)
          have pa : PipeAt CP H4 u.1 u.2 := ⟨dp, edp⟩
          obtain ⟨kf4, kl4, f1, f2, f3, f4, f5, f6⟩ := F4.ex
          have mz := plsM (ps := ps) (q := u.2) (by rw [← ep]; exact List.mem_map_of_mem (List.mem_of_getElem? hu2))
          have z1 : u.2.2.1 ∈ zs := (sp.2.2 _).mpr mz.1
          have z2 : u.2.2.2 ∈ zs := (sp.2.2 _).mpr mz.2
          dsimp only [gName]
          refine ⟨_, rfl, _, rfl, u.1, dp, _, rfl, edp, irr ⟨u.1, u.2, rfl, pa, dl, _, rfl, by rw [← f5 _ z2]; exact DGet.k (k := Sum.inr u.2.2.2) f4, ?_⟩⟩
          refine ⟨_, rfl, _, rfl, u.1, dp, _, rfl, edp, irr ⟨u.1, u.2, rfl, pa, df, .int (x0A ps am i), rfl, by rw [← f2 i hi, n1]; exact DGet.k (k := Sum.inr u.2.1) f1, ?_⟩⟩
          have l6 : ∀ {kl : List (Key × V)}, kl.length ≤ 24 + 2 * i + 1 → kl.length < sizeLine := fun q => Nat.lt_of_le_of_lt q (Nat.lt_of_lt_of_le (show 24 + 2 * i + 1 < 60 by omega) (by decide))
          have l7 := length_putK kl4 (.inr u.2.2.2 : Key) (.int (leftP (pS ps) (pE ps) (x0A ps am) i u.2.2.2 + x0A ps am i))
          refine ⟨_, _, rfl, rfl, _, DPut.k (k := Sum.inr u.2.2.2) f4 (l6 (by omega)), ?_⟩
          have ud : u.1 ≠ dl := fun e => by rw [e, f4] at edp; cases edp
          have edp2 : upd H4 dl (.dK (putK kl4 (.inr u.2.2.2) (.int (leftP (pS ps) (pE ps) (x0A ps am) i u.2.2.2 + x0A ps am i)))) u.1 = _ := (upd_ne ud).trans edp
          have pa2 : PipeAt CP (upd H4 dl (.dK (putK kl4 (.inr u.2.2.2) (.int (leftP (pS ps) (pE ps) (x0A ps am) i u.2.2.2 + x0A ps am i))))) u.1 u.2 := ⟨dp, edp2⟩
          refine ⟨_, rfl, _, rfl, u.1, dp, _, rfl, edp2, irr ⟨u.1, u.2, rfl, pa2, dl, _, rfl, by rw [← f5.second z1]; exact DGet.k (k := Sum.inr u.2.2.1) upd_same, ?_⟩⟩
          refine ⟨_, rfl, _, rfl, u.1, dp, _, rfl, edp2, irr ⟨u.1, u.2, rfl, pa2, df, .int (x0A ps am i), rfl, by rw [← f2 i hi, n1]; exact DGet.k (k := Sum.inr u.2.1) ((upd_ne nfl.symm).trans f1), ?_⟩⟩
          refine ⟨_, _, rfl, rfl, _, DPut.k (k := Sum.inr u.2.2.1) upd_same (l6 (by omega)), _, _, _, _, _, rfl, ?_⟩
          refine (F4.ends f4 f5 f6 rfl rfl).is (fun _ _ => rfl) (fun z _ => ?_) (by omega)
          rw [leftP_succ, n2, n3]
        · rintro σ H4 ⟨o4, o5, o6, o7, o8, rfl, F4⟩
          rw [rf_len, pul] at F4
          clear F0 s13 s12 s3 sl eK vl ll s2 s1 vf lf eF
          have s4 := F4.old2 nfH nlH
          have ex4 := s4 _ _ ex
          refine ⟨_, rfl, _, rfl, x, dx, _, rfl, ex4, irr ⟨x, dx, tp, tm, rfl, ex4, tp, rfl, ⟨_, hp.t.ext s4⟩, fun L nL => ?_⟩⟩
          refine lc_keep (fun u => (am u.2.1).isNone) walk_tup nL (by omega) (fun H' s' => hp.t.ext (s4.trans s')) (fun _ => rfl) (fun u hu2 H5 s5 R kR => ?_) (fun u _ H5 R r => ⟨_, rfl, r⟩) fun H5 s5 hL => ?_
          · obtain ⟨dp, edp⟩ := (hp.o u hu2).ext (s4.trans s5)
            refine ⟨_, rfl, u.1, dp, _, rfl, edp, irr ⟨u.1, u.2, rfl, ⟨dp, edp⟩, _, rfl, d, _, rfl, DGet.k (k := Sum.inr u.2.1) ((s4.trans s5) _ _ eD), _, rfl, ?_⟩⟩
            rw [va u.2.1]
            have e : (!((am u.2.1).map V.int).isSome) = (am u.2.1).isNone := by cases am u.2.1 <;> rfl
            rw [e]
            exact kR H5 (Same.refl _)
          · have F5 := F4.same s5
            have s45 := s4.trans s5
            rw [filt_ix _ puD pu, rf, List.map_map] at hL
            have hIm : ∀ i, i ∈ (List.range pu.length).filter (fun i => (am (pu.getD i puD).2.1).isNone) ↔ i < ps.length ∧ freeA ps am i := fun i => by
              rw [List.mem_filter, List.mem_range, pul]
              refine and_congr_right fun hi => ?_
              rw [freeA, ← ep, (pu_at (by omega)).2.2.2, (pu_at (show i < pu.length by omega)).1]
              exact Option.isNone_iff_eq_none
            have hIl : ((List.range pu.length).filter fun i => (am (pu.getD i puD).2.1).isNone).length ≤ 12 := Nat.le_trans (List.length_filter_le _ _) (by rw [List.length_range]; omega)
            generalize (List.range pu.length).filter (fun i => (am (pu.getD i puD).2.1).isNone) = I at hL hIm hIl
            refine irr ⟨x, L, pu, ms, I, rfl, ep ▸ nr.ext s45, by omega, fun u hu => (hp.o u hu).ext s45, hL, hIl, fun i hi => by rw [pul]; exact ((hIm i).mp hi).1, fun l lu zs2 H6 s6 el elu sp2 z242 els => ?_⟩
            rw [ep] at sp2 els
            refine ⟨l, rf lu, rfl, SqL.of el, fun lr nlr => ?_⟩
            have F6 := (F5.same s6).same (H2 := upd H6 lr (.lst (rf lu).reverse)) fun b o e => (upd_ne (ne_of_none e nlr)).trans e
            have elr : upd H6 lr (.lst (rf lu).reverse) lr = some (.lst (rf lu).reverse) := upd_same
            have elu2 : ∀ u ∈ lu, upd H6 lr (.lst (rf lu).reverse) u.1 = some (oLk pu u.2) := fun u hu => (upd_ne (ne_of_none (elu u hu) nlr)).trans (elu u hu)
            revert F6 elr elu2
            generalize upd H6 lr (.lst (rf lu).reverse) = H7
            intro F6 elr elu2
            clear nlr F5 F4 s45 hL nL s6 el elu
            have RO : RootOk (pS ps) (pE ps) ps.length (freeA ps am) zs2 (sn lu) := by
              rw [els]
              refine rooted_ok (fun k hk => (hIm k).mp hk) (fun k hk fk => (hIm k).mpr ⟨hk, fk⟩) fun k hk => ?_
              obtain ⟨n1, n2, n3⟩ := pN_at (ps := ps) (List.getElem?_eq_getElem hk)
              have := plsM (List.getElem_mem hk)
              rw [n2, n3]
              exact ⟨(sp2.2.2 _).mpr this.1, (sp2.2.2 _).mpr this.2⟩
            have h0 : ∀ k < ps.length, freeA ps am k → x0A ps am k = 0 := fun k _ fk => by rw [x0A, fk]; rfl
            have lul : lu.length ≤ 3480 := by
              rw [← sn_len, els]
              have h1 := (rootedR_len (st := pS ps) (en := pE ps) I zs2 ([], [])).2
              have h2 : zs2.length * (1 + I.length * I.length) ≤ 24 * 145 := Nat.mul_le_mul z242 (by have := Nat.mul_le_mul hIl hIl; omega)
              dsimp only [rootedR] at h1 ⊢
              rw [List.length_nil] at h1
              omega
            have erev : (rf lu).reverse = rf lu.reverse := by rw [rf, rf, List.map_reverse]
            have esrev : sn lu.reverse = (sn lu).reverse := by rw [sn, sn, List.map_reverse]
            rw [erev] at elr
            obtain ⟨kf7, kl7, g1, _, _, g4, _⟩ := F6.ex
            have lrf : lr ≠ df := fun e => by rw [e, g1] at elr; cases elr
            have lrl : lr ≠ dl := fun e => by rw [e, g4] at elr; cases elr
            have up7 : ∀ {x' : Nat → Int} {y : Str → Int} {B : Nat} {H' : Hp}, (SB2 df dl H7 H' ∧ FitS H df dl ps zs x' y B H') → H' lr = some (.lst (rf lu.reverse)) ∧ ∀ u ∈ lu, H' u.1 = some (oLk pu u.2) := fun c => ⟨c.1 _ _ lrf lrl elr, fun u hu => by
              have t := elu2 u hu
              exact c.1 _ _ (fun e => by rw [e, g1] at t; cases t) (fun e => by rw [e, g4] at t; cases t) t⟩
            refine ⟨lr, rfl, ⟨_, SqL.of elr⟩, ?_⟩
            refine for_list (xs := rf lu.reverse) (fun i σ H' => ∃ (o4 o5 o6 o7 o8 : Option V), σ = [some (.ref x), some (.ref d), some (.ref df), some (.ref dl), o4, o5, o6, o7, o8] ∧ SB2 df dl H7 H' ∧ FitS H df dl ps zs (((sn lu).reverse.take i).foldl (putL (pS ps) (pE ps) ps.length) (x0A ps am)) (leftP (pS ps) (pE ps) (((sn lu).reverse.take i).foldl (putL (pS ps) (pE ps) ps.length) (x0A ps am)) ps.length) (24 + 2 * ps.length + 3 * i) H') ⟨_, _, _, _, _, rfl, fun _ _ _ _ e => e, F6⟩ (fun i σ H' _ z => by obtain ⟨_, _, _, _, _, _, c⟩ := z; exact SqL.of (up7 c).1) ?_ ?_
            · clear F6
              rintro i v σ H8 hv ⟨o4, o5, o6, o7, o8, rfl, sb8, F8⟩
              obtain ⟨u, hu2, rfl⟩ := rf_get hv
              have hul := sn_get hu2
              rw [esrev] at hul
              have ilt := (List.getElem?_eq_some_iff.mp hu2).1
              rw [List.length_reverse] at ilt
              obtain ⟨x00, lok⟩ := RO.ok.next h0 hul
              have elk := (up7 ⟨sb8, F8⟩).2 u (List.mem_reverse.mp (List.mem_of_getElem? hu2))
              rw [List.take_add_one, hul, Option.toList_some, List.foldl_append, List.foldl_cons, List.foldl_nil]
              generalize ((sn lu).reverse.take i).foldl (putL (pS ps) (pE ps) ps.length) (x0A ps am) = xr at F8 x00 ⊢
              obtain ⟨T0, k, near, far⟩ := u
              dsimp only at x00 lok elk ⊢
              have hk : k < ps.length := lok.lt
              obtain ⟨ea, es, ee, en'⟩ := pu_at (pu := pu) (i := k) (by rw [pul]; exact hk)
              rw [ep] at es ee en'
              have hpm : pu[k]'(by omega) ∈ pu := List.getElem_mem _
              have s8 := F8.old2 nfH nlH
              obtain ⟨dp, edp⟩ := (hp.o _ hpm).ext s8
              have pa : PipeAt CP H8 (pu[k]'(by omega)).1 (pu[k]'(by omega)).2 := ⟨dp, edp⟩
              obtain ⟨kf8, kl8, f1, f2, f3, f4, f5, f6⟩ := F8.ex
              have hpm2 : ∀ q : PU, q ∈ pu → q.2 ∈ ps := fun q h => by rw [← ep]; exact List.mem_map_of_mem h
              have mz := plsM (hpm2 _ hpm)
              have z1 : (pu[k]'(by omega)).2.2.1 ∈ zs := (sp.2.2 _).mpr mz.1
              have z2 : (pu[k]'(by omega)).2.2.2 ∈ zs := (sp.2.2 _).mpr mz.2
              have z3 : far ∈ zs := by
                rcases lok.ends with ⟨_, b⟩ | ⟨b, _⟩
                · rw [← show pE ps k = far from b, ee]; exact z2
                · rw [← show pS ps k = far from b, es]; exact z1
              rw [oLk, ea] at elk
              dsimp only at elk
              have lp := fun v => left_put (st := pS ps) (en := pE ps) (x := xr) (l := (k, near, far)) lok.lt x00 v
              generalize hpk : pu[k]'(by omega) = pk at *
              have lS : ∀ {kl : List (Key × V)}, kl.length ≤ 24 + 2 * ps.length + 3 * i + 2 → kl.length < sizeLine := fun q => Nat.lt_of_le_of_lt q (Nat.lt_of_lt_of_le (show 24 + 2 * ps.length + 3 * i + 2 < 20000 by omega) (by decide))
              refine ⟨T0, _, rfl, SqT.of elk, rfl, _, _, rfl, _, _, rfl, _, _, rfl, rfl, ?_⟩
              have ct : takeL (pS ps) (pE ps) ps.length xr (k, near, far) = if pk.2.2.1 = far then leftP (pS ps) (pE ps) xr ps.length far else -leftP (pS ps) (pE ps) xr ps.length far := by
                rw [takeL, es]
              refine seq_of (fun σ' H' => σ' = [some (.ref x), some (.ref d), some (.ref df), some (.ref dl), some (.ref pk.1), some (.str near), some (.str far), some (.int (takeL (pS ps) (pE ps) ps.length xr (k, near, far))), o8] ∧ H' = H8) (fun σ' H' z => ?_) (fun N hN => ?_)
              · obtain ⟨rfl, rfl⟩ := z
                generalize hct : takeL (pS ps) (pE ps) ps.length xr (k, near, far) = c at lp ⊢
                refine ⟨_, rfl, _, rfl, _, rfl, pk.1, dp, _, rfl, edp, irr ⟨_, _, rfl, pa, df, _, rfl, DPut.k (k := Sum.inr pk.2.1) f1 (lS (by omega)), ?_⟩⟩
                have F9 := F8.amount (c := c) po.nd hk f1 f2 f3
                rw [en'] at F9
                have sb9 : SB2 df dl H7 (upd H' df (.dK (putK kf8 (.inr pk.2.1) (.int c)))) := fun b o q1 q2 e => (upd_ne q1).trans (sb8 b o q1 q2 e)
                have f49 := (upd_ne (o := .dK (putK kf8 (.inr pk.2.1) (.int c))) nfl).trans f4
                have edp9 := (F9.old2 nfH nlH)
                have pa9 := (hp.o _ hpm).ext edp9
                revert F9 sb9 f49 pa9
                generalize upd H' df (.dK (putK kf8 (.inr pk.2.1) (.int c))) = H9
                intro F9 sb9 f49 pa9
                clear edp9
                obtain ⟨dp9, edp9⟩ := id pa9
                have ud : pk.1 ≠ dl := fun e => by rw [e, f49] at edp9; cases edp9
                have l7 := length_putK kl8 (.inr pk.2.2.2 : Key) (.int (leftP (pS ps) (pE ps) xr ps.length pk.2.2.2 + c))
                refine ⟨_, rfl, _, rfl, pk.1, dp9, _, rfl, edp9, irr ⟨_, _, rfl, pa9, dl, _, rfl, by rw [← f5 _ z2]; exact DGet.k (k := Sum.inr pk.2.2.2) f49, _, rfl, _, _, rfl, rfl, _, DPut.k (k := Sum.inr pk.2.2.2) f49 (lS (by omega)), ?_⟩⟩
                have edp10 : upd H9 dl (.dK (putK kl8 (.inr pk.2.2.2) (.int (leftP (pS ps) (pE ps) xr ps.length pk.2.2.2 + c)))) pk.1 = _ := (upd_ne ud).trans edp9
                have pa10 : PipeAt CP (upd H9 dl (.dK (putK kl8 (.inr pk.2.2.2) (.int (leftP (pS ps) (pE ps) xr ps.length pk.2.2.2 + c))))) pk.1 pk.2 := ⟨dp9, edp10⟩
                refine ⟨_, rfl, _, rfl, pk.1, dp9, _, rfl, edp10, irr ⟨_, _, rfl, pa10, dl, _, rfl, by rw [← f5.second z1]; exact DGet.k (k := Sum.inr pk.2.2.1) upd_same, _, rfl, _, _, rfl, rfl, _, DPut.k (k := Sum.inr pk.2.2.1) upd_same (lS (by omega)), _, _, _, _, _, rfl, fun b o q1 q2 e => ?_, ?_⟩⟩
                · rw [upd_ne q2, upd_ne q2]
                  exact sb9 b o q1 q2 e
                · refine (F9.ends f49 f5 (by omega) rfl rfl).is (fun j _ => ?_) (fun z _ => ?_) (by omega)
                  · show _ = if j = k then takeL (pS ps) (pE ps) ps.length xr (k, near, far) else xr j
                    rw [hct]
                  · rw [lp z]
                    dsimp only
                    rw [es, ee]
              · dsimp only [gName]
                refine ⟨_, rfl, pk.1, dp, _, rfl, edp, irr ⟨_, _, rfl, pa, _, rfl, rfl, _, rfl, ?_⟩⟩
                by_cases q : pk.2.2.1 = far
                · rw [decide_eq_true (show V.str pk.2.2.1 = V.str far by rw [q])]
                  refine iteT ⟨_, rfl, _, rfl, dl, _, rfl, by rw [← f5 _ z3]; exact DGet.k (k := Sum.inr far) f4, hN _ _ ⟨?_, rfl⟩⟩
                  rw [ct, if_pos q]
                  rfl
                · rw [decide_eq_false (show ¬ V.str pk.2.2.1 = V.str far from fun e => q (V.str.inj e))]
                  refine iteF ⟨_, rfl, _, rfl, dl, _, rfl, by rw [← f5 _ z3]; exact DGet.k (k := Sum.inr far) f4, _, rfl, hN _ _ ⟨?_, rfl⟩⟩
                  rw [ct, if_neg q]
                  rfl
            · rintro σ H8 ⟨o4, o5, o6, o7, o8, rfl, sb8, F8⟩
              rw [rf_len, List.length_reverse, show (sn lu).reverse.take lu.length = (sn lu).reverse from List.take_of_length_le (by rw [List.length_reverse, sn_len]; exact Nat.le_refl _)] at F8
              have F8 : FitS H df dl ps zs (runL (pS ps) (pE ps) ps.length (x0A ps am) (sn lu)) (leftP (pS ps) (pE ps) (runL (pS ps) (pE ps) ps.length (x0A ps am) (sn lu)) ps.length) (24 + 2 * ps.length + 3 * lu.length) H8 := F8
              obtain ⟨q1, q2, q3⟩ := fit_ok RO h0
              generalize runL (pS ps) (pE ps) ps.length (x0A ps am) (sn lu) = xr at F8 q1 q2 q3
              clear up7 g1 g4 sb8
              have s8 := F8.old2 nfH nlH
              have ex8 := s8 _ _ ex
              have mem2 : ∀ z, z ∈ zs ↔ z ∈ zs2 := fun z => (sp.2.2 z).trans (sp2.2.2 z).symm
              refine ⟨_, rfl, x, dx, _, rfl, ex8, irr ⟨x, ps, ms, rfl, nr.ext s8, p12, fun t3 zs3 H9 s9 et3 sp3 z243 => ⟨t3, rfl, ⟨_, SqT.of et3⟩, fun D nD => ?_⟩⟩⟩
              have mem3 : ∀ z, z ∈ zs3 ↔ z ∈ zs := fun z => (sp3.2.2 z).trans (sp.2.2 z).symm
              have F9 := F8.same s9
              refine lc_to (xs := zs3.map V.str) ((zs3.map fun z => !decide (V.int (leftP (pS ps) (pE ps) xr ps.length z) = V.int 0)).map V.bl) (by rw [List.length_map, List.length_map, List.length_map]) walk_tup nD (by rw [List.length_map]; omega) (fun H' s' => (SqT.of et3).ext s') (fun _ => rfl) (fun j v y hv hy H10 s10 R kR => ?_) fun H10 s10 hD => ?_
              · rw [List.getElem?_map] at hv hy
                rw [List.getElem?_map] at hy
                cases q : zs3[j]? with
                | none => rw [q] at hv; cases hv
                | some z =>
                  rw [q] at hv hy
                  obtain rfl := Option.some.inj hv
                  obtain rfl := Option.some.inj hy
                  have hz : z ∈ zs := (mem3 z).mp (List.mem_of_getElem? q)
                  obtain ⟨kf, kl, f1, f2, f3, f4, f5, f6⟩ := (F9.same s10).ex
                  refine ⟨_, rfl, _, rfl, dl, _, rfl, by rw [← f5 _ hz]; exact DGet.k (k := Sum.inr z) f4, rfl, ?_⟩
                  exact kR H10 (Same.refl _)
              · have F10 := F9.same s10
                have s110 := F10.old2 nfH nlH
                refine ⟨D, _, rfl, SqL.of hD, _, rfl, ?_⟩
                cases hb : (zs3.map fun z => !decide (V.int (leftP (pS ps) (pE ps) xr ps.length z) = V.int 0)).any id with
                | true =>
                  refine iteT (kN (q3 ?_) H10 s110)
                  rw [List.any_map, List.any_eq_true] at hb
                  obtain ⟨z, hz, e⟩ := hb
                  refine ⟨z, (mem2 z).mp ((mem3 z).mp hz), fun e2 => ?_⟩
                  simp [e2] at e
                | false =>
                  refine iteF ?_
                  have hcut := q2 fun z hz => by
                    rw [List.any_map, List.any_eq_false] at hb
                    have := hb z ((mem3 z).mpr ((mem2 z).mpr hz))
                    simpa using this
                  have ex10 := s110 _ _ ex
                  refine ⟨_, rfl, x, dx, _, rfl, ex10, irr ⟨x, dx, tp, tm, rfl, ex10, tp, rfl, ⟨_, hp.t.ext s110⟩, fun D2 nD2 => ?_⟩⟩
                  refine lc_to (xs := rf pu) (((List.range ps.length).map xr).map V.int) (by rw [List.length_map, List.length_map, List.length_range, rf_len, pul]) walk_tup nD2 (by rw [rf_len]; omega) (fun H' s' => hp.t.ext (s110.trans s')) (fun _ => rfl) (fun j v y hv hy H11 s11 R kR => ?_) fun H11 s11 hD2 => ?_
                  · obtain ⟨u, hu2, rfl⟩ := rf_get hv
                    have hj : j < ps.length := by rw [← pul]; exact (List.getElem?_eq_some_iff.mp hu2).1
                    obtain ⟨n1, n2, n3⟩ := pAt j u hu2
                    rw [List.getElem?_map, List.getElem?_map, List.getElem?_range hj] at hy
                    obtain rfl : V.int (xr j) = y := Option.some.inj hy
                    obtain ⟨dp, edp⟩ := (hp.o u (List.mem_of_getElem? hu2)).ext (s110.trans s11)
                    obtain ⟨kf, kl, f1, f2, f3, f4, f5, f6⟩ := (F10.same s11).ex
                    refine ⟨_, rfl, _, rfl, u.1, dp, _, rfl, edp, irr ⟨u.1, u.2, rfl, ⟨dp, edp⟩, df, _, rfl, by rw [← f2 j hj, n1]; exact DGet.k (k := Sum.inr u.2.1) f1, ?_⟩⟩
                    exact kR H11 (Same.refl _)
                  · refine ⟨D2, _, rfl, .inl ⟨SqL.of hD2, fun t4 nt4 => ?_⟩⟩
                    have entx : ∀ k < ps.length, ent ((List.range ps.length).map xr) k = xr k := fun k hk => by
                      rw [ent, List.getD_eq_getElem?_getD, List.getElem?_map, List.getElem?_range hk]
                      rfl
                    refine kT t4 ((List.range ps.length).map xr) _ (fun b o e => (upd_ne (ne_of_none ((s110.trans s11) _ _ e) nt4)).trans ((s110.trans s11) _ _ e)) upd_same (by rw [List.length_map, List.length_range]) (hcut.congr fun k hk => (entx k hk).symm) fun k hk v hv => ?_
                    rw [entx k hk, q1 k hk (fun fk => by rw [freeA, hv] at fk; cases fk), x0A, hv]
                    rfl
end
end RV
/-! what meters show; readings that a flow fits -/
namespace RV
open PySem L2 TL
section
variable {P : Program} {w : World} {K : PySem.W.Frag} {mg : Str → Option Value} {base : Heap} {CN CP CM : Addr}
theorem ok_shown {f : Addr} {fd : FuncData} (F : Fun K "shown_amounts" "shown_amounts" s_shown_amounts f fd) (hz : mg "zip" = none) (h_nm : Prp P w K mg base CN "meters" 1 (Irr (sp_nme CN))) (h_mn : Prp P w K mg base CM "name" 1 (Irr (sp_mn CM))) (h_ma : Prp P w K mg base CM "at" 1 (Irr (sp_ma CM))) : FnOk P w K mg base CX0 3 f fd ["net", "readings", "wrong"] (sp_shown K CN CP CM) := by
  refine F.ok sc_shown_amounts (fun vs H Q E h => ?_) (fun cdv A outer s H vs Q E hr h => ?_)
  · obtain ⟨_, _, _, _, _, _, _, rfl, _⟩ := h
    rfl
  · obtain ⟨x, t, tw, ps, ms, rs, out, rfl, nr, ml, ht, rl, hw, kN, kD⟩ := h
    have hu : (A.deeper (PyProof.Rows.envOfC "shown_amounts" (defScope s_shown_amounts) s.heap.objs.size f cdv)).units + 1 < cLine := by have := hr.units; omega
    refine ⟨_, (pss_cons (ps_set (i := 3) sc_shown_amounts.nd rfl (Or.inl rfl) pe_dnewK)
      (pss_cons (ps_for PassesOwn.never rfl (RZ.pi_zipA (by rfl) hz (pa_cons (pe_propN h_nm (hr.mono (by decide)) (pv 0)) (pa_cons (pv 1) pa_nil))) (pg_tup (by rfl) (pgs_cons (pg_name (i := 4) sc_shown_amounts.nd rfl (Or.inl rfl)) (pgs_cons (pg_name (i := 5) sc_shown_amounts.nd rfl (Or.inl rfl)) pgs_nil))) (pss_one (ps_if (PW.pt (pw_and (pt_cmpR op_notN (pv 5) pe_non (nomark _)) (pw_and1 (pt_cmpR op_notIn_seq (pe_propN h_mn (hr.mono (by decide)) (pv 4)) (pv 2) (by rfl))))) (pss_cons (ps_if (pt_cmpR op_ne (pe_dget2 hu (pv 3) (pe_propN h_ma (hr.mono (by decide)) (pv 4)) (pv 5) ⟨rfl, rfl, rfl, rfl⟩) (pv 5) (nomark _)) (pss_one (ps_ret pe_non)) pss_nil) (pss_one (ps_dput hu (pv 3) (pe_propN h_ma (hr.mono (by decide)) (pv 4)) (pv 5) (by rfl)))) pss_nil)))
      (pss_one (ps_ret (pv 3))))), ?_⟩
    obtain ⟨dx, tp, tm, pu, mu, ex, hp, hm, ep, em⟩ := id nr.ex
    have mul : mu.length = ms.length := by rw [← em, sn_len]
    intro d nd
    have s0 : Same H (upd H d (.dK [])) := fun b o e => (upd_ne (ne_of_none e nd)).trans e
    have ed : upd H d (.dK []) d = some (.dK []) := upd_same
    revert s0 ed
    generalize upd H d (.dK []) = H1
    intro s0 ed
    have ex1 := s0 _ _ ex
    dsimp only [gName]
    refine ⟨_, rfl, x, dx, _, rfl, ex1, irr ⟨x, dx, tp, tm, rfl, ex1, _, rfl, tm, t, rf mu, vR rs, rfl, .inr ⟨hm.t.ext s0, ht.ext s0, ?_⟩⟩⟩
    refine RZ.for_zipT (xs := rf mu) (ys := vR rs) (by rw [rf_len, vR, List.length_map, mul, rl]) (fun i σ H' => ∃ (o4 o5 : Option V) (kva : List (Key × V)) (am : Str → Option Int), σ = [some (.ref x), some (.ref t), some (.ref tw), some (.ref d), o4, o5] ∧ Same H H' ∧ H' d = some (.dK kva) ∧ VA kva am ∧ AmOk ms rs out i am ∧ kva.length ≤ i) ⟨_, _, [], fun _ => none, rfl, s0, ed, fun y => rfl, .start, Nat.le_refl _⟩ (fun i σ H' z => by obtain ⟨_, _, _, _, _, s', _⟩ := z; exact ⟨hm.t.ext s', ht.ext s'⟩) ?_ ?_
    · rintro i v y T0 σ H2 hv hy ⟨o4, o5, kva, am, rfl, s2, ed2, va, ao, kl⟩ nT
      obtain ⟨u, hu2, rfl⟩ := rf_get hv
      obtain rfl := vR_at hy
      have hi : i < ms.length := by rw [← mul]; exact (List.getElem?_eq_some_iff.mp hu2).1
      obtain ⟨m1, m2, m3⟩ := m_at (ms := ms) (em ▸ sn_get hu2)
      have sT : Same H2 (upd H2 T0 (.tup [.ref u.1, vO (rO rs i)])) := fun b o e => (upd_ne (ne_of_none e nT)).trans e
      have s3 := s2.trans sT
      have ed3 := sT _ _ ed2
      refine ⟨T0, _, rfl, SqT.of upd_same, rfl, _, _, rfl, _, _, rfl, rfl, ?_⟩
      revert s3 ed3
      generalize upd H2 T0 (.tup [.ref u.1, vO (rO rs i)]) = H3
      intro s3 ed3
      have ma := (hm.o u (List.mem_of_getElem? hu2)).ext s3
      obtain ⟨dm, edm⟩ := id ma
      refine ⟨_, rfl, rfl, _, rfl, ?_⟩
      rw [vO_non]
      cases hro : rO rs i with
      | none => exact iteF ⟨_, _, kva, am, rfl, s3, ed3, va, ao.skip fun v q => (by rw [q.1] at hro; cases hro), by omega⟩
      | some c =>
        refine iteT ?_
        refine ⟨_, rfl, u.1, dm, _, rfl, edm, irr ⟨u.1, u.2, rfl, ma, _, rfl, tw, out.map V.str, rfl, .inr (hw.ext s3), rfl, flat_str _, _, rfl, ?_⟩⟩
        rw [inV_str]
        by_cases hin : u.2.1 ∈ out
        · rw [decide_eq_true hin]
          exact iteF ⟨_, _, kva, am, rfl, s3, ed3, va, ao.skip fun v q => q.2 (m1 ▸ hin), by omega⟩
        · rw [decide_eq_false hin]
          have sh : ShowsN ms rs out i c := ⟨hro, fun m => hin (m1 ▸ m)⟩
          refine iteT ?_
          have isd : IsD H3 d := .inl ⟨_, .inl ed3⟩
          refine ⟨_, rfl, d, rfl, isd, _, rfl, u.1, dm, _, rfl, edm, irr ⟨u.1, u.2, rfl, ma, _, rfl, _, DGet.k (k := Sum.inr u.2.2.1) ed3, ?_⟩⟩
          rw [va u.2.2.1]
          have go : ∀ q : ∀ v, am (mA ms i) = some v → v = c, ∃ (o4 o5 : Option V) (kva2 : List (Key × V)) (am2 : Str → Option Int), [some (V.ref x), some (V.ref t), some (V.ref tw), some (V.ref d), some (V.ref u.1), some (V.int c)] = [some (.ref x), some (.ref t), some (.ref tw), some (.ref d), o4, o5] ∧ Same H (upd H3 d (.dK (putK kva (.inr u.2.2.1) (.int c)))) ∧ upd H3 d (.dK (putK kva (.inr u.2.2.1) (.int c))) d = some (.dK kva2) ∧ VA kva2 am2 ∧ AmOk ms rs out (i + 1) am2 ∧ kva2.length ≤ i + 1 := fun q => by
            have l1 := length_putK kva (.inr u.2.2.1 : Key) (.int c)
            have ad := ao.add sh q
            rw [m2] at ad
            exact ⟨_, _, _, _, rfl, fun b o e => (upd_ne (ne_of_none e nd)).trans (s3 b o e), upd_same, va.put u.2.2.1 c, ad, by omega⟩
          have lk : kva.length < sizeLine := Nat.lt_of_le_of_lt kl (Nat.lt_of_lt_of_le (show i < 12 by omega) (by decide))
          cases ham : am u.2.2.1 with
          | none =>
            refine ⟨_, rfl, rfl, _, rfl, ?_⟩
            rw [show (!decide ((Option.map V.int (none : Option Int)).getD (vO (some c)) = vO (some c))) = false by simp]
            refine iteF ⟨_, rfl, _, rfl, _, rfl, u.1, dm, _, rfl, edm, irr ⟨u.1, u.2, rfl, ma, d, _, rfl, DPut.k (k := Sum.inr u.2.2.1) ed3 lk, ?_⟩⟩
            exact go fun v q => by rw [m2, ham] at q; cases q
          | some w' =>
            refine ⟨_, rfl, rfl, _, rfl, ?_⟩
            by_cases hc : w' = c
            · rw [show (!decide ((Option.map V.int (some w')).getD (vO (some c)) = vO (some c))) = false by simp [vO, hc]]
              refine iteF ⟨_, rfl, _, rfl, _, rfl, u.1, dm, _, rfl, edm, irr ⟨u.1, u.2, rfl, ma, d, _, rfl, DPut.k (k := Sum.inr u.2.2.1) ed3 lk, ?_⟩⟩
              exact go fun v q => by rw [m2, ham] at q; rw [← Option.some.inj q]; exact hc
            · rw [show (!decide ((Option.map V.int (some w')).getD (vO (some c)) = vO (some c))) = true by simp [vO, hc]]
              refine iteT (kN ?_ H3 s3)
              obtain ⟨j, hj, sj, ej⟩ := ao.frm _ _ ham
              exact ⟨j, i, w', c, by omega, hi, sj, sh, by rw [ej, m2], hc⟩
    · rintro σ H2 ⟨o4, o5, kva, am, rfl, s2, ed2, va, ao, kl⟩
      rw [rf_len, mul] at ao
      exact ⟨_, rfl, kD d kva am H2 s2 ed2 va ao⟩
theorem chainFr {f t0 : Addr} {K : PySem.W.Frag} {fd : FuncData} (F : FunD K "fitting_readings" "fitting_readings" (defArgs s_fitting_readings) (defBody s_fitting_readings) (defScope s_fitting_readings) [.ref t0] [] f fd) : Binds K fd ["net", "readings", "wrong"] [] := by
  obtain ⟨ds, v, b⟩ := FunD.binds1 (ps := ["net", "readings", "wrong"]) F 3 1 (by simp) rfl fun T kV doc pm an cdv ct us its h1 h2 => by
    match us, h1, its, h2 with
    | [x, y, z], _, [d], _ => exact ⟨_, rfl, rfl⟩
  cases v
  exact b
theorem ok_fitr {f : Addr} {fd : FuncData} {pds : List V} {kws : List (Str × V)} (F : FunD K "fitting_readings" "fitting_readings" (defArgs s_fitting_readings) (defBody s_fitting_readings) (defScope s_fitting_readings) pds kws f fd) (h_shown : Fn P w K mg base "shown_amounts" 3 ["net", "readings", "wrong"] (Irr (sp_shown K CN CP CM))) (h_fit : Fn P w K mg base "fitting_flow" 7 ["net", "amounts"] (Irr (sp_fit K CN CP CM))) : FnOk P w K mg base CX0 8 f fd ["net", "readings", "wrong"] (sp_fitr K CN CP CM) := by
  refine F.ok sc_fitting_readings (fun vs H Q E h => ?_) (fun cdv A outer s H vs Q E hr h => ?_)
  · obtain ⟨_, _, _, _, _, _, _, rfl, _⟩ := h
    rfl
  · obtain ⟨x, t, tw, ps, ms, rs, out, rfl, nr, po, mo, ht, rl, hw, k⟩ := h
    refine ⟨_, (pss_cons (ps_set (i := 3) sc_fitting_readings.nd rfl (Or.inl rfl) (pe_fn h_shown (hr.mono (by decide)) (pa_cons (pv 0) (pa_cons (pv 1) (pa_cons (pv 2) pa_nil)))))
      (pss_one (ps_ret (pe_ifExp (pt_cmpR op_isN (pv 3) pe_non (nomark _)) pe_non (pe_fn h_fit (hr.mono (by decide)) (pa_cons (pv 0) (pa_cons (pv 3) pa_nil))))))), ?_⟩
    refine ⟨_, rfl, _, rfl, _, rfl, irr ⟨x, t, tw, ps, ms, rs, out, rfl, nr, mo.ln, ht, rl, hw, fun c H1 s1 => ?_, fun d kva am H1 s1 ed va ao => ?_⟩⟩
    · dsimp only [gName]
      exact ⟨_, rfl, rfl, _, rfl, iteT ((k H1 s1).1 (c.no mo))⟩
    · dsimp only [gName]
      refine ⟨_, rfl, rfl, _, rfl, iteF ⟨_, rfl, _, rfl, irr ⟨x, d, ps, ms, kva, am, rfl, nr.ext s1, po, ed, va, fun c H2 s2 => ?_, fun t4 fs H2 s2 _ _ cut a => ?_⟩⟩⟩
      · exact (k H2 (s1.trans s2)).1 (ao.no c)
      · exact (k H2 (s1.trans s2)).2 t4 (ao.yes cut a)
end
end RV
/-! doubtful meters; sets of names -/
namespace RV
open PySem L2 TL
section
variable {P : Program} {w : World} {K : PySem.W.Frag} {mg : Str → Option Value} {base : Heap} {CN CP CM : Addr}
theorem ok_uns {f : Addr} {fd : FuncData} (F : Fun K "unsealed" "unsealed" s_unsealed f fd) (T2 : Blt2 mg) (h_nm : Prp P w K mg base CN "meters" 1 (Irr (sp_nme CN))) (h_mn : Prp P w K mg base CM "name" 1 (Irr (sp_mn CM))) (h_mz : Prp P w K mg base CM "sealed" 1 (Irr (sp_mz CM))) : FnOk P w K mg base CX0 3 f fd ["net"] (sp_uns K CN CP CM) := by
  refine F.ok sc_unsealed (fun vs H Q E h => ?_) (fun cdv A outer s H vs Q E hr h => ?_)
  · obtain ⟨_, _, _, rfl, _⟩ := h
    rfl
  · obtain ⟨x, ps, ms, rfl, nr, mo, k⟩ := h
    refine ⟨_, (pss_one (ps_ret (pe_callTy call_tuple_of (by rfl) T2.b_tuple (by decide +kernel) (pa_cons (pe_callB cr_sortedS (by rfl) T2.b_sorted (by decide +kernel) (pa_cons (pe_lc (own := [("part", 1)]) (g := gName 1) rfl sc_unsealed.nd (pi_tup (pe_propN h_nm (hr.mono (by decide)) (pv 0))) (blkOk_by (N := sc_unsealed_N) (sc := defScope s_unsealed) (by decide +kernel)) (fun _ _ _ _ _ => pg_name (i := 1) sc_unsealed.nd rfl (Or.inl rfl)) (fun _ _ _ _ _ => pts_one (pt_not (pt_val (pe_propN h_mz (hr.mono (by decide)) (pv 1))))) (fun _ _ _ _ _ => (pe_propN h_mn (hr.mono (by decide)) (pv 1)))) pa_nil)) pa_nil)))), ?_⟩
    obtain ⟨dx, tp, tm, pu, mu, ex, hp, hm, ep, em⟩ := id nr.ex
    have mul : mu.length = ms.length := by rw [← em, sn_len]
    have ml := mo.ln
    refine ⟨_, rfl, x, dx, _, rfl, ex, irr ⟨x, dx, tp, tm, rfl, ex, tm, rfl, ⟨_, hm.t⟩, fun D nD => ?_⟩⟩
    refine lc_keepF (us := mu) (fun u => !u.2.2.2) (fun u => V.str u.2.1) walk_tup nD (by omega) (fun H' s' => hm.t.ext s') (fun _ => rfl) (fun u hu2 H2 s2 R kR => ?_) (fun u hu2 H2 s2 R kR => ?_) fun H2 s2 hD => ?_
    · obtain ⟨dm, edm⟩ := (hm.o u hu2).ext s2
      exact ⟨_, rfl, u.1, dm, _, rfl, edm, irr ⟨u.1, u.2, rfl, ⟨dm, edm⟩, _, rfl, kR H2 (Same.refl _)⟩⟩
    · obtain ⟨dm, edm⟩ := (hm.o u hu2).ext s2
      exact ⟨_, rfl, u.1, dm, _, rfl, edm, irr ⟨u.1, u.2, rfl, ⟨dm, edm⟩, kR⟩⟩
    · rw [uns_mu, em] at hD
      have ul := unsN_len ms
      refine ⟨D, unsN ms, rfl, SqL.of hD, by omega, fun ys p pm so np => ⟨p, _, rfl, .inl ⟨SqL.of upd_same, fun t nt => ?_⟩⟩⟩
      have sp : Same H2 (upd H2 p (.lst (ys.map V.str))) := fun b o e => (upd_ne (ne_of_none e np)).trans e
      have st : Same (upd H2 p (.lst (ys.map V.str))) (upd (upd H2 p (.lst (ys.map V.str))) t (.tup (ys.map V.str))) := fun b o e => (upd_ne (ne_of_none e nt)).trans e
      exact k t ys _ (s2.trans (sp.trans st)) upd_same (OrdN.of (mN_nodup mo.nd _) ⟨so, pm⟩)
theorem ok_dbt {f : Addr} {fd : FuncData} (F : Fun K "_doubtful" "_doubtful" s_doubtful f fd) (T2 : Blt2 mg) (h_uns : Fn P w K mg base "unsealed" 3 ["net"] (Irr (sp_uns K CN CP CM))) (h_sln : Fn P w K mg base "silent_names" 3 ["net", "readings"] (Irr (sp_sln K CN CP CM))) : FnOk P w K mg base CX0 4 f fd ["net", "readings"] (sp_dbt K CN CP CM) := by
  refine F.ok sc_doubtful (fun vs H Q E h => ?_) (fun cdv A outer s H vs Q E hr h => ?_)
  · obtain ⟨_, _, _, _, _, rfl, _⟩ := h
    rfl
  · obtain ⟨x, t, ps, ms, rs, rfl, nr, mo, ht, rl, k⟩ := h
    refine ⟨_, (pss_cons (ps_set (i := 2) sc_doubtful.nd rfl (Or.inr rfl) (pe_fn h_sln (hr.mono (by decide)) (pa_cons (pv 0) (pa_cons (pv 1) pa_nil))))
      (pss_one (ps_ret (pe_callTy call_tuple_of (by rfl) T2.b_tuple (by decide +kernel) (pa_cons (pe_lc (own := [("name", 3)]) (g := gName 3) rfl sc_doubtful.nd (pi_tup (pe_fn h_uns (hr.mono (by decide)) (pa_cons (pv 0) pa_nil))) (blkOk_by (N := sc_doubtful_N) (sc := defScope s_doubtful) (by decide +kernel)) (fun _ _ _ _ _ => pg_name (i := 3) sc_doubtful.nd rfl (Or.inl rfl)) (fun _ _ _ _ _ => pts_one (pt_cmpR (op_notInK (K := K)) (pv 3) (pv 2) (by rfl))) (fun _ _ _ _ _ => (pv 3))) pa_nil))))), ?_⟩
    have ml := mo.ln
    refine ⟨_, rfl, _, rfl, irr ⟨x, t, ps, ms, rs, rfl, nr, ml, ht, rl, fun l H1 s1 nl el => ?_⟩⟩
    dsimp only [gName]
    refine ⟨_, rfl, irr ⟨x, ps, ms, rfl, nr.ext s1, mo, fun tu us H2 s2 etu ou => ⟨tu, rfl, ⟨_, SqT.of etu⟩, fun D nD => ?_⟩⟩⟩
    have ul := ou.len
    have uln := unsN_len ms
    refine lc_keepV (xs := us.map V.str) (fun v => !inV v ((slN ms rs).map V.str)) walk_tup nD (by rw [List.length_map]; omega) (fun H' s' => (SqT.of etu).ext s') (fun _ => rfl) (fun v hv H3 s3 R kR => ?_) (fun v hv H3 R kR => ?_) fun H3 s3 hD => ?_
    · obtain ⟨y, _, rfl⟩ := List.mem_map.mp hv
      exact ⟨_, rfl, _, rfl, l, _, rfl, .inl (SqL.of ((s2.trans s3) _ _ el)), rfl, flat_str _, _, rfl, kR⟩
    · exact ⟨_, rfl, kR⟩
    · rw [List.filter_map, show ((fun v => !inV v ((slN ms rs).map V.str)) ∘ V.str) = fun y => !decide (y ∈ slN ms rs) from funext fun y => by show (!inV (V.str y) _) = _; rw [inV_str]] at hD
      refine ⟨D, _, rfl, .inl ⟨SqL.of hD, fun t2 nt2 => ?_⟩⟩
      exact k t2 _ _ (fun b o e => (upd_ne (ne_of_none ((s1.trans (s2.trans s3)) _ _ e) nt2)).trans ((s1.trans (s2.trans s3)) _ _ e)) upd_same (susp_of mo.nd ou)
/-- the sets of no names -/
theorem ok_subs0 {f : Addr} {fd : FuncData} (F : Fun K "subsets" "subsets" s_subsets f fd) : FnOk P w K mg base CX0 1 f fd ["names", "many"] (sp_subs 0) := by
  refine F.ok sc_subsets (fun vs H Q E h => ?_) (fun cdv A outer s H vs Q E hr h => ?_)
  · obtain ⟨_, _, _, rfl, _⟩ := h
    rfl
  · obtain ⟨t, names, m, rfl, et, nl, hm, k⟩ := h
    refine ⟨_, (pss_cons (ps_if (pt_cmpR op_eq (pv 1) pe_int (nomark _)) (pss_one (ps_ret (pe_lst (pa_cons (pe_tup pa_nil) pa_nil)))) pss_nil) pss_never), ?_⟩
    obtain rfl : m = 0 := by omega
    refine ⟨_, rfl, rfl, _, rfl, iteT ⟨by decide, fun p np => ⟨(by show 1 ≤ sizeLine; decide), fun l nl2 => ?_⟩⟩⟩
    have n1 := (upd_ne (o := .tup []) (fun e : l = p => by rw [e, upd_same] at nl2; cases nl2)).symm.trans nl2
    refine k l [(p, [])] _ (fun b o e => ?_) n1 upd_same (fun u hu => ?_) ?_
    · rw [upd_ne (ne_of_none e n1), upd_ne (ne_of_none e np)]
      exact e
    · rw [List.mem_singleton.mp hu, upd_ne (fun e : p = l => by rw [← e, upd_same] at nl2; cases nl2), upd_same]
      rfl
    · cases names <;> rfl
/-- the sets of one name more -/
theorem ok_subsS {f : Addr} {fd : FuncData} {mo : Nat} (F : Fun K "subsets" "subsets" s_subsets f fd) (T2 : Blt2 mg) (h_subs : Fn P w K mg base "subsets" (mo + 1) ["names", "many"] (Irr (sp_subs mo))) : FnOk P w K mg base CX0 (mo + 2) f fd ["names", "many"] (sp_subs (mo + 1)) := by
  refine F.ok sc_subsets (fun vs H Q E h => ?_) (fun cdv A outer s H vs Q E hr h => ?_)
  · obtain ⟨_, _, _, rfl, _⟩ := h
    rfl
  · obtain ⟨t, names, m, rfl, et, nl, hm, k⟩ := h
    refine ⟨_, (pss_cons (ps_if (pt_cmpR op_eq (pv 1) pe_int (nomark _)) (pss_one (ps_ret (pe_lst (pa_cons (pe_tup pa_nil) pa_nil)))) pss_nil)
      (pss_cons (ps_set (i := 2) sc_subsets.nd rfl (Or.inl rfl) (pe_lst pa_nil))
      (pss_cons (ps_for PassesOwn.never rfl (pi_enumT (by rfl) T2.b_enumerate (pa_cons (pv 0) pa_nil)) (pg_tup (by rfl) (pgs_cons (pg_name (i := 3) sc_subsets.nd rfl (Or.inl rfl)) (pgs_cons (pg_name (i := 4) sc_subsets.nd rfl (Or.inr rfl)) pgs_nil))) (pss_one (ps_expr (pe_bm PySem.F.plainAttrs_list PySem.F.slot_list_extend PySem.F.type_list_extend mt_extend (pv 2) (pa_cons (pe_lc (own := [("rest", 5)]) (g := gName 5) (tt := tYes) rfl sc_subsets.nd (pi_list (pe_fn h_subs (hr.mono (by omega)) (pa_cons (pe_slice sl_tup (pv 0) (po_some (pe_op op_add (pv 3) pe_int)) po_none) (pa_cons (pe_op op_sub (pv 1) pe_int) pa_nil)))) (blkOk_by (N := sc_subsets_N) (sc := defScope s_subsets) (by decide +kernel)) (fun _ _ _ _ _ => pg_name (i := 5) sc_subsets.nd rfl (Or.inl rfl)) (fun _ _ _ _ _ => pts_nil) (fun _ _ _ _ _ => (pe_op (op_catTK (K := K)) (pe_tup (pa_cons (pv 4) pa_nil)) (pv 5)))) pa_nil)))))
      (pss_one (ps_ret (pv 2)))))), ?_⟩
    cases m with
    | zero =>
      refine ⟨_, rfl, rfl, _, rfl, iteT ⟨by decide, fun p np => ⟨(by show 1 ≤ sizeLine; decide), fun l nl2 => ?_⟩⟩⟩
      have n1 := (upd_ne (o := .tup []) (fun e : l = p => by rw [e, upd_same] at nl2; cases nl2)).symm.trans nl2
      refine k l [(p, [])] _ (fun b o e => ?_) n1 upd_same (fun u hu => ?_) ?_
      · rw [upd_ne (ne_of_none e n1), upd_ne (ne_of_none e np)]
        exact e
      · rw [List.mem_singleton.mp hu, upd_ne (fun e : p = l => by rw [← e, upd_same] at nl2; cases nl2), upd_same]
        rfl
      · cases names <;> rfl
    | succ m =>
      refine ⟨_, rfl, rfl, _, rfl, ?_⟩
      rw [decide_eq_false (show ¬ V.int ((m + 1 : Nat) : Int) = V.int 0 from fun e => by injection e with e; omega)]
      refine iteF ⟨by decide, fun l nl2 => ?_⟩
      have s0 : Same H (upd H l (.lst [])) := fun b o e => (upd_ne (ne_of_none e nl2)).trans e
      have el : upd H l (.lst []) l = some (.lst (rf ([] : List XU))) := upd_same
      revert s0 el
      generalize upd H l (.lst []) = H1
      intro s0 el
      dsimp only [gName]
      refine ⟨_, rfl, t, _, rfl, SqT.of (s0 _ _ et), ?_⟩
      refine for_enumT (xs := names.map V.str) (fun i σ H' => ∃ (os : List XU) (o3 o4 o5 : Option V), σ = [some (.ref t), some (.int ((m + 1 : Nat) : Int)), some (.ref l), o3, o4, o5] ∧ Same H H' ∧ H' l = some (.lst (rf os)) ∧ XusAt H' os ∧ sn os ++ subsF (names.drop i) (m + 1) = subsF names (m + 1)) ⟨[], none, none, none, rfl, s0, el, fun _ h => (nomatch h), rfl⟩ (fun i σ H' _ z => by obtain ⟨_, _, _, _, _, s', _⟩ := z; exact SqT.of (s' _ _ et)) ?_ ?_
      · rintro i v σ H2 T0 hv ⟨os, o3, o4, o5, rfl, s2, el2, xa2, es⟩ nT
        have hi := (List.getElem?_eq_some_iff.mp hv).1
        rw [List.length_map] at hi
        rw [List.getElem?_map, List.getElem?_eq_getElem hi] at hv
        obtain rfl := Option.some.inj hv
        have sT : Same H2 (upd H2 T0 (.tup [.int (i : Nat), .str names[i]])) := fun b o e => (upd_ne (ne_of_none e nT)).trans e
        refine ⟨T0, _, rfl, SqT.of upd_same, rfl, _, _, rfl, _, _, rfl, rfl, ?_⟩
        have s3 := s2.trans sT
        have el3 := sT _ _ el2
        have xa3 := xa2.ext sT
        revert s3 el3 xa3
        generalize upd H2 T0 (.tup [.int (i : Nat), .str names[i]]) = H3
        intro s3 el3 xa3
        have et3 := s3 _ _ et
        refine ⟨_, rfl, .inl ⟨rfl, _, SqL.of el3⟩, _, rfl, _, rfl, _, _, rfl, rfl, _, rfl, t, names.map V.str, rfl, SqT.of et3, ?_, fun ts nts => ?_⟩
        · rw [List.length_map, show ((i : Nat) : Int) + 1 = ((i + 1 : Nat) : Int) by omega, HT.sIx_nat]
          omega
        · have st : Same H3 (upd H3 ts (.tup (cutV (names.map V.str) (some (((i : Nat) : Int) + 1)) none))) := fun b o e => (upd_ne (ne_of_none e nts)).trans e
          have ets : upd H3 ts (.tup (cutV (names.map V.str) (some (((i : Nat) : Int) + 1)) none)) ts = some (oX (names.drop (i + 1))) := by
            rw [upd_same, show ((i : Nat) : Int) + 1 = ((i + 1 : Nat) : Int) by omega, cutV_drop, ← List.map_drop]
            rfl
          have s4 := s3.trans st
          have el4 := st _ _ el3
          have xa4 := xa3.ext st
          revert s4 el4 xa4 ets
          generalize upd H3 ts (.tup (cutV (names.map V.str) (some (((i : Nat) : Int) + 1)) none)) = H4
          intro ets s4 el4 xa4
          refine ⟨_, rfl, _, _, rfl, rfl, ?_⟩
          refine irr ⟨ts, names.drop (i + 1), m, by show [V.ref ts, V.int (((m + 1 : Nat) : Int) - 1)] = _; rw [show ((m + 1 : Nat) : Int) - 1 = ((m : Nat) : Int) by omega], ets, by rw [List.length_drop]; omega, by omega, fun l2 os2 H5 s5 nl5 el5 xa5 es5 => ⟨l2, rfl, ⟨_, SqL.of el5⟩, fun D nD => ?_⟩⟩
          have l32 : os2.length ≤ 32 := by
            rw [← sn_len, es5]
            have := subsF_len (n := m) (names := names.drop (i + 1))
            have : 2 ^ (names.drop (i + 1)).length ≤ 2 ^ 5 := Nat.pow_le_pow_right (by decide) (by rw [List.length_drop]; omega)
            omega
          refine lc_new (β := XU) (xs := rf os2) (fun u => .ref u.1) (fun j u H' => ∃ rest, (sn os2)[j]? = some rest ∧ u.2 = names[i] :: rest ∧ H' u.1 = some (oX u.2)) walk_list nD (by rw [rf_len]; omega) (fun H' s' => SqL.of (s' _ _ el5)) (fun _ => rfl) (fun j u Ha Hb s' z => by obtain ⟨r, a, b, c⟩ := z; exact ⟨r, a, b, s' _ _ c⟩) (fun j u Ha acc acc' eD z => by
            obtain ⟨r, a, b, c⟩ := z
            exact ⟨r, a, b, by rw [upd_ne (fun e => by rw [e, eD] at c; cases c)]; exact c⟩) (fun j v hv H6 s6 _ R kR => ?_) fun bs H6 s6 bl bp hD => ?_
          · obtain ⟨u, hu2, rfl⟩ := rf_get hv
            have eu := s6 _ _ (xa5 u (List.mem_of_getElem? hu2))
            refine ⟨_, rfl, (by show 1 ≤ sizeLine; decide), fun p np => ⟨_, rfl, p, u.1, [.str names[i]], u.2.map V.str, rfl, rfl, SqT.of upd_same, SqT.of ((upd_ne (ne_of_none eu np)).trans eu), by simp, ?_, fun hn => ?_, fun hn p2 np2 => ?_⟩⟩
            · have hu3 : u.2 ∈ subsF (names.drop (i + 1)) m := by rw [← es5]; exact List.mem_of_getElem? (sn_get hu2)
              have := (subsF_mem.mp hu3).1.length_le
              rw [List.length_drop] at this
              rw [List.length_map]
              exact szn (show 1 + u.2.length ≤ 1000 by omega)
            · refine kR (p, [names[i]]) _ (fun b o e => (upd_ne (ne_of_none e np)).trans e) ⟨u.2, sn_get hu2, ?_, upd_same⟩
              rw [List.map_eq_nil_iff.mp hn]
            · refine kR (p2, names[i] :: u.2) _ (fun b o e => ?_) ⟨u.2, sn_get hu2, rfl, upd_same⟩
              have e2 : upd H6 p (.tup [.str names[i]]) b = some o := (upd_ne (ne_of_none e np)).trans e
              exact (upd_ne (ne_of_none e2 np2)).trans e2
          · have s46 := s5.trans s6
            have el6 := s46 _ _ el4
            have xa6 := xa4.ext s46
            have l32b : os.length ≤ 32 := by
              have h1 := congrArg List.length es
              rw [List.length_append, sn_len] at h1
              have := subsF_len (n := m + 1) (names := names)
              have : 2 ^ names.length ≤ 2 ^ 5 := Nat.pow_le_pow_right (by decide) nl
              omega
            rw [rf_len] at bl
            have esb : sn bs = (sn os2).map (names[i] :: ·) := by
              refine List.ext_getElem? fun j => ?_
              rw [sn, List.getElem?_map, List.getElem?_map]
              cases e : bs[j]? with
              | none =>
                have e2 : (sn os2)[j]? = none := by
                  rw [List.getElem?_eq_none_iff] at e ⊢
                  rw [sn_len]
                  omega
                rw [e2]
                rfl
              | some b =>
                obtain ⟨r, e1, e2, _⟩ := bp j b e
                rw [e1]
                exact congrArg some e2
            refine ⟨l, D, rf os, rf bs, rfl, rfl, el6, hD, szn (by rw [rf_len, rf_len]; omega), os ++ bs, _, _, _, rfl, fun b o e => ?_, by rw [upd_same, rf, rf, rf, List.map_append], fun u hu => ?_, ?_⟩
            · rw [upd_ne (ne_of_none e nl2)]
              exact s46 _ _ (s4 _ _ e)
            · have t6 : H6 u.1 = some (oX u.2) := by
                rcases List.mem_append.mp hu with z | z
                · exact xa6 u z
                · obtain ⟨j, hj⟩ := List.getElem?_of_mem z
                  obtain ⟨_, _, _, e⟩ := bp j u hj
                  exact e
              rw [upd_ne (fun e => by rw [e, el6] at t6; cases t6)]
              exact t6
            · rw [sn, List.map_append, ← sn, ← sn, esb, es5, List.append_assoc, ← es, List.drop_eq_getElem_cons hi]
              rfl
      · rintro σ H2 ⟨os, o3, o4, o5, rfl, s2, el2, xa2, es⟩
        rw [List.length_map, List.drop_length] at es
        exact ⟨_, rfl, k l os H2 s2 nl2 el2 xa2 (by rw [← es]; simp [subsF])⟩
end
end RV
/-! least explanations -/
namespace RV
open PySem L2 TL
/-- the scope of the comprehension over what is found -/
abbrev scE : Scope := { kind := .function, names := [(".0", .local), ("part", .local), ("all", .globalImplicit), ("chosen", .cell)], isGenerator := false, isCoroutine := false }
section
variable {P : Program} {w : World} {K : PySem.W.Frag} {mg : Str → Option Value} {base : Heap} {CN CP CM : Addr}
theorem ok_expl {f : Addr} {fd : FuncData} (F : Fun K "explanations" "explanations" s_explanations f fd) (T : Blt mg) (T2 : Blt2 mg) (h_chkn : Fn P w K mg base "check_net" 1 ["net"] (Irr (sp_chkn K CN CP CM))) (h_chr : Fn P w K mg base "check_readings" 4 ["net", "readings"] (Irr (sp_chr K CN CP CM))) (h_chnum : Fn P w K mg base "check_number" 3 ["number"] (Irr sp_chnum))
    (h_dbt : Fn P w K mg base "_doubtful" 4 ["net", "readings"] (Irr (sp_dbt K CN CP CM))) (h_subs : Fn P w K mg base "subsets" 4 ["names", "many"] (Irr (sp_subs 3))) (h_fitr : Fn P w K mg base "fitting_readings" 8 ["net", "readings", "wrong"] (Irr (sp_fitr K CN CP CM))) : FnOk P w K mg base CX0 9 f fd ["net", "readings", "most"] (sp_expl K CN CP CM) := by
  refine F.ok sc_explanations (fun vs H Q E h => ?_) (fun cdv A outer s H vs Q E hr h => ?_)
  · obtain ⟨_, _, _, _, _, _, rfl, _⟩ := h
    rfl
  · obtain ⟨x, t, ps, ms, rs, most, rfl, nr, po, mo, m5, ht, ro, h3, k⟩ := h
    refine ⟨_, (pss_cons (ps_expr (pe_fn h_chkn (hr.mono (by decide)) (pa_cons (pv 0) pa_nil)))
      (pss_cons (ps_expr (pe_fn h_chr (hr.mono (by decide)) (pa_cons (pv 0) (pa_cons (pv 1) pa_nil))))
      (pss_cons (ps_expr (pe_fn h_chnum (hr.mono (by decide)) (pa_cons (pv 2) pa_nil)))
      (pss_cons (ps_set (i := 3) sc_explanations.nd rfl (Or.inl rfl) (pe_lst pa_nil))
      (pss_cons (ps_for PassesOwn.never rfl (pi_range1 rfl T.b_range (pa_cons (pe_op op_add (pv 2) pe_int) pa_nil)) (pg_name (i := 4) sc_explanations.nd rfl (Or.inl rfl)) (pss_one (ps_for PassesOwn.never rfl (pi_list (pe_fn h_subs (hr.mono (by decide)) (pa_cons (pe_fn h_dbt (hr.mono (by decide)) (pa_cons (pv 0) (pa_cons (pv 1) pa_nil))) (pa_cons (pv 4) pa_nil)))) (pg_name (i := 5) sc_explanations.nd rfl (Or.inr rfl)) (pss_cons (ps_setLc (i := 6) (own := [("part", 7)]) (g := gName 7) rfl sc_explanations.nd rfl rfl (sw_true rfl rfl rfl (by decide +kernel)) (pi_list (pv 3)) (blkOk_by (N := sc_explanations_N) (sc := defScope s_explanations) (by decide +kernel)) (fun _ _ _ _ _ => pg_name (i := 7) sc_explanations.nd rfl (Or.inl rfl)) (fun _ _ _ _ _ => pts_one (pt_val (pe_callB (cr_allK (K := K) rfl) (by rfl) T.b_all (by decide +kernel) (pa_cons (pe_lc (own := [("name", 8)]) (g := gName 8) (tt := tYes) rfl sc_explanations.nd (pi_tupK (K := K) (pv 7)) (by refine blkOk_by (N := sc_explanations_N) (sc := scE) ?_; decide +kernel) (fun _ _ _ _ _ => pg_name (i := 8) sc_explanations.nd rfl (Or.inl rfl)) (fun _ _ _ _ _ => pts_nil) (fun _ _ _ _ _ => (pe_cmpR (op_inK (K := K)) (pv 8) (pv 5) (by rfl)))) pa_nil)))) (fun _ _ _ _ _ => (pv 7))) (pss_one (ps_if (PW.pt (pw_and (pt_not (pt_truth (pv 6) (by intro _; rfl))) (pw_and1 (pt_cmpR op_notN (pe_fn h_fitr (hr.mono (by decide)) (pa_cons (pv 0) (pa_cons (pv 1) (pa_cons (pv 5) pa_nil)))) pe_non (nomark _))))) (pss_one (ps_expr (pe_bm PySem.F.plainAttrs_list PySem.F.slot_list_append PySem.F.type_list_append mt_append (pv 3) (pa_cons (pv 5) pa_nil)))) pss_nil))))))
      (pss_one (ps_ret (pe_callTy call_tuple_of (by rfl) T2.b_tuple (by decide +kernel) (pa_cons (pv 3) pa_nil))))))))), ?_⟩
    have ml := mo.ln
    obtain ⟨zs, oz⟩ := OrdN.ex (suspN ms rs)
    have zl : zs.length ≤ 5 := by
      have := oz.len
      have := suspN_len ms rs
      omega
    obtain ⟨poss, hposs⟩ : ∃ poss : List Str → Bool, ∀ o, poss o = true ↔ PossN ps ms rs o := ⟨fun o => @decide _ (Classical.propDecidable (PossN ps ms rs o)), fun o => @decide_eq_true_iff _ (Classical.propDecidable _)⟩
    have mono : MonoP poss := fun a b s h => (hposs b).mpr (((hposs a).mp h).mono s)
    refine ⟨_, rfl, irr ⟨x, ps, ms, rfl, nr, ?_⟩⟩
    refine ⟨_, rfl, _, rfl, irr ⟨x, t, ps, ms, rs, rfl, nr, ml, ht, ro, fun H0 s0 => ?_⟩⟩
    refine ⟨_, rfl, irr ⟨(most : Int), rfl, by omega, by omega, ?_⟩⟩
    refine ⟨by decide, fun l nl => ?_⟩
    have s1 : Same H (upd H0 l (.lst [])) := fun b o e => (upd_ne (ne_of_none (s0 _ _ e) nl)).trans (s0 _ _ e)
    have nlH : H l = none := by
      cases e : H l with
      | none => rfl
      | some o => rw [s0 _ _ e] at nl; cases nl
    have el : upd H0 l (.lst []) l = some (.lst (rf ([] : List XU))) := upd_same
    revert s1 el
    generalize upd H0 l (.lst []) = H1
    intro s1 el
    dsimp only [gName]
    refine ⟨_, rfl, _, _, rfl, rfl, ((most + 1 : Nat) : Int), ?_, by omega, by omega, ?_⟩
    · show V.int ((most : Int) + 1) :: _ = _
      rw [show (most : Int) + 1 = ((most + 1 : Nat) : Int) by omega]
    refine for_range (lo := 0) (n := most + 1) (fun m σ H' => ∃ (os : List XU) (o4 o5 o6 o7 o8 : Option V), σ = [some (.ref x), some (.ref t), some (.int (most : Nat)), some (.ref l), o4, o5, o6, o7, o8] ∧ Same H H' ∧ H' l = some (.lst (rf os)) ∧ XusAt H' os ∧ sn os = (preF zs m 0).filter (leastB poss)) ⟨[], none, none, none, none, none, rfl, s1, el, fun _ h => (nomatch h), by simp [preF, sn]⟩ ?_ ?_
    · rintro m σ H2 hm ⟨os, o4, o5, o6, o7, o8, rfl, s2, el2, xa2, es2⟩
      dsimp only [gName]
      refine ⟨_, rfl, _, rfl, irr ⟨x, t, ps, ms, rs, rfl, nr.ext s2, mo, ht.ext s2, ro.len, fun tz zs2 H3 s3 ez oz2 => ?_⟩⟩
      obtain rfl : zs2 = zs := oz2.uniq oz
      have s23 := s2.trans s3
      refine ⟨_, rfl, irr ⟨tz, zs2, m, ?_, ez, zl, by omega, fun l2 cs H4 s4 nl2 el2b xac ecs => ?_⟩⟩
      · show [V.ref tz, V.int (0 + (m : Int))] = _
        rw [Int.zero_add]
      · have s24 := s23.trans s4
        refine ⟨l2, rfl, ⟨_, SqL.of el2b⟩, ?_⟩
        have sb4 : Same H2 H4 := s3.trans s4
        have el4 := sb4 _ _ el2
        have n2l : l2 ≠ l := fun e => by rw [e, s4 _ _ (s3 _ _ el2)] at el2b; exact absurd (s3 _ _ el2) (by rw [← e, nl2]; exact fun z => nomatch z)
        have hcs : ∀ {H' : Hp}, (∀ b o, b ≠ l → H4 b = some o → H' b = some o) → SqL K H' l2 (rf cs) ∧ XusAt H' cs := fun sb => ⟨SqL.of (sb _ _ n2l el2b), fun u hu => by
          have t := xac u hu
          exact sb _ _ (fun e => by rw [e, el4] at t; cases t) t⟩
        have l32 : ∀ {p : List Str → Bool} {j : Nat}, ((preF zs2 m j).filter p).length ≤ 500 := fun {p j} => by
          refine Nat.le_trans (List.length_filter_le _ _) (Nat.le_trans (preF_len _ _ _) ?_)
          have : (m + 1) * 2 ^ zs2.length ≤ 4 * 2 ^ 5 := Nat.mul_le_mul (by omega) (Nat.pow_le_pow_right (by decide) zl)
          omega
        refine for_list (xs := rf cs) (fun j σ H' => ∃ (os : List XU) (o5 o6 o7 o8 : Option V), σ = [some (.ref x), some (.ref t), some (.int (most : Nat)), some (.ref l), some (.int (0 + (m : Int))), o5, o6, o7, o8] ∧ (∀ b o, b ≠ l → H4 b = some o → H' b = some o) ∧ H' l = some (.lst (rf os)) ∧ XusAt H' os ∧ sn os = (preF zs2 m j).filter (leastB poss)) ⟨os, _, _, _, _, rfl, fun _ _ _ e => e, el4, xa2.ext sb4, es2⟩ (fun j σ H' _ z => by obtain ⟨_, _, _, _, _, _, sb, _⟩ := z; exact (hcs sb).1) ?_ ?_
        · clear el2 xa2 es2 el4
          rintro j v σ H5 hv ⟨os, o5, o6, o7, o8, rfl, sb5, el5, xa5, es5⟩
          obtain ⟨c, hc, rfl⟩ := rf_get hv
          have hcc := sn_get hc
          rw [ecs] at hcc
          have ec := (hcs sb5).2 c (List.mem_of_getElem? hc)
          have osl : os.length ≤ 500 := by rw [← sn_len, es5]; exact l32
          dsimp only [gName]
          refine ⟨_, rfl, l, rfl, ⟨_, SqL.of el5⟩, fun D nD => ?_⟩
          refine lc_keep (us := os) (fun u => u.2.all fun y => decide (y ∈ c.2)) walk_list nD (by omega) (fun H' s' => SqL.of (s' _ _ el5)) (fun _ => rfl) (fun u hu H6 s6 R kR => ?_) (fun u hu H6 R kR => ⟨_, rfl, kR⟩) fun H6 s6 hD => ?_
          · have eu := s6 _ _ (xa5 u hu)
            refine ⟨_, rfl, u.1, rfl, ⟨_, SqT.of eu⟩, fun D2 nD2 => ?_⟩
            refine lc_to (xs := u.2.map V.str) ((u.2.map fun y => decide (y ∈ c.2)).map V.bl) (by rw [List.length_map, List.length_map, List.length_map]) walk_tup nD2 ?_ (fun H' s' => SqT.of (s' _ _ eu)) (fun _ => rfl) (fun i v y hv hy H7 s7 R2 kR2 => ?_) fun H7 s7 hD2 => ?_
            · have hu2 : u.2 ∈ preF zs2 m j := by
                have : u.2 ∈ sn os := List.mem_map.mpr ⟨u, hu, rfl⟩
                rw [es5] at this
                exact (List.mem_filter.mp this).1
              have := (pre_mem hu2).1.length_le
              rw [List.length_map]
              omega
            · rw [List.getElem?_map] at hv hy
              rw [List.getElem?_map] at hy
              cases q : u.2[i]? with
              | none => rw [q] at hv; cases hv
              | some z =>
                rw [q] at hv hy
                obtain rfl := Option.some.inj hv
                obtain rfl := Option.some.inj hy
                refine ⟨_, rfl, _, rfl, c.1, c.2.map V.str, rfl, .inr (SqT.of ((s6.trans s7) _ _ ec)), rfl, flat_str _, ?_⟩
                have kk : R2 (V.bl (decide (z ∈ c.2))) H7 := kR2 H7 (Same.refl _)
                rw [← inV_str] at kk
                exact kk
            · refine ⟨D2, _, rfl, SqL.of hD2, _, rfl, ?_⟩
              have := kR H7 s7
              rw [List.all_map]
              exact this
          · have sb6 : ∀ b o, b ≠ l → H4 b = some o → H6 b = some o := fun b o q e => s6 _ _ (sb5 b o q e)
            have el6 := s6 _ _ el5
            have xa6 := xa5.ext s6
            have s06 : Same H H6 := fun b o e => sb6 _ _ (fun z => by rw [z, nlH] at e; cases e) (s24 _ _ e)
            have ec6 := s6 _ _ ec
            have step := stpX_pre mono oz.1 hcc
            rw [← es5] at step
            dsimp only [gName]
            have skip : ∀ H7, Same H6 H7 → stpX poss (sn os) c.2 = sn os → ∃ (os2 : List XU) (q5 q6 q7 q8 : Option V), [some (V.ref x), some (V.ref t), some (V.int (most : Nat)), some (V.ref l), some (V.int (0 + (m : Int))), some (V.ref c.1), some (V.ref D), o7, o8] = [some (.ref x), some (.ref t), some (.int (most : Nat)), some (.ref l), some (.int (0 + (m : Int))), q5, q6, q7, q8] ∧ (∀ b o, b ≠ l → H4 b = some o → H7 b = some o) ∧ H7 l = some (.lst (rf os2)) ∧ XusAt H7 os2 ∧ sn os2 = (preF zs2 m (j + 1)).filter (leastB poss) := fun H7 s7 e => ⟨os, _, _, _, _, rfl, fun b o q e => s7 _ _ (sb6 b o q e), s7 _ _ el6, xa6.ext s7, by rw [← step, e]⟩
            have eqf := filt_sn (us := os) (fun p => p.all fun y => decide (y ∈ c.2))
            refine ⟨_, rfl, _, .inl ⟨_, SqL.of hD, rfl⟩, ?_⟩
            by_cases hf : (sn os).filter (fun p => p.all fun y => decide (y ∈ c.2)) = []
            · have e0 : os.filter (fun u => u.2.all fun y => decide (y ∈ c.2)) = [] := by
                rw [hf] at eqf
                exact List.map_eq_nil_iff.mp eqf
              rw [e0]
              refine iteT ⟨_, rfl, _, rfl, _, rfl, irr ⟨x, t, c.1, ps, ms, rs, c.2, rfl, nr.ext s06, po, mo, ht.ext s06, ro.len, SqT.of ec6, fun H7 s7 => ⟨fun np => ?_, fun r yp => ?_⟩⟩⟩
              · refine ⟨rfl, _, rfl, iteF (skip H7 s7 ?_)⟩
                rw [stpX, if_neg fun z => np ((hposs _).mp z.2)]
              · have el7 := s7 _ _ el6
                refine ⟨rfl, _, rfl, iteT ⟨_, rfl, .inl ⟨rfl, _, SqL.of el7⟩, _, rfl, l, rf os, _, rfl, rfl, el7, ?_, os ++ [c], _, _, _, _, rfl, fun b o q e => ?_, ?_, fun u hu => ?_, ?_⟩⟩
                · rw [rf_len]
                  exact Nat.lt_of_le_of_lt osl (by decide)
                · rw [upd_ne q]
                  exact s7 _ _ (sb6 b o q e)
                · rw [upd_same, rf, rf, List.map_append]
                  rfl
                · have tu : H7 u.1 = some (oX u.2) := by
                    rcases List.mem_append.mp hu with z | z
                    · exact s7 _ _ (xa6 u z)
                    · rw [List.mem_singleton.mp z]
                      exact s7 _ _ ec6
                  rw [upd_ne (fun e => by rw [e, el7] at tu; cases tu)]
                  exact tu
                · rw [← step, stpX, if_pos ⟨hf, (hposs _).mpr yp⟩, sn, List.map_append, ← sn]
                  rfl
            · have e1 : ∃ a b, os.filter (fun u => u.2.all fun y => decide (y ∈ c.2)) = a :: b := by
                cases e : os.filter (fun u => u.2.all fun y => decide (y ∈ c.2)) with
                | nil => rw [e] at eqf; exact absurd eqf.symm hf
                | cons a b => exact ⟨a, b, rfl⟩
              obtain ⟨a, b, e1⟩ := e1
              rw [e1]
              refine iteF (iteF (skip H6 (Same.refl _) ?_))
              rw [stpX, if_neg fun z => hf z.1]
        · rintro σ H5 ⟨os, o5, o6, o7, o8, rfl, sb5, el5, xa5, es5⟩
          rw [rf_len, ← sn_len, ecs, ← preF_zero] at es5
          exact ⟨os, _, _, _, _, _, rfl, fun b o e => sb5 _ _ (fun z => by rw [z, nlH] at e; cases e) (s24 _ _ e), el5, xa5, es5⟩
    · rintro σ H2 ⟨os, o4, o5, o6, o7, o8, rfl, s2, el2, xa2, es2⟩
      refine ⟨_, rfl, l, rf os, rfl, .inl ⟨SqL.of el2, fun t2 nt2 => ?_⟩⟩
      exact k t2 os zs poss _ (fun b o e => (upd_ne (ne_of_none (s2 _ _ e) nt2)).trans (s2 _ _ e)) upd_same (xa2.ext fun b o e => (upd_ne (ne_of_none e nt2)).trans e) oz hposs (by rw [es2, explF_pre])
end
end RV
/-! a row freed of leading ones -/
namespace RV
open PySem L2 TL
section
variable {P : Program} {w : World} {K : PySem.W.Frag} {mg : Str → Option Value} {base : Heap}
theorem ok_redu {f : Addr} {fd : FuncData} (F : Fun K "_law_reduced" "_law_reduced" s_reduced f fd) (T : Blt mg) (b_list : mg "list" = none) : FnOk P w K mg base CX0 1 f fd ["_law_done", "_law_row_here"] sp_redu := by
  refine F.ok sc_reduced (fun vs H Q E h => ?_) (fun cdv A outer s H vs Q E hr h => ?_)
  · obtain ⟨_, _, _, _, _, rfl, _⟩ := h
    rfl
  · obtain ⟨ld, lr, m, du, row, rfl, ed, du0, er, L, B, R1, d6, m20, k⟩ := h
    refine ⟨_, (pss_cons (ps_set (i := 2) sc_reduced.nd rfl (Or.inr rfl) (pe_callTy call_list_of (by rfl) b_list (by decide +kernel) (pa_cons (pv 1) pa_nil)))
      (pss_cons (ps_for PassesOwn.never rfl (pi_list (pv 0)) (pg_tup (by rfl) (pgs_cons (pg_name (i := 3) sc_reduced.nd rfl (Or.inr rfl)) (pgs_cons (pg_name (i := 4) sc_reduced.nd rfl (Or.inr rfl)) pgs_nil))) (pss_one (ps_if (pt_cmpR op_ne (pe_ix ix_list (pv 2) (pv 3) (fun _ _ => rfl)) pe_int (nomark _)) (pss_one (ps_set (i := 2) sc_reduced.nd rfl (Or.inr rfl) (pe_lc (own := [("_law_k", 5)]) (g := gName 5) (tt := tYes) rfl sc_reduced.nd (pi_range1 rfl T.b_range (pa_cons (pe_callB call_len_seq (by rfl) T.b_len (by decide +kernel) (pa_cons (pv 2) pa_nil)) pa_nil)) (blkOk_by (N := sc_reduced_N) (sc := defScope s_reduced) (by decide +kernel)) (fun _ _ _ _ _ => pg_name (i := 5) sc_reduced.nd rfl (Or.inl rfl)) (fun _ _ _ _ _ => pts_nil) (fun _ _ _ _ _ => (pe_op op_sub (pe_op op_mul (pe_ix (ix_listK (K := K)) (pv 2) (pv 5) (fun _ _ => rfl)) (pe_ix (ix_listK (K := K)) (pv 4) (pv 3) (fun _ _ => rfl))) (pe_op op_mul (pe_ix (ix_listK (K := K)) (pv 4) (pv 5) (fun _ _ => rfl)) (pe_ix (ix_listK (K := K)) (pv 2) (pv 3) (fun _ _ => rfl)))))))) pss_nil)))
      (pss_one (ps_ret (pv 2))))), ?_⟩
    have lI : ∀ r : List Int, (r.map V.int).length = r.length := fun r => List.length_map _
    refine ⟨_, rfl, lr, _, rfl, .inl (SqL.of er), fun lm nlm => ?_⟩
    have s0 : Same H (upd H lm (oI row)) := fun b o e => (upd_ne (ne_of_none e nlm)).trans e
    dsimp only [gName]
    refine ⟨_, rfl, ld, rfl, ⟨_, SqL.of (s0 _ _ ed)⟩, for_list (xs := rf du) (fun i σ H' => (∃ (lm : Addr) (o3 o4 o5 : Option V), σ = [some (.ref ld), some (.ref lr), some (.ref lm), o3, o4, o5] ∧ H lm = none ∧ H' lm = some (oI (redR ((dU3 du).take i) row))) ∧ Same H H') ⟨⟨lm, none, none, none, rfl, nlm, upd_same⟩, s0⟩ (fun i σ H' _ h => SqL.of (h.2 _ _ ed)) ?_ ?_⟩
    · rintro i y σ H1 hy ⟨⟨lm1, o3, o4, o5, rfl, n1, e1⟩, s1⟩
      obtain ⟨u, hu, rfl⟩ := rf_get hy
      have hum := List.mem_of_getElem? hu
      obtain ⟨eu, el⟩ := (du0.ext s1) u hum
      have hd : (dU3 du)[i]? = some (u.2.1, u.2.2.2) := by rw [dU3, List.getElem?_map, hu]; rfl
      have hdm := List.mem_of_getElem? hd
      have il : i < du.length := (List.getElem?_eq_some_iff.mp hu).1
      obtain ⟨k1, k2, k3⟩ := L.ld _ hdm
      have bu := B i _ hd
      have rl : (redR ((dU3 du).take i) row).length = m + 2 := by rw [redR_len, R1.len]
      have rb := red_bnd B (fun d hd => (L.ld d hd).1) R1.len R1.one i (by rw [dU3, List.length_map]; omega)
      have et : (dU3 du).take (i + 1) = (dU3 du).take i ++ [(u.2.1, u.2.2.2)] := by rw [List.take_add_one, hd]; rfl
      have er' : redR ((dU3 du).take (i + 1)) row = if ent (redR ((dU3 du).take i) row) u.2.1 ≠ 0 then freeR (redR ((dU3 du).take i) row) u.2.2.2 u.2.1 else redR ((dU3 du).take i) row := by rw [et, redR_snoc]
      generalize redR ((dU3 du).take i) row = mine at e1 rl rb er'
      refine ⟨u.1, _, rfl, SqT.of eu, rfl, _, _, rfl, _, _, rfl, rfl, ?_⟩
      dsimp only
      have a1 : ∀ k : Nat, k < m + 2 → atI (mine.map V.int) ((k : Nat) : Int) = some (.int (ent mine k)) := fun k hk => atI_ent (by omega)
      have a2 : ∀ k : Nat, k < m + 2 → atI (u.2.2.2.map V.int) ((k : Nat) : Int) = some (.int (ent u.2.2.2 k)) := fun k hk => atI_ent (by show k < (u.2.2.2).length; have : (u.2.2.2).length = m + 2 := k3; omega)
      have k1 : u.2.1 < m := k1
      refine ⟨_, rfl, _, rfl, lm1, _, _, _, rfl, rfl, SqL.of e1, a1 _ (by omega), rfl, _, rfl, ?_⟩
      refine ite2 (fun h => ?_) fun h => ?_
      · have nz : ent mine u.2.1 ≠ 0 := fun q => by simp [q] at h
        refine ⟨_, rfl, lm1, _, rfl, .inl (SqL.of e1), ?_⟩
        rw [lI, rl]
        refine ⟨((m + 2 : Nat) : Int), rfl, by omega, by omega, fun D nD => lc_range (lo := 0) (n := m + 2) (fun j H' => Same H1 H' ∧ H' D = some (.lst (((freeR mine u.2.2.2 u.2.1).take j).map V.int))) ⟨fun b o e => (upd_ne (ne_of_none e nD)).trans e, upd_same⟩ ?_ ?_⟩
        · rintro j H3 hj ⟨s3, e3⟩
          have e1' := s3 _ _ e1
          have el' := s3 _ _ el
          have fl : (freeR mine u.2.2.2 u.2.1)[j]? = some (ent mine j * ent u.2.2.2 u.2.1 - ent u.2.2.2 j * ent mine u.2.1) := by
            rw [freeR, List.getElem?_map, List.getElem?_range (by omega)]
            rfl
          rw [Int.zero_add]
          have b1 : CMul (ent mine j) (ent u.2.2.2 u.2.1) := .inr (by have := bnd_64 (bu _ k1) (by omega); dsimp only at this; omega)
          have b2 : CMul (ent u.2.2.2 j) (ent mine u.2.1) := .inr (by have := bnd_64 (rb _ k1) (by omega); omega)
          refine ⟨rfl, _, rfl, _, rfl, lm1, _, _, _, rfl, rfl, SqL.of e1', a1 j hj, _, rfl, _, rfl, u.2.2.1, _, _, _, rfl, rfl, SqL.of el', a2 _ (by omega), _, _, rfl, rfl, b1, _, rfl, _, rfl, u.2.2.1, _, _, _, rfl, rfl, SqL.of el', a2 j hj, _, rfl, _, rfl, lm1, _, _, _, rfl, rfl, SqL.of e1', a1 _ (by omega), _, _, rfl, rfl, b2, _, _, rfl, rfl, ?_⟩
          refine ⟨_, e3, ?_, fun b o e => (upd_ne (ne_of_none e nD)).trans (s3 _ _ e), ?_⟩
          · rw [lI, List.length_take]
            exact Nat.lt_of_le_of_lt (show _ ≤ 30 by omega) (by decide)
          · rw [upd_same, List.take_add_one, fl, List.map_append]
            rfl
        · rintro H3 ⟨s3, e3⟩
          have n0 : H D = none := by
            cases q : H D with
            | none => rfl
            | some o => rw [s1 _ _ q] at nD; cases nD
          rw [List.take_of_length_le (by rw [freeR_len, rl]; exact Nat.le_refl _)] at e3
          exact ⟨⟨D, _, _, _, rfl, n0, by rw [er', if_pos nz]; exact e3⟩, fun b o e => s3 _ _ (s1 _ _ e)⟩
      · have z : ent mine u.2.1 = 0 := by simpa using h
        exact ⟨⟨lm1, _, _, _, rfl, n1, by rw [er', if_neg (fun q => q z)]; exact e1⟩, s1⟩
    · rintro σ H1 ⟨⟨lm1, o3, o4, o5, rfl, n1, e1⟩, s1⟩
      rw [rf_len, show (dU3 du).take du.length = dU3 du by rw [List.take_of_length_le]; rw [dU3, List.length_map]; exact Nat.le_refl _] at e1
      exact ⟨_, rfl, k lm1 H1 s1 n1 e1⟩
end
end RV
/-! rows that contradict one another or not -/
namespace RV
open PySem L2 TL
section
variable {P : Program} {w : World} {K : PySem.W.Frag} {mg : Str → Option Value} {base : Heap}
theorem atI_m2 {r : List Int} {m : Nat} (h : r.length = m + 2) : atI (r.map V.int) (-2) = some (.int (ent r m)) := by
  have e : ixN (r.map V.int).length (-2) = some m := by
    unfold ixN
    rw [List.length_map, h, if_neg (by decide), if_pos (by omega)]
    congr 1
    omega
  unfold atI
  rw [e]
  show (r.map V.int)[m]? = _
  rw [List.getElem?_map, ent, List.getD_eq_getElem?_getD, List.getElem?_eq_getElem (by omega)]
  rfl
theorem filt_snoc (p : Nat → Bool) (j : Nat) : (List.range (j + 1)).filter p = (List.range j).filter p ++ if p j then [j] else [] := by
  rw [List.range_succ, List.filter_append]
  congr 1
  cases h : p j <;> simp [h]
theorem ok_solv {f : Addr} {fd : FuncData} (F : Fun K "_law_solved" "_law_solved" s_solved f fd) (T : Blt mg) (h_reduced : Fn P w K mg base "_law_reduced" 1 ["_law_done", "_law_row_here"] (Irr sp_redu)) : FnOk P w K mg base CX0 2 f fd ["_law_rows_here"] sp_solv := by
  refine F.ok sc_solved (fun vs H Q E h => ?_) (fun cdv A outer s H vs Q E hr h => ?_)
  · obtain ⟨_, _, _, rfl, _⟩ := h
    rfl
  · obtain ⟨l, m, ru, rfl, el, er, r6, m20, k⟩ := h
    have hu : (A.deeper (PyProof.Rows.envOfC "_law_solved" (defScope s_solved) s.heap.objs.size f cdv)).units < cLine := by have := hr.units; omega
    refine ⟨_, (pss_cons (ps_set (i := 1) sc_solved.nd rfl (Or.inl rfl) (pe_lst pa_nil))
      (pss_cons (ps_for PassesOwn.never rfl (pi_list (pv 0)) (pg_name (i := 2) sc_solved.nd rfl (Or.inl rfl)) (pss_cons (ps_set (i := 3) sc_solved.nd rfl (Or.inr rfl) (pe_fn h_reduced (hr.mono (by decide)) (pa_cons (pv 1) (pa_cons (pv 2) pa_nil)))) (pss_cons (ps_setLc (i := 4) (own := [("_law_k", 5)]) (g := gName 5) rfl sc_solved.nd rfl rfl (sw_true rfl rfl rfl (by decide +kernel)) (pi_range1 rfl T.b_range (pa_cons (pe_op op_sub (pe_callB call_len_seq (by rfl) T.b_len (by decide +kernel) (pa_cons (pv 3) pa_nil)) pe_int) pa_nil)) (blkOk_by (N := sc_solved_N) (sc := defScope s_solved) (by decide +kernel)) (fun _ _ _ _ _ => pg_name (i := 5) sc_solved.nd rfl (Or.inl rfl)) (fun _ _ _ _ _ => pts_one (pt_cmpR op_ne (pe_ix (ix_listK (K := K)) (pv 3) (pv 5) (fun _ _ => rfl)) pe_int (nomark _))) (fun _ _ _ _ _ => (pv 5))) (pss_one (ps_if (pt_cmpR (op_neE hu) (pv 4) (pe_lst pa_nil) (nomark _)) (pss_one (ps_expr (pe_bm PySem.F.plainAttrs_list PySem.F.slot_list_append PySem.F.type_list_append mt_append (pv 1) (pa_cons (pe_tup (pa_cons (pe_ix ix_list (pv 4) pe_int (fun _ _ => rfl)) (pa_cons (pv 3) pa_nil))) pa_nil)))) (pss_one (ps_if (pt_cmpR op_ne (pe_ix ix_list (pv 3) (pe_un un_neg pe_int) (fun _ _ => rfl)) pe_int (nomark _)) (pss_one (ps_ret pe_non)) pss_nil)))))))
      (pss_one (ps_ret (pv 1))))), ?_⟩
    refine ⟨by decide, fun ld nld => ?_⟩
    have s0 : Same H (upd H ld (.lst [])) := fun b o e => (upd_ne (ne_of_none e nld)).trans e
    dsimp only [gName]
    refine ⟨_, rfl, l, rfl, ⟨_, SqL.of (s0 _ _ el)⟩, for_list (xs := rf ru) (fun i σ H' => (∃ (du : List DU) (o2 o3 o4 o5 : Option V), σ = [some (.ref l), some (.ref ld), o2, o3, o4, o5] ∧ H' ld = some (.lst (rf du)) ∧ DUat H' du ∧ (∀ u ∈ du, u.2.2.1 ≠ ld) ∧ Led m (dU3 du) ∧ BndD m (dU3 du) ∧ du.length ≤ i ∧ solveR m (sn ru) [] = solveR m ((sn ru).drop i) (dU3 du)) ∧ Same H H') ⟨⟨[], none, none, none, none, rfl, upd_same, fun _ h => (nomatch h), fun _ h => (nomatch h), ⟨fun _ h => (nomatch h), .nil⟩, fun _ _ h => (nomatch h), Nat.le_refl _, rfl⟩, s0⟩ (fun i σ H' _ h => SqL.of (h.2 _ _ el)) ?_ ?_⟩
    · rintro i y σ H1 hy ⟨⟨du, o2, o3, o4, o5, rfl, e1, eu, nl0, L, B, dl, sv⟩, s1⟩
      obtain ⟨u, hu', rfl⟩ := rf_get hy
      obtain ⟨e0, R1⟩ := er u (List.mem_of_getElem? hu')
      have il : i < ru.length := (List.getElem?_eq_some_iff.mp hu').1
      have ed : (sn ru).drop i = u.2 :: (sn ru).drop (i + 1) := by
        have h1 : i < (sn ru).length := by rw [sn_len]; exact il
        rw [List.drop_eq_getElem_cons h1]
        congr 1
        have := sn_get hu'
        rw [List.getElem?_eq_getElem h1] at this
        exact Option.some.inj this
      rw [ed, solveR] at sv
      dsimp only [gName]
      refine ⟨_, rfl, _, rfl, irr ⟨ld, u.1, m, du, u.2, rfl, e1, eu, s1 _ _ e0, L, B, R1, by omega, m20, fun lm H2 s2 nlm em => ?_⟩⟩
      have lmd : lm ≠ ld := fun z => by rw [z, e1] at nlm; cases nlm
      have rl : (redR (dU3 du) u.2).length = m + 2 := by rw [redR_len, R1.len]
      have B2 := fun k => B.snoc (k := k) (fun d hd => (L.ld d hd).1) R1.len R1.one
      have Z : ∀ z ∈ (dU3 du).map (·.1), ent (redR (dU3 du) u.2) z = 0 := fun z hz => redR_zero L R1.len (.inl hz)
      generalize redR (dU3 du) u.2 = mine at em rl B2 Z sv
      dsimp only [gName]
      refine ⟨_, rfl, lm, _, rfl, .inl (SqL.of em), _, _, rfl, rfl, ?_⟩
      dsimp only
      rw [List.length_map, rl, show (((m + 2 : Nat) : Int) - 2) = ((m : Nat) : Int) by omega]
      refine ⟨((m : Nat) : Int), rfl, by omega, by omega, fun D nD => lc_range (lo := 0) (n := m) (fun j H' => Same H2 H' ∧ H' D = some (.lst (((List.range j).filter fun k => ent mine k != 0).map vI))) ⟨fun b o e => (upd_ne (ne_of_none e nD)).trans e, upd_same⟩ ?_ ?_⟩
      · rintro j H3 hj ⟨s3, e3⟩
        rw [Int.zero_add]
        refine ⟨rfl, _, rfl, _, rfl, lm, _, _, _, rfl, rfl, SqL.of (s3 _ _ em), atI_ent (by omega), rfl, _, rfl, ?_⟩
        refine ite2 (fun h => ?_) fun h => ?_
        · have nz : ent mine j ≠ 0 := fun q => by simp [q] at h
          refine ⟨_, rfl, _, e3, ?_, fun b o e => (upd_ne (ne_of_none e nD)).trans (s3 _ _ e), ?_⟩
          · rw [List.length_map]
            have := List.length_filter_le (fun k => ent mine k != 0) (List.range j)
            rw [List.length_range] at this
            exact Nat.lt_of_le_of_lt (show _ ≤ 30 by omega) (by decide)
          · rw [upd_same, filt_snoc, if_pos (bne_iff_ne.mpr nz), List.map_append]
            rfl
        · have z : ent mine j = 0 := by simpa using h
          refine ⟨s3, ?_⟩
          rw [filt_snoc, if_neg (by rw [z]; simp), List.append_nil]
          exact e3
      rintro H3 ⟨s3, eD⟩
      have e1 := s3 _ _ (s2 _ _ e1)
      have em := s3 _ _ em
      have eu := (eu.ext s2).ext s3
      have s3 : Same H H3 := fun b o e => s3 _ _ (s2 _ _ (s1 _ _ e))
      clear s2 s1 nD
      refine ⟨_, rfl, by decide, fun ln nln => ⟨D, ln, _, rfl, rfl, SqL.of ((upd_ne (ne_of_none eD nln)).trans eD), SqL.of upd_same, _, rfl, ?_⟩⟩
      have g4 : Same H3 (upd H3 ln (.lst [])) := fun b o e => (upd_ne (ne_of_none e nln)).trans e
      have e1 := g4 _ _ e1
      have em := g4 _ _ em
      have eu := eu.ext g4
      have eD := g4 _ _ eD
      have s4 : Same H (upd H3 ln (.lst [])) := fun b o e => g4 _ _ (s3 _ _ e)
      generalize upd H3 ln (.lst []) = H4 at e1 em eu eD s4 ⊢
      clear g4 s3 nln
      have hf : ((List.range m).filter fun k => ent mine k != 0).head? = spotR m mine := List.head?_filter
      cases hs : spotR m mine with
      | some k0 =>
        rw [hs] at hf sv
        simp only at sv
        obtain ⟨rest, hr0⟩ : ∃ rest, ((List.range m).filter fun k => ent mine k != 0) = k0 :: rest := by
          cases q : (List.range m).filter fun k => ent mine k != 0 with
          | nil => rw [q] at hf; cases hf
          | cons a r =>
            rw [q] at hf
            obtain rfl := Option.some.inj hf
            exact ⟨r, rfl⟩
        rw [hr0] at eD ⊢
        obtain ⟨k1, k2⟩ := spotR_some hs
        refine iteT ⟨_, rfl, .inl ⟨rfl, _, SqL.of e1⟩, _, rfl, D, _, 0, _, rfl, rfl, SqL.of eD, atI_nat (j := 0) rfl, _, rfl, (by show 2 ≤ sizeLine; decide), fun t nt => ⟨ld, _, _, rfl, rfl, (upd_ne (ne_of_none e1 nt)).trans e1, ?_, ⟨du ++ [(t, k0, lm, mine)], _, _, _, _, rfl, ?_, ?_, ?_, ?_, ?_, ?_, ?_⟩, ?_⟩⟩
        · rw [rf_len]
          exact Nat.lt_of_le_of_lt (show _ ≤ 30 by omega) (by decide)
        · rw [upd_same, show rf (du ++ [(t, k0, lm, mine)]) = rf du ++ [V.ref t] from List.map_append]
        · intro v hv
          have kp : ∀ {p : Addr} {o : HO}, p ≠ ld → H4 p = some o → upd (upd H4 t (.tup [.int (k0 : Nat), .ref lm])) ld (.lst (rf du ++ [.ref t])) p = some o := fun n e => (upd_ne n).trans ((upd_ne (ne_of_none e nt)).trans e)
          have nld : ∀ {p : Addr} {o : HO}, H4 p = some o → (∀ xs, o ≠ .lst xs) → p ≠ ld := fun e n z => by rw [z, e1] at e; exact n _ (Option.some.inj e).symm
          have t0 : t ≠ ld := fun z => by rw [z, e1] at nt; cases nt
          rcases List.mem_append.mp hv with q | q
          · exact ⟨kp (nld (eu v q).1 fun _ q => (nomatch q)) (eu v q).1, kp (nl0 v q) (eu v q).2⟩
          · rw [List.mem_singleton.mp q]
            exact ⟨(upd_ne t0).trans upd_same, kp lmd em⟩
        · intro v hv
          rcases List.mem_append.mp hv with q | q
          · exact nl0 v q
          · rw [List.mem_singleton.mp q]
            exact lmd
        · rw [show dU3 (du ++ [(t, k0, lm, mine)]) = dU3 du ++ [(k0, mine)] from List.map_append]
          refine ⟨fun v hv => ?_, List.pairwise_append.mpr ⟨L.up, List.pairwise_singleton _ _, fun v hv g hg => ?_⟩⟩
          · rcases List.mem_append.mp hv with q | q
            · exact L.ld v q
            · rw [List.mem_singleton.mp q]
              exact ⟨k1, k2, rl⟩
          · rw [List.mem_singleton.mp hg]
            exact Z _ (List.mem_map.mpr ⟨v, hv, rfl⟩)
        · rw [show dU3 (du ++ [(t, k0, lm, mine)]) = dU3 du ++ [(k0, mine)] from List.map_append]
          exact B2 k0
        · rw [List.length_append, List.length_singleton]
          omega
        · rw [show dU3 (du ++ [(t, k0, lm, mine)]) = dU3 du ++ [(k0, mine)] from List.map_append]
          exact sv
        · have nHl : H ld = none := by
            cases q : H ld with
            | none => rfl
            | some o => rw [q] at nld; cases nld
          exact fun b o e => (upd_ne (ne_of_none e nHl)).trans ((upd_ne (ne_of_none (s4 _ _ e) nt)).trans (s4 _ _ e))
      | none =>
        rw [hs] at hf sv
        simp only at sv
        have hr0 : ((List.range m).filter fun k => ent mine k != 0) = [] := List.head?_eq_none_iff.mp hf
        rw [hr0] at eD ⊢
        refine iteF ⟨_, rfl, _, rfl, lm, _, -2, _, rfl, rfl, SqL.of em, atI_m2 rl, rfl, _, rfl, ?_⟩
        refine ite2 (fun h => ?_) fun h => ?_
        · have nz : ent mine m ≠ 0 := fun q => by simp [q] at h
          rw [if_pos nz] at sv
          exact (k H4 s4).1 sv
        · have z : ent mine m = 0 := by simpa using h
          rw [if_neg (fun q => q z)] at sv
          exact ⟨⟨du, _, _, _, _, rfl, e1, eu, nl0, L, B, by omega, sv⟩, s4⟩
    · rintro σ H1 ⟨⟨du, o2, o3, o4, o5, rfl, e1, eu, nl0, L, B, dl, sv⟩, s1⟩
      rw [rf_len, List.drop_of_length_le (by rw [sn_len]; exact Nat.le_refl _)] at sv
      refine ⟨_, rfl, (k H1 s1).2 ld ?_⟩
      rw [sv]
      exact fun z => nomatch z
end
end RV
/-! drawn integers, flows, readings -/
namespace RV
open PySem L2 TL
section
variable {P : Program} {w : World} {K : PySem.W.Frag} {mg : Str → Option Value} {base : Heap}
theorem ok_numL {f : Addr} {fd : FuncData} (F : Fun K "_law_number" "_law_number" s_number f fd) (h_take : Fn P w K mg base "_law_take" 1 ["_law_spring_here", "_law_many"] (Irr sp_dip)) : FnOk P w K mg base CX0 2 f fd ["_law_spring_here"] sp_numL := by
  refine F.ok sc_number (fun vs H Q E h => ?_) (fun cdv A outer s H vs Q E hr h => ?_)
  · obtain ⟨_, _, rfl, _⟩ := h
    rfl
  · obtain ⟨a, n, rfl, wl, hn, k⟩ := h
    refine ⟨_, (pss_cons (ps_set (i := 1) sc_number.nd rfl (Or.inl rfl) (pe_fn h_take (hr.mono (by decide)) (pa_cons (pv 0) (pa_cons pe_int pa_nil))))
      (pss_cons (ps_if (pt_cmpR op_lt (pv 1) pe_int (nomark _)) (pss_one (ps_ret (pe_op op_sub (pe_fn h_take (hr.mono (by decide)) (pa_cons (pv 0) (pa_cons pe_int pa_nil))) pe_int))) pss_nil)
      (pss_cons (ps_if (pt_cmpR op_eq (pv 1) pe_int (nomark _)) (pss_one (ps_ret (pe_op op_sub (pe_fn h_take (hr.mono (by decide)) (pa_cons (pv 0) (pa_cons pe_int pa_nil))) pe_int))) pss_nil)
      (pss_one (ps_ret (pe_ix ix_list (pe_lst (pa_cons (pe_op op_add (pe_op op_pow pe_int pe_int) pe_int) (pa_cons (pe_op op_sub (pe_un un_neg (pe_op op_pow pe_int pe_int)) pe_int) (pa_cons (pe_op op_pow pe_int pe_int) (pa_cons (pe_op op_add (pe_un un_neg (pe_op op_pow pe_int pe_int)) pe_int) pa_nil))))) (pe_fn h_take (hr.mono (by decide)) (pa_cons (pv 0) (pa_cons pe_int pa_nil))) (fun _ _ => rfl))))))), ?_⟩
    have b0 := Bag.start wl
    refine ⟨_, rfl, b0.dip (by omega) (by decide) (by decide) fun wy H1 _ _ b1 => ?_⟩
    dsimp only [gName]
    refine ⟨_, rfl, _, _, rfl, rfl, _, rfl, ?_⟩
    refine ite2 (fun _ => ?_) fun _ => ?_
    · refine ⟨_, rfl, b1.dip (by omega) (by decide) (by decide) fun r H2 _ _ b2 => ⟨_, _, rfl, rfl, ?_⟩⟩
      exact k _ H2 b2.gr b2.well
    · refine ⟨_, rfl, rfl, _, rfl, ?_⟩
      refine ite2 (fun _ => ?_) fun _ => ?_
      · refine ⟨_, rfl, b1.dip (by omega) (by decide) (by decide) fun r H2 _ _ b2 => ⟨_, _, rfl, rfl, ?_⟩⟩
        exact k _ H2 b2.gr b2.well
      · have c3 : CPow 10 30 := ⟨by decide, by decide, by decide⟩
        have c12 : CPow 10 12 := ⟨by decide, by decide, by decide⟩
        refine ⟨_, _, rfl, rfl, c3, _, _, rfl, rfl, _, _, rfl, rfl, c3, _, rfl, _, _, rfl, rfl, _, _, rfl, rfl, c12, _, _, rfl, rfl, c12, _, rfl, _, _, rfl, rfl, (by show 4 ≤ sizeLine; decide), fun L nL => ?_⟩
        have b6 := b1.new (o := .lst [.int (10 ^ (30 : Int).toNat + 1), .int (-10 ^ (30 : Int).toNat - 1), .int (10 ^ (12 : Int).toNat), .int (-10 ^ (12 : Int).toNat + 1)]) nL
        refine ⟨_, rfl, b6.dip (by omega) (by decide) (by decide) fun r6 H7 r0 r1 b7 => ?_⟩
        have hx : ∃ x0 : Int, atI [V.int (10 ^ (30 : Int).toNat + 1), V.int (-10 ^ (30 : Int).toNat - 1), V.int (10 ^ (12 : Int).toNat), V.int (-10 ^ (12 : Int).toNat + 1)] r6 = some (.int x0) := by
          rcases (show r6 = 0 ∨ r6 = 1 ∨ r6 = 2 ∨ r6 = 3 by omega) with rfl | rfl | rfl | rfl <;> exact ⟨_, rfl⟩
        obtain ⟨x0, ex0⟩ := hx
        refine ⟨L, _, r6, _, rfl, rfl, SqL.of (b7.at List.mem_cons_self), ex0, ?_⟩
        exact k _ H7 b7.gr b7.well
theorem ok_flowL {f : Addr} {fd : FuncData} (F : Fun K "_law_flow" "_law_flow" s_flow f fd) (T : Blt mg) (h_number : Fn P w K mg base "_law_number" 2 ["_law_spring_here"] (Irr sp_numL)) : FnOk P w K mg base CX0 3 f fd ["_law_spring_here", "_law_rings_here", "_law_size"] sp_flowL := by
  refine F.ok sc_flow (fun vs H Q E h => ?_) (fun cdv A outer s H vs Q E hr h => ?_)
  · obtain ⟨_, _, _, _, _, rfl, _⟩ := h
    rfl
  · obtain ⟨a, lr, n, size, ru, rfl, wl, hn, sd, rk, s12, r12, k⟩ := h
    refine ⟨_, (pss_cons (ps_set (i := 3) sc_flow.nd rfl (Or.inr rfl) (pe_lc (own := [("_law_k", 6)]) (g := gName 6) (tt := tYes) rfl sc_flow.nd (pi_range1 rfl T.b_range (pa_cons (pv 2) pa_nil)) (blkOk_by (N := sc_flow_N) (sc := defScope s_flow) (by decide +kernel)) (fun _ _ _ _ _ => pg_name (i := 6) sc_flow.nd rfl (Or.inl rfl)) (fun _ _ _ _ _ => pts_nil) (fun _ _ _ _ _ => pe_int)))
      (pss_cons (ps_for PassesOwn.never rfl (pi_list (pv 1)) (pg_name (i := 4) sc_flow.nd rfl (Or.inr rfl)) (pss_cons (ps_set (i := 5) sc_flow.nd rfl (Or.inr rfl) (pe_fn h_number (hr.mono (by decide)) (pa_cons (pv 0) pa_nil))) (pss_one (ps_set (i := 3) sc_flow.nd rfl (Or.inr rfl) (pe_lc (own := [("_law_k", 6)]) (g := gName 6) (tt := tYes) rfl sc_flow.nd (pi_range1 rfl T.b_range (pa_cons (pv 2) pa_nil)) (blkOk_by (N := sc_flow_N) (sc := defScope s_flow) (by decide +kernel)) (fun _ _ _ _ _ => pg_name (i := 6) sc_flow.nd rfl (Or.inl rfl)) (fun _ _ _ _ _ => pts_nil) (fun _ _ _ _ _ => (pe_op op_add (pe_ix (ix_listK (K := K)) (pv 3) (pv 6) (fun _ _ => rfl)) (pe_op op_mul (pv 5) (pe_ix (ix_listK (K := K)) (pv 4) (pv 6) (fun _ _ => rfl))))))))))
      (pss_one (ps_ret (pv 3))))), ?_⟩
    refine ⟨_, rfl, (size : Int), rfl, by omega, by omega, fun D nD => ?_⟩
    refine lc_range (lo := 0) (n := size) (fun j H' => Same H H' ∧ H' D = some (oI (List.replicate j 0))) ⟨fun b o e => (upd_ne (ne_of_none e nD)).trans e, upd_same⟩ (fun j H' hj z => ?_) fun H1 z => ?_
    · obtain ⟨s1, eD⟩ := z
      refine ⟨rfl, ?_⟩
      have e0 : ∀ (σ : L2.St) (H : Hp) (R : Bool → Hp → Prop), R true H → tYes σ H R := fun _ _ _ r => r
      refine e0 _ _ _ ?_
      simp only [↓reduceIte]
      refine ⟨_, eD, ?_, fun b o e => (upd_ne (ne_of_none e nD)).trans (s1 _ _ e), ?_⟩
      · rw [List.length_map, List.length_replicate]
        exact Nat.lt_of_lt_of_le (show j < 100 by omega) (by decide)
      · rw [upd_same, List.replicate_succ', oI, List.map_append]
        rfl
    · obtain ⟨s1, eD⟩ := z
      have b1 := ((Bag.of wl sd).same s1).add (p := D) (wl.ne nD).symm eD
      dsimp only [gName]
      refine ⟨_, rfl, lr, rfl, ⟨_, SqL.of (b1.at (List.mem_cons_of_mem _ List.mem_cons_self))⟩, for_list (xs := rf ru) (fun i σ H' => ∃ (l : Addr) (fs : List Int) (o4 o5 o6 : Option V), σ = [some (.ref a), some (.ref lr), some (.int (size : Nat)), some (.ref l), o4, o5, o6] ∧ fs.length = size ∧ Bag H a (n + 2 * i) [] ((l, oI fs) :: (lr, .lst (rf ru)) :: ru.map fun r => (r.1, oI r.2)) H') ⟨D, _, _, _, _, rfl, List.length_replicate, b1⟩ (fun i σ H' _ z => by obtain ⟨_, _, _, _, _, _, _, b⟩ := z; exact SqL.of (b.at (List.mem_cons_of_mem _ List.mem_cons_self))) ?_ ?_⟩
      · rintro i v σ H2 hv ⟨l, fs, o4, o5, o6, rfl, fl, b2⟩
        obtain ⟨u, hu, rfl⟩ := rf_get hv
        have hum := List.mem_of_getElem? hu
        have il : i < 12 := by have := (List.getElem?_eq_some_iff.mp hu).1; omega
        obtain ⟨ul, us⟩ := rk u hum
        dsimp only [gName]
        refine ⟨_, rfl, irr ⟨a, n + 2 * i, rfl, b2.well, by omega, fun z H3 g3 w3 => ?_⟩⟩
        have b3 := b2.grow g3 w3
        dsimp only [gName]
        refine ⟨_, rfl, (size : Int), rfl, by omega, by omega, fun D2 nD2 => ?_⟩
        have ef := b3.at List.mem_cons_self
        have eu := b3.at (p := u.1) (o := oI u.2) (List.mem_cons_of_mem _ (List.mem_cons_of_mem _ (List.mem_map.mpr ⟨u, hum, rfl⟩)))
        refine lc_range (lo := 0) (n := size) (fun j H' => Same H3 H' ∧ H' D2 = some (oI ((List.range j).map fun k => ent fs k + z * ent u.2 k))) ⟨fun b o e => (upd_ne (ne_of_none e nD2)).trans e, upd_same⟩ (fun j H' hj y => ?_) fun H4 y => ?_
        · obtain ⟨s4, e4⟩ := y
          refine ⟨rfl, ?_⟩
          have e0 : ∀ (σ : L2.St) (H : Hp) (R : Bool → Hp → Prop), R true H → tYes σ H R := fun _ _ _ r => r
          refine e0 _ _ _ ?_
          simp only [↓reduceIte]
          have cm : CMul z (ent u.2 j) := .inr (by have := us j; omega)
          have p1 : atI (fs.map V.int) (0 + (j : Int)) = some (.int (ent fs j)) := by rw [Int.zero_add]; exact atI_ent (by omega)
          have p2 : atI (u.2.map V.int) (0 + (j : Int)) = some (.int (ent u.2 j)) := by rw [Int.zero_add]; exact atI_ent (by omega)
          refine ⟨_, rfl, _, rfl, l, _, _, _, rfl, rfl, SqL.of (s4 _ _ ef), p1, _, rfl, _, rfl, _, rfl, u.1, _, _, _, rfl, rfl, SqL.of (s4 _ _ eu), p2, _, _, rfl, rfl, cm, _, _, rfl, rfl, _, e4, ?_, fun b o e => (upd_ne (ne_of_none e nD2)).trans (s4 _ _ e), ?_⟩
          · rw [List.length_map, List.length_map, List.length_range]
            exact Nat.lt_of_lt_of_le (show j < 100 by omega) (by decide)
          · rw [upd_same, List.range_succ]
            simp only [oI, List.map_append]
            rfl
        · obtain ⟨s4, e4⟩ := y
          have b4 := ((b3.same s4).add (p := D2) (b3.well.ne nD2).symm e4).sub (F' := (D2, oI ((List.range size).map fun k => ent fs k + z * ent u.2 k)) :: (lr, .lst (rf ru)) :: ru.map fun r => (r.1, oI r.2)) fun p hp => by
            rcases List.mem_cons.mp hp with q | q
            · exact List.mem_cons.mpr (.inl q)
            · exact List.mem_cons_of_mem _ (List.mem_cons_of_mem _ q)
          exact ⟨D2, _, _, _, _, rfl, by rw [List.length_map, List.length_range], b4⟩
      · rintro σ H2 ⟨l, fs, o4, o5, o6, rfl, fl, b2⟩
        rw [rf_len] at b2
        obtain ⟨q1, q2, _⟩ := b2.f _ List.mem_cons_self
        exact ⟨_, rfl, k l fs H2 b2.gr (b2.well.mono (by omega)) q1 q2 fl⟩
theorem ok_seenL {f : Addr} {fd : FuncData} (F : Fun K "_law_seen" "_law_seen" s_seen f fd) (h_take : Fn P w K mg base "_law_take" 1 ["_law_spring_here", "_law_many"] (Irr sp_dip)) (h_number : Fn P w K mg base "_law_number" 2 ["_law_spring_here"] (Irr sp_numL)) : FnOk P w K mg base CX0 3 f fd ["_law_spring_here", "_law_plan_here", "_law_flow_here"] sp_seenL := by
  refine F.ok sc_seen (fun vs H Q E h => ?_) (fun cdv A outer s H vs Q E hr h => ?_)
  · obtain ⟨_, _, _, _, _, _, _, _, _, _, _, rfl, _⟩ := h
    rfl
  · obtain ⟨a, l, lp, lq, lg, lf, n, pl, pu, gu, fs, rfl, wl, hn, sd, f12, g12, gf, k⟩ := h
    refine ⟨_, (pss_cons (ps_set (i := 3) sc_seen.nd rfl (Or.inl rfl) (pe_lst pa_nil))
      (pss_cons (ps_for PassesOwn.never rfl (pi_list (pe_ix ix_list (pv 1) pe_int (fun _ _ => rfl))) (pg_name (i := 4) sc_seen.nd rfl (Or.inl rfl)) (pss_cons (ps_set (i := 5) sc_seen.nd rfl (Or.inl rfl) (pe_fn h_take (hr.mono (by decide)) (pa_cons (pv 0) (pa_cons pe_int pa_nil)))) (pss_one (ps_if (PW.pt (pw_and (pt_cmpR op_eq (pv 5) pe_int (nomark _)) (pw_and1 (pt_not (pt_val (pe_ix ix_tup (pv 4) pe_int (fun _ _ => rfl))))))) (pss_one (ps_expr (pe_bm PySem.F.plainAttrs_list PySem.F.slot_list_append PySem.F.type_list_append mt_append (pv 3) (pa_cons pe_non pa_nil)))) (pss_one (ps_expr (pe_bm PySem.F.plainAttrs_list PySem.F.slot_list_append PySem.F.type_list_append mt_append (pv 3) (pa_cons (pe_ifExp (pt_cmpR op_eq (pv 5) pe_int (nomark _)) (pe_fn h_number (hr.mono (by decide)) (pa_cons (pv 0) pa_nil)) (pe_ix ix_list (pv 2) (pe_ix ix_tup (pv 4) pe_int (fun _ _ => rfl)) (fun _ _ => rfl))) pa_nil))))))))
      (pss_one (ps_ret (pv 3))))), ?_⟩
    refine ⟨by decide, fun l2 nl2 => ?_⟩
    have b0 := (Bag.of wl sd).newM (o := .lst []) nl2
    generalize upd H l2 (.lst []) = H1 at b0 ⊢
    have b0 : Bag H a n [(l2, .lst (vR []))] ((lf, oI fs) :: lM l lp lq lg pl pu gu) H1 := b0
    have ekl : (l, HO.lst [.ref lp, .ref lq, .ref lg]) ∈ (lf, oI fs) :: lM l lp lq lg pl pu gu := List.mem_cons_of_mem _ List.mem_cons_self
    have ekg : (lg, HO.lst (rf gu)) ∈ (lf, oI fs) :: lM l lp lq lg pl pu gu := List.mem_cons_of_mem _ (List.mem_cons_of_mem _ (List.mem_cons_of_mem _ (List.mem_cons_of_mem _ List.mem_cons_self)))
    have eku : ∀ u ∈ gu, (u.1, oG u.2) ∈ (lf, oI fs) :: lM l lp lq lg pl pu gu := fun u hu => List.mem_cons_of_mem _ (List.mem_cons_of_mem _ (List.mem_cons_of_mem _ (List.mem_cons_of_mem _ (List.mem_cons_of_mem _ (List.mem_append_right _ (List.mem_map.mpr ⟨u, hu, rfl⟩))))))
    dsimp only [gName]
    refine ⟨_, rfl, l, _, 2, _, rfl, rfl, SqL.of (b0.at ekl), rfl, lg, rfl, ⟨_, SqL.of (b0.at ekg)⟩, for_list (xs := rf gu) (fun i σ H' => ∃ (rs : List (Option Int)) (o4 o5 : Option V), σ = [some (.ref a), some (.ref l), some (.ref lf), some (.ref l2), o4, o5] ∧ rs.length = i ∧ (∀ (k : Nat) g, k < i → gu[k]? = some g → g.2.2.2 = true → rO rs k ≠ none) ∧ Bag H a (n + 3 * i) [(l2, .lst (vR rs))] ((lf, oI fs) :: lM l lp lq lg pl pu gu) H') ⟨[], _, _, rfl, rfl, fun k g h => absurd h (Nat.not_lt_zero _), b0⟩ (fun i σ H' _ z => by obtain ⟨_, _, _, _, _, _, b⟩ := z; exact SqL.of (b.at ekg)) ?_ ?_⟩
    · rintro i v σ H2 hv ⟨rs, o4, o5, rfl, rl, rz, b2⟩
      obtain ⟨u, hu, rfl⟩ := rf_get hv
      have hum := List.mem_of_getElem? hu
      have il : i < 12 := by have := (List.getElem?_eq_some_iff.mp hu).1; omega
      dsimp only [gName]
      refine ⟨_, rfl, b2.dip (by omega) (by decide) (by decide) fun wy H3 _ _ b3 => ?_⟩
      have sz : (vR rs).length < sizeLine := by
        rw [vR, List.length_map]
        exact Nat.lt_of_lt_of_le (show rs.length < 100 by omega) (by decide)
      have fin : ∀ (o : Option Int) (H4 : Hp) (o5 : Option V), (u.2.2.2 = true → o ≠ none) → Bag H a (n + 3 * i + 1 + 2) [(l2, .lst (vR rs))] ((lf, oI fs) :: lM l lp lq lg pl pu gu) H4 → ∃ (rs2 : List (Option Int)) (q4 q5 : Option V), [some (V.ref a), some (V.ref l), some (V.ref lf), some (V.ref l2), some (V.ref u.1), o5] = [some (.ref a), some (.ref l), some (.ref lf), some (.ref l2), q4, q5] ∧ rs2.length = i + 1 ∧ (∀ (k : Nat) g, k < i + 1 → gu[k]? = some g → g.2.2.2 = true → rO rs2 k ≠ none) ∧ Bag H a (n + 3 * (i + 1)) [(l2, .lst (vR rs2))] ((lf, oI fs) :: lM l lp lq lg pl pu gu) (upd H4 l2 (.lst (vR rs ++ [vO o]))) := fun o H4 o5 ho b4 => by
        refine ⟨rs ++ [o], _, _, rfl, by rw [List.length_append, rl]; rfl, fun k g hk hg hz => ?_, ?_⟩
        · by_cases e : k = i
          · subst e
            rw [hu] at hg
            obtain rfl := Option.some.inj hg
            rw [rO, List.getD_eq_getElem?_getD, List.getElem?_append_right (by omega), rl, Nat.sub_self]
            exact ho hz
          · rw [rO, List.getD_eq_getElem?_getD, List.getElem?_append_left (by omega), ← List.getD_eq_getElem?_getD]
            exact rz k g (by omega) hg hz
        · have := (b4.put0 (o' := .lst (vR (rs ++ [o])))).wm (m := n + 3 * (i + 1)) (by omega)
          have e : vR (rs ++ [o]) = vR rs ++ [vO o] := by rw [vR, List.map_append]; rfl
          rw [e] at this ⊢
          exact this
      have e2 := b3.am (p := l2) List.mem_cons_self
      have eg := b3.at (eku u hum)
      have ef := b3.at (p := lf) (o := oI fs) List.mem_cons_self
      have pf : atI (fs.map V.int) ((u.2.2.1 : Nat) : Int) = some (.int (ent fs u.2.2.1)) := atI_ent (gf u hum)
      refine ⟨_, rfl, rfl, _, rfl, ?_⟩
      by_cases w0 : wy = 0
      · rw [decide_eq_true (show V.int wy = V.int 0 by rw [w0])]
        refine iteT ⟨_, rfl, u.1, _, 2, .bl u.2.2.2, rfl, rfl, SqT.of eg, rfl, u.2.2.2, rfl, ?_⟩
        cases hz : u.2.2.2 with
        | false =>
          refine iteT ⟨_, rfl, .inl ⟨rfl, _, SqL.of e2⟩, l2, _, _, rfl, rfl, e2, sz, ?_⟩
          exact fin none H3 _ (fun h => by rw [hz] at h; cases h) (b3.wm (by omega))
        | true =>
          refine iteF ⟨_, rfl, .inl ⟨rfl, _, SqL.of e2⟩, _, rfl, rfl, _, rfl, ?_⟩
          rw [decide_eq_false (show ¬ V.int wy = V.int 1 from fun e => by injection e with e; omega)]
          refine iteF ⟨_, rfl, _, rfl, u.1, _, 1, .int (u.2.2.1 : Nat), rfl, rfl, SqT.of eg, rfl, lf, _, _, _, rfl, rfl, SqL.of ef, pf, l2, _, _, rfl, rfl, e2, sz, ?_⟩
          exact fin (some (ent fs u.2.2.1)) H3 _ (fun _ => nofun) (b3.wm (by omega))
      · rw [decide_eq_false (show ¬ V.int wy = V.int 0 from fun e => w0 (by injection e))]
        refine iteF (iteF ⟨_, rfl, .inl ⟨rfl, _, SqL.of e2⟩, _, rfl, rfl, _, rfl, ?_⟩)
        by_cases w1 : wy = 1
        · rw [decide_eq_true (show V.int wy = V.int 1 by rw [w1])]
          refine iteT ⟨_, rfl, irr ⟨a, _, rfl, b3.well, by omega, fun z H4 g4 w4 => ?_⟩⟩
          have b4 := b3.grow g4 w4
          have e4 := b4.am (p := l2) List.mem_cons_self
          exact ⟨l2, _, _, rfl, rfl, e4, sz, fin (some z) H4 _ (fun _ => nofun) b4⟩
        · rw [decide_eq_false (show ¬ V.int wy = V.int 1 from fun e => w1 (by injection e))]
          refine iteF ⟨_, rfl, _, rfl, u.1, _, 1, .int (u.2.2.1 : Nat), rfl, rfl, SqT.of eg, rfl, lf, _, _, _, rfl, rfl, SqL.of ef, pf, l2, _, _, rfl, rfl, e2, sz, ?_⟩
          exact fin (some (ent fs u.2.2.1)) H3 _ (fun _ => nofun) (b3.wm (by omega))
    · rintro σ H2 ⟨rs, o4, o5, rfl, rl, rz, b2⟩
      rw [rf_len] at rl
      have e := b2.am List.mem_cons_self
      obtain ⟨_, ne, _⟩ := b2.m _ List.mem_cons_self
      rw [rf_len] at rz b2
      exact ⟨_, rfl, k l2 rs H2 b2.gr (b2.well.mono (by omega)) ne e rl fun k g hg hz => rz k g (List.getElem?_eq_some_iff.mp hg).1 hg hz⟩
end
end RV
/-! equations of meters -/
namespace RV
open PySem L2 TL
section
variable {P : Program} {w : World} {K : PySem.W.Frag} {mg : Str → Option Value} {base : Heap}
theorem ok_factsL {f : Addr} {fd : FuncData} (F : Fun K "_law_facts" "_law_facts" s_facts f fd) (b_list : mg "list" = none) (b_zip : mg "zip" = none) : FnOk P w K mg base CX0 1 f fd ["_law_plan_here", "_law_rings_here", "_law_shown", "_law_out"] (sp_factsL K) := by
  refine F.ok sc_facts (fun vs H Q E h => ?_) (fun cdv A outer s H vs Q E hr h => ?_)
  · obtain ⟨_, _, _, _, _, _, _, _, _, rfl, _⟩ := h
    rfl
  · obtain ⟨l, lr, t, lo, gu, ru, rs, out, m, rfl, fa, k⟩ := h
    refine ⟨_, (pss_cons (ps_set (i := 4) sc_facts.nd rfl (Or.inl rfl) (pe_lst pa_nil))
      (pss_cons (ps_for PassesOwn.never rfl (pi_list (pe_lzip rfl (by rfl) b_list (by rfl) b_zip (pa_cons (pe_ix ix_list (pv 0) pe_int (fun _ _ => rfl)) (pa_cons (pv 2) pa_nil)))) (pg_tup (by rfl) (pgs_cons (pg_name (i := 5) sc_facts.nd rfl (Or.inr rfl)) (pgs_cons (pg_name (i := 6) sc_facts.nd rfl (Or.inl rfl)) pgs_nil))) (pss_one (ps_if (PW.pt (pw_and (pt_cmpR op_notN (pv 6) pe_non (nomark _)) (pw_and1 (pt_cmpR op_notIn_seq (pe_ix ix_tup (pv 5) pe_int (fun _ _ => rfl)) (pv 3) (by rfl))))) (pss_one (ps_expr (pe_bm PySem.F.plainAttrs_list PySem.F.slot_list_append PySem.F.type_list_append mt_append (pv 4) (pa_cons (pe_op op_cat (pe_lc (own := [("_law_ring", 7)]) (g := gName 7) (tt := tYes) rfl sc_facts.nd (pi_list (pv 1)) (blkOk_by (N := sc_facts_N) (sc := defScope s_facts) (by decide +kernel)) (fun _ _ _ _ _ => pg_name (i := 7) sc_facts.nd rfl (Or.inl rfl)) (fun _ _ _ _ _ => pts_nil) (fun _ _ _ _ _ => (pe_ix (ix_listK (K := K)) (pv 7) (pe_ix (ix_tupK (K := K)) (pv 5) pe_int (fun _ _ => rfl)) (fun _ _ => rfl)))) (pe_lst (pa_cons (pe_un un_neg (pv 6)) (pa_cons pe_int pa_nil)))) pa_nil)))) pss_nil)))
      (pss_one (ps_ret (pv 4))))), ?_⟩
    refine ⟨by decide, fun lf nlf => ?_⟩
    have s0 : Same H (upd H lf (.lst [])) := fun b o e => (upd_ne (ne_of_none e nlf)).trans e
    have e0 : upd H lf (.lst []) lf = some (.lst (rf ([] : List RWU))) := upd_same
    revert s0 e0
    generalize upd H lf (.lst []) = H1
    intro s0 e0
    have fa1 := fa.ext K s0
    obtain ⟨lp, lq, lg, e1, e2⟩ := id fa1.ex
    have gr := fa.rl
    dsimp only [gName]
    refine ⟨_, rfl, l, _, 2, _, rfl, rfl, SqL.of e1, rfl, _, rfl, lg, t, rf gu, vR rs, rfl, SqL.of e2, fa1.s, by rw [rf_len, vR, List.length_map, gr], fun lz ts H2 tl elz ets s2 _ nlz nts => ?_⟩
    have s02 := s0.trans s2
    have e02 := s2 _ _ e0
    have nlfH : H lf = none := nlf
    have nzf : lz ≠ lf := fun e => by rw [e, e0] at nlz; cases nlz
    have fa2 := fa1.ext K s2
    have grl : gu.length ≤ 5 := fa.g5
    rw [rf_len] at tl
    have zA : ∀ {H' : Hp}, (∀ b o, b ≠ lf → H2 b = some o → H' b = some o) → SqL K H' lz (ts.map V.ref) := fun sb => SqL.of (sb _ _ nzf elz)
    refine ⟨lz, rfl, ⟨_, SqL.of elz⟩, for_list (xs := ts.map V.ref) (fun i σ H' => ∃ (fu : List RWU) (o5 o6 o7 : Option V), σ = [some (.ref l), some (.ref lr), some (.ref t), some (.ref lo), some (.ref lf), o5, o6, o7] ∧ (∀ b o, b ≠ lf → H2 b = some o → H' b = some o) ∧ H' lf = some (.lst (rf fu)) ∧ (∀ r ∈ fu, H' r.1 = some (oI r.2)) ∧ sn fu = (List.range i).filterMap (factO (sn gu) (sn ru) rs out)) ⟨[], _, _, _, rfl, fun _ _ _ e => e, e02, fun _ h => (nomatch h), rfl⟩ (fun i σ H' _ z => by obtain ⟨_, _, _, _, _, sb, _⟩ := z; exact zA sb) ?_ ?_⟩
    · rintro i v σ H3 hv ⟨fu, o5, o6, o7, rfl, sb3, e3, xf3, es3⟩
      rw [List.getElem?_map] at hv
      cases ht : ts[i]? with
      | none => rw [ht] at hv; cases hv
      | some T0 =>
        rw [ht] at hv
        obtain rfl : V.ref T0 = v := Option.some.inj hv
        obtain ⟨x, y, hx, hy, eT⟩ := ets i T0 ht
        obtain ⟨u, hu, rfl⟩ := rf_get hx
        have ey : y = vO (rO rs i) := by
          rw [vR, List.getElem?_map] at hy
          cases z : rs[i]? with
          | none => rw [z] at hy; cases hy
          | some c =>
            rw [z] at hy
            rw [rO, List.getD, z]
            exact (Option.some.inj hy).symm
        subst ey
        have hum := List.mem_of_getElem? hu
        have hi : i < gu.length := (List.getElem?_eq_some_iff.mp hu).1
        have hgd : (sn gu).getD i ("", 0, false) = u.2 := by rw [List.getD_eq_getElem?_getD, sn_get hu]; rfl
        have fs : Same H H3 := fun b o e => sb3 _ _ (fun z => by rw [z, nlfH] at e; cases e) (s02 _ _ e)
        have fa3 := fa.ext K fs
        obtain ⟨eg, gm⟩ := fa3.g u hum
        have eT3 := sb3 _ _ (fun z => by rw [z, e02] at eT; cases eT) eT
        have enx : (List.range (i + 1)).filterMap (factO (sn gu) (sn ru) rs out) = (List.range i).filterMap (factO (sn gu) (sn ru) rs out) ++ (factO (sn gu) (sn ru) rs out i).toList := by
          rw [List.range_succ, List.filterMap_append]
          congr 1
        refine ⟨T0, _, rfl, SqT.of eT3, rfl, _, _, rfl, _, _, rfl, rfl, ?_⟩
        refine ⟨_, rfl, rfl, _, rfl, ?_⟩
        rw [vO_non]
        have skip : factO (sn gu) (sn ru) rs out i = none → ∃ (fu2 : List RWU) (q5 q6 q7 : Option V), [some (V.ref l), some (V.ref lr), some (V.ref t), some (V.ref lo), some (V.ref lf), some (V.ref u.1), some (vO (rO rs i)), o7] = [some (.ref l), some (.ref lr), some (.ref t), some (.ref lo), some (.ref lf), q5, q6, q7] ∧ (∀ b o, b ≠ lf → H2 b = some o → H3 b = some o) ∧ H3 lf = some (.lst (rf fu2)) ∧ (∀ r ∈ fu2, H3 r.1 = some (oI r.2)) ∧ sn fu2 = (List.range (i + 1)).filterMap (factO (sn gu) (sn ru) rs out) := fun q =>
          ⟨fu, _, _, _, rfl, sb3, e3, xf3, by rw [es3, enx, q]; simp⟩
        cases hro : rO rs i with
        | none =>
          rw [hro] at skip
          exact iteF (skip (by rw [factO, hro]))
        | some c =>
          rw [hro] at skip
          refine iteT ⟨_, rfl, u.1, _, 0, .str u.2.1, rfl, rfl, SqT.of eg, rfl, _, rfl, lo, out.map V.str, rfl, fa3.o, rfl, flat_str _, _, rfl, ?_⟩
          rw [inV_str]
          by_cases hin : u.2.1 ∈ out
          · rw [decide_eq_true hin]
            exact iteF (skip (by rw [factO, hro]; dsimp only; rw [hgd, if_pos hin]))
          · rw [decide_eq_false hin]
            have fo : factO (sn gu) (sn ru) rs out i = some (factRow (sn ru) u.2.2.1 c) := by rw [factO, hro]; dsimp only; rw [hgd, if_neg hin]
            refine iteT ⟨_, rfl, .inl ⟨rfl, _, SqL.of e3⟩, _, rfl, lr, rfl, ⟨_, SqL.of fa3.r⟩, fun D nD => ?_⟩
            refine lc_to (xs := rf ru) (((sn ru).map fun r => ent r u.2.2.1).map V.int) (by rw [List.length_map, List.length_map, sn_len, rf_len]) walk_list nD (by have := fa.r5; rw [rf_len]; omega) (fun H' s' => SqL.of (s' _ _ fa3.r)) (fun _ => rfl) (fun j v y hv hy H4 s4 R kR => ?_) fun H4 s4 hD => ?_
            · obtain ⟨r, hr2, rfl⟩ := rf_get hv
              rw [List.getElem?_map, List.getElem?_map, sn_get hr2] at hy
              obtain rfl : V.int (ent r.2 u.2.2.1) = y := Option.some.inj hy
              obtain ⟨er, rw1, _⟩ := fa3.w r (List.mem_of_getElem? hr2)
              refine ⟨_, rfl, _, rfl, u.1, _, 1, .int (u.2.2.1 : Nat), rfl, rfl, SqT.of (s4 _ _ eg), rfl, r.1, _, _, _, rfl, rfl, SqL.of (s4 _ _ er), atI_ent (by omega), kR H4 (Same.refl _)⟩
            · refine ⟨_, rfl, _, rfl, (by show 2 ≤ sizeLine; decide), fun L2 nL2 => ⟨D, L2, _, _, rfl, rfl, (upd_ne (ne_of_none hD nL2)).trans hD, upd_same, ?_, fun p np => ?_⟩⟩
              · have := fa.r5
                rw [List.length_map, List.length_map, sn_len]
                exact szn (show ru.length + 2 ≤ 1000 by omega)
              · have erow : HO.lst (((sn ru).map fun r => ent r u.2.2.1).map V.int ++ [V.int (-c), V.int 0]) = oI (factRow (sn ru) u.2.2.1 c) := by rw [oI, factRow, List.map_append]; rfl
                have fin : ∀ H5 : Hp, Same H4 H5 → H5 p = some (oI (factRow (sn ru) u.2.2.1 c)) → rAppend (V.ref lf) [V.ref p] H5 fun _ H6 => ∃ (fu2 : List RWU) (q5 q6 q7 : Option V), [some (V.ref l), some (V.ref lr), some (V.ref t), some (V.ref lo), some (V.ref lf), some (V.ref u.1), some (V.int c), o7] = [some (.ref l), some (.ref lr), some (.ref t), some (.ref lo), some (.ref lf), q5, q6, q7] ∧ (∀ b o, b ≠ lf → H2 b = some o → H6 b = some o) ∧ H6 lf = some (.lst (rf fu2)) ∧ (∀ r ∈ fu2, H6 r.1 = some (oI r.2)) ∧ sn fu2 = (List.range (i + 1)).filterMap (factO (sn gu) (sn ru) rs out) := fun H5 s5 ep => by
                  have s35 := s4.trans s5
                  have e5 := s35 _ _ e3
                  have pl : p ≠ lf := fun e => by
                    rw [e] at np
                    have := (upd_ne (o := .lst [.int (-c), .int 0]) (ne_of_none (s4 _ _ e3) nL2)).trans (s4 _ _ e3)
                    rw [this] at np
                    cases np
                  refine ⟨lf, rf fu, _, rfl, rfl, e5, ?_, fu ++ [(p, factRow (sn ru) u.2.2.1 c)], _, _, _, rfl, fun b o q e => (upd_ne q).trans (s35 _ _ (sb3 b o q e)), ?_, fun r hr2 => ?_, ?_⟩
                  · rw [rf_len, ← sn_len, es3]
                    have := List.length_filterMap_le (factO (sn gu) (sn ru) rs out) (List.range i)
                    rw [List.length_range] at this
                    exact Nat.lt_of_le_of_lt this (Nat.lt_of_lt_of_le (show i < 12 by omega) (by decide))
                  · rw [upd_same, rf, rf, List.map_append]
                    rfl
                  · rcases List.mem_append.mp hr2 with z | z
                    · have tr := xf3 r z
                      have nr : r.1 ≠ lf := fun q => by
                        rw [q, e3] at tr
                        have e : rf fu = r.2.map V.int := HO.lst.inj (Option.some.inj tr)
                        have hm : V.ref r.1 ∈ rf fu := List.mem_map.mpr ⟨r, z, rfl⟩
                        rw [e] at hm
                        obtain ⟨_, _, e2⟩ := List.mem_map.mp hm
                        cases e2
                      rw [upd_ne nr]
                      exact s35 _ _ tr
                    · rw [List.mem_singleton.mp z, upd_ne pl]
                      exact ep
                  · rw [sn, List.map_append, ← sn, es3, enx, fo]
                    rfl
                exact fin _ (fun b o e => (upd_ne (ne_of_none ((upd_ne (o := .lst [.int (-c), .int 0]) (ne_of_none e nL2)).trans e) np)).trans ((upd_ne (ne_of_none e nL2)).trans e)) (upd_same.trans (congrArg some erow))
    · rintro σ H3 ⟨fu, o5, o6, o7, rfl, sb3, e3, xf3, es3⟩
      rw [List.length_map, tl] at es3
      exact ⟨_, rfl, k lf fu H3 (fun b o e => sb3 _ _ (fun z => by rw [z, nlfH] at e; cases e) (s02 _ _ e)) e3 xf3 (by rw [es3, factsF, sn_len])⟩
theorem ok_possL {f : Addr} {fd : FuncData} (F : Fun K "_law_possible" "_law_possible" s_possible f fd) (h_facts : Fn P w K mg base "_law_facts" 1 ["_law_plan_here", "_law_rings_here", "_law_shown", "_law_out"] (Irr (sp_factsL K))) (h_solved : Fn P w K mg base "_law_solved" 2 ["_law_rows_here"] (Irr sp_solv)) : FnOk P w K mg base CX0 3 f fd ["_law_plan_here", "_law_rings_here", "_law_shown", "_law_out"] (sp_possL K) := by
  refine F.ok sc_possible (fun vs H Q E h => ?_) (fun cdv A outer s H vs Q E hr h => ?_)
  · obtain ⟨_, _, _, _, _, _, _, _, _, rfl, _⟩ := h
    rfl
  · obtain ⟨l, lr, t, lo, gu, ru, rs, out, m, rfl, fa, k⟩ := h
    refine ⟨_, (pss_one (ps_ret (pe_cmpR op_notN (pe_fn h_solved (hr.mono (by decide)) (pa_cons (pe_fn h_facts (hr.mono (by decide)) (pa_cons (pv 0) (pa_cons (pv 1) (pa_cons (pv 2) (pa_cons (pv 3) pa_nil))))) pa_nil)) pe_non (nomark _)))), ?_⟩
    refine ⟨_, rfl, _, rfl, _, rfl, _, rfl, irr ⟨l, lr, t, lo, gu, ru, rs, out, m, rfl, fa, fun lf fu H1 s1 e1 x1 es => ?_⟩⟩
    have g5 := fa.g5
    have r12 := fa.r5
    have rl : (sn ru).length = ru.length := sn_len ..
    have fl : fu.length ≤ 5 := by
      rw [← sn_len, es]
      have := List.length_filterMap_le (factO (sn gu) (sn ru) rs out) (List.range (sn gu).length)
      rw [List.length_range, sn_len] at this
      rw [factsF, sn_len]
      omega
    refine irr ⟨lf, ru.length, fu, rfl, e1, fun r hr2 => ⟨x1 r hr2, ?_⟩, by omega, by omega, fun H2 s2 => ⟨fun hn => ?_, fun x hs => ?_⟩⟩
    · have hm : r.2 ∈ factsF (sn gu) (sn ru) rs out := by rw [← es]; exact List.mem_map.mpr ⟨r, hr2, rfl⟩
      obtain ⟨i, _, v, _, _, e⟩ := facts_mem.mp hm
      rw [e]
      refine ⟨by rw [factRow_len, rl], fun k hk => ?_⟩
      rw [← rl] at hk
      rw [(factRow_ent (rws := sn ru)).1 k hk]
      obtain ⟨q, hq⟩ : ∃ q, ru[k]? = some q := ⟨_, List.getElem?_eq_getElem (by rw [← rl]; exact hk)⟩
      rw [List.getD_eq_getElem?_getD, sn_get hq]
      exact (fa.w q (List.mem_of_getElem? hq)).2.2 _
    · rw [es] at hn
      have := k H2 (s1.trans s2)
      rw [hn] at this
      exact ⟨rfl, this⟩
    · rw [es] at hs
      have := k H2 (s1.trans s2)
      cases e : solveR ru.length (factsF (sn gu) (sn ru) rs out) [] with
      | none => exact absurd e hs
      | some o =>
        rw [e] at this
        exact ⟨rfl, this⟩
theorem ok_suspL {f : Addr} {fd : FuncData} (F : Fun K "_law_suspects" "_law_suspects" s_suspects f fd) (b_list : mg "list" = none) (b_zip : mg "zip" = none) : FnOk P w K mg base CX0 1 f fd ["_law_plan_here", "_law_shown"] (sp_suspL K) := by
  refine F.ok sc_suspects (fun vs H Q E h => ?_) (fun cdv A outer s H vs Q E hr h => ?_)
  · obtain ⟨_, _, _, _, rfl, _⟩ := h
    rfl
  · obtain ⟨l, t, gu, rs, rfl, ⟨lp, lq, lg, e1, e2⟩, eg, ht, rl, g12, k⟩ := h
    refine ⟨_, (pss_one (ps_ret (pe_lc (own := [("_law_one", 2), ("_law_value", 3)]) (g := gPr K 2 3) rfl sc_suspects.nd (pi_list (pe_lzip rfl (by rfl) b_list (by rfl) b_zip (pa_cons (pe_ix ix_list (pv 0) pe_int (fun _ _ => rfl)) (pa_cons (pv 1) pa_nil)))) (blkOk_by (N := sc_suspects_N) (sc := defScope s_suspects) (by decide +kernel)) (fun _ _ _ _ _ => pg_tupK (by rfl) (pgs_cons (pg_name (i := 2) sc_suspects.nd rfl (Or.inl rfl)) (pgs_cons (pg_name (i := 3) sc_suspects.nd rfl (Or.inl rfl)) pgs_nil))) (fun _ _ _ _ _ => pts_one (PW.pt (pw_and (pt_cmpR op_notN (pv 3) pe_non (nomark _)) (pw_and1 (pt_not (pt_val (pe_ix (ix_tupK (K := K)) (pv 2) pe_int (fun _ _ => rfl)))))))) (fun _ _ _ _ _ => (pe_ix (ix_tupK (K := K)) (pv 2) pe_int (fun _ _ => rfl)))))), ?_⟩
    refine ⟨_, rfl, l, _, 2, _, rfl, rfl, SqL.of e1, rfl, _, rfl, lg, t, rf gu, vR rs, rfl, SqL.of e2, ht, by rw [rf_len, vR, List.length_map, rl], fun lz ts H2 tl elz ets s2 _ nlz nts => ⟨lz, rfl, ⟨_, SqL.of elz⟩, fun D nD => ?_⟩⟩
    rw [rf_len] at tl
    have s2 : Same H H2 := s2
    refine lc_list (xs := ts.map V.ref) (fun j H' => Same H2 H' ∧ H' D = some (.lst ((((List.range j).filter fun i => (rO rs i).isSome && !((sn gu).getD i ("", 0, false)).2.2).map fun i => ((sn gu).getD i ("", 0, false)).1).map V.str))) ⟨fun b o e => (upd_ne (ne_of_none e nD)).trans e, upd_same⟩ (fun j H' _ z => SqL.of (z.1 _ _ elz)) ?_ ?_
    · rintro i v H3 hv ⟨s3, e3⟩
      rw [List.getElem?_map] at hv
      cases hts : ts[i]? with
      | none => rw [hts] at hv; cases hv
      | some T0 =>
        rw [hts] at hv
        obtain rfl : V.ref T0 = v := Option.some.inj hv
        obtain ⟨x, y, hx, hy, eT⟩ := ets i T0 hts
        obtain ⟨u, hu, rfl⟩ := rf_get hx
        have ey : y = vO (rO rs i) := by
          rw [vR, List.getElem?_map] at hy
          cases z : rs[i]? with
          | none => rw [z] at hy; cases hy
          | some c =>
            rw [z] at hy
            rw [rO, List.getD, z]
            exact (Option.some.inj hy).symm
        subst ey
        have hi : i < gu.length := (List.getElem?_eq_some_iff.mp hu).1
        have hgd : (sn gu).getD i ("", 0, false) = u.2 := by rw [List.getD_eq_getElem?_getD, sn_get hu]; rfl
        have egu := (s2.trans s3) _ _ (eg u (List.mem_of_getElem? hu))
        have len : ((((List.range i).filter fun i => (rO rs i).isSome && !((sn gu).getD i ("", 0, false)).2.2).map fun i => ((sn gu).getD i ("", 0, false)).1).map V.str).length < sizeLine := by
          rw [List.length_map, List.length_map]
          have := List.length_filter_le (fun i => (rO rs i).isSome && !((sn gu).getD i ("", 0, false)).2.2) (List.range i)
          rw [List.length_range] at this
          exact Nat.lt_of_le_of_lt this (Nat.lt_of_lt_of_le (show i < 12 by omega) (by decide))
        have et : (List.range (i + 1)).filter (fun i => (rO rs i).isSome && !((sn gu).getD i ("", 0, false)).2.2) = (List.range i).filter (fun i => (rO rs i).isSome && !((sn gu).getD i ("", 0, false)).2.2) ++ if (rO rs i).isSome && !u.2.2.2 then [i] else [] := by
          rw [List.range_succ, List.filter_append]
          congr 1
          rw [← hgd]
          exact List.filter_cons
        refine ⟨T0, _, rfl, SqT.of (s3 _ _ eT), rfl, _, _, rfl, _, _, rfl, ⟨rfl, ⟨rfl, ?_⟩⟩⟩
        refine ⟨_, rfl, rfl, _, rfl, ?_⟩
        rw [vO_non]
        cases hro : rO rs i with
        | none =>
          rw [hro] at et
          refine iteF ⟨s3, ?_⟩
          rw [et]
          simpa using e3
        | some c =>
          rw [hro] at et
          refine iteT ⟨_, rfl, u.1, _, 2, .bl u.2.2.2, rfl, rfl, SqT.of egu, rfl, u.2.2.2, rfl, ?_⟩
          cases hz : u.2.2.2 with
          | true =>
            rw [hz] at et
            refine iteF ⟨s3, ?_⟩
            rw [et]
            simpa using e3
          | false =>
            rw [hz] at et
            refine iteT ⟨_, rfl, u.1, _, 0, .str u.2.1, rfl, rfl, SqT.of egu, rfl, _, e3, len, fun b o e => (upd_ne (ne_of_none e nD)).trans (s3 _ _ e), ?_⟩
            rw [upd_same, et, if_pos (show ((some c).isSome && !false) = true from rfl), List.map_append, List.map_append, ← hgd]
            rfl
    · rintro H3 ⟨s3, e3⟩
      rw [List.length_map, tl] at e3
      have nDH : H D = none := by
        cases e : H D with
        | none => rfl
        | some o => rw [s2 _ _ e] at nD; cases nD
      exact k D H3 (s2.trans s3) nDH (by rw [e3, suspG, sn_len])
end
end RV
/-! sets of so many names, as the law makes them -/
namespace RV
open PySem L2 TL
section
variable {P : Program} {w : World} {K : PySem.W.Frag} {mg : Str → Option Value} {base : Heap}
theorem ok_setsL {f : Addr} {fd : FuncData} (F : Fun K "_law_sets" "_law_sets" s_sets f fd) (T : Blt mg) (T2 : Blt2 mg) : FnOk P w K mg base CX0 1 f fd ["_law_items_here", "_law_size"] (sp_setsL K) := by
  refine F.ok sc_sets (fun vs H Q E h => ?_) (fun cdv A outer s H vs Q E hr h => ?_)
  · obtain ⟨_, _, _, rfl, _⟩ := h
    rfl
  · obtain ⟨li, items0, size, rfl, eI, nd, i5, s7, k⟩ := h
    refine ⟨_, (pss_cons (ps_set (i := 2) sc_sets.nd rfl (Or.inl rfl) (pe_lst (pa_cons (pe_lst pa_nil) pa_nil)))
      (pss_cons (ps_for PassesOwn.never rfl (pi_list (pe_callB cr_sortedS (by rfl) T2.b_sorted (by decide +kernel) (pa_cons (pv 0) pa_nil))) (pg_name (i := 3) sc_sets.nd rfl (Or.inr rfl)) (pss_one (ps_set (i := 2) sc_sets.nd rfl (Or.inl rfl) (pe_op op_cat (pv 2) (pe_lc (own := [("_law_one", 4)]) (g := gName 4) rfl sc_sets.nd (pi_list (pv 2)) (blkOk_by (N := sc_sets_N) (sc := defScope s_sets) (by decide +kernel)) (fun _ _ _ _ _ => pg_name (i := 4) sc_sets.nd rfl (Or.inl rfl)) (fun _ _ _ _ _ => pts_one (pt_cmpR op_lt (pe_callB (call_lenK (K := K)) (by rfl) T.b_len (by decide +kernel) (pa_cons (pv 4) pa_nil)) (pv 1) (nomark _))) (fun _ _ _ _ _ => (pe_op op_cat (pv 4) (pe_lst (pa_cons (pv 3) pa_nil)))))))))
      (pss_one (ps_ret (pe_callB cr_sortFTT (by rfl) T2.b_sorted (by decide +kernel) (pa_cons (pe_lc (own := [("_law_one", 4)]) (g := gName 4) rfl sc_sets.nd (pi_list (pv 2)) (blkOk_by (N := sc_sets_N) (sc := defScope s_sets) (by decide +kernel)) (fun _ _ _ _ _ => pg_name (i := 4) sc_sets.nd rfl (Or.inl rfl)) (fun _ _ _ _ _ => pts_one (pt_cmpR op_eq (pe_callB (call_lenK (K := K)) (by rfl) T.b_len (by decide +kernel) (pa_cons (pv 4) pa_nil)) (pv 1) (nomark _))) (fun _ _ _ _ _ => (pe_callTy (call_tuple_ofK (K := K)) (by rfl) T2.b_tuple (by decide +kernel) (pa_cons (pv 4) pa_nil)))) pa_nil)))))), ?_⟩
    refine ⟨by decide, fun p0 np0 => ⟨(by show 1 ≤ sizeLine; decide), fun lf nlf => ?_⟩⟩
    have c0 := ((Cel.start H).new (o := .lst []) np0).new (o := .lst [.ref p0]) nlf
    dsimp only [gName]
    refine ⟨_, rfl, li, items0, rfl, eI.ext c0.sm, by omega, fun items s0 pm so ns0 => ?_⟩
    have oz : OrdN items0 items := OrdN.of nd ⟨so, pm⟩
    have i5 : items.length ≤ 5 := by rw [pm.length_eq]; exact i5
    have c1 := c0.new (o := .lst (items.map V.str)) ns0
    have eS := c1.at List.mem_cons_self
    refine ⟨s0, rfl, ⟨_, SqL.of eS⟩, for_list (xs := items.map V.str) (fun i σ H' => ∃ (l : Addr) (os : List XU) (o3 o4 : Option V), σ = [some (.ref li), some (.int (size : Int)), some (.ref l), o3, o4] ∧ sn os = setsS (items.take i) size ∧ Cel H [] ((l, .lst (rf os)) :: (s0, .lst (items.map V.str)) :: ledX os) H') ?_ (fun i σ H' _ z => by obtain ⟨_, _, _, _, _, _, c⟩ := z; exact SqL.of (c.at (List.mem_cons_of_mem _ List.mem_cons_self))) ?_ ?_⟩
    · refine ⟨lf, [(p0, [])], _, _, rfl, rfl, c1.sub fun p hp => ?_⟩
      simp only [ledX, rf, List.map_cons, List.map_nil, List.mem_cons, List.not_mem_nil, or_false] at hp ⊢
      rcases hp with z | z | z
      · exact .inr (.inl z)
      · exact .inl z
      · exact .inr (.inr z)
    · rintro i v σ H1 hv ⟨l, os, o3, o4, rfl, eo, c2⟩
      obtain ⟨q, hq, rfl⟩ : ∃ q, items[i]? = some q ∧ v = V.str q := by
        rw [List.getElem?_map] at hv
        cases e : items[i]? with
        | none => rw [e] at hv; cases hv
        | some q => rw [e] at hv; exact ⟨q, rfl, (Option.some.inj hv).symm⟩
      have esn : setsS (items.take (i + 1)) size = setsS (items.take i) size ++ ((setsS (items.take i) size).filter fun o => decide (o.length < size)).map (· ++ [q]) := by
        rw [List.take_add_one, hq, Option.toList_some, setsS_snoc]
      have tl7 : (items.take i).length ≤ 5 := by rw [List.length_take]; omega
      have tl8 : (items.take (i + 1)).length ≤ 5 := by rw [List.length_take]; omega
      have l128 : os.length ≤ 128 := by rw [← sn_len, eo]; exact setsS_cnt tl7
      have eL := c2.at List.mem_cons_self
      dsimp only [gName]
      refine ⟨_, rfl, _, rfl, l, rfl, ⟨_, SqL.of eL⟩, fun D nD => lc_list (xs := rf os) (fun j H' => ∃ os' : List XU, sn os' = (((sn os).take j).filter fun o => decide (o.length < size)).map (· ++ [q]) ∧ Cel H [(D, .lst (rf os'))] ((l, .lst (rf os)) :: (s0, .lst (items.map V.str)) :: (ledX os ++ ledX os')) H') ⟨[], rfl, by rw [show ledX [] = [] from rfl, List.append_nil]; exact c2.newM nD⟩ (fun j H' _ z => by obtain ⟨_, _, c⟩ := z; exact SqL.of (c.at List.mem_cons_self)) ?_ ?_⟩
      · rintro j v H2 hv ⟨os', eo', c3⟩
        obtain ⟨u, hu, rfl⟩ := rf_get hv
        have hus := sn_get hu
        have hum := List.mem_of_getElem? hu
        have eu := c3.at (p := u.1) (o := .lst (u.2.map V.str)) (List.mem_cons_of_mem _ (List.mem_cons_of_mem _ (List.mem_append_left _ (List.mem_map.mpr ⟨u, hum, rfl⟩))))
        have etk : ((sn os).take (j + 1)).filter (fun o => decide (o.length < size)) = ((sn os).take j).filter (fun o => decide (o.length < size)) ++ (if u.2.length < size then [u.2] else []) := by
          rw [List.take_add_one, hus, Option.toList_some, List.filter_append]
          congr 1
          by_cases z : u.2.length < size <;> simp [z]
        refine ⟨rfl, _, rfl, u.1, _, rfl, .inl (SqL.of eu), _, rfl, _, _, rfl, rfl, _, rfl, ?_⟩
        rw [List.length_map]
        have hj := (List.getElem?_eq_some_iff.mp hu).1
        by_cases z : u.2.length < size
        · rw [decide_eq_true (show (u.2.length : Int) < (size : Int) by omega)]
          refine iteT ⟨_, rfl, _, rfl, (by show 1 ≤ sizeLine; decide), fun p1 np1 => ?_⟩
          have c4 := c3.new (o := .lst [V.str q]) np1
          refine ⟨u.1, p1, _, _, rfl, rfl, (upd_ne (ne_of_none eu np1)).trans eu, upd_same, ?_, fun p2 np2 => ?_⟩
          · rw [List.length_map]
            exact szn (show u.2.length + 1 ≤ 1000 by omega)
          have c5 := c4.new (o := .lst (u.2.map V.str ++ [V.str q])) np2
          refine ⟨_, c5.am List.mem_cons_self, ?_, os' ++ [(p2, u.2 ++ [q])], ?_, ?_⟩
          · have h1 := congrArg List.length eo'
            rw [sn_len, List.length_map] at h1
            have h2 := List.length_filter_le (fun o : List Str => decide (o.length < size)) ((sn os).take j)
            have h3 := List.length_take_le' j (sn os)
            rw [sn_len] at h3
            rw [rf_len]
            exact Nat.lt_of_le_of_lt (show _ ≤ 200 by omega) (by decide)
          · rw [sn, List.map_append]
            show sn os' ++ [u.2 ++ [q]] = _
            rw [eo', etk, if_pos z, List.map_append]
            rfl
          · have e1 : rf (os' ++ [(p2, u.2 ++ [q])]) = rf os' ++ [.ref p2] := by rw [rf, List.map_append]; rfl
            rw [e1]
            refine c5.put0.sub fun p hp => ?_
            simp only [ledX, List.map_append, List.map_cons, List.map_nil, List.mem_cons, List.mem_append, List.not_mem_nil, or_false] at hp ⊢
            rcases hp with z | z | z | z | z
            · exact .inr (.inr (.inl z))
            · exact .inr (.inr (.inr (.inl z)))
            · exact .inr (.inr (.inr (.inr (.inl z))))
            · exact .inr (.inr (.inr (.inr (.inr z))))
            · exact .inl z
        · rw [decide_eq_false (show ¬ (u.2.length : Int) < (size : Int) by omega)]
          refine iteF ⟨os', ?_, c3⟩
          rw [eo', etk, if_neg z, List.append_nil]
      · rintro H2 ⟨os', eo', c3⟩
        rw [rf_len, ← sn_len, List.take_length] at eo'
        have ef : sn (os ++ os') = setsS (items.take (i + 1)) size := by
          rw [esn, ← eo, ← eo', sn, List.map_append]
          rfl
        have l128' : (os ++ os').length ≤ 128 := by rw [← sn_len, ef]; exact setsS_cnt tl8
        refine ⟨l, D, _, _, rfl, rfl, c3.at List.mem_cons_self, c3.am List.mem_cons_self, ?_, fun p3 np3 => ?_⟩
        · rw [rf_len, rf_len, ← List.length_append]
          exact szn (by omega)
        have c4 := c3.frz.new (o := .lst (rf os ++ rf os')) np3
        dsimp only [gName]
        refine ⟨p3, os ++ os', _, _, rfl, ef, c4.sub fun p hp => ?_⟩
        simp only [ledX, rf, List.map_append, List.mem_cons, List.mem_append] at hp ⊢
        rcases hp with z | z | z | z
        · exact .inl z
        · exact .inr (.inr (.inr (.inl z)))
        · exact .inr (.inr (.inr (.inr (.inl z))))
        · exact .inr (.inr (.inr (.inr (.inr z))))
    · rintro σ H1 ⟨l, os, o3, o4, rfl, eo, c2⟩
      rw [List.length_map, List.take_length] at eo
      have l128 : os.length ≤ 128 := by rw [← sn_len, eo]; exact setsS_cnt i5
      have eL := c2.at List.mem_cons_self
      have c2' := c2.sub (F' := (l, .lst (rf os)) :: ledX os) fun p hp => by
        rcases List.mem_cons.mp hp with z | z
        · exact List.mem_cons.mpr (.inl z)
        · exact List.mem_cons_of_mem _ (List.mem_cons_of_mem _ z)
      refine ⟨_, rfl, l, rfl, ⟨_, SqL.of eL⟩, fun D nD => lc_list (xs := rf os) (fun j H' => ∃ os' : List XU, sn os' = ((sn os).take j).filter (fun o => decide (o.length = size)) ∧ Cel H [(D, .lst (rf os'))] ((l, .lst (rf os)) :: (ledX os ++ os'.map fun u => (u.1, HO.tup (u.2.map V.str)))) H') ⟨[], rfl, by rw [List.map_nil, List.append_nil]; exact c2'.newM nD⟩ (fun j H' _ z => by obtain ⟨_, _, c⟩ := z; exact SqL.of (c.at List.mem_cons_self)) ?_ ?_⟩
      · rintro j v H2 hv ⟨os', eo', c3⟩
        obtain ⟨u, hu, rfl⟩ := rf_get hv
        have hus := sn_get hu
        have hum := List.mem_of_getElem? hu
        have eu := c3.at (p := u.1) (o := .lst (u.2.map V.str)) (List.mem_cons_of_mem _ (List.mem_append_left _ (List.mem_map.mpr ⟨u, hum, rfl⟩)))
        have etk : ((sn os).take (j + 1)).filter (fun o => decide (o.length = size)) = ((sn os).take j).filter (fun o => decide (o.length = size)) ++ (if u.2.length = size then [u.2] else []) := by
          rw [List.take_add_one, hus, Option.toList_some, List.filter_append]
          congr 1
          by_cases z : u.2.length = size <;> simp [z]
        have hj := (List.getElem?_eq_some_iff.mp hu).1
        refine ⟨rfl, _, rfl, u.1, _, rfl, .inl (SqL.of eu), _, rfl, rfl, _, rfl, ?_⟩
        rw [List.length_map]
        by_cases z : u.2.length = size
        · rw [decide_eq_true (show V.int (u.2.length : Int) = V.int (size : Int) by rw [z])]
          refine iteT ⟨_, rfl, u.1, _, rfl, .inl ⟨SqL.of eu, fun p2 np2 => ?_⟩⟩
          have c5 := c3.new (o := .tup (u.2.map V.str)) np2
          refine ⟨_, c5.am List.mem_cons_self, ?_, os' ++ [(p2, u.2)], ?_, ?_⟩
          · have h1 := congrArg List.length eo'
            rw [sn_len] at h1
            have h2 := List.length_filter_le (fun o : List Str => decide (o.length = size)) ((sn os).take j)
            have h3 := List.length_take_le' j (sn os)
            rw [sn_len] at h3
            rw [rf_len]
            exact Nat.lt_of_le_of_lt (show _ ≤ 200 by omega) (by decide)
          · rw [sn, List.map_append]
            show sn os' ++ [u.2] = _
            rw [eo', etk, if_pos z]
          · have e1 : rf (os' ++ [(p2, u.2)]) = rf os' ++ [.ref p2] := by rw [rf, List.map_append]; rfl
            rw [e1]
            refine c5.put0.sub fun p hp => ?_
            simp only [List.map_append, List.map_cons, List.map_nil, List.mem_cons, List.mem_append, List.not_mem_nil, or_false] at hp ⊢
            rcases hp with z | z | z | z
            · exact .inr (.inl z)
            · exact .inr (.inr (.inl z))
            · exact .inr (.inr (.inr z))
            · exact .inl z
        · rw [decide_eq_false (show ¬ V.int (u.2.length : Int) = V.int (size : Int) from fun e => z (by injection e with e; omega))]
          refine iteF ⟨os', ?_, c3⟩
          rw [eo', etk, if_neg z, List.append_nil]
      · rintro H2 ⟨os', eo', c3⟩
        rw [rf_len, ← sn_len, List.take_length, eo] at eo'
        have eD := c3.am List.mem_cons_self
        have ndz : items.Nodup := oz.1.imp fun {a b} (h : Lt a b) (e : a = b) => Lt.irr b (e ▸ h)
        have tup : ∀ u ∈ os', H2 u.1 = some (.tup (u.2.map V.str)) := fun u hu => c3.at (List.mem_cons_of_mem _ (List.mem_append_right _ (List.mem_map.mpr ⟨u, hu, rfl⟩)))
        have fin : ∀ (os3 : List XU) (p4 : Addr), H2 p4 = none → os3.Perm os' → (sn os3).Pairwise (fun x y => ¬ LexT y x) → Q (.ref p4) (upd H2 p4 (.lst (rf os3))) := fun os3 p4 np4 pm3 so3 => by
          have c4 := c3.frz.new (o := .lst (rf os3)) np4
          refine k p4 os3 items _ c4.sm (c3.none0 np4) (c4.at List.mem_cons_self) (fun u hu => (upd_ne (ne_of_none (tup u (pm3.mem_iff.mp hu)) np4)).trans (tup u (pm3.mem_iff.mp hu))) oz ?_
          refine sorted_subs oz.1 ?_ so3
          rw [← eo']
          exact pm3.map (·.2)
        by_cases z : size = 0
        · have le1 : os'.length ≤ 1 := by
            rw [← sn_len, eo']
            have h1 := (setsS_nodup size items ndz).filter fun o => decide (o.length = size)
            have h2 : ∀ o ∈ (setsS items size).filter (fun o => decide (o.length = size)), o = [] := fun o ho => List.eq_nil_of_length_eq_zero (by rw [← z]; exact of_decide_eq_true (List.mem_filter.mp ho).2)
            exact nodup_one h1 h2
          refine .inl ⟨D, _, rfl, SqL.of eD, by rw [rf_len]; exact le1, fun p4 np4 => fin os' p4 np4 (.refl _) ?_⟩
          match os', le1 with
          | [], _ => exact .nil
          | [u], _ => exact List.pairwise_singleton _ _
        · have kx : ∀ u ∈ os', kTup H2 (.ref u.1) = u.2 := fun u hu => kTup_at (tup u hu)
          refine .inr ⟨D, rf os', kTup H2, rfl, SqL.of eD, fun x hx => ?_, fun ys p4 pm2 so2 np4 => ?_⟩
          · obtain ⟨u, hu, rfl⟩ := List.mem_map.mp hx
            rw [kx u hu]
            have hm : u.2 ∈ sn os' := List.mem_map.mpr ⟨u, hu, rfl⟩
            rw [eo'] at hm
            have hl := of_decide_eq_true (List.mem_filter.mp hm).2
            exact ⟨fun e => z (by rw [← hl, e]; rfl), u.1, rfl, tup u hu⟩
          · obtain ⟨os3, pm3, e3⟩ := perm_lift (fun u : XU => V.ref u.1) pm2 os' rfl
            have e3' : ys = rf os3 := e3.symm
            subst e3'
            refine fin os3 p4 np4 pm3 ?_
            rw [sn, List.pairwise_map]
            rw [rf, List.pairwise_map] at so2
            refine List.Pairwise.imp_of_mem (fun {u v} hu hv h => ?_) so2
            rw [kx u (pm3.mem_iff.mp hu), kx v (pm3.mem_iff.mp hv)] at h
            exact h
end
end RV
/-! least explanations, as the law finds them -/
namespace RV
open PySem L2 TL
/-- the scope of the comprehension over a set's names -/
abbrev scO : Scope := { kind := .function, names := [(".0", .local), ("_law_left", .cell), ("_law_one", .cell)], isGenerator := false, isCoroutine := false }
section
variable {P : Program} {w : World} {K : PySem.W.Frag} {mg : Str → Option Value} {base : Heap}
theorem ok_explL {f : Addr} {fd : FuncData} (F : Fun K "_law_explained" "_law_explained" s_explained f fd) (T : Blt mg) (h_suspects : Fn P w K mg base "_law_suspects" 1 ["_law_plan_here", "_law_shown"] (Irr (sp_suspL K))) (h_sets : Fn P w K mg base "_law_sets" 1 ["_law_items_here", "_law_size"] (Irr (sp_setsL K)))
    (h_possible : Fn P w K mg base "_law_possible" 3 ["_law_plan_here", "_law_rings_here", "_law_shown", "_law_out"] (Irr (sp_possL K))) : FnOk P w K mg base CX0 4 f fd ["_law_plan_here", "_law_rings_here", "_law_shown", "_law_bound"] (sp_explL K) := by
  refine F.ok sc_explained (fun vs H Q E h => ?_) (fun cdv A outer s H vs Q E hr h => ?_)
  · obtain ⟨_, _, _, _, _, _, _, _, rfl, _⟩ := h
    rfl
  · obtain ⟨l, lr, t, gu, ru, rs, m, bound, rfl, fb, nd, b3, k⟩ := h
    refine ⟨_, (pss_cons (ps_par (i := 4) (j := 5) (by rfl) sc_explained.nd rfl rfl (by decide) rfl rfl (pa_cons (pe_lst pa_nil) (pa_cons (pe_fn h_suspects (hr.mono (by decide)) (pa_cons (pv 0) (pa_cons (pv 2) pa_nil))) pa_nil)) (by rfl))
      (pss_cons (ps_for PassesOwn.never rfl (pi_range1 rfl T.b_range (pa_cons (pe_op op_add (pv 3) pe_int) pa_nil)) (pg_name (i := 6) sc_explained.nd rfl (Or.inl rfl)) (pss_one (ps_for PassesOwn.never rfl (pi_list (pe_fn h_sets (hr.mono (by decide)) (pa_cons (pv 5) (pa_cons (pv 6) pa_nil)))) (pg_name (i := 7) sc_explained.nd rfl (Or.inr rfl)) (pss_cons (ps_setLc (i := 8) (own := [("_law_left", 9)]) (g := gName 9) (tt := tYes) rfl sc_explained.nd rfl rfl (sw_true rfl rfl rfl (by decide +kernel)) (pi_tup (pv 7)) (blkOk_by (N := sc_explained_N) (sc := defScope s_explained) (by decide +kernel)) (fun _ _ _ _ _ => pg_name (i := 9) sc_explained.nd rfl (Or.inr rfl)) (fun _ _ _ _ _ => pts_nil) (fun _ _ _ _ _ => (pe_lc (own := [("_law_tag", 10)]) (g := gName 10) rfl sc_explained.nd (pi_tupK (K := K) (pv 7)) (by refine blkOk_by (N := sc_explained_N) (sc := scO) ?_; decide +kernel) (fun _ _ _ _ _ => pg_name (i := 10) sc_explained.nd rfl (Or.inl rfl)) (fun _ _ _ _ _ => pts_one (pt_cmpR op_ne (pv 10) (pv 9) (nomark _))) (fun _ _ _ _ _ => (pv 10))))) (pss_one (ps_if (pt_val (pe_fn h_possible (hr.mono (by decide)) (pa_cons (pv 0) (pa_cons (pv 1) (pa_cons (pv 2) (pa_cons (pv 7) pa_nil)))))) (pss_one (ps_if (pt_not (pt_val (pe_callB (cr_any rfl) (by rfl) T.b_any (by decide +kernel) (pa_cons (pe_lc (own := [("_law_part", 11)]) (g := gName 11) (tt := tYes) rfl sc_explained.nd (pi_list (pv 8)) (blkOk_by (N := sc_explained_N) (sc := defScope s_explained) (by decide +kernel)) (fun _ _ _ _ _ => pg_name (i := 11) sc_explained.nd rfl (Or.inl rfl)) (fun _ _ _ _ _ => pts_nil) (fun _ _ _ _ _ => (pe_fn h_possible (hr.mono (by decide)) (pa_cons (pv 0) (pa_cons (pv 1) (pa_cons (pv 2) (pa_cons (pv 11) pa_nil))))))) pa_nil)))) (pss_one (ps_expr (pe_bm PySem.F.plainAttrs_list PySem.F.slot_list_append PySem.F.type_list_append mt_append (pv 4) (pa_cons (pv 7) pa_nil)))) pss_nil)) pss_nil))))))
      (pss_one (ps_ret (pv 4))))), ?_⟩
    obtain ⟨lp, lq, lg, e1, e2⟩ := id fb.ex
    obtain ⟨zs, oz⟩ := OrdN.ex (suspG (sn gu) rs)
    have g5 := fb.g5
    have sl := suspG_len (sn gu) rs
    have zl := oz.len
    rw [sn_len] at sl
    refine ⟨by decide, fun lf nlf => ?_⟩
    have s0 : Same H (upd H lf (.lst [])) := fun b o e => (upd_ne (ne_of_none e nlf)).trans e
    have e0 : upd H lf (.lst []) lf = some (.lst (rf ([] : List XU))) := upd_same
    revert s0 e0
    generalize upd H lf (.lst []) = H1
    intro s0 e0
    have fb1 := fb.ext s0
    have hg : ∀ u ∈ gu, H1 u.1 = some (oG u.2) := fun u hu => (fb1.g u hu).1
    refine ⟨_, rfl, _, rfl, irr ⟨l, t, gu, rs, rfl, fb1.ex, hg, fb1.s, fb.rl, by omega, fun ln H2 s2 nln0 e2n => ⟨_, _, rfl, ?_⟩⟩⟩
    have s02 := s0.trans s2
    have e02 := s2 _ _ e0
    have nlfH : H lf = none := nlf
    dsimp only
    refine ⟨_, rfl, _, _, rfl, rfl, ((bound + 1 : Nat) : Int), ?_, by omega, by omega, ?_⟩
    · show V.int ((bound : Int) + 1) :: _ = _
      rw [show (bound : Int) + 1 = ((bound + 1 : Nat) : Int) by omega]
    have nln : ln ≠ lf := fun e => by rw [e, e0] at nln0; cases nln0
    have lnA : ∀ {H' : Hp}, (∀ b o, b ≠ lf → H2 b = some o → H' b = some o) → H' ln = some (.lst ((suspG (sn gu) rs).map V.str)) := fun sb => sb _ _ nln e2n
    have sbH : ∀ {H' : Hp}, (∀ b o, b ≠ lf → H2 b = some o → H' b = some o) → Same H H' := fun sb b o e => sb _ _ (fun z => by rw [z, nlfH] at e; cases e) (s02 _ _ e)
    have l32 : ∀ {p : List Str → Bool} {n j : Nat}, n ≤ bound → ((preF zs n j).filter p).length ≤ 500 := fun {p n j} hn => by
      refine Nat.le_trans (List.length_filter_le _ _) (Nat.le_trans (preF_len _ _ _) ?_)
      have : (n + 1) * 2 ^ zs.length ≤ 4 * 2 ^ 5 := Nat.mul_le_mul (by omega) (Nat.pow_le_pow_right (by decide) (by omega))
      omega
    refine for_range (lo := 0) (n := bound + 1) (fun n σ H' => ∃ (os : List XU) (o6 o7 o8 o9 o10 o11 : Option V), σ = [some (.ref l), some (.ref lr), some (.ref t), some (.int (bound : Nat)), some (.ref lf), some (.ref ln), o6, o7, o8, o9, o10, o11] ∧ (∀ b o, b ≠ lf → H2 b = some o → H' b = some o) ∧ H' lf = some (.lst (rf os)) ∧ XusAt H' os ∧ sn os = (preF zs n 0).filter (leastB (possB (sn gu) (sn ru) rs))) ⟨[], none, none, none, none, none, none, rfl, fun _ _ _ e => e, e02, fun _ h => (nomatch h), by simp [preF, sn]⟩ ?_ ?_
    · rintro n σ H3 hn ⟨os, o6, o7, o8, o9, o10, o11, rfl, sb3, e3, xa3, es3⟩
      dsimp only [gName]
      refine ⟨_, rfl, _, rfl, irr ⟨ln, suspG (sn gu) rs, n, ?_, SqL.of (lnA sb3), nd, by omega, by omega, fun lc cs zs2 H4 s4 nlc0 e4 xac oz2 ecs => ?_⟩⟩
      · show [V.ref ln, V.int (0 + (n : Int))] = _
        rw [Int.zero_add]
      · obtain rfl : zs2 = zs := oz2.uniq oz
        have sb4 : ∀ b o, b ≠ lf → H2 b = some o → H4 b = some o := fun b o q e => s4 _ _ (sb3 b o q e)
        have el4 := s4 _ _ e3
        have nlc : lc ≠ lf := fun e => by rw [e, e3] at nlc0; cases nlc0
        have hcs : ∀ {H' : Hp}, (∀ b o, b ≠ lf → H4 b = some o → H' b = some o) → SqL K H' lc (rf cs) ∧ XusAt H' cs := fun sb => ⟨SqL.of (sb _ _ nlc e4), fun u hu => by
          have t := xac u hu
          exact sb _ _ (fun e => by rw [e, el4] at t; cases t) t⟩
        refine ⟨lc, rfl, ⟨_, SqL.of e4⟩, for_list (xs := rf cs) (fun j σ H' => ∃ (os : List XU) (o7 o8 o9 o10 o11 : Option V), σ = [some (.ref l), some (.ref lr), some (.ref t), some (.int (bound : Nat)), some (.ref lf), some (.ref ln), some (.int (0 + (n : Int))), o7, o8, o9, o10, o11] ∧ (∀ b o, b ≠ lf → H4 b = some o → H' b = some o) ∧ H' lf = some (.lst (rf os)) ∧ XusAt H' os ∧ sn os = (preF zs2 n j).filter (leastB (possB (sn gu) (sn ru) rs))) ⟨os, _, _, _, _, _, rfl, fun _ _ _ e => e, el4, xa3.ext s4, es3⟩ (fun j σ H' _ z => by obtain ⟨_, _, _, _, _, _, _, sb, _⟩ := z; exact (hcs sb).1) ?_ ?_⟩
        · clear el4 xa3 es3
          rintro j v σ H5 hv ⟨os, o7, o8, o9, o10, o11, rfl, sb5, el5, xa5, es5⟩
          obtain ⟨c, hc, rfl⟩ := rf_get hv
          have hcc := sn_get hc
          rw [ecs] at hcc
          have ec := (hcs sb5).2 c (List.mem_of_getElem? hc)
          have osl : os.length ≤ 500 := by rw [← sn_len, es5]; exact l32 (by omega)
          have cl : c.2.length ≤ 5 := by
            have := (subsF_mem.mp (List.mem_of_getElem? hcc)).1.length_le
            omega
          have sb25 : ∀ b o, b ≠ lf → H2 b = some o → H5 b = some o := fun b o q e => sb5 _ _ q (sb4 _ _ q e)
          have step : (preF zs2 n (j + 1)).filter (leastB (possB (sn gu) (sn ru) rs)) = sn os ++ if leastB (possB (sn gu) (sn ru) rs) c.2 = true then [c.2] else [] := by
            rw [preF_succ hcc, List.filter_append, ← es5]
            congr 1
            exact List.filter_cons
          dsimp only [gName]
          refine ⟨_, rfl, c.1, rfl, ⟨_, SqT.of ec⟩, fun D nD => ?_⟩
          refine lc_new (β := XU) (xs := c.2.map V.str) (fun u => .ref u.1) (fun i u H' => u.1 ≠ D ∧ ∃ x, c.2[i]? = some x ∧ u.2 = c.2.filter (fun y => decide (y ≠ x)) ∧ H' u.1 = some (.lst (u.2.map V.str))) walk_tup nD (by rw [List.length_map]; omega) (fun H' s' => SqT.of (s' _ _ ec)) (fun _ => rfl) (fun i u Ha Hb s' z => by obtain ⟨n1, x, a, b, e⟩ := z; exact ⟨n1, x, a, b, s' _ _ e⟩) (fun i u Ha acc acc' eD z => by
              obtain ⟨n1, x, a, b, e⟩ := z
              exact ⟨n1, x, a, b, (upd_ne n1).trans e⟩) (fun i v hv H6 s6 eD R kR => ?_) fun bs H6 s6 bl bp hD => ?_
          · rw [List.getElem?_map] at hv
            cases q : c.2[i]? with
            | none => rw [q] at hv; cases hv
            | some x =>
              rw [q] at hv
              obtain rfl := Option.some.inj hv
              obtain ⟨acc, eD⟩ := eD
              refine ⟨_, rfl, c.1, rfl, ⟨_, SqT.of (s6 _ _ ec)⟩, fun D2 nD2 => ?_⟩
              have n1 : D2 ≠ D := fun e => by rw [e, eD] at nD2; cases nD2
              refine lc_keepV (xs := c.2.map V.str) (fun v => !decide (v = V.str x)) walk_tup nD2 (by rw [List.length_map]; omega) (fun H' s' => SqT.of (s' _ _ (s6 _ _ ec))) (fun _ => rfl) (fun v hv H7 s7 R2 kR2 => ?_) (fun v hv H7 R2 kR2 => ⟨_, rfl, kR2⟩) fun H7 s7 hD2 => ?_
              · obtain ⟨y, _, rfl⟩ := List.mem_map.mp hv
                exact ⟨_, rfl, _, rfl, rfl, _, rfl, kR2⟩
              · rw [List.filter_map, show ((fun v => !decide (v = V.str x)) ∘ V.str) = fun y => decide (y ≠ x) from funext fun y => by show (!decide (V.str y = V.str x)) = _; by_cases e : y = x <;> simp [e]] at hD2
                exact kR (D2, c.2.filter fun y => decide (y ≠ x)) H7 s7 ⟨n1, x, q, rfl, hD2⟩
          · rw [List.length_map] at bl
            have el6 := s6 _ _ el5
            have ec6 := s6 _ _ ec
            have fb6 := fb.ext (sbH fun b o q e => s6 _ _ (sb25 b o q e))
            have pe : ∀ o : List Str, (solveR ru.length (factsF (sn gu) (sn ru) rs o) []).isSome = possB (sn gu) (sn ru) rs o := fun o => by rw [possB, sn_len]
            have skip : ∀ (H7 : Hp) (q11 : Option V), Same H6 H7 → leastB (possB (sn gu) (sn ru) rs) c.2 = false → ∃ (os2 : List XU) (q7 q8 q9 q10 q12 : Option V), [some (V.ref l), some (V.ref lr), some (V.ref t), some (V.int (bound : Nat)), some (V.ref lf), some (V.ref ln), some (V.int (0 + (n : Int))), some (V.ref c.1), some (V.ref D), o9, o10, q11] = [some (.ref l), some (.ref lr), some (.ref t), some (.int (bound : Nat)), some (.ref lf), some (.ref ln), some (.int (0 + (n : Int))), q7, q8, q9, q10, q12] ∧ (∀ b o, b ≠ lf → H4 b = some o → H7 b = some o) ∧ H7 lf = some (.lst (rf os2)) ∧ XusAt H7 os2 ∧ sn os2 = (preF zs2 n (j + 1)).filter (leastB (possB (sn gu) (sn ru) rs)) := fun H7 q11 s7 e =>
              ⟨os, _, _, _, _, _, rfl, fun b o q e => s7 _ _ (s6 _ _ (sb5 b o q e)), s7 _ _ el6, (xa5.ext s6).ext s7, by rw [step, e]; simp⟩
            dsimp only [gName]
            refine ⟨_, rfl, _, rfl, _, rfl, _, rfl, irr ⟨l, lr, t, c.1, gu, ru, rs, c.2, m, rfl, fb6.at (.inr (SqT.of ec6)), fun H7 s7 => ?_⟩⟩
            rw [pe]
            refine ⟨_, rfl, ?_⟩
            cases hp : possB (sn gu) (sn ru) rs c.2 with
            | false => exact iteF (skip H7 _ s7 (by rw [leastB, hp]; rfl))
            | true =>
              refine iteT ?_
              have hD7 := s7 _ _ hD
              refine ⟨_, rfl, D, rfl, ⟨_, SqL.of hD7⟩, fun D3 nD3 => ?_⟩
              refine lc_to (xs := bs.map fun u => V.ref u.1) ((c.2.map fun x => possB (sn gu) (sn ru) rs (c.2.filter fun y => decide (y ≠ x))).map V.bl) (by rw [List.length_map, List.length_map, List.length_map, bl]) walk_list nD3 (by rw [List.length_map, bl]; omega) (fun H' s' => SqL.of (s' _ _ hD7)) (fun _ => rfl) (fun i v y hv hy H8 s8 R kR => ?_) fun H8 s8 hD3 => ?_
              · rw [List.getElem?_map] at hv
                cases q : bs[i]? with
                | none => rw [q] at hv; cases hv
                | some u =>
                  rw [q] at hv
                  obtain rfl := Option.some.inj hv
                  obtain ⟨_, x, hx, eu, eU⟩ := bp i u q
                  rw [List.getElem?_map, List.getElem?_map, hx] at hy
                  obtain rfl : V.bl (possB (sn gu) (sn ru) rs (c.2.filter fun y => decide (y ≠ x))) = y := Option.some.inj hy
                  have eU8 := (s7.trans s8) _ _ eU
                  refine ⟨_, rfl, _, rfl, _, rfl, _, rfl, irr ⟨l, lr, t, u.1, gu, ru, rs, u.2, m, rfl, (fb6.ext (s7.trans s8)).at (.inl (SqL.of eU8)), fun H9 s9 => ?_⟩⟩
                  rw [pe, eu]
                  exact kR H9 s9
              · have s78 := s7.trans s8
                refine ⟨D3, _, rfl, SqL.of hD3, _, rfl, ?_⟩
                have ea : (c.2.map fun x => possB (sn gu) (sn ru) rs (c.2.filter fun y => decide (y ≠ x))).any id = c.2.any fun x => possB (sn gu) (sn ru) rs (c.2.filter fun y => decide (y ≠ x)) := by rw [List.any_map]; rfl
                rw [ea]
                cases ha : c.2.any fun x => possB (sn gu) (sn ru) rs (c.2.filter fun y => decide (y ≠ x)) with
                | true => exact iteF (skip H8 _ s78 (by rw [leastB, hp, ha]; rfl))
                | false =>
                  have el8 := s78 _ _ el6
                  refine iteT ⟨_, rfl, .inl ⟨rfl, _, SqL.of el8⟩, _, rfl, lf, rf os, _, rfl, rfl, el8, ?_, os ++ [c], _, _, _, _, _, rfl, fun b o q e => ?_, ?_, fun u hu => ?_, ?_⟩
                  · rw [rf_len]
                    exact Nat.lt_of_le_of_lt osl (by decide)
                  · rw [upd_ne q]
                    exact s78 _ _ (s6 _ _ (sb5 b o q e))
                  · rw [upd_same, rf, rf, List.map_append]
                    rfl
                  · have tu : H8 u.1 = some (oX u.2) := by
                      rcases List.mem_append.mp hu with z | z
                      · exact s78 _ _ (s6 _ _ (xa5 u z))
                      · rw [List.mem_singleton.mp z]
                        exact s78 _ _ ec6
                    rw [upd_ne (fun e => by rw [e, el8] at tu; cases tu)]
                    exact tu
                  · rw [step, if_pos (by rw [leastB, hp, ha]; rfl), sn, List.map_append, ← sn]
                    rfl
        · rintro σ H5 ⟨os, o7, o8, o9, o10, o11, rfl, sb5, el5, xa5, es5⟩
          rw [rf_len, ← sn_len, ecs, ← preF_zero] at es5
          exact ⟨os, _, _, _, _, _, _, rfl, fun b o q e => sb5 _ _ q (sb4 _ _ q e), el5, xa5, es5⟩
    · rintro σ H3 ⟨os, o6, o7, o8, o9, o10, o11, rfl, sb3, e3, xa3, es3⟩
      exact ⟨_, rfl, k lf os zs H3 (sbH sb3) e3 xa3 oz (by rw [es3, explF_pre])⟩
end
end RV
/-! k55: _law_right -/
namespace RV
open PySem L2 TL
section
variable {P : Program} {w : World} {K : PySem.W.Frag} {mg : Str → Option Value} {base : Heap} {CN CP CM : Addr}
theorem ok_right55 {f : Addr} {fd : FuncData} (F : Fun K "_law_right" "_law_right" s_right f fd) (T : Blt mg) (T2 : Blt2 mg) (NC : NClass K mg CN)
    (h_take : Fn P w K mg base "_law_take" 1 ["_law_spring_here", "_law_many"] (Irr sp_dip)) (h_plan : Fn P w K mg base "_law_plan" 3 ["_law_spring_here", "_law_tubes", "_law_gauges"] (Irr sp_plan)) (h_grid : Fn P w K mg base "_law_grid" 1 ["_law_plan_here"] (Irr sp_grid))
    (h_rings : Fn P w K mg base "_law_rings" 2 ["_law_tubes"] (Irr (sp_ringsB K))) (h_flow : Fn P w K mg base "_law_flow" 3 ["_law_spring_here", "_law_rings_here", "_law_size"] (Irr sp_flowL)) (h_seen : Fn P w K mg base "_law_seen" 3 ["_law_spring_here", "_law_plan_here", "_law_flow_here"] (Irr sp_seenL))
    (h_explained : Fn P w K mg base "_law_explained" 4 ["_law_plan_here", "_law_rings_here", "_law_shown", "_law_bound"] (Irr (sp_explL K)))
    (h_expl : Fn P w K mg base "explanations" 9 ["net", "readings", "most"] (Irr (sp_expl K CN CP CM))) (h_explK : FnKd P w K mg base "explanations" 9 ["net", "readings", "most"] (Irr (sp_expl K CN CP CM)) gPE)
    (h_str : OwnM P w K mg base CN "__str__" 5 (Irr (sp_nstr K CN CP CM))) (h_read : ClsM P w K mg base CN "read" 8 ["cls", "text"] (Irr (sp_nread K CN CP CM))) : FnG P w K mg base 10 f fd ["_law_spring_here"] sp_right55 := by
  refine gFun F sc_right (fun vs H Q E h => ?_) (fun cdv A outer s H vs Q E gs hr h => ?_)
  · obtain ⟨_, _, rfl, _⟩ := h
    rfl
  · obtain ⟨a, n, rfl, wl, hn, k⟩ := h
    refine ⟨_, (pss_cons (ps_set (i := 1) sc_right.nd rfl (Or.inl rfl) (pe_fn h_plan (hr.mono (by decide)) (pa_cons (pv 0) (pa_cons pe_int (pa_cons pe_int pa_nil)))))
      (pss_cons (ps_par (i := 2) (j := 3) (by rfl) sc_right.nd rfl rfl (by decide) rfl rfl (pa_cons (pe_fn h_rings (hr.mono (by decide)) (pa_cons (pe_ix ix_list (pv 1) pe_int (fun _ _ => rfl)) pa_nil)) (pa_cons (pe_cm h_read (hr.mono (by decide)) (pe_gC NC.k) (pa_cons (pe_fn h_grid (hr.mono (by decide)) (pa_cons (pv 1) pa_nil)) pa_nil)) pa_nil)) (by rfl))
      (pss_cons (ps_for PassesOwn.never rfl (pi_range1 rfl T.b_range (pa_cons pe_int pa_nil)) (pg_name (i := 4) sc_right.nd rfl (Or.inl rfl)) (pss_cons (ps_set (i := 5) sc_right.nd rfl (Or.inl rfl) (pe_callTy call_tuple_of (by rfl) T2.b_tuple (by decide +kernel) (pa_cons (pe_fn h_seen (hr.mono (by decide)) (pa_cons (pv 0) (pa_cons (pv 1) (pa_cons (pe_fn h_flow (hr.mono (by decide)) (pa_cons (pv 0) (pa_cons (pv 2) (pa_cons (pe_callB call_len_seq (by rfl) T.b_len (by decide +kernel) (pa_cons (pe_ix ix_list (pv 1) pe_int (fun _ _ => rfl)) pa_nil)) pa_nil)))) pa_nil)))) pa_nil))) (pss_cons (ps_set (i := 6) sc_right.nd rfl (Or.inl rfl) (pe_fn h_take (hr.mono (by decide)) (pa_cons (pv 0) (pa_cons pe_int pa_nil)))) (pss_cons (ps_set (i := 7) sc_right.nd rfl (Or.inl rfl) (pe_callTy call_tuple_of (by rfl) T2.b_tuple (by decide +kernel) (pa_cons (pe_fn h_explained (hr.mono (by decide)) (pa_cons (pv 1) (pa_cons (pv 2) (pa_cons (pv 5) (pa_cons (pv 6) pa_nil))))) pa_nil))) (pss_cons (ps_set (i := 8) sc_right.nd rfl (Or.inl rfl) (pe_lst (pa_cons (pe_fn h_expl (hr.mono (by decide)) (pa_cons (pv 3) (pa_cons (pv 5) (pa_cons (pv 6) pa_nil)))) (pa_cons (pe_fnK0 h_explK (hr.mono (by decide)) (pk_cons (pv 3) (pk_cons (pv 5) (pk_cons (pv 6) pk_nil)))) pa_nil)))) (pss_one (ps_if (pt_cmpR op_ne (pe_callB (call_reprD hr.units gs) (by rfl) T.b_repr (by decide +kernel) (pa_cons (pv 8) pa_nil)) (pe_callB (call_reprD hr.units gs) (by rfl) T.b_repr (by decide +kernel) (pa_cons (pe_lst (pa_cons (pv 7) (pa_cons (pv 7) pa_nil))) pa_nil)) (nomark _)) (pss_one (ps_ret pe_bl)) pss_nil)))))))
      (pss_one (ps_ret (pe_cmpR op_eq (pe_callTy (call_strO h_str (hr.mono (by decide))) (by rfl) T.b_str (by decide +kernel) (pa_cons (pv 3) pa_nil)) (pe_fn h_grid (hr.mono (by decide)) (pa_cons (pv 1) pa_nil)) (nomark _))))))), ?_⟩
    refine ⟨_, rfl, irr ⟨a, n, 5, 5, rfl, wl, by omega, by decide, by decide, by decide, fun l lp lq lg pl pu gu H1 b1 ok => ?_⟩⟩
    have ekl : (l, HO.lst [.ref lp, .ref lq, .ref lg]) ∈ lM l lp lq lg pl pu gu := List.mem_cons_self
    have ekq : (lq, HO.lst (rf pu)) ∈ lM l lp lq lg pl pu gu := List.mem_cons_of_mem _ (List.mem_cons_of_mem _ List.mem_cons_self)
    have ekg : (lg, HO.lst (rf gu)) ∈ lM l lp lq lg pl pu gu := List.mem_cons_of_mem _ (List.mem_cons_of_mem _ (List.mem_cons_of_mem _ List.mem_cons_self))
    have eku : ∀ u ∈ pu, (u.1, oQ u.2) ∈ lM l lp lq lg pl pu gu := fun u hu => List.mem_cons_of_mem _ (List.mem_cons_of_mem _ (List.mem_cons_of_mem _ (List.mem_cons_of_mem _ (List.mem_append_left _ (List.mem_map.mpr ⟨u, hu, rfl⟩)))))
    have ekv : ∀ u ∈ gu, (u.1, oG u.2) ∈ lM l lp lq lg pl pu gu := fun u hu => List.mem_cons_of_mem _ (List.mem_cons_of_mem _ (List.mem_cons_of_mem _ (List.mem_cons_of_mem _ (List.mem_append_right _ (List.mem_map.mpr ⟨u, hu, rfl⟩)))))
    have ul : pu.length = (sn pu).length := (sn_len ..).symm
    have gl : gu.length = (sn gu).length := (sn_len ..).symm
    have u5 : (sn pu).length ≤ 5 := ok.qm
    have g5 : (sn gu).length ≤ 5 := ok.gm
    dsimp only [gName]
    refine ⟨_, rfl, l, _, 1, .ref lq, rfl, rfl, SqL.of (b1.at ekl), rfl, irr ⟨lq, pu, rfl, SqL.of (b1.at ekq), fun u hu => b1.at (eku u hu), by omega, fun lr ru cs H2 s2 nlr elr xr RB => ?_⟩⟩
    have b2 := b1.same s2
    have na : ∀ {p : Addr}, H1 p = none → p ≠ a := fun np => (b1.well.ne np).symm
    have sd2 : Std a H2 ((lr, .lst (rf ru)) :: (ru.map (fun r => (r.1, oI r.2)) ++ lM l lp lq lg pl pu gu)) := fun p hp => by
      rcases List.mem_cons.mp hp with rfl | hp
      · exact ⟨na nlr, elr⟩
      · rcases List.mem_append.mp hp with z | z
        · obtain ⟨r, hr2, rfl⟩ := List.mem_map.mp z
          exact ⟨na (xr r hr2).1, (xr r hr2).2⟩
        · exact b2.std p z
    have g02 : Grow a H H2 := b2.gr
    have c2 := Bag.of b2.well sd2
    obtain ⟨M, eM⟩ : ∃ M : Mod, M = ⟨pl, sn pu, sn gu⟩ := ⟨_, rfl⟩
    have eqs : M.qs = sn pu := by rw [eM]
    have egs : M.gs = sn gu := by rw [eM]
    have md2 : MdAt H2 l M := by rw [eM]; exact ⟨lp, lq, lg, pu, gu, rfl, rfl, fun p hp => b2.at hp⟩
    rw [← eM] at ok
    rw [ul, ← eqs] at RB
    have po := ok.po (by decide)
    have mo := ok.mo (by decide)
    have qln := M.psl
    have mln := M.msl
    have rul : ru.length ≤ 12 := by
      have h1 := RB.few
      rw [sn_len, eqs] at h1
      omega
    refine ⟨rfl, _, rfl, irr ⟨l, M, 5, 5, rfl, md2, ok, by decide, by decide, fun H3 s3 => irr ⟨M.ps, M.ms, rfl, po, mo, fun x H4 s4 nr => ?_⟩⟩⟩
    have s24 : Same H2 H4 := s3.trans s4
    have c4 := c2.same s24
    have wa : ∀ {H' : Hp} {m : Nat}, WellAt H' a m → ∃ ys, H' a = some (.lst ys) := fun w => by
      obtain ⟨_, _, _, e, _⟩ := w
      exact ⟨_, e⟩
    refine ⟨_, _, rfl, ?_⟩
    dsimp only
    refine ⟨2, rfl, by decide, by decide, for_range (lo := 0) (n := 2) (fun i σ H' => ∃ (o4 o5 o6 o7 o8 : Option V), σ = [some (.ref a), some (.ref l), some (.ref lr), some (.ref x), o4, o5, o6, o7, o8] ∧ Bag H2 a (n + 2000 + 100 * i) [] ((lr, .lst (rf ru)) :: (ru.map (fun r => (r.1, oI r.2)) ++ lM l lp lq lg pl pu gu)) H' ∧ NetR K CN CP CM H' x M.ps M.ms) ⟨_, _, _, _, _, rfl, c4, nr⟩ ?_ ?_⟩
    · rintro i σ H5 hi ⟨o4, o5, o6, o7, o8, rfl, c5, nr5⟩
      have inM : ∀ {p : Addr × HO}, p ∈ lM l lp lq lg pl pu gu → p ∈ (lr, HO.lst (rf ru)) :: (ru.map (fun r => (r.1, oI r.2)) ++ lM l lp lq lg pl pu gu) := fun h => List.mem_cons_of_mem _ (List.mem_append_right _ h)
      have inR : ∀ r ∈ ru, (r.1, oI r.2) ∈ (lr, HO.lst (rf ru)) :: (ru.map (fun r => (r.1, oI r.2)) ++ lM l lp lq lg pl pu gu) := fun r hr2 => List.mem_cons_of_mem _ (List.mem_append_left _ (List.mem_map.mpr ⟨r, hr2, rfl⟩))
      dsimp only [gName]
      refine ⟨_, rfl, _, rfl, _, rfl, _, rfl, _, rfl, l, _, 1, .ref lq, rfl, rfl, SqL.of (c5.at (inM ekl)), rfl, lq, _, rfl, .inl (SqL.of (c5.at (inM ekq))), ?_⟩
      rw [rf_len]
      have hml : M.ps.length = pu.length := by rw [qln, eqs, ← ul]
      have equ : ru.length ≤ 5 := by have h1 := RB.few; rw [sn_len, eqs] at h1; omega
      have rok : ∀ r ∈ ru, r.2.length = pu.length ∧ ∀ k, (ent r.2 k).natAbs ≤ 1 := fun r hr2 => by
        have hm : r.2 ∈ sn ru := List.mem_map.mpr ⟨r, hr2, rfl⟩
        exact ⟨by rw [RB.wide _ hm, eqs, ← ul], RB.sm _ hm⟩
      refine irr ⟨a, lr, n + 2000 + 100 * i, pu.length, ru, rfl, c5.well, by omega, fun p hp => ?_, rok, by omega, rul, fun lf fs H6 g6 w6 nlf elf fsl => ?_⟩
      · refine c5.std p ?_
        rcases List.mem_cons.mp hp with rfl | z
        · exact List.mem_cons_self
        · exact List.mem_cons_of_mem _ (List.mem_append_left _ z)
      have c6 := c5.grow g6 w6
      obtain ⟨ys5, ea5⟩ := wa c5.well
      have nr6 := nr5.gro2 ea5 g6
      refine irr ⟨a, l, lp, lq, lg, lf, _, pl, pu, gu, fs, rfl, c6.well, by omega, fun p hp => ?_, by omega, by omega, fun g hg => ?_, fun l2 rs H7 g7 w7 nl2 el2 rsl rsz => ?_⟩
      · rcases List.mem_cons.mp hp with rfl | z
        · exact ⟨nlf, elf⟩
        · exact c6.std p (inM z)
      · rw [fsl, ul, ← eqs]
        exact (ok.gn g.2 (by rw [egs]; exact List.mem_map.mpr ⟨g, hg, rfl⟩)).2
      have c7 := c6.grow g7 w7
      obtain ⟨ys6, ea6⟩ := wa c6.well
      have nr7 := nr6.gro2 ea6 g7
      refine ⟨l2, _, rfl, .inl ⟨SqL.of el2, fun t nt => ?_⟩⟩
      have sT : Same H7 (upd H7 t (.tup (vR rs))) := fun b o e => (upd_ne (ne_of_none e nt)).trans e
      have et : upd H7 t (.tup (vR rs)) t = some (.tup (vR rs)) := upd_same
      have c8 := c7.same sT
      have nr8 := nr7.ext sT
      clear c6 c7 nr6 nr7
      revert et c8 nr8
      generalize upd H7 t (.tup (vR rs)) = H8
      intro et c8 nr8
      dsimp only [gName]
      obtain ⟨ys8, ea8⟩ := wa c8.well
      refine ⟨_, rfl, c8.dipW (by omega) (by decide) (by decide) fun bd H9 b0 b4 g9 c9 => ?_⟩
      obtain ⟨bn, rfl⟩ := Int.eq_ofNat_of_zero_le b0
      have et9 := g9 _ _ (fun z => by rw [z, ea8] at et; cases et) et
      have nr9 := nr8.gro2 ea8 g9
      clear c8 nr8
      have fb : FctB K H9 l lr t gu ru rs pu.length := ⟨⟨lp, lq, lg, c9.at (inM ekl), c9.at (inM ekg)⟩, fun u hu => ⟨c9.at (inM (ekv u hu)), by rw [ul, ← eqs]; exact (ok.gn u.2 (by rw [egs]; exact List.mem_map.mpr ⟨u, hu, rfl⟩)).2⟩, c9.at List.mem_cons_self, fun r hr2 => ⟨c9.at (inR r hr2), rok r hr2⟩, SqT.of et9, rsl, by omega, rul⟩
      have esu : suspG (sn gu) rs = suspN M.ms rs := by rw [← egs]; exact susp_eq ok rs
      have ndS : (suspN M.ms rs).Nodup := mN_nodup mo.nd _
      have ro : RdOk M.ms rs := by
        refine ⟨by rw [rsl, mln, egs]; exact gl, fun q hq hz => ?_⟩
        rw [mln] at hq
        have h1 := (Mod.msa ok hq).2.2.2
        rw [hz] at h1
        obtain ⟨g, hg⟩ : ∃ g, gu[q]? = some g := ⟨_, List.getElem?_eq_getElem (by rw [gl, ← egs]; exact hq)⟩
        refine rsz q g hg ?_
        rw [egs, List.getD_eq_getElem?_getD, sn_get hg] at h1
        exact h1.symm
      dsimp only [gName]
      refine ⟨_, rfl, _, rfl, _, rfl, _, rfl, irr ⟨l, lr, t, gu, ru, rs, pu.length, bn, rfl, fb, by rw [esu]; exact ndS, by omega, fun ld os zs H10 s10 e10 xa10 oz es => ⟨ld, _, rfl, .inl ⟨SqL.of e10, fun td ntd => ?_⟩⟩⟩⟩
      have s11 : Same H10 (upd H10 td (.tup (rf os))) := fun b o e => (upd_ne (ne_of_none e ntd)).trans e
      have etd : upd H10 td (.tup (rf os)) td = some (.tup (rf os)) := upd_same
      have xa11 := xa10.ext s11
      have s911 := s10.trans s11
      clear s11
      revert etd xa11 s911
      generalize upd H10 td (.tup (rf os)) = H11
      intro etd xa11 s911
      rw [esu] at oz
      rw [← egs] at es
      dsimp only [gName]
      have m5 : M.ms.length ≤ 5 := by rw [mln]; exact ok.gm
      have zl5 : zs.length ≤ 5 := by have := oz.len; have := suspN_len M.ms rs; omega
      have eqE : ∀ {os1 : List XU} {zs1 : List Str} {poss1 : List Str → Bool}, OrdN (suspN M.ms rs) zs1 → (∀ o, poss1 o = true ↔ PossN M.ps M.ms rs o) → sn os1 = explF poss1 zs1 bn → sn os1 = sn os := fun {os1 zs1 poss1} oz1 hp1 es1 => by
        rw [es1, es, oz1.uniq oz, expl_eq ok RB hp1]
      have shO : Shw (dXs (sn os)) 2 302000 := by
        obtain ⟨x1, x2⟩ := explF_in (poss := possB M.gs (sn ru) rs) (zs := zs) (most := bn) (by omega) zl5
        rw [← es] at x1 x2
        refine shw_Xs (fun o ho => ⟨fun y hy => ?_, (x1 o ho).2⟩) x2
        have hm := (oz.2 y).mp ((x1 o ho).1.subset hy)
        obtain ⟨q, hq, rfl⟩ := List.mem_map.mp hm
        have hq2 := List.mem_range.mp (List.mem_filter.mp hq).1
        rw [(m_at (ms := M.ms) (List.getElem?_eq_getElem hq2)).1]
        exact (mo.nm _ (List.getElem_mem hq2)).1
      refine ⟨_, rfl, _, rfl, _, rfl, irr ⟨x, t, M.ps, M.ms, rs, bn, rfl, nr9.ext s911, po, mo, m5, SqT.of (s911 _ _ et9), ro, by omega, fun r1 os1 zs1 poss1 H12 s12 e12 xa12 oz1 hp1 es1 => ?_⟩⟩
      have s912 := s911.trans s12
      refine ⟨_, rfl, _, rfl, _, rfl, rfl, irr ⟨x, t, M.ps, M.ms, rs, bn, rfl, nr9.ext s912, po, mo, m5, SqT.of (s912 _ _ et9), ro, by omega, fun r2 os2 zs2 poss2 H13 s13 e13 xa13 oz2 hp2 es2 => ?_⟩⟩
      have q1 := eqE oz1 hp1 es1
      have q2 := eqE oz2 hp2 es2
      refine ⟨by show 2 ≤ sizeLine; decide, fun T nT => ?_⟩
      have sT2 : Same H13 (upd H13 T (.lst [.ref r1, .ref r2])) := fun b o e => (upd_ne (ne_of_none e nT)).trans e
      have eT : upd H13 T (.lst [.ref r1, .ref r2]) T = some (.lst [.ref r1, .ref r2]) := upd_same
      revert sT2 eT
      generalize upd H13 T (.lst [.ref r1, .ref r2]) = H14
      intro sT2 eT
      have s1314 := s13.trans sT2
      have s1114 := (s12.trans s13).trans sT2
      dsimp only [gName]
      have d1 := dp_Xs (K := K) (s1314 _ _ e12) (xa12.ext s1314)
      have d2 := dp_Xs (K := K) (sT2 _ _ e13) (xa13.ext sT2)
      rw [q1] at d1
      rw [q2] at d2
      refine ⟨_, rfl, rRepr_of (d := .list [dXs (sn os), dXs (sn os)]) (.lst (SqL.of eT) (.cons d1 (.cons d2 .nil))) (shw_two shO shO) (by decide) ?_⟩
      refine ⟨_, rfl, _, rfl, by show 2 ≤ sizeLine; decide, fun T3 nT3 => ?_⟩
      have sT3 : Same H14 (upd H14 T3 (.lst [.ref td, .ref td])) := fun b o e => (upd_ne (ne_of_none e nT3)).trans e
      have eT3 : upd H14 T3 (.lst [.ref td, .ref td]) T3 = some (.lst [.ref td, .ref td]) := upd_same
      revert sT3 eT3
      generalize upd H14 T3 (.lst [.ref td, .ref td]) = H15
      intro sT3 eT3
      have s1115 := s1114.trans sT3
      have d3 := dp_Xs (K := K) (s1115 _ _ etd) (xa11.ext s1115)
      refine rRepr_of (d := .list [dXs (sn os), dXs (sn os)]) (.lst (SqL.of eT3) (.cons d3 (.cons d3 .nil))) (shw_two shO shO) (by decide) ?_
      refine ⟨rfl, _, rfl, ?_⟩
      rw [decide_eq_true rfl]
      have s915 := s911.trans s1115
      refine iteF ⟨_, _, _, _, _, rfl, (c9.same s915).wm (by omega), nr9.ext s915⟩
    · rintro σ H5 ⟨o4, o5, o6, o7, o8, rfl, c5, nr5⟩
      have md5 : MdAt H5 l M := by rw [eM]; exact ⟨lp, lq, lg, pu, gu, rfl, rfl, fun p hp => c5.at (List.mem_cons_of_mem _ (List.mem_append_right _ hp))⟩
      obtain ⟨dx, _, _, _, _, ex5, _⟩ := id nr5.ex
      refine ⟨_, rfl, x, dx, _, rfl, ex5, irr ⟨x, M.ps, M.ms, rfl, nr5, po.pn, mo.mn, by have := po.ln; omega, by have := mo.ln; omega, fun H6 s6 => ⟨_, rfl, ?_⟩⟩⟩
      refine ⟨_, rfl, irr ⟨l, M, 5, 5, rfl, md5.ext s6, ok, by decide, by decide, fun H7 s7 => ⟨rfl, ?_⟩⟩⟩
      rw [decide_eq_true rfl]
      exact k H7 (g02.trans (c5.gr.trans fun b o _ e => s7 _ _ (s6 _ _ e)))
end
end RV
/-! k55: the law. -/
namespace RV
open PySem L2 TL
section
variable {P : Program} {w : World} {K : PySem.W.Frag} {mg : Str → Option Value} {base : Heap} {CN CP CM : Addr}
theorem ok_law55 {f : Addr} {fd : FuncData} (F : Fun K "law" "law" s_law f fd) (T : Blt mg) (NC : NClass K mg CN) (h_spring : Fn P w K mg base "_law_spring" 1 ["_law_script", "_law_k"] (Irr (sp_spring K)))
    (h_right : FnGd P w K mg base "_law_right" 10 ["_law_spring_here"] sp_right55) (h_expl : Fn P w K mg base "explanations" 9 ["net", "readings", "most"] (Irr (sp_expl K CN CP CM))) (h_read : ClsM P w K mg base CN "read" 8 ["cls", "text"] (Irr (sp_nread K CN CP CM))) : FnG P w K mg base 11 f fd ["_law_script"] (spLaw K) := by
  refine gFun F sc_law (fun vs H Q E h => ?_) (fun cdv A outer s H vs Q E gs hr h => ?_)
  · obtain ⟨_, _, rfl, _⟩ := h
    rfl
  · obtain ⟨c, ns, rfl, hS, hl, k⟩ := h
    refine ⟨_, (pss_cons (ps_set (i := 1) sc_law.nd rfl (Or.inl rfl) pe_str)
      (pss_cons (ps_set (i := 2) sc_law.nd rfl (Or.inr rfl) (pe_cm h_read (hr.mono (by decide)) (pe_gC NC.k) (pa_cons (pe_op op_add_str (pv 1) pe_str) pa_nil)))
      (pss_cons (ps_setLc (i := 3) (own := [("_law_bound", 6)]) (g := gName 6) (tt := tYes) rfl sc_law.nd rfl rfl (sw_true rfl rfl rfl (by decide +kernel)) (pi_range1 rfl T.b_range (pa_cons pe_int pa_nil)) (blkOk_by (N := sc_law_N) (sc := defScope s_law) (by decide +kernel)) (fun _ _ _ _ _ => pg_name (i := 6) sc_law.nd rfl (Or.inl rfl)) (fun _ _ _ _ _ => pts_nil) (fun _ _ _ _ _ => (pe_fn h_expl (hr.mono (by decide)) (pa_cons (pv 2) (pa_cons (pe_tup (pa_cons pe_int (pa_cons pe_int (pa_cons pe_int (pa_cons pe_int (pa_cons pe_int pa_nil)))))) (pa_cons (pv 6) pa_nil))))))
      (pss_cons (ps_set (i := 3) sc_law.nd rfl (Or.inl rfl) (pe_op op_cat (pv 3) (pe_lst (pa_cons (pe_fn h_expl (hr.mono (by decide)) (pa_cons (pv 2) (pa_cons (pe_tup (pa_cons pe_int (pa_cons pe_int (pa_cons pe_int (pa_cons pe_int (pa_cons pe_int pa_nil)))))) (pa_cons pe_int pa_nil)))) (pa_cons (pe_fn h_expl (hr.mono (by decide)) (pa_cons (pv 2) (pa_cons (pe_tup (pa_cons pe_int (pa_cons pe_int (pa_cons pe_non (pa_cons pe_int (pa_cons pe_non pa_nil)))))) (pa_cons pe_int pa_nil)))) pa_nil)))))
      (pss_cons (ps_set (i := 4) sc_law.nd rfl (Or.inr rfl) (pe_cm h_read (hr.mono (by decide)) (pe_gC NC.k) (pa_cons pe_str pa_nil)))
      (pss_cons (ps_set (i := 3) sc_law.nd rfl (Or.inl rfl) (pe_op op_cat (pv 3) (pe_lc (own := [("_law_shown", 7)]) (g := gName 7) (tt := tYes) rfl sc_law.nd (pi_list (pe_lst (pa_cons (pe_tup (pa_cons pe_int (pa_cons pe_int pa_nil))) (pa_cons (pe_tup (pa_cons pe_int (pa_cons pe_int pa_nil))) pa_nil)))) (blkOk_by (N := sc_law_N) (sc := defScope s_law) (by decide +kernel)) (fun _ _ _ _ _ => pg_name (i := 7) sc_law.nd rfl (Or.inl rfl)) (fun _ _ _ _ _ => pts_nil) (fun _ _ _ _ _ => (pe_fn h_expl (hr.mono (by decide)) (pa_cons (pv 4) (pa_cons (pv 7) (pa_cons pe_int pa_nil))))))))
      (pss_cons (ps_set (i := 5) sc_law.nd rfl (Or.inl rfl) (pe_lst (pa_cons (pe_tup pa_nil) (pa_cons (pe_tup (pa_cons (pe_tup (pa_cons pe_str pa_nil)) pa_nil)) (pa_cons (pe_tup (pa_cons (pe_tup (pa_cons pe_str pa_nil)) (pa_cons (pe_tup (pa_cons pe_str (pa_cons pe_str pa_nil))) pa_nil))) (pa_cons (pe_tup (pa_cons (pe_tup (pa_cons pe_str pa_nil)) (pa_cons (pe_tup (pa_cons pe_str (pa_cons pe_str pa_nil))) (pa_cons (pe_tup (pa_cons pe_str (pa_cons pe_str (pa_cons pe_str pa_nil)))) pa_nil)))) (pa_cons (pe_tup (pa_cons (pe_tup pa_nil) pa_nil)) pa_nil)))))))
      (pss_cons (ps_if (pt_cmpR op_ne (pe_callB (call_reprD hr.units gs) (by rfl) T.b_repr (by decide +kernel) (pa_cons (pv 3) pa_nil)) (pe_callB (call_reprD hr.units gs) (by rfl) T.b_repr (by decide +kernel) (pa_cons (pe_op op_cat (pv 5) (pe_lst (pa_cons (pe_tup (pa_cons (pe_tup (pa_cons pe_str pa_nil)) (pa_cons (pe_tup (pa_cons pe_str pa_nil)) pa_nil))) (pa_cons (pe_tup (pa_cons (pe_tup (pa_cons pe_str pa_nil)) pa_nil)) (pa_cons (pe_tup (pa_cons (pe_tup (pa_cons pe_str (pa_cons pe_str pa_nil))) pa_nil)) pa_nil))))) pa_nil)) (nomark _)) (pss_one (ps_ret pe_bl)) pss_nil)
      (pss_one (ps_ret (pe_callB (cr_all rfl) (by rfl) T.b_all (by decide +kernel) (pa_cons (pe_lc (own := [("_law_k", 8)]) (g := gName 8) (tt := tYes) rfl sc_law.nd (pi_range1 rfl T.b_range (pa_cons (pe_callB (call_max2 rfl) (by rfl) T.b_max (by decide +kernel) (pa_cons pe_int (pa_cons (pe_callB (call_min2 rfl) (by rfl) T.b_min (by decide +kernel) (pa_cons (pe_callB call_len_seq (by rfl) T.b_len (by decide +kernel) (pa_cons (pv 0) pa_nil)) (pa_cons pe_int pa_nil))) pa_nil))) pa_nil)) (blkOk_by (N := sc_law_N) (sc := defScope s_law) (by decide +kernel)) (fun _ _ _ _ _ => pg_name (i := 8) sc_law.nd rfl (Or.inl rfl)) (fun _ _ _ _ _ => pts_nil) (fun _ _ _ _ _ => (pe_fnG h_right gs (hr.mono (by decide)) (pa_cons (pe_fn h_spring (hr.mono (by decide)) (pa_cons (pv 0) (pa_cons (pv 8) pa_nil))) pa_nil)))) pa_nil)))))))))))), ?_⟩
    have poA := ok_MA.po (by decide)
    have moA := ok_MA.mo (by decide)
    have poB := ok_MB.po (by decide)
    have moB := ok_MB.mo (by decide)
    have z2 : 2 ≤ sizeLine := by decide
    refine ⟨rfl, _, rfl, _, _, rfl, rfl, by decide +kernel, irr ⟨MA.ps, MA.ms, congrArg (fun z => [V.ref CN, V.str z]) tx_A55, poA, moA, fun x H1 s1 nr => ?_⟩⟩
    dsimp only [gName]
    refine ⟨4, rfl, by decide, by decide, fun D nD => lc_range (lo := 0) (n := 4) (fun i H' => ∃ bs : List Addr, bs.length = i ∧ Same H1 H' ∧ H' D = some (.lst (bs.map V.ref)) ∧ ∀ k r, bs[k]? = some r → RE H' r (res k)) ⟨[], rfl, (put_same nD).1, upd_same, fun k r e => by simp at e⟩ ?_ ?_⟩
    · rintro i H3 hi ⟨bs, bl, s3, e3, hb⟩
      refine ⟨rfl, _, rfl, by show 5 ≤ sizeLine; decide, fun t nt => ⟨_, rfl, expl_step (rs := rA 5) (b := i) ((nr.ext s3).ext (put_same nt).1) ok_MA rb_A (SqT.of (put_same nt).2) (rdA 5) (by simp) (by omega) (su5 5) asc5 (ex5 i (by omega)) fun r H4 s4 h4 => ?_⟩⟩
      have s34 := (put_same nt).1.trans s4
      have e4 := s34 _ _ e3
      refine ⟨_, e4, ?_, bs ++ [r], by rw [List.length_append, bl]; rfl, fun b o e => ?_, by rw [upd_same, List.map_append]; rfl, fun j q e => ?_⟩
      · rw [List.length_map, bl]
        exact Nat.lt_of_lt_of_le (show i < 9 by omega) (by decide)
      · rw [upd_ne (ne_of_none e nD)]
        exact s34 _ _ (s3 _ _ e)
      · refine RE.put ?_ e4
        rw [List.getElem?_append] at e
        split at e
        · exact (hb j q e).ext s34
        · rename_i hk
          have : j - bs.length = 0 := by
            have := (List.getElem?_eq_some_iff.mp e).1
            simp at this
            omega
          rw [this] at e
          obtain rfl : r = q := Option.some.inj e
          rw [show j = i by omega]
          exact h4
    · rintro H3 ⟨bs, bl, s3, e3, hb⟩
      have s13 : Same H H3 := s1.trans s3
      obtain ⟨b0, b1, b2, b3, rfl⟩ : ∃ b0 b1 b2 b3, bs = [b0, b1, b2, b3] := by
        match bs, bl with
        | [b0, b1, b2, b3], _ => exact ⟨b0, b1, b2, b3, rfl⟩
      have r0 := hb 0 b0 rfl
      have r1 := hb 1 b1 rfl
      have r2 := hb 2 b2 rfl
      have r3 := hb 3 b3 rfl
      have nr3 := nr.ext s3
      have e3 : H3 D = some (.lst [.ref b0, .ref b1, .ref b2, .ref b3]) := e3
      clear hb bl nr s1 s3 nD
      dsimp only [gName]
      refine ⟨_, rfl, _, rfl, by show 5 ≤ sizeLine; decide, fun t4 nt4 => expl_step (rs := rA 3) (b := 3) (nr3.ext (put_same nt4).1) ok_MA rb_A (SqT.of (put_same nt4).2) (rdA 3) rfl (by decide) (su5 3) asc5 ex3' fun d4 H4 s4 r4 => ?_⟩
      have s34 := (put_same nt4).1.trans s4
      refine ⟨_, rfl, by show 5 ≤ sizeLine; decide, fun t5 nt5 => expl_step (rs := rA2) (b := 1) ((nr3.ext s34).ext (put_same nt5).1) ok_MA rb_A (SqT.of (put_same nt5).2) rdA2 rfl (by decide) suN ascN exN fun d5 H5 s5 r5 => ⟨z2, fun L2 nL2 => ?_⟩⟩
      have s45 := (put_same nt5).1.trans s5
      have s35 := s34.trans s45
      obtain ⟨sL, eL⟩ := put_same (o := .lst [.ref d4, .ref d5]) nL2
      revert sL eL
      generalize upd H5 L2 (.lst [.ref d4, .ref d5]) = H6
      intro sL eL
      have s36 := s35.trans sL
      refine ⟨D, L2, _, _, rfl, rfl, s36 _ _ e3, eL, by show 6 ≤ sizeLine; decide, fun T1 nT1 => ?_⟩
      obtain ⟨sT, eT⟩ := put_same (o := .lst ([.ref b0, .ref b1, .ref b2, .ref b3] ++ [.ref d4, .ref d5])) nT1
      revert sT eT
      generalize upd H6 T1 (.lst ([.ref b0, .ref b1, .ref b2, .ref b3] ++ [.ref d4, .ref d5])) = H7
      intro sT eT
      have s37 := s36.trans sT
      have s17 : Same H H7 := s13.trans s37
      have q0 := r0.ext s37
      have q1 := r1.ext s37
      have q2 := r2.ext s37
      have q3 := r3.ext s37
      have q4 := r4.ext ((s45.trans sL).trans sT)
      have q5 := r5.ext (sL.trans sT)
      clear r0 r1 r2 r3 r4 r5 s37 s36 s35 s34 s45 sL sT eL e3 s4 s5 nt4 nt5 nL2 nT1 nr3 s13
      dsimp only [gName]
      refine ⟨rfl, irr ⟨MB.ps, MB.ms, congrArg (fun z => [V.ref CN, V.str z]) tx_B55, poB, moB, fun y H8 s8 nrB => ?_⟩⟩
      dsimp only [gName]
      refine ⟨_, rfl, z2, fun u1 n1 => ⟨z2, fun u2 n2 => ⟨z2, fun L3 n3 => ?_⟩⟩⟩
      have w1 := put_same (o := .tup [.int 0, .int 1]) n1
      have w2 := put_same (o := .tup [.int 2, .int 2]) n2
      have w3 := put_same (o := .lst [.ref u1, .ref u2]) n3
      have eu1 := w3.1 _ _ (w2.1 _ _ w1.2)
      have eu2 := w3.1 _ _ w2.2
      have s89 := (w1.1.trans w2.1).trans w3.1
      have eL3 := w3.2
      clear w1 w2 w3
      revert eu1 eu2 s89 eL3
      generalize upd (upd (upd H8 u1 (.tup [.int 0, .int 1])) u2 (.tup [.int 2, .int 2])) L3 (.lst [.ref u1, .ref u2]) = H9
      intro eu1 eu2 s89 eL3
      have s79 := s8.trans s89
      have nr9 := nrB.ext s89
      refine ⟨L3, rfl, ⟨_, SqL.of eL3⟩, fun E nE => ?_⟩
      refine lc_new (xs := [.ref u1, .ref u2]) V.ref (fun j r H' => RE H' r (if j = 0 then [["y"]] else [["x", "y"]])) walk_list nE (by show 2 ≤ 1000; decide) (fun H' s' => SqL.of (s' _ _ eL3)) (fun _ => rfl) (fun j r Ha Hb s' h => h.ext s') (fun j r Ha acc acc' e h => h.put e) (fun j v hv H10 s10 _ R hR => ?_) fun cs H10 s10 cl hc e10 => ?_
      · rcases j with _ | _ | j
        · obtain rfl := Option.some.inj hv
          exact ⟨_, rfl, _, rfl, expl_step (rs := rB1) (b := 2) (nr9.ext s10) ok_MB rb_B (SqT.of (s10 _ _ eu1)) (rdB rfl) rfl (by decide) suB1 ascB exB1 fun r H11 s11 h => hR r H11 s11 h⟩
        · obtain rfl := Option.some.inj hv
          exact ⟨_, rfl, _, rfl, expl_step (rs := rB2) (b := 2) (nr9.ext s10) ok_MB rb_B (SqT.of (s10 _ _ eu2)) (rdB rfl) rfl (by decide) suB2 ascB exB2 fun r H11 s11 h => hR r H11 s11 h⟩
        · cases hv
      obtain ⟨c6, c7, rfl⟩ : ∃ c6 c7, cs = [c6, c7] := by
        match cs, cl with
        | [c6, c7], _ => exact ⟨c6, c7, rfl⟩
      have r6 : RE H10 c6 [["y"]] := hc 0 c6 rfl
      have r7 : RE H10 c7 [["x", "y"]] := hc 1 c7 rfl
      have e10 : H10 E = some (.lst [.ref c6, .ref c7]) := e10
      have s710 := s79.trans s10
      have eT10 := s710 _ _ eT
      clear hc cl nr9 eu1 eu2 eL3 s89 nrB
      refine ⟨T1, E, _, _, rfl, rfl, eT10, e10, by show 8 ≤ sizeLine; decide, fun T2 nT2 => ?_⟩
      obtain ⟨sU, eU⟩ := put_same (o := .lst ([.ref b0, .ref b1, .ref b2, .ref b3] ++ [.ref d4, .ref d5] ++ [.ref c6, .ref c7])) nT2
      revert sU eU
      generalize upd H10 T2 (.lst ([.ref b0, .ref b1, .ref b2, .ref b3] ++ [.ref d4, .ref d5] ++ [.ref c6, .ref c7])) = H11
      intro sU eU
      have s711 := s710.trans sU
      have p0 := q0.ext s711
      have p1 := q1.ext s711
      have p2 := q2.ext s711
      have p3 := q3.ext s711
      have p4 := q4.ext s711
      have p5 := q5.ext s711
      have p6 := r6.ext sU
      have p7 := r7.ext sU
      have s111 : Same H H11 := s17.trans s711
      clear q0 q1 q2 q3 q4 q5 r6 r7 s711 s710 s79 s10 sU e10 eT10 eT s17 s8 n1 n2 n3 nE nT2
      dsimp only [gName]
      refine ⟨by show 0 ≤ sizeLine; decide, fun a1 na1 => ?_⟩
      obtain ⟨g1, f1⟩ := put_same (o := .tup []) na1
      revert g1 f1
      generalize upd H11 a1 (.tup []) = H12
      intro g1 f1
      have h1 : RE H12 a1 ([] : List (List Str)) := RE.nil f1
      refine ⟨by show 1 ≤ sizeLine; decide, fun a2 na2 => ?_⟩
      obtain ⟨g2, f2⟩ := put_same (o := .tup [.str "m5"]) na2
      revert g2 f2
      generalize upd H12 a2 (.tup [.str "m5"]) = H13
      intro g2 f2
      refine ⟨by show 1 ≤ sizeLine; decide, fun a3 na3 => ?_⟩
      obtain ⟨g3, f3⟩ := put_same (o := .tup [.ref a2]) na3
      revert g3 f3
      generalize upd H13 a3 (.tup [.ref a2]) = H14
      intro g3 f3
      have h3 : RE H14 a3 ([["m5"]] : List (List Str)) := RE.one f3 (g3 _ _ f2)
      refine ⟨by show 1 ≤ sizeLine; decide, fun a4 na4 => ?_⟩
      obtain ⟨g4, f4⟩ := put_same (o := .tup [.str "m5"]) na4
      revert g4 f4
      generalize upd H14 a4 (.tup [.str "m5"]) = H15
      intro g4 f4
      refine ⟨by show 2 ≤ sizeLine; decide, fun a5 na5 => ?_⟩
      obtain ⟨g5, f5⟩ := put_same (o := .tup [.str "m1", .str "m3"]) na5
      revert g5 f5
      generalize upd H15 a5 (.tup [.str "m1", .str "m3"]) = H16
      intro g5 f5
      refine ⟨by show 2 ≤ sizeLine; decide, fun a6 na6 => ?_⟩
      obtain ⟨g6, f6⟩ := put_same (o := .tup [.ref a4, .ref a5]) na6
      revert g6 f6
      generalize upd H16 a6 (.tup [.ref a4, .ref a5]) = H17
      intro g6 f6
      have h6 : RE H17 a6 ([["m5"], ["m1", "m3"]] : List (List Str)) := RE.two f6 ((g5.trans g6) _ _ f4) (g6 _ _ f5)
      refine ⟨by show 1 ≤ sizeLine; decide, fun a7 na7 => ?_⟩
      obtain ⟨g7, f7⟩ := put_same (o := .tup [.str "m5"]) na7
      revert g7 f7
      generalize upd H17 a7 (.tup [.str "m5"]) = H18
      intro g7 f7
      refine ⟨by show 2 ≤ sizeLine; decide, fun a8 na8 => ?_⟩
      obtain ⟨g8, f8⟩ := put_same (o := .tup [.str "m1", .str "m3"]) na8
      revert g8 f8
      generalize upd H18 a8 (.tup [.str "m1", .str "m3"]) = H19
      intro g8 f8
      refine ⟨by show 3 ≤ sizeLine; decide, fun a9 na9 => ?_⟩
      obtain ⟨g9, f9⟩ := put_same (o := .tup [.str "m2", .str "m3", .str "m4"]) na9
      revert g9 f9
      generalize upd H19 a9 (.tup [.str "m2", .str "m3", .str "m4"]) = H20
      intro g9 f9
      refine ⟨by show 3 ≤ sizeLine; decide, fun a10 na10 => ?_⟩
      obtain ⟨g10, f10⟩ := put_same (o := .tup [.ref a7, .ref a8, .ref a9]) na10
      revert g10 f10
      generalize upd H20 a10 (.tup [.ref a7, .ref a8, .ref a9]) = H21
      intro g10 f10
      have h10 : RE H21 a10 ([["m5"], ["m1", "m3"], ["m2", "m3", "m4"]] : List (List Str)) := RE.three f10 (((g8.trans g9).trans g10) _ _ f7) ((g9.trans g10) _ _ f8) (g10 _ _ f9)
      refine ⟨by show 0 ≤ sizeLine; decide, fun a11 na11 => ?_⟩
      obtain ⟨g11, f11⟩ := put_same (o := .tup []) na11
      revert g11 f11
      generalize upd H21 a11 (.tup []) = H22
      intro g11 f11
      refine ⟨by show 1 ≤ sizeLine; decide, fun a12 na12 => ?_⟩
      obtain ⟨g12, f12⟩ := put_same (o := .tup [.ref a11]) na12
      revert g12 f12
      generalize upd H22 a12 (.tup [.ref a11]) = H23
      intro g12 f12
      have h12 : RE H23 a12 ([[]] : List (List Str)) := RE.one f12 (g12 _ _ f11)
      -- the list
      refine ⟨by show 5 ≤ sizeLine; decide, fun a13 na13 => ?_⟩
      obtain ⟨g13, f13⟩ := put_same (o := .lst [.ref a1, .ref a3, .ref a6, .ref a10, .ref a12]) na13
      revert g13 f13
      generalize upd H23 a13 (.lst [.ref a1, .ref a3, .ref a6, .ref a10, .ref a12]) = H24
      intro g13 f13
      dsimp only [gName]
      have sX := ((((((((((((g1.trans g2).trans g3).trans g4).trans g5).trans g6).trans g7).trans g8).trans g9).trans g10).trans g11).trans g12).trans g13)
      refine ⟨_, rfl, repr8 (RE8 (sX _ _ eU) (p0.ext sX) (p1.ext sX) (p2.ext sX) (p3.ext sX) (p4.ext sX) (p5.ext sX) (p6.ext sX) (p7.ext sX)) ⟨_, rfl, ?_⟩⟩
      refine ⟨by show 1 ≤ sizeLine; decide, fun a14 na14 => ?_⟩
      obtain ⟨g14, f14⟩ := put_same (o := .tup [.str "m2"]) na14
      revert g14 f14
      generalize upd H24 a14 (.tup [.str "m2"]) = H25
      intro g14 f14
      refine ⟨by show 1 ≤ sizeLine; decide, fun a15 na15 => ?_⟩
      obtain ⟨g15, f15⟩ := put_same (o := .tup [.str "m4"]) na15
      revert g15 f15
      generalize upd H25 a15 (.tup [.str "m4"]) = H26
      intro g15 f15
      refine ⟨by show 2 ≤ sizeLine; decide, fun a16 na16 => ?_⟩
      obtain ⟨g16, f16⟩ := put_same (o := .tup [.ref a14, .ref a15]) na16
      revert g16 f16
      generalize upd H26 a16 (.tup [.ref a14, .ref a15]) = H27
      intro g16 f16
      have h16 : RE H27 a16 ([["m2"], ["m4"]] : List (List Str)) := RE.two f16 ((g15.trans g16) _ _ f14) (g16 _ _ f15)
      refine ⟨by show 1 ≤ sizeLine; decide, fun a17 na17 => ?_⟩
      obtain ⟨g17, f17⟩ := put_same (o := .tup [.str "y"]) na17
      revert g17 f17
      generalize upd H27 a17 (.tup [.str "y"]) = H28
      intro g17 f17
      refine ⟨by show 1 ≤ sizeLine; decide, fun a18 na18 => ?_⟩
      obtain ⟨g18, f18⟩ := put_same (o := .tup [.ref a17]) na18
      revert g18 f18
      generalize upd H28 a18 (.tup [.ref a17]) = H29
      intro g18 f18
      have h18 : RE H29 a18 ([["y"]] : List (List Str)) := RE.one f18 (g18 _ _ f17)
      refine ⟨by show 2 ≤ sizeLine; decide, fun a19 na19 => ?_⟩
      obtain ⟨g19, f19⟩ := put_same (o := .tup [.str "x", .str "y"]) na19
      revert g19 f19
      generalize upd H29 a19 (.tup [.str "x", .str "y"]) = H30
      intro g19 f19
      refine ⟨by show 1 ≤ sizeLine; decide, fun a20 na20 => ?_⟩
      obtain ⟨g20, f20⟩ := put_same (o := .tup [.ref a19]) na20
      revert g20 f20
      generalize upd H30 a20 (.tup [.ref a19]) = H31
      intro g20 f20
      have h20 : RE H31 a20 ([["x", "y"]] : List (List Str)) := RE.one f20 (g20 _ _ f19)
      refine ⟨by show 3 ≤ sizeLine; decide, fun a21 na21 => ?_⟩
      obtain ⟨g21, f21⟩ := put_same (o := .lst [.ref a16, .ref a18, .ref a20]) na21
      revert g21 f21
      generalize upd H31 a21 (.lst [.ref a16, .ref a18, .ref a20]) = H32
      intro g21 f21
      have sL1 := (((((((g14.trans g15).trans g16).trans g17).trans g18).trans g19).trans g20).trans g21)
      refine ⟨a13, a21, _, _, rfl, rfl, sL1 _ _ f13, f21, by show 8 ≤ sizeLine; decide, fun T3 nT3 => ?_⟩
      obtain ⟨sV, eV⟩ := put_same (o := .lst ([.ref a1, .ref a3, .ref a6, .ref a10, .ref a12] ++ [.ref a16, .ref a18, .ref a20])) nT3
      have sA := (((((((((((((((((((((g1.trans g2).trans g3).trans g4).trans g5).trans g6).trans g7).trans g8).trans g9).trans g10).trans g11).trans g12).trans g13).trans g14).trans g15).trans g16).trans g17).trans g18).trans g19).trans g20).trans g21)).trans sV
      have k0 := h1.ext (((((((((((((((((((((g2.trans g3).trans g4).trans g5).trans g6).trans g7).trans g8).trans g9).trans g10).trans g11).trans g12).trans g13).trans g14).trans g15).trans g16).trans g17).trans g18).trans g19).trans g20).trans g21)).trans sV)
      have k1 := h3.ext (((((((((((((((((((g4.trans g5).trans g6).trans g7).trans g8).trans g9).trans g10).trans g11).trans g12).trans g13).trans g14).trans g15).trans g16).trans g17).trans g18).trans g19).trans g20).trans g21)).trans sV)
      have k2 := h6.ext ((((((((((((((((g7.trans g8).trans g9).trans g10).trans g11).trans g12).trans g13).trans g14).trans g15).trans g16).trans g17).trans g18).trans g19).trans g20).trans g21)).trans sV)
      have k3 := h10.ext ((((((((((((g11.trans g12).trans g13).trans g14).trans g15).trans g16).trans g17).trans g18).trans g19).trans g20).trans g21)).trans sV)
      have k4 := h12.ext ((((((((((g13.trans g14).trans g15).trans g16).trans g17).trans g18).trans g19).trans g20).trans g21)).trans sV)
      have k5 := h16.ext ((((((g17.trans g18).trans g19).trans g20).trans g21)).trans sV)
      have k6 := h18.ext ((((g19.trans g20).trans g21)).trans sV)
      have k7 := h20.ext ((g21).trans sV)
      revert sV eV sA k0 k1 k2 k3 k4 k5 k6 k7
      generalize upd H32 T3 (.lst ([.ref a1, .ref a3, .ref a6, .ref a10, .ref a12] ++ [.ref a16, .ref a18, .ref a20])) = HZ
      intro sV eV sA k0 k1 k2 k3 k4 k5 k6 k7
      refine repr8 (RE8 eV k0 k1 k2 k3 k4 k5 k6 k7) ⟨rfl, _, rfl, ?_⟩
      rw [decide_eq_true rfl]
      have sZ : Same H HZ := s111.trans sA
      have hSZ := hS.ext sZ
      refine iteF ?_
      have sT := sZ
      dsimp only
      refine ⟨_, rfl, c, _, rfl, .inl hSZ, _, _, rfl, _, _, rfl, ?_⟩
      rw [List.length_map]
      generalize hj : (if (if (5 : Int) < (ns.length : Int) then (5 : Int) else (ns.length : Int)) > 2 then (if (5 : Int) < (ns.length : Int) then (5 : Int) else (ns.length : Int)) else 2) = j
      have hj2 : 2 ≤ j ∧ j ≤ 5 := by
        subst hj
        constructor <;> (repeat' split) <;> omega
      clear hj
      refine ⟨j, rfl, by omega, by omega, fun DD nDD => lc_range (lo := 0) (n := j.toNat) (fun i H' => Same HZ H' ∧ H' DD = some (.lst ((List.replicate i true).map V.bl))) ⟨fun b o e => (upd_ne (ne_of_none e nDD)).trans e, upd_same⟩ ?_ ?_⟩
      · rintro i Hy hi ⟨sy, ey⟩
        refine ⟨rfl, _, rfl, _, rfl, irr ⟨c, ns, i, by rw [Int.zero_add]; rfl, hSZ.ext sy, hl, by omega, fun a Hx na sx wx => ⟨a, _, rfl, wx, by omega, fun Hw gw => ?_⟩⟩⟩
        have aD : DD ≠ a := fun e => by rw [← e, ey] at na; cases na
        have ew := gw _ _ aD (sx _ _ ey)
        refine ⟨_, ew, ?_, fun b o e => ?_, ?_⟩
        · rw [List.length_map, List.length_replicate]
          exact Nat.lt_of_lt_of_le (show i < 9 by omega) (by decide)
        · rw [upd_ne (ne_of_none e nDD)]
          exact gw _ _ (fun z => by rw [z] at e; have := sy _ _ e; rw [na] at this; cases this) (sx _ _ (sy _ _ e))
        · rw [upd_same, List.replicate_succ', List.map_append]
          rfl
      · rintro Hy ⟨sy, ey⟩
        refine ⟨DD, _, rfl, SqL.of ey, ?_⟩
        rw [show (List.replicate j.toNat true).all id = true from List.all_eq_true.mpr fun b hb => List.eq_of_mem_replicate hb]
        exact k Hy
end
end RV
namespace RV
open PySem L2
/-! explanations(net=x, readings=t, most=n) -/
theorem kbEx {f : Addr} {K : PySem.W.Frag} {fd : FuncData} (F : Fun K "explanations" "explanations" s_explanations f fd) : KBn K fd ["net", "readings", "most"] 0 ["net", "readings", "most"] gEN gPE := by
  refine ⟨fun s us ws X h1 h2 => ?_, gEN_rel⟩
  obtain ⟨oc, od, kV, doc, pm, an, cdv, ct, osl, rfl, lk, hcd⟩ := F.ex
  match us, h1, ws, h2 with
  | [], _, [t, u, v], _ => exact BindsTo.of_eq rfl
end RV
namespace RV
open PySem L2
theorem all_mk {l : PySem.W.OpenLaw} {w : World} {K : PySem.W.Frag} {h : Heap} {mg : Str → Option Value} {fa : Addr} (X : K.In h) (G : h.Ns mainGlobals mg) (hfa : mg "law" = some (.ref fa))
    {tkA : Tok}
    {tkB : Tok}
    {tkC : Tok}
    {tkF : Tok}
    {tkG : Tok}
    {fIn : Addr}
    {odIn anIn : Option Addr} {slIn : Array (Option Value)} {ocIn kVIn dcIn pmIn cdIn ctIn : Value}
    {fCn : Addr}
    {odCn anCn : Option Addr} {slCn : Array (Option Value)} {ocCn kVCn dcCn pmCn cdCn ctCn : Value}
    {CP : Addr}
    {CM : Addr}
    {fPi : Addr}
    {odPi anPi : Option Addr} {slPi : Array (Option Value)} {ocPi kVPi dcPi pmPi cdPi ctPi : Value}
    {fMi : Addr}
    {odMi anMi : Option Addr} {slMi : Array (Option Value)} {ocMi dcMi pmMi cdMi ctMi : Value} {kDMi : Addr}
    {ppn : Addr}
    {fpn : Addr}
    {rpn : List Value}
    {odpn anpn : Option Addr} {slpn : Array (Option Value)} {ocpn kVpn dcpn pmpn cdpn ctpn : Value}
    {pps : Addr}
    {fps : Addr}
    {rps : List Value}
    {odps anps : Option Addr} {slps : Array (Option Value)} {ocps kVps dcps pmps cdps ctps : Value}
    {ppe : Addr}
    {fpe : Addr}
    {rpe : List Value}
    {odpe anpe : Option Addr} {slpe : Array (Option Value)} {ocpe kVpe dcpe pmpe cdpe ctpe : Value}
    {pmn : Addr}
    {fmn : Addr}
    {rmn : List Value}
    {odmn anmn : Option Addr} {slmn : Array (Option Value)} {ocmn kVmn dcmn pmmn cdmn ctmn : Value}
    {pma : Addr}
    {fma : Addr}
    {rma : List Value}
    {odma anma : Option Addr} {slma : Array (Option Value)} {ocma kVma dcma pmma cdma ctma : Value}
    {pmz : Addr}
    {fmz : Addr}
    {rmz : List Value}
    {odmz anmz : Option Addr} {slmz : Array (Option Value)} {ocmz kVmz dcmz pmmz cdmz ctmz : Value}
    {fPq : Addr}
    {odPq anPq : Option Addr} {slPq : Array (Option Value)} {ocPq kVPq dcPq pmPq cdPq ctPq : Value}
    {fMq : Addr}
    {odMq anMq : Option Addr} {slMq : Array (Option Value)} {ocMq kVMq dcMq pmMq cdMq ctMq : Value}
    {CN : Addr}
    {fIo : Addr}
    {odIo anIo : Option Addr} {slIo : Array (Option Value)} {ocIo kVIo dcIo pmIo cdIo ctIo : Value}
    {fCp : Addr}
    {odCp anCp : Option Addr} {slCp : Array (Option Value)} {ocCp kVCp dcCp pmCp cdCp ctCp : Value}
    {fCm : Addr}
    {odCm anCm : Option Addr} {slCm : Array (Option Value)} {ocCm kVCm dcCm pmCm cdCm ctCm : Value}
    {fPl : Addr}
    {odPl anPl : Option Addr} {slPl : Array (Option Value)} {ocPl kVPl dcPl pmPl cdPl ctPl : Value}
    {fMl : Addr}
    {odMl anMl : Option Addr} {slMl : Array (Option Value)} {ocMl kVMl dcMl pmMl cdMl ctMl : Value}
    {fLs : Addr}
    {odLs anLs : Option Addr} {slLs : Array (Option Value)} {ocLs kVLs dcLs pmLs cdLs ctLs : Value}
    {fNi : Addr}
    {tD : Addr}
    {t0 : Addr}
    {odNi anNi odT : Option Addr} {slNi slT : Array (Option Value)} {ocNi kVNi dcNi pmNi cdNi ctNi : Value} {nT : Nat}
    {pnp : Addr}
    {fnp : Addr}
    {rnp : List Value}
    {odnp annp : Option Addr} {slnp : Array (Option Value)} {ocnp kVnp dcnp pmnp cdnp ctnp : Value}
    {pnm : Addr}
    {fnm : Addr}
    {rnm : List Value}
    {odnm annm : Option Addr} {slnm : Array (Option Value)} {ocnm kVnm dcnm pmnm cdnm ctnm : Value}
    {fNl : Addr}
    {odNl anNl : Option Addr} {slNl : Array (Option Value)} {ocNl kVNl dcNl pmNl cdNl ctNl : Value}
    {fNs : Addr}
    {odNs anNs : Option Addr} {slNs : Array (Option Value)} {ocNs kVNs dcNs pmNs cdNs ctNs : Value}
    {fNq : Addr}
    {odNq anNq : Option Addr} {slNq : Array (Option Value)} {ocNq kVNq dcNq pmNq cdNq ctNq : Value}
    {fRw : Addr}
    {odRw anRw : Option Addr} {slRw : Array (Option Value)} {ocRw kVRw dcRw pmRw cdRw ctRw : Value}
    {fPn : Addr}
    {odPn anPn : Option Addr} {slPn : Array (Option Value)} {ocPn kVPn dcPn pmPn cdPn ctPn : Value}
    {fMn : Addr}
    {odMn anMn : Option Addr} {slMn : Array (Option Value)} {ocMn kVMn dcMn pmMn cdMn ctMn : Value}
    {pNr : Addr}
    {fNr : Addr}
    {rNr : List Value}
    {odNr anNr : Option Addr} {slNr : Array (Option Value)} {ocNr kVNr dcNr pmNr cdNr ctNr : Value}
    {fNu : Addr}
    {odNu anNu : Option Addr} {slNu : Array (Option Value)} {ocNu kVNu dcNu pmNu cdNu ctNu : Value}
    {fKn : Addr}
    {odKn anKn : Option Addr} {slKn : Array (Option Value)} {ocKn kVKn dcKn pmKn cdKn ctKn : Value}
    {tkV : Tok}
    {fIb : Addr}
    {odIb anIb : Option Addr} {slIb : Array (Option Value)} {ocIb kVIb dcIb pmIb cdIb ctIb : Value}
    {fCh : Addr}
    {odCh anCh : Option Addr} {slCh : Array (Option Value)} {ocCh kVCh dcCh pmCh cdCh ctCh : Value}
    {ppl : Addr}
    {fpl : Addr}
    {rpl : List Value}
    {odpl anpl : Option Addr} {slpl : Array (Option Value)} {ocpl kVpl dcpl pmpl cdpl ctpl : Value}
    {fRe : Addr}
    {odRe anRe : Option Addr} {slRe : Array (Option Value)} {ocRe kVRe dcRe pmRe cdRe ctRe : Value}
    {fRo : Addr}
    {odRo anRo : Option Addr} {slRo : Array (Option Value)} {ocRo kVRo dcRo pmRo cdRo ctRo : Value}
    {fFt : Addr}
    {odFt anFt : Option Addr} {slFt : Array (Option Value)} {ocFt kVFt dcFt pmFt cdFt ctFt : Value}
    {fIr : Addr}
    {odIr anIr : Option Addr} {slIr : Array (Option Value)} {ocIr kVIr dcIr pmIr cdIr ctIr : Value}
    {fKr : Addr}
    {odKr anKr : Option Addr} {slKr : Array (Option Value)} {ocKr kVKr dcKr pmKr cdKr ctKr : Value}
    {fSi : Addr}
    {odSi anSi : Option Addr} {slSi : Array (Option Value)} {ocSi kVSi dcSi pmSi cdSi ctSi : Value}
    {fSh : Addr}
    {odSh anSh : Option Addr} {slSh : Array (Option Value)} {ocSh kVSh dcSh pmSh cdSh ctSh : Value}
    {fFr : Addr}
    {tDf : Addr}
    {t0f : Addr}
    {odFr anFr odTf : Option Addr} {slFr slTf : Array (Option Value)} {ocFr kVFr dcFr pmFr cdFr ctFr : Value} {nTf : Nat}
    {fUs : Addr}
    {odUs anUs : Option Addr} {slUs : Array (Option Value)} {ocUs kVUs dcUs pmUs cdUs ctUs : Value}
    {fDb : Addr}
    {odDb anDb : Option Addr} {slDb : Array (Option Value)} {ocDb kVDb dcDb pmDb cdDb ctDb : Value}
    {fSb : Addr}
    {odSb anSb : Option Addr} {slSb : Array (Option Value)} {ocSb kVSb dcSb pmSb cdSb ctSb : Value}
    {fEx : Addr}
    {odEx anEx : Option Addr} {slEx : Array (Option Value)} {ocEx kVEx dcEx pmEx cdEx ctEx : Value}
    {fSg : Addr}
    {odSg anSg : Option Addr} {slSg : Array (Option Value)} {ocSg kVSg dcSg pmSg cdSg ctSg : Value}
    {fTa : Addr}
    {odTa anTa : Option Addr} {slTa : Array (Option Value)} {ocTa kVTa dcTa pmTa cdTa ctTa : Value}
    {fTi : Addr}
    {odTi anTi : Option Addr} {slTi : Array (Option Value)} {ocTi kVTi dcTi pmTi cdTi ctTi : Value}
    {fPa : Addr}
    {odPa anPa : Option Addr} {slPa : Array (Option Value)} {ocPa kVPa dcPa pmPa cdPa ctPa : Value}
    {fGr : Addr}
    {odGr anGr : Option Addr} {slGr : Array (Option Value)} {ocGr kVGr dcGr pmGr cdGr ctGr : Value}
    {fPh : Addr}
    {odPh anPh : Option Addr} {slPh : Array (Option Value)} {ocPh kVPh dcPh pmPh cdPh ctPh : Value}
    {fRg : Addr}
    {odRg anRg : Option Addr} {slRg : Array (Option Value)} {ocRg kVRg dcRg pmRg cdRg ctRg : Value}
    {fNb : Addr}
    {odNb anNb : Option Addr} {slNb : Array (Option Value)} {ocNb kVNb dcNb pmNb cdNb ctNb : Value}
    {fFl : Addr}
    {odFl anFl : Option Addr} {slFl : Array (Option Value)} {ocFl kVFl dcFl pmFl cdFl ctFl : Value}
    {fSe : Addr}
    {odSe anSe : Option Addr} {slSe : Array (Option Value)} {ocSe kVSe dcSe pmSe cdSe ctSe : Value}
    {fRd : Addr}
    {odRd anRd : Option Addr} {slRd : Array (Option Value)} {ocRd kVRd dcRd pmRd cdRd ctRd : Value}
    {fSo : Addr}
    {odSo anSo : Option Addr} {slSo : Array (Option Value)} {ocSo kVSo dcSo pmSo cdSo ctSo : Value}
    {fFa : Addr}
    {odFa anFa : Option Addr} {slFa : Array (Option Value)} {ocFa kVFa dcFa pmFa cdFa ctFa : Value}
    {fPo : Addr}
    {odPo anPo : Option Addr} {slPo : Array (Option Value)} {ocPo kVPo dcPo pmPo cdPo ctPo : Value}
    {fSt : Addr}
    {odSt anSt : Option Addr} {slSt : Array (Option Value)} {ocSt kVSt dcSt pmSt cdSt ctSt : Value}
    {fSu : Addr}
    {odSu anSu : Option Addr} {slSu : Array (Option Value)} {ocSu kVSu dcSu pmSu cdSu ctSu : Value}
    {fXp : Addr}
    {odXp anXp : Option Addr} {slXp : Array (Option Value)} {ocXp kVXp dcXp pmXp cdXp ctXp : Value}
    {fRi : Addr}
    {odRi anRi : Option Addr} {slRi : Array (Option Value)} {ocRi kVRi dcRi pmRi cdRi ctRi : Value}
    {fLa : Addr}
    {odLa anLa : Option Addr} {slLa : Array (Option Value)} {ocLa kVLa dcLa pmLa cdLa ctLa : Value}
    (b_len : PySem.W.nsIn K mainGlobals "len" = some none)
    (b_int : PySem.W.nsIn K mainGlobals "int" = some none)
    (b_abs : PySem.W.nsIn K mainGlobals "abs" = some none)
    (b_max : PySem.W.nsIn K mainGlobals "max" = some none)
    (b_min : PySem.W.nsIn K mainGlobals "min" = some none)
    (b_all : PySem.W.nsIn K mainGlobals "all" = some none)
    (b_any : PySem.W.nsIn K mainGlobals "any" = some none)
    (b_repr : PySem.W.nsIn K mainGlobals "repr" = some none)
    (b_range : PySem.W.nsIn K mainGlobals "range" = some none)
    (b_divmod : PySem.W.nsIn K mainGlobals "divmod" = some none)
    (b_isinstance : PySem.W.nsIn K mainGlobals "isinstance" = some none)
    (b_str : PySem.W.nsIn K mainGlobals "str" = some none)
    (b_sum : PySem.W.nsIn K mainGlobals "sum" = some none)
    (b_sorted : PySem.W.nsIn K mainGlobals "sorted" = some none)
    (b_set : PySem.W.nsIn K mainGlobals "set" = some none)
    (b_tuple : PySem.W.nsIn K mainGlobals "tuple" = some none)
    (b_enumerate : PySem.W.nsIn K mainGlobals "enumerate" = some none)
    (b_bool : PySem.W.nsIn K mainGlobals "bool" = some none)
    (g__LETTERS : PySem.W.nsIn K mainGlobals "_LETTERS" = some (some (.str "abcdefghijklmnopqrstuvwxyz" tkA)))
    (g__DIGITS : PySem.W.nsIn K mainGlobals "_DIGITS" = some (some (.str "0123456789" tkB)))
    (g__LONGEST_NAME : PySem.W.nsIn K mainGlobals "_LONGEST_NAME" = some (some (.int 8 tkC)))
    (g_MOST_PIPES : PySem.W.nsIn K mainGlobals "MOST_PIPES" = some (some (.int 12 tkF)))
    (g_MOST_METERS : PySem.W.nsIn K mainGlobals "MOST_METERS" = some (some (.int 12 tkG)))
    (aIn : PySem.W.nsIn K mainGlobals "is_name" = some (some (.ref fIn)))
    (lIn : K.lookup fIn = some ⟨ocIn, odIn, .func (PySem.W.fnOf "is_name" "is_name" (defArgs s_is_name) (defBody s_is_name) (defScope s_is_name) .none kVIn dcIn pmIn anIn cdIn ctIn), slIn⟩)
    (cIn : PySem.W.codeIn K cdIn "is_name" = true)
    (kIn : PySem.W.keepIn K (.ref fIn) = true)
    (aCn : PySem.W.nsIn K mainGlobals "_check_names" = some (some (.ref fCn)))
    (lCn : K.lookup fCn = some ⟨ocCn, odCn, .func (PySem.W.fnOf "_check_names" "_check_names" (defArgs s_check_names) (defBody s_check_names) (defScope s_check_names) .none kVCn dcCn pmCn anCn cdCn ctCn), slCn⟩)
    (cCn : PySem.W.codeIn K cdCn "_check_names" = true)
    (kCn : PySem.W.keepIn K (.ref fCn) = true)
    (nP : PySem.W.nsIn K mainGlobals "Pipe" = some (some (.ref CP)))
    (pgP : PySem.W.plainGet K CP Str.empty = true)
    (hdP : PySem.W.hasDictIn K CP = true)
    (poP : PySem.W.plainOver K CP = true)
    (saP : PySem.W.findIn K (.ref CP) "__setattr__" = some (some (.builtin "object.__setattr__")))
    (mkP : PySem.W.makesIn K CP = true)
    (kcP : PySem.W.keepIn K (.ref CP) = true)
    (haP : PySem.W.findIn K (.ref CP) "__class__" = some (some (.builtin "object.__class__")))
    (hmP : PySem.W.mroIn K CP (.type "object") = some true)
    (tyP : PySem.W.typeIn K (.ref CP) = some (.type "type"))
    (suP : PySem.W.subIn K (.ref CP) (.ref CP) = some true)
    (obP : PySem.W.subIn K (.ref CP) (.type "object") = some true)
    (noP0 : PySem.W.findIn K (.ref CP) "_name" = some none)
    (noP1 : PySem.W.findIn K (.ref CP) "_start" = some none)
    (noP2 : PySem.W.findIn K (.ref CP) "_end" = some none)
    (nM : PySem.W.nsIn K mainGlobals "Meter" = some (some (.ref CM)))
    (pgM : PySem.W.plainGet K CM Str.empty = true)
    (hdM : PySem.W.hasDictIn K CM = true)
    (poM : PySem.W.plainOver K CM = true)
    (saM : PySem.W.findIn K (.ref CM) "__setattr__" = some (some (.builtin "object.__setattr__")))
    (mkM : PySem.W.makesIn K CM = true)
    (kcM : PySem.W.keepIn K (.ref CM) = true)
    (haM : PySem.W.findIn K (.ref CM) "__class__" = some (some (.builtin "object.__class__")))
    (hmM : PySem.W.mroIn K CM (.type "object") = some true)
    (tyM : PySem.W.typeIn K (.ref CM) = some (.type "type"))
    (suM : PySem.W.subIn K (.ref CM) (.ref CM) = some true)
    (obM : PySem.W.subIn K (.ref CM) (.type "object") = some true)
    (noM0 : PySem.W.findIn K (.ref CM) "_name" = some none)
    (noM1 : PySem.W.findIn K (.ref CM) "_at" = some none)
    (noM2 : PySem.W.findIn K (.ref CM) "_sealed" = some none)
    (hn : PySem.W.specialIn K (.builtin "object.__class__") "__get__" = some (some (.builtin "getset_descriptor.__get__")))
    (htk : PySem.W.takesIn K (.builtin "object.__class__") = some true)
    (neP : PySem.W.findIn K (.ref CP) "__ne__" = some (some (.builtin "object.__ne__")))
    (neM : PySem.W.findIn K (.ref CM) "__ne__" = some (some (.builtin "object.__ne__")))
    (aPi : PySem.W.findIn K (.ref CP) "__init__" = some (some (.ref fPi)))
    (iPi : PySem.W.isFn K (.ref fPi) = true)
    (lPi : K.lookup fPi = some ⟨ocPi, odPi, .func (PySem.W.fnOf "__init__" "Pipe.__init__" (defArgs s_Pipe___init__) (defBody s_Pipe___init__) (defScope s_Pipe___init__) .none kVPi dcPi pmPi anPi cdPi ctPi), slPi⟩)
    (cPi : PySem.W.codeIn K cdPi "Pipe.__init__" = true)
    (kPi : PySem.W.keepIn K (.ref fPi) = true)
    (aMi : PySem.W.findIn K (.ref CM) "__init__" = some (some (.ref fMi)))
    (iMi : PySem.W.isFn K (.ref fMi) = true)
    (lMi : K.lookup fMi = some ⟨ocMi, odMi, .func (PySem.W.fnOf "__init__" "Meter.__init__" (defArgs s_Meter___init__) (defBody s_Meter___init__) (defScope s_Meter___init__) .none (.ref kDMi) dcMi pmMi anMi cdMi ctMi), slMi⟩)
    (cMi : PySem.W.codeIn K cdMi "Meter.__init__" = true)
    (kMi : PySem.W.keepIn K (.ref fMi) = true)
    (kd : PySem.W.nsIn K kDMi "sealed" = some (some (.bool false)))
    (apn : PySem.W.findIn K (.ref CP) "name" = some (some (.ref ppn)))
    (gpn : PySem.W.specialIn K (.ref ppn) "__get__" = some (some (.builtin "property.__get__")))
    (tpn : PySem.W.takesIn K (.ref ppn) = some true)
    (rpn_ : PySem.W.recIn K ppn "property" = some (.ref fpn :: rpn))
    (lpn : K.lookup fpn = some ⟨ocpn, odpn, .func (PySem.W.fnOf "name" "Pipe.name" (defArgs s_Pipe_name) (defBody s_Pipe_name) (defScope s_Pipe_name) .none kVpn dcpn pmpn anpn cdpn ctpn), slpn⟩)
    (cpn : PySem.W.codeIn K cdpn "Pipe.name" = true)
    (kpn : PySem.W.keepIn K (.ref fpn) = true)
    (aps : PySem.W.findIn K (.ref CP) "start" = some (some (.ref pps)))
    (gps : PySem.W.specialIn K (.ref pps) "__get__" = some (some (.builtin "property.__get__")))
    (tps : PySem.W.takesIn K (.ref pps) = some true)
    (rps_ : PySem.W.recIn K pps "property" = some (.ref fps :: rps))
    (lps : K.lookup fps = some ⟨ocps, odps, .func (PySem.W.fnOf "start" "Pipe.start" (defArgs s_Pipe_start) (defBody s_Pipe_start) (defScope s_Pipe_start) .none kVps dcps pmps anps cdps ctps), slps⟩)
    (cps : PySem.W.codeIn K cdps "Pipe.start" = true)
    (kps : PySem.W.keepIn K (.ref fps) = true)
    (ape : PySem.W.findIn K (.ref CP) "end" = some (some (.ref ppe)))
    (gpe : PySem.W.specialIn K (.ref ppe) "__get__" = some (some (.builtin "property.__get__")))
    (tpe : PySem.W.takesIn K (.ref ppe) = some true)
    (rpe_ : PySem.W.recIn K ppe "property" = some (.ref fpe :: rpe))
    (lpe : K.lookup fpe = some ⟨ocpe, odpe, .func (PySem.W.fnOf "end" "Pipe.end" (defArgs s_Pipe_end) (defBody s_Pipe_end) (defScope s_Pipe_end) .none kVpe dcpe pmpe anpe cdpe ctpe), slpe⟩)
    (cpe : PySem.W.codeIn K cdpe "Pipe.end" = true)
    (kpe : PySem.W.keepIn K (.ref fpe) = true)
    (amn : PySem.W.findIn K (.ref CM) "name" = some (some (.ref pmn)))
    (gmn : PySem.W.specialIn K (.ref pmn) "__get__" = some (some (.builtin "property.__get__")))
    (tmn : PySem.W.takesIn K (.ref pmn) = some true)
    (rmn_ : PySem.W.recIn K pmn "property" = some (.ref fmn :: rmn))
    (lmn : K.lookup fmn = some ⟨ocmn, odmn, .func (PySem.W.fnOf "name" "Meter.name" (defArgs s_Meter_name) (defBody s_Meter_name) (defScope s_Meter_name) .none kVmn dcmn pmmn anmn cdmn ctmn), slmn⟩)
    (cmn : PySem.W.codeIn K cdmn "Meter.name" = true)
    (kmn : PySem.W.keepIn K (.ref fmn) = true)
    (ama : PySem.W.findIn K (.ref CM) "at" = some (some (.ref pma)))
    (gma : PySem.W.specialIn K (.ref pma) "__get__" = some (some (.builtin "property.__get__")))
    (tma : PySem.W.takesIn K (.ref pma) = some true)
    (rma_ : PySem.W.recIn K pma "property" = some (.ref fma :: rma))
    (lma : K.lookup fma = some ⟨ocma, odma, .func (PySem.W.fnOf "at" "Meter.at" (defArgs s_Meter_at) (defBody s_Meter_at) (defScope s_Meter_at) .none kVma dcma pmma anma cdma ctma), slma⟩)
    (cma : PySem.W.codeIn K cdma "Meter.at" = true)
    (kma : PySem.W.keepIn K (.ref fma) = true)
    (amz : PySem.W.findIn K (.ref CM) "sealed" = some (some (.ref pmz)))
    (gmz : PySem.W.specialIn K (.ref pmz) "__get__" = some (some (.builtin "property.__get__")))
    (tmz : PySem.W.takesIn K (.ref pmz) = some true)
    (rmz_ : PySem.W.recIn K pmz "property" = some (.ref fmz :: rmz))
    (lmz : K.lookup fmz = some ⟨ocmz, odmz, .func (PySem.W.fnOf "sealed" "Meter.sealed" (defArgs s_Meter_sealed) (defBody s_Meter_sealed) (defScope s_Meter_sealed) .none kVmz dcmz pmmz anmz cdmz ctmz), slmz⟩)
    (cmz : PySem.W.codeIn K cdmz "Meter.sealed" = true)
    (kmz : PySem.W.keepIn K (.ref fmz) = true)
    (aPq : PySem.W.findIn K (.ref CP) "__eq__" = some (some (.ref fPq)))
    (iPq : PySem.W.isFn K (.ref fPq) = true)
    (lPq : K.lookup fPq = some ⟨ocPq, odPq, .func (PySem.W.fnOf "__eq__" "Pipe.__eq__" (defArgs s_Pipe___eq__) (defBody s_Pipe___eq__) (defScope s_Pipe___eq__) .none kVPq dcPq pmPq anPq cdPq ctPq), slPq⟩)
    (cPq : PySem.W.codeIn K cdPq "Pipe.__eq__" = true)
    (kPq : PySem.W.keepIn K (.ref fPq) = true)
    (fiPq : PySem.W.fnIn K fPq = true)
    (aMq : PySem.W.findIn K (.ref CM) "__eq__" = some (some (.ref fMq)))
    (iMq : PySem.W.isFn K (.ref fMq) = true)
    (lMq : K.lookup fMq = some ⟨ocMq, odMq, .func (PySem.W.fnOf "__eq__" "Meter.__eq__" (defArgs s_Meter___eq__) (defBody s_Meter___eq__) (defScope s_Meter___eq__) .none kVMq dcMq pmMq anMq cdMq ctMq), slMq⟩)
    (cMq : PySem.W.codeIn K cdMq "Meter.__eq__" = true)
    (kMq : PySem.W.keepIn K (.ref fMq) = true)
    (fiMq : PySem.W.fnIn K fMq = true)
    (nN : PySem.W.nsIn K mainGlobals "Net" = some (some (.ref CN)))
    (pgN : PySem.W.plainGet K CN Str.empty = true)
    (hdN : PySem.W.hasDictIn K CN = true)
    (poN : PySem.W.plainOver K CN = true)
    (saN : PySem.W.findIn K (.ref CN) "__setattr__" = some (some (.builtin "object.__setattr__")))
    (mkN : PySem.W.makesIn K CN = true)
    (kcN : PySem.W.keepIn K (.ref CN) = true)
    (haN : PySem.W.findIn K (.ref CN) "__class__" = some (some (.builtin "object.__class__")))
    (hmN : PySem.W.mroIn K CN (.type "object") = some true)
    (tyN : PySem.W.typeIn K (.ref CN) = some (.type "type"))
    (suN : PySem.W.subIn K (.ref CN) (.ref CN) = some true)
    (obN : PySem.W.subIn K (.ref CN) (.type "object") = some true)
    (noN0 : PySem.W.findIn K (.ref CN) "_pipes" = some none)
    (noN1 : PySem.W.findIn K (.ref CN) "_meters" = some none)
    (neN : PySem.W.findIn K (.ref CN) "__ne__" = some (some (.builtin "object.__ne__")))
    (aIo : PySem.W.nsIn K mainGlobals "_index_of" = some (some (.ref fIo)))
    (lIo : K.lookup fIo = some ⟨ocIo, odIo, .func (PySem.W.fnOf "_index_of" "_index_of" (defArgs s_index_of) (defBody s_index_of) (defScope s_index_of) .none kVIo dcIo pmIo anIo cdIo ctIo), slIo⟩)
    (cIo : PySem.W.codeIn K cdIo "_index_of" = true)
    (kIo : PySem.W.keepIn K (.ref fIo) = true)
    (aCp : PySem.W.nsIn K mainGlobals "_check_pipes" = some (some (.ref fCp)))
    (lCp : K.lookup fCp = some ⟨ocCp, odCp, .func (PySem.W.fnOf "_check_pipes" "_check_pipes" (defArgs s_check_pipes) (defBody s_check_pipes) (defScope s_check_pipes) .none kVCp dcCp pmCp anCp cdCp ctCp), slCp⟩)
    (cCp : PySem.W.codeIn K cdCp "_check_pipes" = true)
    (kCp : PySem.W.keepIn K (.ref fCp) = true)
    (aCm : PySem.W.nsIn K mainGlobals "_check_meters" = some (some (.ref fCm)))
    (lCm : K.lookup fCm = some ⟨ocCm, odCm, .func (PySem.W.fnOf "_check_meters" "_check_meters" (defArgs s_check_meters) (defBody s_check_meters) (defScope s_check_meters) .none kVCm dcCm pmCm anCm cdCm ctCm), slCm⟩)
    (cCm : PySem.W.codeIn K cdCm "_check_meters" = true)
    (kCm : PySem.W.keepIn K (.ref fCm) = true)
    (aPl : PySem.W.nsIn K mainGlobals "_pipe_line" = some (some (.ref fPl)))
    (lPl : K.lookup fPl = some ⟨ocPl, odPl, .func (PySem.W.fnOf "_pipe_line" "_pipe_line" (defArgs s_pipe_line) (defBody s_pipe_line) (defScope s_pipe_line) .none kVPl dcPl pmPl anPl cdPl ctPl), slPl⟩)
    (cPl : PySem.W.codeIn K cdPl "_pipe_line" = true)
    (kPl : PySem.W.keepIn K (.ref fPl) = true)
    (aMl : PySem.W.nsIn K mainGlobals "_meter_line" = some (some (.ref fMl)))
    (lMl : K.lookup fMl = some ⟨ocMl, odMl, .func (PySem.W.fnOf "_meter_line" "_meter_line" (defArgs s_meter_line) (defBody s_meter_line) (defScope s_meter_line) .none kVMl dcMl pmMl anMl cdMl ctMl), slMl⟩)
    (cMl : PySem.W.codeIn K cdMl "_meter_line" = true)
    (kMl : PySem.W.keepIn K (.ref fMl) = true)
    (aLs : PySem.W.nsIn K mainGlobals "_lines" = some (some (.ref fLs)))
    (lLs : K.lookup fLs = some ⟨ocLs, odLs, .func (PySem.W.fnOf "_lines" "_lines" (defArgs s_lines) (defBody s_lines) (defScope s_lines) .none kVLs dcLs pmLs anLs cdLs ctLs), slLs⟩)
    (cLs : PySem.W.codeIn K cdLs "_lines" = true)
    (kLs : PySem.W.keepIn K (.ref fLs) = true)
    (aNi : PySem.W.findIn K (.ref CN) "__init__" = some (some (.ref fNi)))
    (iNi : PySem.W.isFn K (.ref fNi) = true)
    (lNi : K.lookup fNi = some ⟨ocNi, odNi, .func (PySem.W.fnOf "__init__" "Net.__init__" (defArgs s_Net___init__) (defBody s_Net___init__) (defScope s_Net___init__) (.ref tD) kVNi dcNi pmNi anNi cdNi ctNi), slNi⟩)
    (cNi : PySem.W.codeIn K cdNi "Net.__init__" = true)
    (kNi : PySem.W.keepIn K (.ref fNi) = true)
    (lT : K.lookup tD = some ⟨.type "tuple", odT, .seq #[.ref t0] nT, slT⟩)
    (anp : PySem.W.findIn K (.ref CN) "pipes" = some (some (.ref pnp)))
    (gnp : PySem.W.specialIn K (.ref pnp) "__get__" = some (some (.builtin "property.__get__")))
    (tnp : PySem.W.takesIn K (.ref pnp) = some true)
    (rnp_ : PySem.W.recIn K pnp "property" = some (.ref fnp :: rnp))
    (lnp : K.lookup fnp = some ⟨ocnp, odnp, .func (PySem.W.fnOf "pipes" "Net.pipes" (defArgs s_Net_pipes) (defBody s_Net_pipes) (defScope s_Net_pipes) .none kVnp dcnp pmnp annp cdnp ctnp), slnp⟩)
    (cnp : PySem.W.codeIn K cdnp "Net.pipes" = true)
    (knp : PySem.W.keepIn K (.ref fnp) = true)
    (anm : PySem.W.findIn K (.ref CN) "meters" = some (some (.ref pnm)))
    (gnm : PySem.W.specialIn K (.ref pnm) "__get__" = some (some (.builtin "property.__get__")))
    (tnm : PySem.W.takesIn K (.ref pnm) = some true)
    (rnm_ : PySem.W.recIn K pnm "property" = some (.ref fnm :: rnm))
    (lnm : K.lookup fnm = some ⟨ocnm, odnm, .func (PySem.W.fnOf "meters" "Net.meters" (defArgs s_Net_meters) (defBody s_Net_meters) (defScope s_Net_meters) .none kVnm dcnm pmnm annm cdnm ctnm), slnm⟩)
    (cnm : PySem.W.codeIn K cdnm "Net.meters" = true)
    (knm : PySem.W.keepIn K (.ref fnm) = true)
    (aNl : PySem.W.findIn K (.ref CN) "__len__" = some (some (.ref fNl)))
    (iNl : PySem.W.isFn K (.ref fNl) = true)
    (lNl : K.lookup fNl = some ⟨ocNl, odNl, .func (PySem.W.fnOf "__len__" "Net.__len__" (defArgs s_Net___len__) (defBody s_Net___len__) (defScope s_Net___len__) .none kVNl dcNl pmNl anNl cdNl ctNl), slNl⟩)
    (cNl : PySem.W.codeIn K cdNl "Net.__len__" = true)
    (kNl : PySem.W.keepIn K (.ref fNl) = true)
    (fiNl : PySem.W.fnIn K fNl = true)
    (aNs : PySem.W.findIn K (.ref CN) "__str__" = some (some (.ref fNs)))
    (iNs : PySem.W.isFn K (.ref fNs) = true)
    (lNs : K.lookup fNs = some ⟨ocNs, odNs, .func (PySem.W.fnOf "__str__" "Net.__str__" (defArgs s_Net___str__) (defBody s_Net___str__) (defScope s_Net___str__) .none kVNs dcNs pmNs anNs cdNs ctNs), slNs⟩)
    (cNs : PySem.W.codeIn K cdNs "Net.__str__" = true)
    (kNs : PySem.W.keepIn K (.ref fNs) = true)
    (fiNs : PySem.W.fnIn K fNs = true)
    (aNq : PySem.W.findIn K (.ref CN) "__eq__" = some (some (.ref fNq)))
    (iNq : PySem.W.isFn K (.ref fNq) = true)
    (lNq : K.lookup fNq = some ⟨ocNq, odNq, .func (PySem.W.fnOf "__eq__" "Net.__eq__" (defArgs s_Net___eq__) (defBody s_Net___eq__) (defScope s_Net___eq__) .none kVNq dcNq pmNq anNq cdNq ctNq), slNq⟩)
    (cNq : PySem.W.codeIn K cdNq "Net.__eq__" = true)
    (kNq : PySem.W.keepIn K (.ref fNq) = true)
    (fiNq : PySem.W.fnIn K fNq = true)
    (aRw : PySem.W.nsIn K mainGlobals "_rows_in" = some (some (.ref fRw)))
    (lRw : K.lookup fRw = some ⟨ocRw, odRw, .func (PySem.W.fnOf "_rows_in" "_rows_in" (defArgs s_rows_in) (defBody s_rows_in) (defScope s_rows_in) .none kVRw dcRw pmRw anRw cdRw ctRw), slRw⟩)
    (cRw : PySem.W.codeIn K cdRw "_rows_in" = true)
    (kRw : PySem.W.keepIn K (.ref fRw) = true)
    (aPn : PySem.W.nsIn K mainGlobals "_pipes_in" = some (some (.ref fPn)))
    (lPn : K.lookup fPn = some ⟨ocPn, odPn, .func (PySem.W.fnOf "_pipes_in" "_pipes_in" (defArgs s_pipes_in) (defBody s_pipes_in) (defScope s_pipes_in) .none kVPn dcPn pmPn anPn cdPn ctPn), slPn⟩)
    (cPn : PySem.W.codeIn K cdPn "_pipes_in" = true)
    (kPn : PySem.W.keepIn K (.ref fPn) = true)
    (aMn : PySem.W.nsIn K mainGlobals "_meters_in" = some (some (.ref fMn)))
    (lMn : K.lookup fMn = some ⟨ocMn, odMn, .func (PySem.W.fnOf "_meters_in" "_meters_in" (defArgs s_meters_in) (defBody s_meters_in) (defScope s_meters_in) .none kVMn dcMn pmMn anMn cdMn ctMn), slMn⟩)
    (cMn : PySem.W.codeIn K cdMn "_meters_in" = true)
    (kMn : PySem.W.keepIn K (.ref fMn) = true)
    (rdN : PySem.W.readsIn K CN (.type "type") = true)
    (gaN : PySem.W.specialIn K (.ref CN) "__getattribute__" = some (some (.builtin "type.__getattribute__")))
    (aNr : PySem.W.findCls K (.ref CN) (.type "type") "read" = some (.get (.builtin "classmethod.__get__") (.ref pNr) .none (.ref CN)))
    (rNr_ : PySem.W.recIn K pNr "classmethod" = some (.ref fNr :: rNr))
    (fiNr : PySem.W.fnIn K fNr = true)
    (lNr : K.lookup fNr = some ⟨ocNr, odNr, .func (PySem.W.fnOf "read" "Net.read" (defArgs s_Net_read) (defBody s_Net_read) (defScope s_Net_read) .none kVNr dcNr pmNr anNr cdNr ctNr), slNr⟩)
    (cNr : PySem.W.codeIn K cdNr "Net.read" = true)
    (kNr : PySem.W.keepIn K (.ref fNr) = true)
    (b_list : PySem.W.nsIn K mainGlobals "list" = some none)
    (b_zip : PySem.W.nsIn K mainGlobals "zip" = some none)
    (aNu : PySem.W.nsIn K mainGlobals "is_number" = some (some (.ref fNu)))
    (lNu : K.lookup fNu = some ⟨ocNu, odNu, .func (PySem.W.fnOf "is_number" "is_number" (defArgs s_is_number) (defBody s_is_number) (defScope s_is_number) .none kVNu dcNu pmNu anNu cdNu ctNu), slNu⟩)
    (cNu : PySem.W.codeIn K cdNu "is_number" = true)
    (kNu : PySem.W.keepIn K (.ref fNu) = true)
    (aKn : PySem.W.nsIn K mainGlobals "check_net" = some (some (.ref fKn)))
    (lKn : K.lookup fKn = some ⟨ocKn, odKn, .func (PySem.W.fnOf "check_net" "check_net" (defArgs s_check_net) (defBody s_check_net) (defScope s_check_net) .none kVKn dcKn pmKn anKn cdKn ctKn), slKn⟩)
    (cKn : PySem.W.codeIn K cdKn "check_net" = true)
    (kKn : PySem.W.keepIn K (.ref fKn) = true)
    (g_MOST_FAULTS : PySem.W.nsIn K mainGlobals "MOST_FAULTS" = some (some (.int 3 tkV)))
    (aIb : PySem.W.nsIn K mainGlobals "is_bound" = some (some (.ref fIb)))
    (lIb : K.lookup fIb = some ⟨ocIb, odIb, .func (PySem.W.fnOf "is_bound" "is_bound" (defArgs s_is_bound) (defBody s_is_bound) (defScope s_is_bound) .none kVIb dcIb pmIb anIb cdIb ctIb), slIb⟩)
    (cIb : PySem.W.codeIn K cdIb "is_bound" = true)
    (kIb : PySem.W.keepIn K (.ref fIb) = true)
    (aCh : PySem.W.nsIn K mainGlobals "check_number" = some (some (.ref fCh)))
    (lCh : K.lookup fCh = some ⟨ocCh, odCh, .func (PySem.W.fnOf "check_number" "check_number" (defArgs s_check_number) (defBody s_check_number) (defScope s_check_number) .none kVCh dcCh pmCh anCh cdCh ctCh), slCh⟩)
    (cCh : PySem.W.codeIn K cdCh "check_number" = true)
    (kCh : PySem.W.keepIn K (.ref fCh) = true)
    (apl : PySem.W.findIn K (.ref CN) "places" = some (some (.ref ppl)))
    (gpl : PySem.W.specialIn K (.ref ppl) "__get__" = some (some (.builtin "property.__get__")))
    (tpl : PySem.W.takesIn K (.ref ppl) = some true)
    (rpl_ : PySem.W.recIn K ppl "property" = some (.ref fpl :: rpl))
    (lpl : K.lookup fpl = some ⟨ocpl, odpl, .func (PySem.W.fnOf "places" "Net.places" (defArgs s_Net_places) (defBody s_Net_places) (defScope s_Net_places) .none kVpl dcpl pmpl anpl cdpl ctpl), slpl⟩)
    (cpl : PySem.W.codeIn K cdpl "Net.places" = true)
    (kpl : PySem.W.keepIn K (.ref fpl) = true)
    (aRe : PySem.W.nsIn K mainGlobals "_reach_on" = some (some (.ref fRe)))
    (lRe : K.lookup fRe = some ⟨ocRe, odRe, .func (PySem.W.fnOf "_reach_on" "_reach_on" (defArgs s_reach_on) (defBody s_reach_on) (defScope s_reach_on) .none kVRe dcRe pmRe anRe cdRe ctRe), slRe⟩)
    (cRe : PySem.W.codeIn K cdRe "_reach_on" = true)
    (kRe : PySem.W.keepIn K (.ref fRe) = true)
    (aRo : PySem.W.nsIn K mainGlobals "rooted" = some (some (.ref fRo)))
    (lRo : K.lookup fRo = some ⟨ocRo, odRo, .func (PySem.W.fnOf "rooted" "rooted" (defArgs s_rooted) (defBody s_rooted) (defScope s_rooted) .none kVRo dcRo pmRo anRo cdRo ctRo), slRo⟩)
    (cRo : PySem.W.codeIn K cdRo "rooted" = true)
    (kRo : PySem.W.keepIn K (.ref fRo) = true)
    (aFt : PySem.W.nsIn K mainGlobals "fitting_flow" = some (some (.ref fFt)))
    (lFt : K.lookup fFt = some ⟨ocFt, odFt, .func (PySem.W.fnOf "fitting_flow" "fitting_flow" (defArgs s_fitting_flow) (defBody s_fitting_flow) (defScope s_fitting_flow) .none kVFt dcFt pmFt anFt cdFt ctFt), slFt⟩)
    (cFt : PySem.W.codeIn K cdFt "fitting_flow" = true)
    (kFt : PySem.W.keepIn K (.ref fFt) = true)
    (aIr : PySem.W.nsIn K mainGlobals "is_reading" = some (some (.ref fIr)))
    (lIr : K.lookup fIr = some ⟨ocIr, odIr, .func (PySem.W.fnOf "is_reading" "is_reading" (defArgs s_is_reading) (defBody s_is_reading) (defScope s_is_reading) .none kVIr dcIr pmIr anIr cdIr ctIr), slIr⟩)
    (cIr : PySem.W.codeIn K cdIr "is_reading" = true)
    (kIr : PySem.W.keepIn K (.ref fIr) = true)
    (aKr : PySem.W.nsIn K mainGlobals "check_readings" = some (some (.ref fKr)))
    (lKr : K.lookup fKr = some ⟨ocKr, odKr, .func (PySem.W.fnOf "check_readings" "check_readings" (defArgs s_check_readings) (defBody s_check_readings) (defScope s_check_readings) .none kVKr dcKr pmKr anKr cdKr ctKr), slKr⟩)
    (cKr : PySem.W.codeIn K cdKr "check_readings" = true)
    (kKr : PySem.W.keepIn K (.ref fKr) = true)
    (aSi : PySem.W.nsIn K mainGlobals "silent_names" = some (some (.ref fSi)))
    (lSi : K.lookup fSi = some ⟨ocSi, odSi, .func (PySem.W.fnOf "silent_names" "silent_names" (defArgs s_silent_names) (defBody s_silent_names) (defScope s_silent_names) .none kVSi dcSi pmSi anSi cdSi ctSi), slSi⟩)
    (cSi : PySem.W.codeIn K cdSi "silent_names" = true)
    (kSi : PySem.W.keepIn K (.ref fSi) = true)
    (aSh : PySem.W.nsIn K mainGlobals "shown_amounts" = some (some (.ref fSh)))
    (lSh : K.lookup fSh = some ⟨ocSh, odSh, .func (PySem.W.fnOf "shown_amounts" "shown_amounts" (defArgs s_shown_amounts) (defBody s_shown_amounts) (defScope s_shown_amounts) .none kVSh dcSh pmSh anSh cdSh ctSh), slSh⟩)
    (cSh : PySem.W.codeIn K cdSh "shown_amounts" = true)
    (kSh : PySem.W.keepIn K (.ref fSh) = true)
    (aFr : PySem.W.nsIn K mainGlobals "fitting_readings" = some (some (.ref fFr)))
    (lFr : K.lookup fFr = some ⟨ocFr, odFr, .func (PySem.W.fnOf "fitting_readings" "fitting_readings" (defArgs s_fitting_readings) (defBody s_fitting_readings) (defScope s_fitting_readings) (.ref tDf) kVFr dcFr pmFr anFr cdFr ctFr), slFr⟩)
    (cFr : PySem.W.codeIn K cdFr "fitting_readings" = true)
    (kFr : PySem.W.keepIn K (.ref fFr) = true)
    (lTf : K.lookup tDf = some ⟨.type "tuple", odTf, .seq #[.ref t0f] nTf, slTf⟩)
    (aUs : PySem.W.nsIn K mainGlobals "unsealed" = some (some (.ref fUs)))
    (lUs : K.lookup fUs = some ⟨ocUs, odUs, .func (PySem.W.fnOf "unsealed" "unsealed" (defArgs s_unsealed) (defBody s_unsealed) (defScope s_unsealed) .none kVUs dcUs pmUs anUs cdUs ctUs), slUs⟩)
    (cUs : PySem.W.codeIn K cdUs "unsealed" = true)
    (kUs : PySem.W.keepIn K (.ref fUs) = true)
    (aDb : PySem.W.nsIn K mainGlobals "_doubtful" = some (some (.ref fDb)))
    (lDb : K.lookup fDb = some ⟨ocDb, odDb, .func (PySem.W.fnOf "_doubtful" "_doubtful" (defArgs s_doubtful) (defBody s_doubtful) (defScope s_doubtful) .none kVDb dcDb pmDb anDb cdDb ctDb), slDb⟩)
    (cDb : PySem.W.codeIn K cdDb "_doubtful" = true)
    (kDb : PySem.W.keepIn K (.ref fDb) = true)
    (aSb : PySem.W.nsIn K mainGlobals "subsets" = some (some (.ref fSb)))
    (lSb : K.lookup fSb = some ⟨ocSb, odSb, .func (PySem.W.fnOf "subsets" "subsets" (defArgs s_subsets) (defBody s_subsets) (defScope s_subsets) .none kVSb dcSb pmSb anSb cdSb ctSb), slSb⟩)
    (cSb : PySem.W.codeIn K cdSb "subsets" = true)
    (kSb : PySem.W.keepIn K (.ref fSb) = true)
    (aEx : PySem.W.nsIn K mainGlobals "explanations" = some (some (.ref fEx)))
    (lEx : K.lookup fEx = some ⟨ocEx, odEx, .func (PySem.W.fnOf "explanations" "explanations" (defArgs s_explanations) (defBody s_explanations) (defScope s_explanations) .none kVEx dcEx pmEx anEx cdEx ctEx), slEx⟩)
    (cEx : PySem.W.codeIn K cdEx "explanations" = true)
    (kEx : PySem.W.keepIn K (.ref fEx) = true)
    (aSg : PySem.W.nsIn K mainGlobals "_law_spring" = some (some (.ref fSg)))
    (lSg : K.lookup fSg = some ⟨ocSg, odSg, .func (PySem.W.fnOf "_law_spring" "_law_spring" (defArgs s_spring) (defBody s_spring) (defScope s_spring) .none kVSg dcSg pmSg anSg cdSg ctSg), slSg⟩)
    (cSg : PySem.W.codeIn K cdSg "_law_spring" = true)
    (kSg : PySem.W.keepIn K (.ref fSg) = true)
    (aTa : PySem.W.nsIn K mainGlobals "_law_take" = some (some (.ref fTa)))
    (lTa : K.lookup fTa = some ⟨ocTa, odTa, .func (PySem.W.fnOf "_law_take" "_law_take" (defArgs s_take) (defBody s_take) (defScope s_take) .none kVTa dcTa pmTa anTa cdTa ctTa), slTa⟩)
    (cTa : PySem.W.codeIn K cdTa "_law_take" = true)
    (kTa : PySem.W.keepIn K (.ref fTa) = true)
    (aTi : PySem.W.nsIn K mainGlobals "_law_titles" = some (some (.ref fTi)))
    (lTi : K.lookup fTi = some ⟨ocTi, odTi, .func (PySem.W.fnOf "_law_titles" "_law_titles" (defArgs s_titles) (defBody s_titles) (defScope s_titles) .none kVTi dcTi pmTi anTi cdTi ctTi), slTi⟩)
    (cTi : PySem.W.codeIn K cdTi "_law_titles" = true)
    (kTi : PySem.W.keepIn K (.ref fTi) = true)
    (aPa : PySem.W.nsIn K mainGlobals "_law_plan" = some (some (.ref fPa)))
    (lPa : K.lookup fPa = some ⟨ocPa, odPa, .func (PySem.W.fnOf "_law_plan" "_law_plan" (defArgs s_plan) (defBody s_plan) (defScope s_plan) .none kVPa dcPa pmPa anPa cdPa ctPa), slPa⟩)
    (cPa : PySem.W.codeIn K cdPa "_law_plan" = true)
    (kPa : PySem.W.keepIn K (.ref fPa) = true)
    (aGr : PySem.W.nsIn K mainGlobals "_law_grid" = some (some (.ref fGr)))
    (lGr : K.lookup fGr = some ⟨ocGr, odGr, .func (PySem.W.fnOf "_law_grid" "_law_grid" (defArgs s_grid) (defBody s_grid) (defScope s_grid) .none kVGr dcGr pmGr anGr cdGr ctGr), slGr⟩)
    (cGr : PySem.W.codeIn K cdGr "_law_grid" = true)
    (kGr : PySem.W.keepIn K (.ref fGr) = true)
    (aPh : PySem.W.nsIn K mainGlobals "_law_path" = some (some (.ref fPh)))
    (lPh : K.lookup fPh = some ⟨ocPh, odPh, .func (PySem.W.fnOf "_law_path" "_law_path" (defArgs s_path) (defBody s_path) (defScope s_path) .none kVPh dcPh pmPh anPh cdPh ctPh), slPh⟩)
    (cPh : PySem.W.codeIn K cdPh "_law_path" = true)
    (kPh : PySem.W.keepIn K (.ref fPh) = true)
    (aRg : PySem.W.nsIn K mainGlobals "_law_rings" = some (some (.ref fRg)))
    (lRg : K.lookup fRg = some ⟨ocRg, odRg, .func (PySem.W.fnOf "_law_rings" "_law_rings" (defArgs s_rings) (defBody s_rings) (defScope s_rings) .none kVRg dcRg pmRg anRg cdRg ctRg), slRg⟩)
    (cRg : PySem.W.codeIn K cdRg "_law_rings" = true)
    (kRg : PySem.W.keepIn K (.ref fRg) = true)
    (aNb : PySem.W.nsIn K mainGlobals "_law_number" = some (some (.ref fNb)))
    (lNb : K.lookup fNb = some ⟨ocNb, odNb, .func (PySem.W.fnOf "_law_number" "_law_number" (defArgs s_number) (defBody s_number) (defScope s_number) .none kVNb dcNb pmNb anNb cdNb ctNb), slNb⟩)
    (cNb : PySem.W.codeIn K cdNb "_law_number" = true)
    (kNb : PySem.W.keepIn K (.ref fNb) = true)
    (aFl : PySem.W.nsIn K mainGlobals "_law_flow" = some (some (.ref fFl)))
    (lFl : K.lookup fFl = some ⟨ocFl, odFl, .func (PySem.W.fnOf "_law_flow" "_law_flow" (defArgs s_flow) (defBody s_flow) (defScope s_flow) .none kVFl dcFl pmFl anFl cdFl ctFl), slFl⟩)
    (cFl : PySem.W.codeIn K cdFl "_law_flow" = true)
    (kFl : PySem.W.keepIn K (.ref fFl) = true)
    (aSe : PySem.W.nsIn K mainGlobals "_law_seen" = some (some (.ref fSe)))
    (lSe : K.lookup fSe = some ⟨ocSe, odSe, .func (PySem.W.fnOf "_law_seen" "_law_seen" (defArgs s_seen) (defBody s_seen) (defScope s_seen) .none kVSe dcSe pmSe anSe cdSe ctSe), slSe⟩)
    (cSe : PySem.W.codeIn K cdSe "_law_seen" = true)
    (kSe : PySem.W.keepIn K (.ref fSe) = true)
    (aRd : PySem.W.nsIn K mainGlobals "_law_reduced" = some (some (.ref fRd)))
    (lRd : K.lookup fRd = some ⟨ocRd, odRd, .func (PySem.W.fnOf "_law_reduced" "_law_reduced" (defArgs s_reduced) (defBody s_reduced) (defScope s_reduced) .none kVRd dcRd pmRd anRd cdRd ctRd), slRd⟩)
    (cRd : PySem.W.codeIn K cdRd "_law_reduced" = true)
    (kRd : PySem.W.keepIn K (.ref fRd) = true)
    (aSo : PySem.W.nsIn K mainGlobals "_law_solved" = some (some (.ref fSo)))
    (lSo : K.lookup fSo = some ⟨ocSo, odSo, .func (PySem.W.fnOf "_law_solved" "_law_solved" (defArgs s_solved) (defBody s_solved) (defScope s_solved) .none kVSo dcSo pmSo anSo cdSo ctSo), slSo⟩)
    (cSo : PySem.W.codeIn K cdSo "_law_solved" = true)
    (kSo : PySem.W.keepIn K (.ref fSo) = true)
    (aFa : PySem.W.nsIn K mainGlobals "_law_facts" = some (some (.ref fFa)))
    (lFa : K.lookup fFa = some ⟨ocFa, odFa, .func (PySem.W.fnOf "_law_facts" "_law_facts" (defArgs s_facts) (defBody s_facts) (defScope s_facts) .none kVFa dcFa pmFa anFa cdFa ctFa), slFa⟩)
    (cFa : PySem.W.codeIn K cdFa "_law_facts" = true)
    (kFa : PySem.W.keepIn K (.ref fFa) = true)
    (aPo : PySem.W.nsIn K mainGlobals "_law_possible" = some (some (.ref fPo)))
    (lPo : K.lookup fPo = some ⟨ocPo, odPo, .func (PySem.W.fnOf "_law_possible" "_law_possible" (defArgs s_possible) (defBody s_possible) (defScope s_possible) .none kVPo dcPo pmPo anPo cdPo ctPo), slPo⟩)
    (cPo : PySem.W.codeIn K cdPo "_law_possible" = true)
    (kPo : PySem.W.keepIn K (.ref fPo) = true)
    (aSt : PySem.W.nsIn K mainGlobals "_law_sets" = some (some (.ref fSt)))
    (lSt : K.lookup fSt = some ⟨ocSt, odSt, .func (PySem.W.fnOf "_law_sets" "_law_sets" (defArgs s_sets) (defBody s_sets) (defScope s_sets) .none kVSt dcSt pmSt anSt cdSt ctSt), slSt⟩)
    (cSt : PySem.W.codeIn K cdSt "_law_sets" = true)
    (kSt : PySem.W.keepIn K (.ref fSt) = true)
    (aSu : PySem.W.nsIn K mainGlobals "_law_suspects" = some (some (.ref fSu)))
    (lSu : K.lookup fSu = some ⟨ocSu, odSu, .func (PySem.W.fnOf "_law_suspects" "_law_suspects" (defArgs s_suspects) (defBody s_suspects) (defScope s_suspects) .none kVSu dcSu pmSu anSu cdSu ctSu), slSu⟩)
    (cSu : PySem.W.codeIn K cdSu "_law_suspects" = true)
    (kSu : PySem.W.keepIn K (.ref fSu) = true)
    (aXp : PySem.W.nsIn K mainGlobals "_law_explained" = some (some (.ref fXp)))
    (lXp : K.lookup fXp = some ⟨ocXp, odXp, .func (PySem.W.fnOf "_law_explained" "_law_explained" (defArgs s_explained) (defBody s_explained) (defScope s_explained) .none kVXp dcXp pmXp anXp cdXp ctXp), slXp⟩)
    (cXp : PySem.W.codeIn K cdXp "_law_explained" = true)
    (kXp : PySem.W.keepIn K (.ref fXp) = true)
    (aRi : PySem.W.nsIn K mainGlobals "_law_right" = some (some (.ref fRi)))
    (lRi : K.lookup fRi = some ⟨ocRi, odRi, .func (PySem.W.fnOf "_law_right" "_law_right" (defArgs s_right) (defBody s_right) (defScope s_right) .none kVRi dcRi pmRi anRi cdRi ctRi), slRi⟩)
    (cRi : PySem.W.codeIn K cdRi "_law_right" = true)
    (kRi : PySem.W.keepIn K (.ref fRi) = true)
    (aLa : PySem.W.nsIn K mainGlobals "law" = some (some (.ref fLa)))
    (lLa : K.lookup fLa = some ⟨ocLa, odLa, .func (PySem.W.fnOf "law" "law" (defArgs s_law) (defBody s_law) (defScope s_law) .none kVLa dcLa pmLa anLa cdLa ctLa), slLa⟩)
    (cLa : PySem.W.codeIn K cdLa "law" = true)
    (kLa : PySem.W.keepIn K (.ref fLa) = true)
    : ∃ fd : FuncData, (∀ (s : Shared) (v : Value), BindsTo s fd ⟨[v], []⟩ [("_law_script", v)]) ∧ ∀ base : Heap, K.In base → base.Ns mainGlobals mg → FnG l.prog w K mg base 11 fa fd ["_law_script"] (spLaw K) := by
  have e := hfa.symm.trans (PySem.W.mg_of X G aLa)
  cases e
  have T : Blt mg := ⟨PySem.W.mg_none_of X G b_len, PySem.W.mg_none_of X G b_int, PySem.W.mg_none_of X G b_abs, PySem.W.mg_none_of X G b_max, PySem.W.mg_none_of X G b_min, PySem.W.mg_none_of X G b_all, PySem.W.mg_none_of X G b_any, PySem.W.mg_none_of X G b_repr, PySem.W.mg_none_of X G b_range, PySem.W.mg_none_of X G b_divmod, PySem.W.mg_none_of X G b_isinstance, PySem.W.mg_none_of X G b_str⟩
  have T2 : Blt2 mg := ⟨PySem.W.mg_none_of X G b_sum, PySem.W.mg_none_of X G b_sorted, PySem.W.mg_none_of X G b_set, PySem.W.mg_none_of X G b_tuple, PySem.W.mg_none_of X G b_enumerate, PySem.W.mg_none_of X G b_bool⟩
  have Cs : Cst mg := ⟨⟨_, PySem.W.mg_of X G g__LETTERS, _, rfl⟩, ⟨_, PySem.W.mg_of X G g__DIGITS, _, rfl⟩, ⟨_, PySem.W.mg_of X G g__LONGEST_NAME, _, rfl⟩⟩
  have Cs3 : Cst3 mg := ⟨⟨_, PySem.W.mg_of X G g_MOST_PIPES, _, rfl⟩, ⟨_, PySem.W.mg_of X G g_MOST_METERS, _, rfl⟩⟩
  have FIn := fun_mk (st := s_is_name) lIn cIn kIn
  have bIn : Binds K _ ["value"] [] := FIn.binds (ps := ["value"]) fun _ _ _ _ _ _ us hl => match us, hl with | [_], _ => rfl
  have FCn := fun_mk (st := s_check_names) lCn cCn kCn
  have bCn : Binds K _ ["values"] [] := FCn.binds (ps := ["values"]) fun _ _ _ _ _ _ us hl => match us, hl with | [_], _ => rfl
  have clP : Cls K CP := ⟨pgP, hdP, poP, saP⟩
  have clM : Cls K CM := ⟨pgM, hdM, poM, saM⟩
  have PC : PClass K mg CP := ⟨⟨clP, haP, hn, htk, hmP⟩, PySem.W.mg_of X G nP, noP0, noP1, noP2, kit_self K CP⟩
  have MC : MClass K mg CM := ⟨⟨clM, haM, hn, htk, hmM⟩, PySem.W.mg_of X G nM, noM0, noM1, noM2, kit_self K CM⟩
  have FPi := fun_mk (st := s_Pipe___init__) lPi cPi kPi
  have bPi : Binds K _ ["self", "name", "start", "end"] [] := FPi.binds (ps := ["self", "name", "start", "end"]) fun _ _ _ _ _ _ us hl => match us, hl with | [_, _, _, _], _ => rfl
  have MkP : Mk K CP fPi := ⟨mkP, aPi, iPi, kcP⟩
  have FMi : FunD K "__init__" "Meter.__init__" (defArgs s_Meter___init__) (defBody s_Meter___init__) (defScope s_Meter___init__) [] [("sealed", V.bl false)] fMi _ := ⟨⟨_, _, _, _, _, _, _, _, _, _, rfl, lMi, cMi, .inl ⟨rfl, rfl⟩, .inr ⟨kDMi, rfl, fun q hq => by
    rw [List.mem_singleton.mp hq]
    exact ⟨_, kd, rfl⟩⟩⟩, kMi⟩
  have MkM : Mk K CM fMi := ⟨mkM, aMi, iMi, kcM⟩
  have Fpn := fun_mk (st := s_Pipe_name) lpn cpn kpn
  have bpn : Binds K _ ["self"] [] := Fpn.binds (ps := ["self"]) fun _ _ _ _ _ _ us hl => match us, hl with | [_], _ => rfl
  have Fps := fun_mk (st := s_Pipe_start) lps cps kps
  have bps : Binds K _ ["self"] [] := Fps.binds (ps := ["self"]) fun _ _ _ _ _ _ us hl => match us, hl with | [_], _ => rfl
  have Fpe := fun_mk (st := s_Pipe_end) lpe cpe kpe
  have bpe : Binds K _ ["self"] [] := Fpe.binds (ps := ["self"]) fun _ _ _ _ _ _ us hl => match us, hl with | [_], _ => rfl
  have Fmn := fun_mk (st := s_Meter_name) lmn cmn kmn
  have bmn : Binds K _ ["self"] [] := Fmn.binds (ps := ["self"]) fun _ _ _ _ _ _ us hl => match us, hl with | [_], _ => rfl
  have Fma := fun_mk (st := s_Meter_at) lma cma kma
  have bma : Binds K _ ["self"] [] := Fma.binds (ps := ["self"]) fun _ _ _ _ _ _ us hl => match us, hl with | [_], _ => rfl
  have Fmz := fun_mk (st := s_Meter_sealed) lmz cmz kmz
  have bmz : Binds K _ ["self"] [] := Fmz.binds (ps := ["self"]) fun _ _ _ _ _ _ us hl => match us, hl with | [_], _ => rfl
  have FPq := fun_mk (st := s_Pipe___eq__) lPq cPq kPq
  have bPq : Binds K _ ["self", "other"] [] := FPq.binds (ps := ["self", "other"]) fun _ _ _ _ _ _ us hl => match us, hl with | [_, _], _ => rfl
  have FMq := fun_mk (st := s_Meter___eq__) lMq cMq kMq
  have bMq : Binds K _ ["self", "other"] [] := FMq.binds (ps := ["self", "other"]) fun _ _ _ _ _ _ us hl => match us, hl with | [_, _], _ => rfl
  have clN : Cls K CN := ⟨pgN, hdN, poN, saN⟩
  have NC : NClass K mg CN := ⟨⟨clN, haN, hn, htk, hmN⟩, PySem.W.mg_of X G nN, noN0, noN1, kit_self K CN⟩
  have FIo := fun_mk (st := s_index_of) lIo cIo kIo
  have bIo : Binds K _ ["parts", "name"] [] := FIo.binds (ps := ["parts", "name"]) fun _ _ _ _ _ _ us hl => match us, hl with | [_, _], _ => rfl
  have FCp := fun_mk (st := s_check_pipes) lCp cCp kCp
  have bCp : Binds K _ ["pipes"] [] := FCp.binds (ps := ["pipes"]) fun _ _ _ _ _ _ us hl => match us, hl with | [_], _ => rfl
  have FCm := fun_mk (st := s_check_meters) lCm cCm kCm
  have bCm : Binds K _ ["meters", "pipes"] [] := FCm.binds (ps := ["meters", "pipes"]) fun _ _ _ _ _ _ us hl => match us, hl with | [_, _], _ => rfl
  have FPl := fun_mk (st := s_pipe_line) lPl cPl kPl
  have bPl : Binds K _ ["part"] [] := FPl.binds (ps := ["part"]) fun _ _ _ _ _ _ us hl => match us, hl with | [_], _ => rfl
  have FMl := fun_mk (st := s_meter_line) lMl cMl kMl
  have bMl : Binds K _ ["part"] [] := FMl.binds (ps := ["part"]) fun _ _ _ _ _ _ us hl => match us, hl with | [_], _ => rfl
  have FLs := fun_mk (st := s_lines) lLs cLs kLs
  have bLs : Binds K _ ["pipes", "meters"] [] := FLs.binds (ps := ["pipes", "meters"]) fun _ _ _ _ _ _ us hl => match us, hl with | [_, _], _ => rfl
  have FNi : FunD K "__init__" "Net.__init__" (defArgs s_Net___init__) (defBody s_Net___init__) (defScope s_Net___init__) [.ref t0] [] fNi _ := ⟨⟨_, _, _, _, _, _, _, _, _, _, rfl, lNi, cNi, .inr ⟨by simp, tD, _, [.ref t0], nT, rfl, lT, rfl, .cons rfl .nil⟩, .inl rfl⟩, kNi⟩
  obtain ⟨dsN, vdN, bdN⟩ := chainN FNi
  have MkN : Mk K CN fNi := ⟨mkN, aNi, iNi, kcN⟩
  have Fnp := fun_mk (st := s_Net_pipes) lnp cnp knp
  have bnp : Binds K _ ["self"] [] := Fnp.binds (ps := ["self"]) fun _ _ _ _ _ _ us hl => match us, hl with | [_], _ => rfl
  have Fnm := fun_mk (st := s_Net_meters) lnm cnm knm
  have bnm : Binds K _ ["self"] [] := Fnm.binds (ps := ["self"]) fun _ _ _ _ _ _ us hl => match us, hl with | [_], _ => rfl
  have FNl := fun_mk (st := s_Net___len__) lNl cNl kNl
  have bNl : Binds K _ ["self"] [] := FNl.binds (ps := ["self"]) fun _ _ _ _ _ _ us hl => match us, hl with | [_], _ => rfl
  have FNs := fun_mk (st := s_Net___str__) lNs cNs kNs
  have bNs : Binds K _ ["self"] [] := FNs.binds (ps := ["self"]) fun _ _ _ _ _ _ us hl => match us, hl with | [_], _ => rfl
  have FNq := fun_mk (st := s_Net___eq__) lNq cNq kNq
  have bNq : Binds K _ ["self", "other"] [] := FNq.binds (ps := ["self", "other"]) fun _ _ _ _ _ _ us hl => match us, hl with | [_, _], _ => rfl
  have FRw := fun_mk (st := s_rows_in) lRw cRw kRw
  have bRw : Binds K _ ["text"] [] := FRw.binds (ps := ["text"]) fun _ _ _ _ _ _ us hl => match us, hl with | [_], _ => rfl
  have FPn := fun_mk (st := s_pipes_in) lPn cPn kPn
  have bPn : Binds K _ ["text"] [] := FPn.binds (ps := ["text"]) fun _ _ _ _ _ _ us hl => match us, hl with | [_], _ => rfl
  have FMn := fun_mk (st := s_meters_in) lMn cMn kMn
  have bMn : Binds K _ ["text"] [] := FMn.binds (ps := ["text"]) fun _ _ _ _ _ _ us hl => match us, hl with | [_], _ => rfl
  have RN : ClX.CRead K CN (.type "type") := ⟨rdN, gaN⟩
  have FNr := fun_mk (st := s_Net_read) lNr cNr kNr
  have bNr : Binds K _ ["cls", "text"] [] := FNr.binds (ps := ["cls", "text"]) fun _ _ _ _ _ _ us hl => match us, hl with | [_, _], _ => rfl
  have FNu := fun_mk (st := s_is_number) lNu cNu kNu
  have bNu : Binds K _ ["value"] [] := FNu.binds (ps := ["value"]) fun _ _ _ _ _ _ us hl => match us, hl with | [_], _ => rfl
  have FKn := fun_mk (st := s_check_net) lKn cKn kKn
  have bKn : Binds K _ ["net"] [] := FKn.binds (ps := ["net"]) fun _ _ _ _ _ _ us hl => match us, hl with | [_], _ => rfl
  have FIb := fun_mk (st := s_is_bound) lIb cIb kIb
  have bIb : Binds K _ ["value"] [] := FIb.binds (ps := ["value"]) fun _ _ _ _ _ _ us hl => match us, hl with | [_], _ => rfl
  have FCh := fun_mk (st := s_check_number) lCh cCh kCh
  have bCh : Binds K _ ["number"] [] := FCh.binds (ps := ["number"]) fun _ _ _ _ _ _ us hl => match us, hl with | [_], _ => rfl
  have Fpl := fun_mk (st := s_Net_places) lpl cpl kpl
  have bpl : Binds K _ ["self"] [] := Fpl.binds (ps := ["self"]) fun _ _ _ _ _ _ us hl => match us, hl with | [_], _ => rfl
  have FRe := fun_mk (st := s_reach_on) lRe cRe kRe
  have bRe : Binds K _ ["parts", "reached", "links"] [] := FRe.binds (ps := ["parts", "reached", "links"]) fun _ _ _ _ _ _ us hl => match us, hl with | [_, _, _], _ => rfl
  have FRo := fun_mk (st := s_rooted) lRo cRo kRo
  have bRo : Binds K _ ["net", "parts"] [] := FRo.binds (ps := ["net", "parts"]) fun _ _ _ _ _ _ us hl => match us, hl with | [_, _], _ => rfl
  have FFt := fun_mk (st := s_fitting_flow) lFt cFt kFt
  have bFt : Binds K _ ["net", "amounts"] [] := FFt.binds (ps := ["net", "amounts"]) fun _ _ _ _ _ _ us hl => match us, hl with | [_, _], _ => rfl
  have FIr := fun_mk (st := s_is_reading) lIr cIr kIr
  have bIr : Binds K _ ["part", "value"] [] := FIr.binds (ps := ["part", "value"]) fun _ _ _ _ _ _ us hl => match us, hl with | [_, _], _ => rfl
  have FKr := fun_mk (st := s_check_readings) lKr cKr kKr
  have bKr : Binds K _ ["net", "readings"] [] := FKr.binds (ps := ["net", "readings"]) fun _ _ _ _ _ _ us hl => match us, hl with | [_, _], _ => rfl
  have FSi := fun_mk (st := s_silent_names) lSi cSi kSi
  have bSi : Binds K _ ["net", "readings"] [] := FSi.binds (ps := ["net", "readings"]) fun _ _ _ _ _ _ us hl => match us, hl with | [_, _], _ => rfl
  have FSh := fun_mk (st := s_shown_amounts) lSh cSh kSh
  have bSh : Binds K _ ["net", "readings", "wrong"] [] := FSh.binds (ps := ["net", "readings", "wrong"]) fun _ _ _ _ _ _ us hl => match us, hl with | [_, _, _], _ => rfl
  have FFr : FunD K "fitting_readings" "fitting_readings" (defArgs s_fitting_readings) (defBody s_fitting_readings) (defScope s_fitting_readings) [.ref t0f] [] fFr _ := ⟨⟨_, _, _, _, _, _, _, _, _, _, rfl, lFr, cFr, .inr ⟨by simp, tDf, _, [.ref t0f], nTf, rfl, lTf, rfl, .cons rfl .nil⟩, .inl rfl⟩, kFr⟩
  have FUs := fun_mk (st := s_unsealed) lUs cUs kUs
  have bUs : Binds K _ ["net"] [] := FUs.binds (ps := ["net"]) fun _ _ _ _ _ _ us hl => match us, hl with | [_], _ => rfl
  have FDb := fun_mk (st := s_doubtful) lDb cDb kDb
  have bDb : Binds K _ ["net", "readings"] [] := FDb.binds (ps := ["net", "readings"]) fun _ _ _ _ _ _ us hl => match us, hl with | [_, _], _ => rfl
  have FSb := fun_mk (st := s_subsets) lSb cSb kSb
  have bSb : Binds K _ ["names", "many"] [] := FSb.binds (ps := ["names", "many"]) fun _ _ _ _ _ _ us hl => match us, hl with | [_, _], _ => rfl
  have FEx := fun_mk (st := s_explanations) lEx cEx kEx
  have bEx : Binds K _ ["net", "readings", "most"] [] := FEx.binds (ps := ["net", "readings", "most"]) fun _ _ _ _ _ _ us hl => match us, hl with | [_, _, _], _ => rfl
  have FSg := fun_mk (st := s_spring) lSg cSg kSg
  have bSg : Binds K _ ["_law_script", "_law_k"] [] := FSg.binds (ps := ["_law_script", "_law_k"]) fun _ _ _ _ _ _ us hl => match us, hl with | [_, _], _ => rfl
  have FTa := fun_mk (st := s_take) lTa cTa kTa
  have bTa : Binds K _ ["_law_spring_here", "_law_many"] [] := FTa.binds (ps := ["_law_spring_here", "_law_many"]) fun _ _ _ _ _ _ us hl => match us, hl with | [_, _], _ => rfl
  have FTi := fun_mk (st := s_titles) lTi cTi kTi
  have bTi : Binds K _ ["_law_spring_here", "_law_many"] [] := FTi.binds (ps := ["_law_spring_here", "_law_many"]) fun _ _ _ _ _ _ us hl => match us, hl with | [_, _], _ => rfl
  have FPa := fun_mk (st := s_plan) lPa cPa kPa
  have bPa : Binds K _ ["_law_spring_here", "_law_tubes", "_law_gauges"] [] := FPa.binds (ps := ["_law_spring_here", "_law_tubes", "_law_gauges"]) fun _ _ _ _ _ _ us hl => match us, hl with | [_, _, _], _ => rfl
  have FGr := fun_mk (st := s_grid) lGr cGr kGr
  have bGr : Binds K _ ["_law_plan_here"] [] := FGr.binds (ps := ["_law_plan_here"]) fun _ _ _ _ _ _ us hl => match us, hl with | [_], _ => rfl
  have FPh := fun_mk (st := s_path) lPh cPh kPh
  have bPh : Binds K _ ["_law_tubes", "_law_kept", "_law_first", "_law_last"] [] := FPh.binds (ps := ["_law_tubes", "_law_kept", "_law_first", "_law_last"]) fun _ _ _ _ _ _ us hl => match us, hl with | [_, _, _, _], _ => rfl
  have FRg := fun_mk (st := s_rings) lRg cRg kRg
  have bRg : Binds K _ ["_law_tubes"] [] := FRg.binds (ps := ["_law_tubes"]) fun _ _ _ _ _ _ us hl => match us, hl with | [_], _ => rfl
  have FNb := fun_mk (st := s_number) lNb cNb kNb
  have bNb : Binds K _ ["_law_spring_here"] [] := FNb.binds (ps := ["_law_spring_here"]) fun _ _ _ _ _ _ us hl => match us, hl with | [_], _ => rfl
  have FFl := fun_mk (st := s_flow) lFl cFl kFl
  have bFl : Binds K _ ["_law_spring_here", "_law_rings_here", "_law_size"] [] := FFl.binds (ps := ["_law_spring_here", "_law_rings_here", "_law_size"]) fun _ _ _ _ _ _ us hl => match us, hl with | [_, _, _], _ => rfl
  have FSe := fun_mk (st := s_seen) lSe cSe kSe
  have bSe : Binds K _ ["_law_spring_here", "_law_plan_here", "_law_flow_here"] [] := FSe.binds (ps := ["_law_spring_here", "_law_plan_here", "_law_flow_here"]) fun _ _ _ _ _ _ us hl => match us, hl with | [_, _, _], _ => rfl
  have FRd := fun_mk (st := s_reduced) lRd cRd kRd
  have bRd : Binds K _ ["_law_done", "_law_row_here"] [] := FRd.binds (ps := ["_law_done", "_law_row_here"]) fun _ _ _ _ _ _ us hl => match us, hl with | [_, _], _ => rfl
  have FSo := fun_mk (st := s_solved) lSo cSo kSo
  have bSo : Binds K _ ["_law_rows_here"] [] := FSo.binds (ps := ["_law_rows_here"]) fun _ _ _ _ _ _ us hl => match us, hl with | [_], _ => rfl
  have FFa := fun_mk (st := s_facts) lFa cFa kFa
  have bFa : Binds K _ ["_law_plan_here", "_law_rings_here", "_law_shown", "_law_out"] [] := FFa.binds (ps := ["_law_plan_here", "_law_rings_here", "_law_shown", "_law_out"]) fun _ _ _ _ _ _ us hl => match us, hl with | [_, _, _, _], _ => rfl
  have FPo := fun_mk (st := s_possible) lPo cPo kPo
  have bPo : Binds K _ ["_law_plan_here", "_law_rings_here", "_law_shown", "_law_out"] [] := FPo.binds (ps := ["_law_plan_here", "_law_rings_here", "_law_shown", "_law_out"]) fun _ _ _ _ _ _ us hl => match us, hl with | [_, _, _, _], _ => rfl
  have FSt := fun_mk (st := s_sets) lSt cSt kSt
  have bSt : Binds K _ ["_law_items_here", "_law_size"] [] := FSt.binds (ps := ["_law_items_here", "_law_size"]) fun _ _ _ _ _ _ us hl => match us, hl with | [_, _], _ => rfl
  have FSu := fun_mk (st := s_suspects) lSu cSu kSu
  have bSu : Binds K _ ["_law_plan_here", "_law_shown"] [] := FSu.binds (ps := ["_law_plan_here", "_law_shown"]) fun _ _ _ _ _ _ us hl => match us, hl with | [_, _], _ => rfl
  have FXp := fun_mk (st := s_explained) lXp cXp kXp
  have bXp : Binds K _ ["_law_plan_here", "_law_rings_here", "_law_shown", "_law_bound"] [] := FXp.binds (ps := ["_law_plan_here", "_law_rings_here", "_law_shown", "_law_bound"]) fun _ _ _ _ _ _ us hl => match us, hl with | [_, _, _, _], _ => rfl
  have FRi := fun_mk (st := s_right) lRi cRi kRi
  have bRi : Binds K _ ["_law_spring_here"] [] := FRi.binds (ps := ["_law_spring_here"]) fun _ _ _ _ _ _ us hl => match us, hl with | [_], _ => rfl
  refine ⟨PySem.W.fnOf "law" "law" (defArgs s_law) (defBody s_law) (defScope s_law) .none kVLa dcLa pmLa anLa cdLa ctLa, fun s v => .of_eq rfl, fun base _ _ => ?_⟩
  have GIn : Fn l.prog w K mg base "is_name" 1 ["value"] (sp_is_name K) := ⟨_, _, PySem.W.mg_of X G aIn, kIn, bIn, ok_is_name FIn T Cs⟩
  have GCn : Fn l.prog w K mg base "_check_names" 2 ["values"] (sp_check K) := ⟨_, _, PySem.W.mg_of X G aCn, kCn, bCn, ok_check_names FCn GIn.irr⟩
  have OPi : FnOk l.prog w K mg base CX0 3 fPi _ ["self", "name", "start", "end"] (sp_Pipe CP) := ok_Pipe_i FPi PC GCn.irr
  have P0 : Mkr l.prog w K mg base "Pipe" CP 3 (sp_Pipe CP) [] := ⟨PC.k, _, _, _, [], MkP, bPi, .nil, OPi⟩
  have OMi : FnOk l.prog w K mg base CX0 3 fMi _ ["self", "name", "at", "sealed"] (sp_Meter CM) := ok_Meter_i FMi MC GCn.irr
  have M2 : MkrK l.prog w K mg base "Meter" CM 3 2 ["sealed"] (sp_Meter CM) gM2 := ⟨MC.k, _, _, _, _, MkM, kbM2 FMi, OMi⟩
  have Gpn : Prp l.prog w K mg base CP "name" 1 (sp_pn CP) := ⟨clP, _, _, _, _, ⟨apn, gpn, tpn, _, rpn_⟩, bpn, ok_Pipe_name Fpn PC⟩
  have Gps : Prp l.prog w K mg base CP "start" 1 (sp_ps CP) := ⟨clP, _, _, _, _, ⟨aps, gps, tps, _, rps_⟩, bps, ok_Pipe_start Fps PC⟩
  have Gpe : Prp l.prog w K mg base CP "end" 1 (sp_pe CP) := ⟨clP, _, _, _, _, ⟨ape, gpe, tpe, _, rpe_⟩, bpe, ok_Pipe_end Fpe PC⟩
  have Gmn : Prp l.prog w K mg base CM "name" 1 (sp_mn CM) := ⟨clM, _, _, _, _, ⟨amn, gmn, tmn, _, rmn_⟩, bmn, ok_Meter_name Fmn MC⟩
  have Gma : Prp l.prog w K mg base CM "at" 1 (sp_ma CM) := ⟨clM, _, _, _, _, ⟨ama, gma, tma, _, rma_⟩, bma, ok_Meter_at Fma MC⟩
  have Gmz : Prp l.prog w K mg base CM "sealed" 1 (sp_mz CM) := ⟨clM, _, _, _, _, ⟨amz, gmz, tmz, _, rmz_⟩, bmz, ok_Meter_sealed Fmz MC⟩
  have GPq : OwnM l.prog w K mg base CP "__eq__" 1 (sp_Peq CP) := ⟨_, _, _, aPq, iPq, fiPq, bPq, ok_Pipe_q FPq PC T⟩
  have GMq : OwnM l.prog w K mg base CM "__eq__" 1 (sp_Meq CM) := ⟨_, _, _, aMq, iMq, fiMq, bMq, ok_Meter_q FMq MC T⟩
  have qP : OwnEq l.prog w K mg base CP 1 (sp_Peq CP) := ⟨⟨_, _, _, aPq, iPq, bPq, ok_Pipe_q FPq PC T⟩, neP, obP⟩
  have qM : OwnEq l.prog w K mg base CM 1 (sp_Meq CM) := ⟨⟨_, _, _, aMq, iMq, bMq, ok_Meter_q FMq MC T⟩, neM, obM⟩
  have GIo : Fn l.prog w K mg base "_index_of" 3 ["parts", "name"] (sp_index K CP) := ⟨_, _, PySem.W.mg_of X G aIo, kIo, bIo, ok_index_of FIo T T2 Gpn.irr⟩
  have GCp : Fn l.prog w K mg base "_check_pipes" 3 ["pipes"] (sp_chkP K CP) := ⟨_, _, PySem.W.mg_of X G aCp, kCp, bCp, ok_check_pipes FCp T T2 Cs3 PC Gpn.irr⟩
  have GCm : Fn l.prog w K mg base "_check_meters" 4 ["meters", "pipes"] (sp_chkM K CP CM) := ⟨_, _, PySem.W.mg_of X G aCm, kCm, bCm, ok_check_meters FCm T T2 Cs3 MC Gmn.irr Gma.irr GIo.irr⟩
  have GPl : Fn l.prog w K mg base "_pipe_line" 3 ["part"] (sp_pline CP) := ⟨_, _, PySem.W.mg_of X G aPl, kPl, bPl, ok_pipe_line FPl Gpn.irr Gps.irr Gpe.irr⟩
  have GMl : Fn l.prog w K mg base "_meter_line" 3 ["part"] (sp_mline CM) := ⟨_, _, PySem.W.mg_of X G aMl, kMl, bMl, ok_meter_line FMl Gmn.irr Gma.irr Gmz.irr⟩
  have GLs : Fn l.prog w K mg base "_lines" 4 ["pipes", "meters"] (sp_lines K CP CM) := ⟨_, _, PySem.W.mg_of X G aLs, kLs, bLs, ok_lines FLs GPl.irr GMl.irr⟩
  have ONi : FnOk l.prog w K mg base CX0 5 fNi _ ["self", "pipes", "meters"] (sp_Net K CN CP CM) := ok_Net_i FNi NC GCp.irr GCm.irr
  have N1 : Mkr l.prog w K mg base "Net" CN 5 (sp_Net K CN CP CM) [] := ⟨NC.k, _, _, _, dsN, MkN, bdN, vdN, ONi⟩
  have Gnp : Prp l.prog w K mg base CN "pipes" 1 (sp_npi CN) := ⟨clN, _, _, _, _, ⟨anp, gnp, tnp, _, rnp_⟩, bnp, ok_Net_p Fnp NC⟩
  have Gnm : Prp l.prog w K mg base CN "meters" 1 (sp_nme CN) := ⟨clN, _, _, _, _, ⟨anm, gnm, tnm, _, rnm_⟩, bnm, ok_Net_m Fnm NC⟩
  have GNl : OwnM l.prog w K mg base CN "__len__" 1 (sp_nlen K CN) := ⟨_, _, _, aNl, iNl, fiNl, bNl, ok_Net_l FNl NC T⟩
  have GNs : OwnM l.prog w K mg base CN "__str__" 5 (sp_nstr K CN CP CM) := ⟨_, _, _, aNs, iNs, fiNs, bNs, ok_Net_s FNs NC GLs.irr⟩
  have GNq : OwnM l.prog w K mg base CN "__eq__" 4 (sp_Neq K CN CP CM) := ⟨_, _, _, aNq, iNq, fiNq, bNq, ok_Net_q FNq NC T qP qM⟩
  have qN : OwnEq l.prog w K mg base CN 4 (sp_Neq K CN CP CM) := ⟨⟨_, _, _, aNq, iNq, bNq, ok_Net_q FNq NC T qP qM⟩, neN, obN⟩
  have GRw : Fn l.prog w K mg base "_rows_in" 1 ["text"] (sp_rows) := ⟨_, _, PySem.W.mg_of X G aRw, kRw, bRw, ok_rows_in (K := K) FRw ⟩
  have GPn : Fn l.prog w K mg base "_pipes_in" 5 ["text"] (sp_pin K CP) := ⟨_, _, PySem.W.mg_of X G aPn, kPn, bPn, ok_pipes_in FPn T T2 GRw.irr P0.irr⟩
  have GMn : Fn l.prog w K mg base "_meters_in" 5 ["text"] (sp_min K CM) := ⟨_, _, PySem.W.mg_of X G aMn, kMn, bMn, ok_meters_in FMn T T2 GRw.irr M2.irr⟩
  have ONr := ok_Net_r (P := l.prog) (w := w) (mg := mg) (base := base) FNr T N1.irr GPn.irr GMn.irr GNs.irr
  have GNr : ClsM l.prog w K mg base CN "read" 8 ["cls", "text"] (sp_nread K CN CP CM) := ⟨.type "type", pNr, fNr, _, RN, ⟨aNr, ⟨_, rNr_⟩, fiNr⟩, bNr, ONr⟩
  have GNk : ClsMK l.prog w K mg base CN "read" 8 ["text"] (sp_nread K CN CP CM) gR := ⟨.type "type", pNr, fNr, _, _, _, RN, ⟨aNr, ⟨_, rNr_⟩, fiNr⟩, kbNR FNr, ONr⟩
  have GNu : Fn l.prog w K mg base "is_number" 1 ["value"] (sp_is_number K) := ⟨_, _, PySem.W.mg_of X G aNu, kNu, bNu, ok_is_number FNu T T2⟩
  have GKn : Fn l.prog w K mg base "check_net" 1 ["net"] (sp_chkn K CN CP CM) := ⟨_, _, PySem.W.mg_of X G aKn, kKn, bKn, ok_chkn FKn T NC⟩
  have GIb : Fn l.prog w K mg base "is_bound" 2 ["value"] (sp_isb) := ⟨_, _, PySem.W.mg_of X G aIb, kIb, bIb, ok_isb FIb ⟨_, PySem.W.mg_of X G g_MOST_FAULTS, _, rfl⟩ GNu.irr⟩
  have GCh : Fn l.prog w K mg base "check_number" 3 ["number"] (sp_chnum) := ⟨_, _, PySem.W.mg_of X G aCh, kCh, bCh, ok_chnum FCh GIb.irr⟩
  have Gpl : Prp l.prog w K mg base CN "places" 3 (sp_plc K CN CP CM) := ⟨clN, _, _, _, _, ⟨apl, gpl, tpl, _, rpl_⟩, bpl, ok_Net_pl Fpl T T2 NC Gps.irr Gpe.irr⟩
  have GRe : Fn l.prog w K mg base "_reach_on" 3 ["parts", "reached", "links"] (sp_reach CP) := ⟨_, _, PySem.W.mg_of X G aRe, kRe, bRe, ok_reach FRe Gps.irr Gpe.irr⟩
  have GRo : Fn l.prog w K mg base "rooted" 5 ["net", "parts"] (sp_rooted K CN CP CM) := ⟨_, _, PySem.W.mg_of X G aRo, kRo, bRo, ok_rooted FRo Gpl.irr GRe.irr⟩
  have GFt : Fn l.prog w K mg base "fitting_flow" 7 ["net", "amounts"] (sp_fit K CN CP CM) := ⟨_, _, PySem.W.mg_of X G aFt, kFt, bFt, ok_fit FFt T T2 Gnp.irr Gpn.irr Gps.irr Gpe.irr Gpl.irr GRo.irr⟩
  have GIr : Fn l.prog w K mg base "is_reading" 3 ["part", "value"] (sp_isr CM) := ⟨_, _, PySem.W.mg_of X G aIr, kIr, bIr, ok_isr FIr Gmz.irr GNu.irr⟩
  have GKr : Fn l.prog w K mg base "check_readings" 4 ["net", "readings"] (sp_chr K CN CP CM) := ⟨_, _, PySem.W.mg_of X G aKr, kKr, bKr, ok_chr FKr T T2 Gnm.irr GIr.irr⟩
  have GSi : Fn l.prog w K mg base "silent_names" 3 ["net", "readings"] (sp_sln K CN CP CM) := ⟨_, _, PySem.W.mg_of X G aSi, kSi, bSi, ok_sln FSi (PySem.W.mg_none_of X G b_zip) Gnm.irr Gmn.irr⟩
  have GSh : Fn l.prog w K mg base "shown_amounts" 3 ["net", "readings", "wrong"] (sp_shown K CN CP CM) := ⟨_, _, PySem.W.mg_of X G aSh, kSh, bSh, ok_shown FSh (PySem.W.mg_none_of X G b_zip) Gnm.irr Gmn.irr Gma.irr⟩
  have GFr : Fn l.prog w K mg base "fitting_readings" 8 ["net", "readings", "wrong"] (sp_fitr K CN CP CM) := ⟨_, _, PySem.W.mg_of X G aFr, kFr, chainFr FFr, ok_fitr FFr GSh.irr GFt.irr⟩
  have GUs : Fn l.prog w K mg base "unsealed" 3 ["net"] (sp_uns K CN CP CM) := ⟨_, _, PySem.W.mg_of X G aUs, kUs, bUs, ok_uns FUs T2 Gnm.irr Gmn.irr Gmz.irr⟩
  have GDb : Fn l.prog w K mg base "_doubtful" 4 ["net", "readings"] (sp_dbt K CN CP CM) := ⟨_, _, PySem.W.mg_of X G aDb, kDb, bDb, ok_dbt FDb T2 GUs.irr GSi.irr⟩
  have GSb : Fn l.prog w K mg base "subsets" 1 ["names", "many"] (sp_subs 0) := ⟨_, _, PySem.W.mg_of X G aSb, kSb, bSb, ok_subs0 FSb ⟩
  have GSb1 : Fn l.prog w K mg base "subsets" 2 ["names", "many"] (sp_subs 1) := ⟨_, _, PySem.W.mg_of X G aSb, kSb, bSb, ok_subsS FSb T2 GSb.irr⟩
  have GSb2 : Fn l.prog w K mg base "subsets" 3 ["names", "many"] (sp_subs 2) := ⟨_, _, PySem.W.mg_of X G aSb, kSb, bSb, ok_subsS FSb T2 GSb1.irr⟩
  have GSb3 : Fn l.prog w K mg base "subsets" 4 ["names", "many"] (sp_subs 3) := ⟨_, _, PySem.W.mg_of X G aSb, kSb, bSb, ok_subsS FSb T2 GSb2.irr⟩
  have GEx : Fn l.prog w K mg base "explanations" 9 ["net", "readings", "most"] (sp_expl K CN CP CM) := ⟨_, _, PySem.W.mg_of X G aEx, kEx, bEx, ok_expl FEx T T2 GKn.irr GKr.irr GCh.irr GDb.irr GSb3.irr GFr.irr⟩
  have GEk : FnKd l.prog w K mg base "explanations" 9 ["net", "readings", "most"] (sp_expl K CN CP CM) gPE := ⟨_, _, ["net", "readings", "most"], _, PySem.W.mg_of X G aEx, kEx, kbEx FEx, ok_expl FEx T T2 GKn.irr GKr.irr GCh.irr GDb.irr GSb3.irr GFr.irr⟩
  have GSg : Fn l.prog w K mg base "_law_spring" 1 ["_law_script", "_law_k"] (sp_spring K) := ⟨_, _, PySem.W.mg_of X G aSg, kSg, bSg, ok_spring FSg T⟩
  have GTa : Fn l.prog w K mg base "_law_take" 1 ["_law_spring_here", "_law_many"] (sp_dip) := ⟨_, _, PySem.W.mg_of X G aTa, kTa, bTa, ok_take FTa T⟩
  have GTi : Fn l.prog w K mg base "_law_titles" 2 ["_law_spring_here", "_law_many"] (sp_names) := ⟨_, _, PySem.W.mg_of X G aTi, kTi, bTi, ok_titles FTi T GTa.irr⟩
  have GPa : Fn l.prog w K mg base "_law_plan" 3 ["_law_spring_here", "_law_tubes", "_law_gauges"] (sp_plan) := ⟨_, _, PySem.W.mg_of X G aPa, kPa, bPa, ok_plan FPa T GTa.irr GTi.irr⟩
  have GGr : Fn l.prog w K mg base "_law_grid" 1 ["_law_plan_here"] (sp_grid) := ⟨_, _, PySem.W.mg_of X G aGr, kGr, bGr, ok_grid FGr ⟩
  have GPh : Fn l.prog w K mg base "_law_path" 1 ["_law_tubes", "_law_kept", "_law_first", "_law_last"] (sp_pathB K) := ⟨_, _, PySem.W.mg_of X G aPh, kPh, bPh, ok_pathB FPh T⟩
  have GRg : Fn l.prog w K mg base "_law_rings" 2 ["_law_tubes"] (sp_ringsB K) := ⟨_, _, PySem.W.mg_of X G aRg, kRg, bRg, ok_ringsB FRg T GPh.irr⟩
  have GNb : Fn l.prog w K mg base "_law_number" 2 ["_law_spring_here"] (sp_numL) := ⟨_, _, PySem.W.mg_of X G aNb, kNb, bNb, ok_numL FNb GTa.irr⟩
  have GFl : Fn l.prog w K mg base "_law_flow" 3 ["_law_spring_here", "_law_rings_here", "_law_size"] (sp_flowL) := ⟨_, _, PySem.W.mg_of X G aFl, kFl, bFl, ok_flowL FFl T GNb.irr⟩
  have GSe : Fn l.prog w K mg base "_law_seen" 3 ["_law_spring_here", "_law_plan_here", "_law_flow_here"] (sp_seenL) := ⟨_, _, PySem.W.mg_of X G aSe, kSe, bSe, ok_seenL FSe GTa.irr GNb.irr⟩
  have GRd : Fn l.prog w K mg base "_law_reduced" 1 ["_law_done", "_law_row_here"] (sp_redu) := ⟨_, _, PySem.W.mg_of X G aRd, kRd, bRd, ok_redu FRd T (PySem.W.mg_none_of X G b_list)⟩
  have GSo : Fn l.prog w K mg base "_law_solved" 2 ["_law_rows_here"] (sp_solv) := ⟨_, _, PySem.W.mg_of X G aSo, kSo, bSo, ok_solv FSo T GRd.irr⟩
  have GFa : Fn l.prog w K mg base "_law_facts" 1 ["_law_plan_here", "_law_rings_here", "_law_shown", "_law_out"] (sp_factsL K) := ⟨_, _, PySem.W.mg_of X G aFa, kFa, bFa, ok_factsL FFa (PySem.W.mg_none_of X G b_list) (PySem.W.mg_none_of X G b_zip)⟩
  have GPo : Fn l.prog w K mg base "_law_possible" 3 ["_law_plan_here", "_law_rings_here", "_law_shown", "_law_out"] (sp_possL K) := ⟨_, _, PySem.W.mg_of X G aPo, kPo, bPo, ok_possL FPo GFa.irr GSo.irr⟩
  have GSt : Fn l.prog w K mg base "_law_sets" 1 ["_law_items_here", "_law_size"] (sp_setsL K) := ⟨_, _, PySem.W.mg_of X G aSt, kSt, bSt, ok_setsL FSt T T2⟩
  have GSu : Fn l.prog w K mg base "_law_suspects" 1 ["_law_plan_here", "_law_shown"] (sp_suspL K) := ⟨_, _, PySem.W.mg_of X G aSu, kSu, bSu, ok_suspL FSu (PySem.W.mg_none_of X G b_list) (PySem.W.mg_none_of X G b_zip)⟩
  have GXp : Fn l.prog w K mg base "_law_explained" 4 ["_law_plan_here", "_law_rings_here", "_law_shown", "_law_bound"] (sp_explL K) := ⟨_, _, PySem.W.mg_of X G aXp, kXp, bXp, ok_explL FXp T GSu.irr GSt.irr GPo.irr⟩
  have GRi : FnGd l.prog w K mg base "_law_right" 10 ["_law_spring_here"] (sp_right55) := ⟨_, _, PySem.W.mg_of X G aRi, kRi, bRi, ok_right55 FRi T T2 NC GTa.irr GPa.irr GGr.irr GRg.irr GFl.irr GSe.irr GXp.irr GEx.irr GEk.irr GNs.irr GNr.irr⟩
  exact ok_law55 (fun_mk (st := s_law) lLa cLa kLa) T NC GSg.irr GRi GEx.irr GNr.irr
end RV
namespace HV
open PySem PySem.W PySem.Calls PyProof.Rows
def hview : Program := { PySem.Challenge.pw_ringvotes_k55_whole_explanations with main := { PySem.Challenge.pw_ringvotes_k55_whole_explanations.main with body := [PySem.Challenge.pw_ringvotes_k55_whole_explanations.main.body.getD 77 (.Pass ⟨0, 0, 0, 0⟩)] } }
def hloose0 : List PySem.Str := [PySem.Str.ofString "_LETTERS", PySem.Str.ofString "_DIGITS", PySem.Str.ofString "_LONGEST_NAME", PySem.Str.ofString "is_number", PySem.Str.ofString "is_name", PySem.Str.ofString "BadValue", PySem.Str.ofString "InvalidName", PySem.Str.ofString "InvalidEnd", PySem.Str.ofString "InvalidFlag", PySem.Str.ofString "InvalidText", PySem.Str.ofString "InvalidNumber", PySem.Str.ofString "NotAMeter", PySem.Str.ofString "NotANet", PySem.Str.ofString "InvalidPipes", PySem.Str.ofString "InvalidMeters", PySem.Str.ofString "InvalidReadings", PySem.Str.ofString "BadName", PySem.Str.ofString "UnknownName", PySem.Str.ofString "MOST_PIPES", PySem.Str.ofString "MOST_METERS", PySem.Str.ofString "MOST_FAULTS", PySem.Str.ofString "Pipe", PySem.Str.ofString "Meter", PySem.Str.ofString "Net", PySem.Str.ofString "_check_names", PySem.Str.ofString "_check_pipes", PySem.Str.ofString "_check_meters", PySem.Str.ofString "_index_of", PySem.Str.ofString "_lines", PySem.Str.ofString "_pipe_line"]
def hloose1 : List PySem.Str := [PySem.Str.ofString "_meter_line", PySem.Str.ofString "_rows_in", PySem.Str.ofString "_pipes_in", PySem.Str.ofString "_meters_in", PySem.Str.ofString "check_net", PySem.Str.ofString "check_number", PySem.Str.ofString "is_bound", PySem.Str.ofString "rooted", PySem.Str.ofString "fitting_flow", PySem.Str.ofString "_reach_on", PySem.Str.ofString "check_readings", PySem.Str.ofString "is_reading", PySem.Str.ofString "silent_names", PySem.Str.ofString "shown_amounts", PySem.Str.ofString "fitting_readings", PySem.Str.ofString "unsealed", PySem.Str.ofString "subsets", PySem.Str.ofString "explanations", PySem.Str.ofString "_doubtful", PySem.Str.ofString "_law_spring", PySem.Str.ofString "_law_take", PySem.Str.ofString "_law_titles", PySem.Str.ofString "_law_plan", PySem.Str.ofString "_law_grid", PySem.Str.ofString "_law_path", PySem.Str.ofString "_law_rings", PySem.Str.ofString "_law_number", PySem.Str.ofString "_law_flow", PySem.Str.ofString "_law_seen", PySem.Str.ofString "_law_reduced"]
def hloose2 : List PySem.Str := [PySem.Str.ofString "_law_solved", PySem.Str.ofString "_law_facts", PySem.Str.ofString "_law_possible", PySem.Str.ofString "_law_sets", PySem.Str.ofString "_law_suspects", PySem.Str.ofString "_law_explained", PySem.Str.ofString "_law_right"]
def hloose : List PySem.Str := hloose0 ++ hloose1 ++ hloose2
end HV
set_option hygiene false in
open PySem PySem.W PySem.Calls PyProof.Rows in
local macro_rules | `(tactic| o_head $H) => `(tactic| ((refine holds_open (q := HV.hview) (loose := HV.hloose) (Xt := fun s => xlAt HV.hview [] s && recOk (RowW.records (OpenRow.toRowW (OpenLaw.row PySem.Challenge.rw_ringvotes_k55_whole_explanations))) s) (XP := XL HV.hview []) (Yf := Hook.obs $H) (Ya := Hook.val $H) (YP := Hook.says $H) (N := 13992) ?hl (Hook.of $H) (Hook.keeps $H) (fun s e => xl_of s (Bool.and_eq_true_iff.mp e).1) XL.keeps (by rfl) (by rfl) (by rfl) (fun s e => recFacts_of (Bool.and_eq_true_iff.mp e).2) (by rfl) (by first | assumption | decide +kernel) (by decide +kernel) ⟨rfl, rfl, rfl, rfl, rfl, by decide +kernel⟩ ?hw ?hc); (case hl => (refine HeadRun.left_oneK (M := 13292) (by kernel_rfl) (by rfl) (fun s => by kernel_rfl) (by rfl) ?_; intro w os; kernel_rfl))))
open PySem PySem.W PyProof.Rows in
set_option maxRecDepth 100000 in
set_option maxHeartbeats 0 in
theorem PySem.Challenge.cw_ringvotes_k55_whole_explanations_holds : PySem.Challenge.rw_ringvotes_k55_whole_explanations.Holds := by
  w_on; o_law; k_head; (case hw => w_witness2)
  k_fill
  refine RV.walkGx "_law_script" 11 (l := PySem.Challenge.rw_ringvotes_k55_whole_explanations) ⟨rfl, by decide, by decide⟩ rfl rfl (fun w h Y => PySem.W.kIn_of Y) ?F
  case F =>
    intro w mg fa h KX G hmg
    refine' RV.all_mk KX G hmg ?b_len ?b_int ?b_abs ?b_max ?b_min ?b_all ?b_any ?b_repr ?b_range ?b_divmod ?b_isinstance ?b_str ?b_sum ?b_sorted ?b_set ?b_tuple ?b_enumerate ?b_bool ?g__LETTERS ?g__DIGITS ?g__LONGEST_NAME ?g_MOST_PIPES ?g_MOST_METERS ?aIn ?lIn ?cIn ?kIn ?aCn ?lCn ?cCn ?kCn ?nP ?pgP ?hdP ?poP ?saP ?mkP ?kcP ?haP ?hmP ?tyP ?suP ?obP ?noP0 ?noP1 ?noP2 ?nM ?pgM ?hdM ?poM ?saM ?mkM ?kcM ?haM ?hmM ?tyM ?suM ?obM ?noM0 ?noM1 ?noM2 ?hn ?htk ?neP ?neM ?aPi ?iPi ?lPi ?cPi ?kPi ?aMi ?iMi ?lMi ?cMi ?kMi ?kd ?apn ?gpn ?tpn ?rpn_ ?lpn ?cpn ?kpn ?aps ?gps ?tps ?rps_ ?lps ?cps ?kps ?ape ?gpe ?tpe ?rpe_ ?lpe ?cpe ?kpe ?amn ?gmn ?tmn ?rmn_ ?lmn ?cmn ?kmn ?ama ?gma ?tma ?rma_ ?lma ?cma ?kma ?amz ?gmz ?tmz ?rmz_ ?lmz ?cmz ?kmz ?aPq ?iPq ?lPq ?cPq ?kPq ?fiPq ?aMq ?iMq ?lMq ?cMq ?kMq ?fiMq ?nN ?pgN ?hdN ?poN ?saN ?mkN ?kcN ?haN ?hmN ?tyN ?suN ?obN ?noN0 ?noN1 ?neN ?aIo ?lIo ?cIo ?kIo ?aCp ?lCp ?cCp ?kCp ?aCm ?lCm ?cCm ?kCm ?aPl ?lPl ?cPl ?kPl ?aMl ?lMl ?cMl ?kMl ?aLs ?lLs ?cLs ?kLs ?aNi ?iNi ?lNi ?cNi ?kNi ?lT ?anp ?gnp ?tnp ?rnp_ ?lnp ?cnp ?knp ?anm ?gnm ?tnm ?rnm_ ?lnm ?cnm ?knm ?aNl ?iNl ?lNl ?cNl ?kNl ?fiNl ?aNs ?iNs ?lNs ?cNs ?kNs ?fiNs ?aNq ?iNq ?lNq ?cNq ?kNq ?fiNq ?aRw ?lRw ?cRw ?kRw ?aPn ?lPn ?cPn ?kPn ?aMn ?lMn ?cMn ?kMn ?rdN ?gaN ?aNr ?rNr_ ?fiNr ?lNr ?cNr ?kNr ?b_list ?b_zip ?aNu ?lNu ?cNu ?kNu ?aKn ?lKn ?cKn ?kKn ?g_MOST_FAULTS ?aIb ?lIb ?cIb ?kIb ?aCh ?lCh ?cCh ?kCh ?apl ?gpl ?tpl ?rpl_ ?lpl ?cpl ?kpl ?aRe ?lRe ?cRe ?kRe ?aRo ?lRo ?cRo ?kRo ?aFt ?lFt ?cFt ?kFt ?aIr ?lIr ?cIr ?kIr ?aKr ?lKr ?cKr ?kKr ?aSi ?lSi ?cSi ?kSi ?aSh ?lSh ?cSh ?kSh ?aFr ?lFr ?cFr ?kFr ?lTf ?aUs ?lUs ?cUs ?kUs ?aDb ?lDb ?cDb ?kDb ?aSb ?lSb ?cSb ?kSb ?aEx ?lEx ?cEx ?kEx ?aSg ?lSg ?cSg ?kSg ?aTa ?lTa ?cTa ?kTa ?aTi ?lTi ?cTi ?kTi ?aPa ?lPa ?cPa ?kPa ?aGr ?lGr ?cGr ?kGr ?aPh ?lPh ?cPh ?kPh ?aRg ?lRg ?cRg ?kRg ?aNb ?lNb ?cNb ?kNb ?aFl ?lFl ?cFl ?kFl ?aSe ?lSe ?cSe ?kSe ?aRd ?lRd ?cRd ?kRd ?aSo ?lSo ?cSo ?kSo ?aFa ?lFa ?cFa ?kFa ?aPo ?lPo ?cPo ?kPo ?aSt ?lSt ?cSt ?kSt ?aSu ?lSu ?cSu ?kSu ?aXp ?lXp ?cXp ?kXp ?aRi ?lRi ?cRi ?kRi ?aLa ?lLa ?cLa ?kLa
    (case b_len => k_is)
    (case b_int => k_is)
    (case b_abs => k_is)
    (case b_max => k_is)
    (case b_min => k_is)
    (case b_all => k_is)
    (case b_any => k_is)
    (case b_repr => k_is)
    (case b_range => k_is)
    (case b_divmod => k_is)
    (case b_isinstance => k_is)
    (case b_str => k_is)
    (case b_sum => k_is)
    (case b_sorted => k_is)
    (case b_set => k_is)
    (case b_tuple => k_is)
    (case b_enumerate => k_is)
    (case b_bool => k_is)
    (case g__LETTERS => k_is)
    (case g__DIGITS => k_is)
    (case g__LONGEST_NAME => k_is)
    (case g_MOST_PIPES => k_is)
    (case g_MOST_METERS => k_is)
    (case aIn => k_is)
    (case lIn => k_is)
    (case cIn => k_is)
    (case kIn => k_is)
    (case aCn => k_is)
    (case lCn => k_is)
    (case cCn => k_is)
    (case kCn => k_is)
    (case nP => k_is)
    (case pgP => k_is)
    (case hdP => k_is)
    (case poP => k_is)
    (case saP => k_is)
    (case mkP => k_is)
    (case kcP => k_is)
    (case haP => k_is)
    (case hmP => k_is)
    (case tyP => k_is)
    (case suP => k_is)
    (case obP => k_is)
    (case noP0 => k_is)
    (case noP1 => k_is)
    (case noP2 => k_is)
    (case nM => k_is)
    (case pgM => k_is)
    (case hdM => k_is)
    (case poM => k_is)
    (case saM => k_is)
    (case mkM => k_is)
    (case kcM => k_is)
    (case haM => k_is)
    (case hmM => k_is)
    (case tyM => k_is)
    (case suM => k_is)
    (case obM => k_is)
    (case noM0 => k_is)
    (case noM1 => k_is)
    (case noM2 => k_is)
    (case hn => k_is)
    (case htk => k_is)
    (case neP => k_is)
    (case neM => k_is)
    (case aPi => k_is)
    (case iPi => k_is)
    (case lPi => k_is)
    (case cPi => k_is)
    (case kPi => k_is)
    (case aMi => k_is)
    (case iMi => k_is)
    (case lMi => k_is)
    (case cMi => k_is)
    (case kMi => k_is)
    (case kd => k_is)
    (case apn => k_is)
    (case gpn => k_is)
    (case tpn => k_is)
    (case rpn_ => k_is)
    (case lpn => k_is)
    (case cpn => k_is)
    (case kpn => k_is)
    (case aps => k_is)
    (case gps => k_is)
    (case tps => k_is)
    (case rps_ => k_is)
    (case lps => k_is)
    (case cps => k_is)
    (case kps => k_is)
    (case ape => k_is)
    (case gpe => k_is)
    (case tpe => k_is)
    (case rpe_ => k_is)
    (case lpe => k_is)
    (case cpe => k_is)
    (case kpe => k_is)
    (case amn => k_is)
    (case gmn => k_is)
    (case tmn => k_is)
    (case rmn_ => k_is)
    (case lmn => k_is)
    (case cmn => k_is)
    (case kmn => k_is)
    (case ama => k_is)
    (case gma => k_is)
    (case tma => k_is)
    (case rma_ => k_is)
    (case lma => k_is)
    (case cma => k_is)
    (case kma => k_is)
    (case amz => k_is)
    (case gmz => k_is)
    (case tmz => k_is)
    (case rmz_ => k_is)
    (case lmz => k_is)
    (case cmz => k_is)
    (case kmz => k_is)
    (case aPq => k_is)
    (case iPq => k_is)
    (case lPq => k_is)
    (case cPq => k_is)
    (case kPq => k_is)
    (case fiPq => k_is)
    (case aMq => k_is)
    (case iMq => k_is)
    (case lMq => k_is)
    (case cMq => k_is)
    (case kMq => k_is)
    (case fiMq => k_is)
    (case nN => k_is)
    (case pgN => k_is)
    (case hdN => k_is)
    (case poN => k_is)
    (case saN => k_is)
    (case mkN => k_is)
    (case kcN => k_is)
    (case haN => k_is)
    (case hmN => k_is)
    (case tyN => k_is)
    (case suN => k_is)
    (case obN => k_is)
    (case noN0 => k_is)
    (case noN1 => k_is)
    (case neN => k_is)
    (case aIo => k_is)
    (case lIo => k_is)
    (case cIo => k_is)
    (case kIo => k_is)
    (case aCp => k_is)
    (case lCp => k_is)
    (case cCp => k_is)
    (case kCp => k_is)
    (case aCm => k_is)
    (case lCm => k_is)
    (case cCm => k_is)
    (case kCm => k_is)
    (case aPl => k_is)
    (case lPl => k_is)
    (case cPl => k_is)
    (case kPl => k_is)
    (case aMl => k_is)
    (case lMl => k_is)
    (case cMl => k_is)
    (case kMl => k_is)
    (case aLs => k_is)
    (case lLs => k_is)
    (case cLs => k_is)
    (case kLs => k_is)
    (case aNi => k_is)
    (case iNi => k_is)
    (case lNi => k_is)
    (case cNi => k_is)
    (case kNi => k_is)
    (case lT => k_is)
    (case anp => k_is)
    (case gnp => k_is)
    (case tnp => k_is)
    (case rnp_ => k_is)
    (case lnp => k_is)
    (case cnp => k_is)
    (case knp => k_is)
    (case anm => k_is)
    (case gnm => k_is)
    (case tnm => k_is)
    (case rnm_ => k_is)
    (case lnm => k_is)
    (case cnm => k_is)
    (case knm => k_is)
    (case aNl => k_is)
    (case iNl => k_is)
    (case lNl => k_is)
    (case cNl => k_is)
    (case kNl => k_is)
    (case fiNl => k_is)
    (case aNs => k_is)
    (case iNs => k_is)
    (case lNs => k_is)
    (case cNs => k_is)
    (case kNs => k_is)
    (case fiNs => k_is)
    (case aNq => k_is)
    (case iNq => k_is)
    (case lNq => k_is)
    (case cNq => k_is)
    (case kNq => k_is)
    (case fiNq => k_is)
    (case aRw => k_is)
    (case lRw => k_is)
    (case cRw => k_is)
    (case kRw => k_is)
    (case aPn => k_is)
    (case lPn => k_is)
    (case cPn => k_is)
    (case kPn => k_is)
    (case aMn => k_is)
    (case lMn => k_is)
    (case cMn => k_is)
    (case kMn => k_is)
    (case rdN => k_is)
    (case gaN => k_is)
    (case aNr => k_is)
    (case rNr_ => k_is)
    (case fiNr => k_is)
    (case lNr => k_is)
    (case cNr => k_is)
    (case kNr => k_is)
    (case b_list => k_is)
    (case b_zip => k_is)
    (case aNu => k_is)
    (case lNu => k_is)
    (case cNu => k_is)
    (case kNu => k_is)
    (case aKn => k_is)
    (case lKn => k_is)
    (case cKn => k_is)
    (case kKn => k_is)
    (case g_MOST_FAULTS => k_is)
    (case aIb => k_is)
    (case lIb => k_is)
    (case cIb => k_is)
    (case kIb => k_is)
    (case aCh => k_is)
    (case lCh => k_is)
    (case cCh => k_is)
    (case kCh => k_is)
    (case apl => k_is)
    (case gpl => k_is)
    (case tpl => k_is)
    (case rpl_ => k_is)
    (case lpl => k_is)
    (case cpl => k_is)
    (case kpl => k_is)
    (case aRe => k_is)
    (case lRe => k_is)
    (case cRe => k_is)
    (case kRe => k_is)
    (case aRo => k_is)
    (case lRo => k_is)
    (case cRo => k_is)
    (case kRo => k_is)
    (case aFt => k_is)
    (case lFt => k_is)
    (case cFt => k_is)
    (case kFt => k_is)
    (case aIr => k_is)
    (case lIr => k_is)
    (case cIr => k_is)
    (case kIr => k_is)
    (case aKr => k_is)
    (case lKr => k_is)
    (case cKr => k_is)
    (case kKr => k_is)
    (case aSi => k_is)
    (case lSi => k_is)
    (case cSi => k_is)
    (case kSi => k_is)
    (case aSh => k_is)
    (case lSh => k_is)
    (case cSh => k_is)
    (case kSh => k_is)
    (case aFr => k_is)
    (case lFr => k_is)
    (case cFr => k_is)
    (case kFr => k_is)
    (case lTf => k_is)
    (case aUs => k_is)
    (case lUs => k_is)
    (case cUs => k_is)
    (case kUs => k_is)
    (case aDb => k_is)
    (case lDb => k_is)
    (case cDb => k_is)
    (case kDb => k_is)
    (case aSb => k_is)
    (case lSb => k_is)
    (case cSb => k_is)
    (case kSb => k_is)
    (case aEx => k_is)
    (case lEx => k_is)
    (case cEx => k_is)
    (case kEx => k_is)
    (case aSg => k_is)
    (case lSg => k_is)
    (case cSg => k_is)
    (case kSg => k_is)
    (case aTa => k_is)
    (case lTa => k_is)
    (case cTa => k_is)
    (case kTa => k_is)
    (case aTi => k_is)
    (case lTi => k_is)
    (case cTi => k_is)
    (case kTi => k_is)
    (case aPa => k_is)
    (case lPa => k_is)
    (case cPa => k_is)
    (case kPa => k_is)
    (case aGr => k_is)
    (case lGr => k_is)
    (case cGr => k_is)
    (case kGr => k_is)
    (case aPh => k_is)
    (case lPh => k_is)
    (case cPh => k_is)
    (case kPh => k_is)
    (case aRg => k_is)
    (case lRg => k_is)
    (case cRg => k_is)
    (case kRg => k_is)
    (case aNb => k_is)
    (case lNb => k_is)
    (case cNb => k_is)
    (case kNb => k_is)
    (case aFl => k_is)
    (case lFl => k_is)
    (case cFl => k_is)
    (case kFl => k_is)
    (case aSe => k_is)
    (case lSe => k_is)
    (case cSe => k_is)
    (case kSe => k_is)
    (case aRd => k_is)
    (case lRd => k_is)
    (case cRd => k_is)
    (case kRd => k_is)
    (case aSo => k_is)
    (case lSo => k_is)
    (case cSo => k_is)
    (case kSo => k_is)
    (case aFa => k_is)
    (case lFa => k_is)
    (case cFa => k_is)
    (case kFa => k_is)
    (case aPo => k_is)
    (case lPo => k_is)
    (case cPo => k_is)
    (case kPo => k_is)
    (case aSt => k_is)
    (case lSt => k_is)
    (case cSt => k_is)
    (case kSt => k_is)
    (case aSu => k_is)
    (case lSu => k_is)
    (case cSu => k_is)
    (case kSu => k_is)
    (case aXp => k_is)
    (case lXp => k_is)
    (case cXp => k_is)
    (case kXp => k_is)
    (case aRi => k_is)
    (case lRi => k_is)
    (case cRi => k_is)
    (case kRi => k_is)
    (case aLa => k_is)
    (case lLa => k_is)
    (case cLa => k_is)
    (case kLa => k_is)
