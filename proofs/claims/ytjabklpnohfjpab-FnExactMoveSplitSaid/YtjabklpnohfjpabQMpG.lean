/-
  Contracts of the program's chapter 7: a move made of fractions: what its walk wants.
-/
import Derived.Test.YtjabklpnohfjpabQBun30
import Derived.Lib.Walk
import Derived.Lib.SliceRun
import Derived.Maps.OwnIn
import Derived.Test.YtjabklpnohfjpabQBun20
set_option linter.unusedVariables false
namespace Go.Proofs.Ytjabklpnohfjpab
open Go.RowKit

set_option maxRecDepth 100000 in
set_option maxHeartbeats 4000000 in
theorem clone7_any (ad : Addr) (n c : Nat) (xs : List Int) (hl : xs.length ≤ 1000) (w : World) (h : Rd w (.slice (some ad) n c) xs) :
    Calls Try.prog 91 #[.slice (some ad) n c] w fun e w' => ∃ u, e = .returned u ∧ Owns w' w.heap.size u xs ∧ Below w.heap.size w w' := by
  have HO0 : Hid (Owns (w.alloc (.cells #[] 3)) w.heap.size (.slice (some ⟨w.heap.size, 0, none⟩) 0 0) []) := hid (World.ownsRow_made (size := 1) w #[] 0 (Nat.le_refl _) (by unfold maxLen; omega) rfl)
  have HB0 := hid ((Below.refl w.heap.size w).alloc (Nat.le_refl _) (.cells #[] 3))
  have HX0 := hid (h.keep HB0.out)
  have FU : Hid (Firm (.slice (some ad) n c)) := hid (.inr ⟨_, _, _, rfl⟩)
  have q22 : ∀ (w : World), (binOp .eql 22 (.slice (some ad) n c) (.slice none 0 0)).run Try.prog w = .ok (.bool false) w := fun w => Lib.run_eql_slice_nil w _ _ (some ad) n c 0 0 Try.underlying22
  clear h
  go_enter Try.func91, Try.ntmps91
  go_wp2_with (at_builtin; refine append_rd rfl _ _ rfl w.heap.size _ [] rfl HO0.out _ xs rfl HX0.out FU.out (by simp; omega) (by simp) ?_; intro v1 w1 o1 g1; have HO1 : Hid (Owns w1 w.heap.size v1 xs) := hid o1; have HB1 := hid (HB0.out.grown g1 (by simp) (fun k e => HO0.out.ge k e)); clear o1 g1)
  go_ret
  exact ⟨_, rfl, HO1.out, HB1.out⟩

/-- a list of lists abides the turn of a block that holds no cells -/
theorem Owns.turn {A W : World} {B : Nat} {v : Value} {xs : List Int} {row : Option Nat} (h : Owns A B v xs) (hg : A.grownBy W row) (hr : ∀ r, row = some r → ∃ o : Obj, A.heap[r]? = some o ∧ o.isCells = false) : Owns W B v xs := by
  obtain ⟨h1, h2⟩ := h
  refine ⟨h1, ?_⟩
  rcases h2 with h2 | ⟨g, cap, cur, hv, hB, hh, r⟩
  · exact .inl h2
  · refine .inr ⟨g, cap, cur, hv, hB, (hg.block g (Array.getElem?_eq_some_iff.1 hh).1 fun e => ?_).trans hh, r⟩
    obtain ⟨o, ho, hc⟩ := hr g e.symm
    rw [hh] at ho; cases ho; cases hc
theorem rowTurn {A W : World} {B n size : Nat} {t : TypeId} {v : Value} {xs : List Value} {row : Option Nat} (h : World.ownsRow A B t size v n xs) (hg : A.grownBy W row) (hr : ∀ r, row = some r → ∃ o : Obj, A.heap[r]? = some o ∧ o.isCells = false) : World.ownsRow W B t size v n xs := by
  obtain ⟨h1, h2⟩ := h
  refine ⟨h1, ?_⟩
  rcases h2 with h2 | ⟨g, cap, cur, hv, hB, hh, r⟩
  · exact .inl h2
  · refine .inr ⟨g, cap, cur, hv, hB, (hg.block g (Array.getElem?_eq_some_iff.1 hh).1 fun e => ?_).trans hh, r⟩
    obtain ⟨o, ho, hc⟩ := hr g e.symm
    rw [hh] at ho; cases ho; cases hc
theorem OwnM.turn {A W : World} {B : Nat} {ex : Option Nat} {v : Value} {R : List (List Int)} {row : Option Nat} (h : OwnM A B ex v R) (hg : A.grownBy W row) (hr : ∀ r, row = some r → ∃ o : Obj, A.heap[r]? = some o ∧ o.isCells = false) : OwnM W B ex v R := by
  obtain ⟨vals, hl, ho, hx, hrr, hd⟩ := h.own
  exact ⟨vals, hl, rowTurn ho hg hr, hx, fun i hi => ⟨(hrr i hi).1.turn hg hr, (hrr i hi).2⟩, hd⟩

theorem frs_snoc {l : List (Int × Int)} {Ns : List Int} {D : Int} (h : Frs l Ns D) {a b N : Int} (hf : Fr a b N D) : Frs (l ++ [(a, b)]) (Ns ++ [N]) D := by
  refine ⟨by rw [List.length_append, List.length_append, h.1]; rfl, fun i hi => ?_⟩
  rw [List.length_append] at hi
  simp only [List.length_cons, List.length_nil] at hi
  by_cases e : i < l.length
  · rw [getD_snoc_old _ _ _ e, getD_snoc_old _ _ _ (by rw [← h.1]; exact e)]
    exact h.2 i e
  · have e2 : i = l.length := by omega
    subst e2
    rw [getD_snoc_new, h.1, getD_snoc_new]
    exact hf
/-- the numerators, row by row -/
def numsAt (n : Nat) (M : Nat → Nat → Int) (i j : Nat) : List Int := ((matL n M).take i).flatten ++ (rowL n (M i)).take j
theorem numsAt_zero (n : Nat) (M : Nat → Nat → Int) : numsAt n M 0 0 = [] := rfl
theorem numsAt_next {n : Nat} {M : Nat → Nat → Int} {i j : Nat} (hj : j < n) : numsAt n M i (j + 1) = numsAt n M i j ++ [M i j] := by
  unfold numsAt
  rw [rowL_take _ _ hj, List.append_assoc]
theorem numsAt_row {n : Nat} {M : Nat → Nat → Int} {i : Nat} (hi : i < n) : numsAt n M i n = numsAt n M (i + 1) 0 := by
  unfold numsAt
  rw [matL_take _ _ hi, List.flatten_append, List.take_zero, List.append_nil, List.take_of_length_le (l := rowL n (M i)) (by rw [row_len]; exact Nat.le_refl _)]
  simp
theorem numsAt_all {n : Nat} {M : Nat → Nat → Int} : numsAt n M n 0 = (matL n M).flatten := by
  unfold numsAt
  rw [List.take_of_length_le (by rw [matL_len]; exact Nat.le_refl _), List.take_zero, List.append_nil]
theorem flat_len {n : Nat} : ∀ (R : List (List Int)), (∀ r ∈ R, r.length = n) → R.flatten.length = R.length * n
  | [], _ => by simp
  | r :: R, h => by
    rw [List.flatten_cons, List.length_append, flat_len R fun x hx => h x (List.mem_cons_of_mem _ hx), h r (List.mem_cons_self ..), List.length_cons, Nat.succ_mul]
    omega
theorem numsAt_len {n : Nat} {M : Nat → Nat → Int} {i j : Nat} (hi : i ≤ n) (hj : j ≤ n) (hn : n ≤ 3) : (numsAt n M i j).length ≤ 12 := by
  unfold numsAt
  rw [List.length_append, flat_len (n := n) _ fun r hr => by
    obtain ⟨k, _, rfl⟩ := List.mem_map.1 (List.mem_of_mem_take hr)
    simp]
  rw [List.length_take, List.length_take, matL_len, row_len]
  have h1 : min i n * n ≤ 3 * 3 := Nat.mul_le_mul (by omega) hn
  omega
theorem nums_b14 {n : Nat} {M : Nat → Nat → Int} (h : ∀ i j, i < n → j < n → B14 (M i j)) : ∀ k, B14 ((matL n M).flatten.getD k 0) := by
  intro k
  have hz : B14 0 := by unfold B14; omega
  rcases Nat.lt_or_ge k (matL n M).flatten.length with hk | hk
  · rw [List.getD_eq_getElem?_getD, List.getElem?_eq_getElem hk]
    have hm := List.getElem_mem hk
    obtain ⟨r, hr, hx⟩ := List.mem_flatten.1 hm
    obtain ⟨i, hi, rfl⟩ := List.mem_map.1 hr
    obtain ⟨j, hj, e⟩ := List.mem_map.1 hx
    show B14 ((matL n M).flatten[k])
    rw [← e]
    exact h i j (List.mem_range.1 hi) (List.mem_range.1 hj)
  · rw [List.getD_eq_getElem?_getD, List.getElem?_eq_none hk]; exact hz
/-- what moveOf makes -/
def madeV (n : Nat) (M : Nat → Nat → Int) (D : Int) : Option (List (List Int) × Int) := if lowD (matL n M) D ≤ 10000 ∧ hgtL (lowR (matL n M) D).flatten ≤ 1000000 then some (lowR (matL n M) D, lowD (matL n M) D) else none
theorem flat_at {n : Nat} : ∀ {R : List (List Int)}, (∀ r ∈ R, r.length = n) → ∀ {x j : Nat}, x < R.length → j < n → R.flatten.getD (x * n + j) 0 = at2 R x j
  | [], _, x, j, hx, _ => absurd hx (by simp)
  | r :: R, h, 0, j, hx, hj => by
    have hr := h r (List.mem_cons_self ..)
    rw [List.flatten_cons, Nat.zero_mul, Nat.zero_add, List.getD_eq_getElem?_getD, List.getElem?_append_left (by omega)]
    unfold at2
    rw [List.getD_cons_zero, List.getD_eq_getElem?_getD]
  | r :: R, h, x + 1, j, hx, hj => by
    have hr := h r (List.mem_cons_self ..)
    have ih := flat_at (R := R) (fun q hq => h q (List.mem_cons_of_mem _ hq)) (x := x) (j := j) (by simpa using hx) hj
    rw [List.flatten_cons, List.getD_eq_getElem?_getD, List.getElem?_append_right (by rw [hr, Nat.succ_mul]; omega), hr, show (x + 1) * n + j - n = x * n + j by rw [Nat.succ_mul]; omega, ← List.getD_eq_getElem?_getD, ih]
    unfold at2
    rw [List.getD_cons_succ]
theorem OwnF.rd2 {W : World} {B : Nat} {v : Value} {l : List (Int × Int)} (h : OwnF W B v l) (hl : 0 < l.length) : RdF W v l := by
  refine h.rd ?_
  rcases h.2 with ⟨_, h2⟩ | ⟨g, cap, _, hv, _⟩
  · omega
  · exact ⟨g, _, cap, hv⟩

theorem owns_form {W : World} {B : Nat} {v : Value} {xs : List Int} (h : Owns W B v xs) (hl : 0 < xs.length) : ∃ g cap, v = .slice (some ⟨g, 0, none⟩) xs.length cap ∧ xs.length ≤ cap ∧ cap ≤ maxLen ∧ B ≤ g ∧ g < W.heap.size := by
  have h0 := h
  rcases h.2 with ⟨_, h2⟩ | ⟨g, cap, cur, hv, hB, hh, hc, hm, _⟩
  · have : xs.length = 0 := h2
    omega
  · exact ⟨g, cap, hv, hc, hm, hB, (Array.getElem?_eq_some_iff.1 hh).1⟩
theorem made_none {n : Nat} {M : Nat → Nat → Int} {D : Int} (h : ¬ (lowD (matL n M) D ≤ 10000 ∧ hgtL (lowR (matL n M) D).flatten ≤ 1000000)) : madeV n M D = none := if_neg h
theorem made_some {n : Nat} {M : Nat → Nat → Int} {D : Int} (h1 : lowD (matL n M) D ≤ 10000) (h2 : hgtL (lowR (matL n M) D).flatten ≤ 1000000) : madeV n M D = some (lowR (matL n M) D, lowD (matL n M) D) := if_pos ⟨h1, h2⟩

end Go.Proofs.Ytjabklpnohfjpab
