/-
  A region that draws its order and holds calls: each value is known ahead, memory grows alone, one store at the end.
-/
import Derived.Test.YtacjejnbomdhbabQBun20
set_option linter.unusedVariables false
namespace Go.Proofs.Ytacjejnbomdhbab
open Go.RowKit

theorem dn_self2 {L : Array Bool} {i : Nat} (h : L[i]? = some false) : dn (L.setIfInBounds i true) i := by
  unfold dn
  have hl : i < L.size := by
    rcases Nat.lt_or_ge i L.size with hl | hl
    · exact hl
    · rw [Array.getElem?_eq_none hl] at h; cases h
  rw [Array.getElem?_setIfInBounds_self_of_lt hl]
structure RegI (n : Nat) (deps : List (List Nat)) (W : World) (fin : World → World) (vs : List Value) (L : Array Bool) (wx : World) (ss : List Value) : Prop where
  hs : L.size = n
  hl : ss.length = n
  hb : ¬ dn L (n - 1) → Below W.heap.size W wx
  he : dn L (n - 1) → ∃ wy, Below W.heap.size W wy ∧ wx = fin wy
  hv : ∀ k, dn L k → ss.getD k undef = vs.getD k undef
  cl : ∀ k, dn L k → ∀ j ∈ deps.getD k [], dn L j
/-- each operation is wanted by a later one -/
def usedB (n : Nat) (deps : List (List Nat)) : Bool := (List.range (n - 1)).all fun k => (List.range n).any fun k' => decide (k < k') && (deps.getD k' []).contains k
theorem RegI.all {n : Nat} {deps : List (List Nat)} {W : World} {fin : World → World} {vs ss : List Value} {L : Array Bool} {wx : World} (I : RegI n deps W fin vs L wx ss) (hu : usedB n deps = true) (h : dn L (n - 1)) : ∀ d k, n - 1 - d ≤ k → k < n → dn L k
  | 0, k, h1, h2 => by
    have e : k = n - 1 := by omega
    rw [e]; exact h
  | d + 1, k, h1, h2 => by
    by_cases hk : k = n - 1
    · subst hk; exact h
    · unfold usedB at hu
      have := List.all_eq_true.1 hu k (List.mem_range.2 (by omega))
      obtain ⟨k', hk', h3⟩ := List.any_eq_true.1 this
      rw [Bool.and_eq_true, decide_eq_true_eq] at h3
      have hkn := List.mem_range.1 hk'
      exact I.cl k' (I.all hu h d k' (by omega) hkn) k (by simpa using h3.2)
theorem RegI.open {n : Nat} {deps : List (List Nat)} {W : World} {fin : World → World} {vs ss : List Value} {L : Array Bool} {wx : World} {i : Nat} (I : RegI n deps W fin vs L wx ss) (hu : usedB n deps = true) (hf : L[i]? = some false) (hi : i < n) : Below W.heap.size W wx :=
  I.hb fun h => dn_not hf (I.all hu h n i (by omega) hi)
theorem RegI.val {n : Nat} {deps : List (List Nat)} {W : World} {fin : World → World} {vs ss : List Value} {L : Array Bool} {wx : World} (I : RegI n deps W fin vs L wx ss) (k : Nat) (h : dn L k) : ss.getD k undef = vs.getD k undef := I.hv k h
theorem getD_set_ne {l : List Value} {i k : Nat} {v : Value} (h : k ≠ i) : (l.set i v).getD k undef = l.getD k undef := by
  rw [List.getD_eq_getElem?_getD, List.getD_eq_getElem?_getD, List.getElem?_set_ne (by omega)]
theorem getD_set_self {l : List Value} {i : Nat} {v : Value} (h : i < l.length) : (l.set i v).getD i undef = v := by
  rw [List.getD_eq_getElem?_getD, List.getElem?_set_self h]; rfl
theorem RegI.step {n : Nat} {deps : List (List Nat)} {W : World} {fin : World → World} {vs ss ss' : List Value} {L : Array Bool} {wx wx' : World} {i : Nat} (I : RegI n deps W fin vs L wx ss) (hf : L[i]? = some false) (hi : i < n - 1) (hd : ∀ j ∈ deps.getD i [], dn L j) (hb : Below W.heap.size W wx') (hss : ss' = ss.set i (vs.getD i undef)) (hu : usedB n deps = true) : RegI n deps W fin vs (L.setIfInBounds i true) wx' ss' := by
  subst hss
  refine ⟨by rw [Array.size_setIfInBounds]; exact I.hs, by rw [List.length_set]; exact I.hl, fun _ => hb, fun h => ?_, fun k hk => ?_, fun k hk j hj => ?_⟩
  · have h2 := dn_old h (by omega)
    exact (dn_not hf (I.all hu h2 n i (by omega) (by omega))).elim
  · by_cases e : k = i
    · subst e; exact getD_set_self (by have := I.hl; omega)
    · rw [getD_set_ne e]; exact I.hv k (dn_old hk e)
  · by_cases e : k = i
    · subst e; exact dn_keep (hd j hj)
    · exact dn_keep (I.cl k (dn_old hk e) j hj)
theorem RegI.last {n : Nat} {deps : List (List Nat)} {W : World} {fin : World → World} {vs ss ss' : List Value} {L : Array Bool} {wx wx' : World} {i : Nat} (I : RegI n deps W fin vs L wx ss) (hf : L[i]? = some false) (hi : i = n - 1) (hn : 0 < n) (hd : ∀ j ∈ deps.getD i [], dn L j) (hb : Below W.heap.size W wx) (hw : wx' = fin wx) (hss : ss' = ss.set i (vs.getD i undef)) : RegI n deps W fin vs (L.setIfInBounds i true) wx' ss' := by
  subst hss
  refine ⟨by rw [Array.size_setIfInBounds]; exact I.hs, by rw [List.length_set]; exact I.hl, fun h => ?_, fun h => ⟨wx, hb, hw⟩, fun k hk => ?_, fun k hk j hj => ?_⟩
  · rw [← hi] at h
    exact absurd (dn_self2 hf) h
  · by_cases e : k = i
    · subst e; exact getD_set_self (by have := I.hl; omega)
    · rw [getD_set_ne e]; exact I.hv k (dn_old hk e)
  · by_cases e : k = i
    · subst e; exact dn_keep (hd j hj)
    · exact dn_keep (I.cl k (dn_old hk e) j hj)
theorem RegI.start {n m : Nat} {deps : List (List Nat)} {W wx : World} {fin : World → World} {vs ss : List Value} (hl : ss.length = n) (hm : m = n) (hw : wx = W) : RegI n deps W fin vs (Array.replicate m false) wx ss := by
  subst hm
  subst hw
  have hno : ∀ k, ¬ dn (Array.replicate m false) k := fun k h => by
    unfold dn at h
    rw [Array.getElem?_replicate] at h
    split at h <;> cases h
  exact ⟨by simp, hl, fun _ => Below.refl _ _, fun h => (hno _ h).elim, fun k h => (hno k h).elim, fun k h => (hno k h).elim⟩

end Go.Proofs.Ytacjejnbomdhbab
