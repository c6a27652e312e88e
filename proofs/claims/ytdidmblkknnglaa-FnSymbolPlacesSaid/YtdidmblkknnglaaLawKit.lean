/-
  The laws' own small helpers.
-/
import Derived.Test.YtdidmblkknnglaaSame
set_option linter.unusedVariables false
namespace Go.Proofs.Ytdidmblkknnglaa
open Go.RowKit

theorem sizeOf_any (n : Int) (h1 : -1000000000000000 ≤ n) (h2 : n ≤ 1000000000000000) (w : World) : Calls Try.prog 21 #[.int .i64 n] w fun e w' => e = .returned (.int .i64 (n.natAbs : Nat)) ∧ w = w' := by
  by_cases h : n < 0
  · have hm : max n (-n) = ((n.natAbs : Nat) : Int) := by omega
    have hm2 : max n (0 - n) = ((n.natAbs : Nat) : Int) := by omega
    go_enter Try.func21, Try.ntmps21
    go_wp2
    go_ret
    exact ⟨retI (by omega), rfl⟩
  · go_enter Try.func21, Try.ntmps21
    go_wp2
    go_ret
    exact ⟨retI (by omega), rfl⟩

theorem mem_take_last {xs : List Int} {K : Nat} (h : K < xs.length) {n : Int} (h1 : ∀ j, j < K → xs.getD j 0 ≠ n) (h2 : xs.getD K 0 ≠ n) : ∀ j, j < K + 1 → xs.getD j 0 ≠ n := fun j hj => by
  by_cases e : j = K
  · rw [e]; exact h2
  · exact h1 j (by omega)
set_option maxHeartbeats 1000000 in
theorem hasInt_any (v : Value) (xs : List Int) (n : Int) (w : World) (hx : Rd w v xs) :
    Calls Try.prog 52 #[v, .int .i64 n] w fun e w' => e = .returned (.bool (decide (n ∈ xs))) ∧ w = w' := by
  rcases hx with ⟨a, cap, rfl, rfl⟩ | ⟨b, o, cap, rfl, hp, hm, hc⟩
  · go_enter Try.func52, Try.ntmps52
    go_wp2
    go_loop [5] (fun i => i = .int .i64 0) (fun _ => 0)
    case atStart => rfl
    case round =>
      obtain rfl := hrel
      go_wp2
      go_ret
      exact ⟨retB (by simp), rfl⟩
  · have HC := hid hc
    unfold maxLen at hm
    clear hc
    go_enter Try.func52, Try.ntmps52
    go_wp2
    go_loop [5] (fun i => ∃ K : Nat, i = .int .i64 K ∧ K ≤ xs.length ∧ Hid (∀ j, j < K → xs.getD j 0 ≠ n)) (fun i => xs.length - (intOf i).toNat)
    case atStart => exact ⟨0, rfl, by omega, hid (fun j hj => absurd hj (by omega))⟩
    case round =>
      obtain ⟨K, rfl, hK, HN⟩ := hrel
      by_cases hlt : K < xs.length
      · obtain ⟨x, hx⟩ : ∃ x, x = xs.getD K 0 := ⟨_, rfl⟩
        have c1 := HC.out K hlt
        rw [← hx] at c1
        have hi : (K : Int) < (xs.length : Int) := by omega
        have HX := hid hx
        clear hx
        by_cases e : x = n
        · have T : (x == n) = true := by rw [beq_iff_eq]; exact e
          have HM : Hid (decide (n ∈ xs) = true) := hid (decide_eq_true (by
            rw [← e, HX.out]
            simp only [List.getD, List.getElem?_eq_getElem hlt, Option.getD_some]
            exact List.getElem_mem _))
          clear e
          go_wp2
          go_ret
          exact ⟨retB HM.out.symm, rfl⟩
        · have T : (x == n) = false := by rw [beq_eq_false_iff_ne]; exact e
          have HE := hid e
          clear e
          go_wp2
          go_round
          case measure => simp only [intOf]; omega
          case rel => exact ⟨K + 1, by go_num, by omega, hid (mem_take_last hlt HN.out (by rw [← HX.out]; exact HE.out))⟩
      · obtain rfl : K = xs.length := by omega
        have HM : Hid (decide (n ∈ xs) = false) := hid (decide_eq_false (fun hmem => by
          obtain ⟨j, hj, e⟩ := List.getElem_of_mem hmem
          have := HN.out j hj
          simp only [List.getD, List.getElem?_eq_getElem hj, Option.getD_some] at this
          exact this e))
        clear hlt
        go_wp2
        go_ret
        exact ⟨retB HM.out.symm, rfl⟩

end Go.Proofs.Ytdidmblkknnglaa
