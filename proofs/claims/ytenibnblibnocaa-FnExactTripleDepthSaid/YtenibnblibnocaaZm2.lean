/-
  Contracts of the model's chapter 5: which prime divides two of three terms; roots; the search.
-/
import Derived.Test.YtenibnblibnocaaZm1
import Derived.Test.YtenibnblibnocaaVals6
import Derived.Test.YtenibnblibnocaaOwn2
set_option linter.unusedVariables false
namespace Go.Proofs.Ytenibnblibnocaa
open Go.RowKit

theorem wrap5 : IntKind.i64.wrap 0 = 0 ∧ IntKind.i64.wrap 1 = 1 ∧ IntKind.i64.wrap 2 = 2 ∧ IntKind.i64.wrap 3 = 3 ∧ IntKind.i64.wrap 4 = 4 := by decide
/-- the cells of a list of three -/
theorem rd_three {w : World} {v : Value} {a b c : Int} (h : Rd w v [a, b, c]) : ∃ g o cap, v = .slice (some ⟨g, o, none⟩) 3 cap ∧ w.cell? ⟨g, o, none⟩ = some (.int .i64 a) ∧ w.cell? ⟨g, o + 1, none⟩ = some (.int .i64 b) ∧ w.cell? ⟨g, o + 2, none⟩ = some (.int .i64 c) := by
  obtain ⟨ad, cap, rfl, hform⟩ := h.form
  obtain ⟨g, o, rfl, _, hc⟩ := hform (by simp)
  exact ⟨g, o, cap, rfl, hc 0 (by simp), hc 1 (by simp), hc 2 (by simp)⟩

set_option maxRecDepth 100000 in
set_option maxHeartbeats 1000000 in
theorem l5Root_any (n : Int) (n0 : 0 ≤ n) (n1 : n ≤ 1000000000000) (w : World) : Calls Try.prog 84 #[.int .i64 n] w fun e w' => ((∃ z : Nat, rootO n = some z ∧ z ≤ 1048576 ∧ e = .returned (.int .i64 z)) ∨ (rootO n = none ∧ e = .returned (.int .i64 (-1)))) ∧ w = w' := by
  go_enter Try.func84, Try.ntmps84
  go_wp2
  go_loop [3, 4] (fun sl sh => ∃ L H : Nat, sl = .int .i64 L ∧ sh = .int .i64 H ∧ L ≤ H ∧ H ≤ 1048576 ∧ Hid (∀ r : Nat, r < L → (r : Int) * r < n) ∧ Hid (n ≤ (H : Int) * H)) (fun sl sh => (intOf sh - intOf sl).toNat)
  case atStart => exact ⟨0, 1048576, rfl, rfl, by omega, by omega, hid (fun r hr => by omega), hid (by omega)⟩
  case round =>
    obtain ⟨L, H, rfl, rfl, hLH, hH, HL, HH⟩ := hrel
    by_cases hlt : L < H
    · have hi : (L : Int) < (H : Int) := by omega
      obtain ⟨M, hM⟩ : ∃ M, M = (L + H) / 2 := ⟨_, rfl⟩
      have eM : ((L : Int) + (H : Int)) / 2 = (M : Int) := by omega
      have eM2 : ((L : Int) + (H : Int)).tdiv 2 = (M : Int) := by rw [Int.tdiv_eq_ediv_of_nonneg (by omega)]; exact eM
      have hM1 : L ≤ M := by omega
      have hM2 : M < H := by omega
      have hMM := mul_bd (show M ≤ 1048576 by omega) (show M ≤ 1048576 by omega)
      clear hM
      by_cases hm : (M : Int) * M < n
      · have HM := hid hm
        go_wp2
        go_round
        case measure => simp only [intOf]; omega
        case rel => exact ⟨M + 1, H, by go_num, rfl, by omega, hH, hid (fun r hr => by
          have := sq_mono (show r ≤ M by omega)
          have := HM.out
          omega), HH⟩
      · have HM := hid hm
        go_wp2
        go_round
        case measure => simp only [intOf]; omega
        case rel => exact ⟨L, M, rfl, rfl, hM1, by omega, HL, hid (by have := HM.out; omega)⟩
    · obtain rfl : L = H := by omega
      have hMM := mul_bd (show L ≤ 1048576 by omega) (show L ≤ 1048576 by omega)
      by_cases he : (L : Int) * L = n
      · have T : ((L : Int) * L == n) = true := by rw [beq_iff_eq]; exact he
        have HR := hid (rootO_of he)
        clear he
        go_wp2
        go_ret
        exact ⟨.inl ⟨L, HR.out, hH, rfl⟩, rfl⟩
      · have T : ((L : Int) * L == n) = false := by rw [beq_eq_false_iff_ne]; exact he
        have HR : Hid (rootO n = none) := hid (rootO_none fun z hz => by
          rcases Nat.lt_trichotomy z L with h | h | h
          · have := HL.out z h; omega
          · subst h; exact he hz
          · have h2 := sq_mono (Nat.le_of_lt h)
            have := HH.out
            omega)
        clear he
        go_wp2
        go_ret
        exact ⟨.inr ⟨HR.out, rfl⟩, rfl⟩

end Go.Proofs.Ytenibnblibnocaa
