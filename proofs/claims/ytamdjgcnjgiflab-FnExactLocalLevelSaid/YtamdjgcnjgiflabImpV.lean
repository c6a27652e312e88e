/-
  Contracts of the program's chapter 2: the level of a place.
-/
import Derived.Test.YtamdjgcnjgiflabImpC
import Derived.Test.YtamdjgcnjgiflabLevel
set_option linter.unusedVariables false
namespace Go.Proofs.Ytamdjgcnjgiflab
open Go.RowKit

theorem cls_minus {P : Nat} (hP : primeN P = true) (h3 : 3 ≤ P) : cls (-1) (P : Int) = (0, resN (P - 1) P) := by
  have hd : ¬ P ∣ (-1 : Int).natAbs := by rw [show (-1 : Int).natAbs = 1 from rfl, Nat.dvd_one]; omega
  obtain ⟨a, b⟩ := unit_self hP hd (by decide)
  have e : (-1 : Int) % (P : Int) = ((P - 1 : Nat) : Int) := by
    rw [← Int.add_mul_emod_self_left (-1) (P : Int) 1, Int.emod_eq_of_lt (by omega) (by omega)]
    omega
  rw [cls_odd h3, a, b, e, Int.toNat_natCast]
theorem sq_minus {P : Nat} (hP : primeN P = true) (h3 : 3 ≤ P) : sqAt (-1) (P : Int) = decide (P % 4 = 1) := by
  have hodd : P % 2 = 1 := by
    have := primeN_no hP (Nat.le_refl 2)
    by_cases h : P % 2 = 0
    · exact absurd h (this (by omega))
    · omega
  unfold sqAt
  rw [cls_minus hP h3]
  by_cases h4 : P % 4 = 1
  · obtain ⟨x, hx, e⟩ := level_one hP h3 h4
    have h1 := resN_mul hP h3 x x
    rw [e, Nat.mod_eq_of_lt hx] at h1
    have hu : ¬ P ∣ x := by
      intro hd
      have := Nat.mod_eq_zero_of_dvd (Nat.dvd_mul_right_of_dvd hd x)
      omega
    rw [decide_eq_true h4, h1]
    rcases res_unit hP h3 hu with h | h <;> rw [h] <;> rfl
  · rw [decide_eq_false h4, res_minus h3 (by omega)]
    rfl

theorem localLevel_any (q : Int) (w : World) : Calls Try.prog 24 #[.int .i64 q] w fun e w' => e = .returned (.int .i64 (levV q)) ∧ Below w.heap.size w w' := by
  cases hq : plI q with
  | false =>
    have HV : Hid (levV q = -1) := hid (by unfold levV; rw [hq]; rfl)
    have h0 : q ≠ 0 := by rintro rfl; cases hq
    have T : (q == 0) = false := by rw [beq_eq_false_iff_ne]; exact h0
    have HQ := hid hq
    clear hq h0
    go_enter Try.func24, Try.ntmps24
    go_wp2_with (go_at_call 30; refine (plValid_any _ _).mono ?_; rw [HQ.out]; rintro e w1 ⟨rfl, hb1⟩)
    go_ret
    exact ⟨retI HV.out.symm, hb1⟩
  | true =>
    rcases plI_cases hq with rfl | rfl | ⟨P, rfl, hP, h3, h5⟩
    · have HV : Hid (levV 0 = -1) := rfl
      clear hq
      go_enter Try.func24, Try.ntmps24
      go_wp2
      go_ret
      exact ⟨retI HV.out.symm, Below.refl _ _⟩
    · have HV : Hid (levV 2 = 4) := hid (by decide +kernel)
      have HQ := hid hq
      clear hq
      go_enter Try.func24, Try.ntmps24
      go_wp2_with (go_at_call 30; refine (plValid_any _ _).mono ?_; rw [HQ.out]; rintro e w1 ⟨rfl, hb1⟩)
      go_ret
      exact ⟨retI HV.out.symm, hb1⟩
    · have T0 : ((P : Int) == 0) = false := by rw [beq_eq_false_iff_ne]; omega
      have T2 : ((P : Int) == 2) = false := by rw [beq_eq_false_iff_ne]; omega
      have HV : Hid (levV (P : Int) = if P % 4 = 1 then 1 else 2) := hid (by
        unfold levV
        rw [hq, if_pos (by simp; omega), if_neg (by omega)]
        by_cases h4 : P % 4 = 1
        · rw [if_pos h4, if_pos (by omega)]
        · rw [if_neg h4, if_neg (by omega)])
      have HS := hid (sq_minus hP h3)
      have HQ := hid hq
      by_cases h4 : P % 4 = 1
      · have HS2 : Hid (sqAt (-1) (P : Int) = true) := hid (by rw [HS.out, decide_eq_true h4])
        have HV2 : Hid (levV (P : Int) = 1) := hid (by rw [HV.out, if_pos h4])
        clear hq hP h4
        go_enter Try.func24, Try.ntmps24
        go_wp2_with (first | (go_at_call 30; refine (plValid_any _ _).mono ?_; rw [HQ.out]; rintro e w1 ⟨rfl, hb1⟩) | (go_at_call 34; refine (plSquare_any _ _ (by decide) (by omega) (by omega) HQ.out _).mono ?_; rw [HS2.out]; rintro e w2 ⟨rfl, hb2⟩))
        go_ret
        exact ⟨retI HV2.out.symm, hb1.trans (hb2.mono hb1.size)⟩
      · have HS2 : Hid (sqAt (-1) (P : Int) = false) := hid (by rw [HS.out, decide_eq_false h4])
        have HV2 : Hid (levV (P : Int) = 2) := hid (by rw [HV.out, if_neg h4])
        clear hq hP h4
        go_enter Try.func24, Try.ntmps24
        go_wp2_with (first | (go_at_call 30; refine (plValid_any _ _).mono ?_; rw [HQ.out]; rintro e w1 ⟨rfl, hb1⟩) | (go_at_call 34; refine (plSquare_any _ _ (by decide) (by omega) (by omega) HQ.out _).mono ?_; rw [HS2.out]; rintro e w2 ⟨rfl, hb2⟩))
        go_ret
        exact ⟨retI HV2.out.symm, hb1.trans (hb2.mono hb1.size)⟩

end Go.Proofs.Ytamdjgcnjgiflab
