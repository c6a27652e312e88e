/-
  Contracts of the model's chapter 3: how many ways there are up to a prime.
-/
import Derived.Test.YtdidmblkknnglaaSym7
set_option linter.unusedVariables false
namespace Go.Proofs.Ytdidmblkknnglaa
open Go.RowKit


set_option maxRecDepth 100000 in
set_option maxHeartbeats 2000000 in
theorem symbolWaysS_any (a b p : Int) (w : World) : Calls Try.prog 40 #[.int .i64 a, .int .i64 b, .int .i64 p] w fun e w' => e = .returned (.int .i64 (swayV a b p)) ∧ w = w' := by
  rcases okAB_cases a b with ⟨a1, a2, a0, b1, b2, b0, O⟩ | O
  · clear a0 b0
    cases hp : primeI p with
    | false =>
      have HK := hid (swayV_no (show wayOk a b p = false by unfold wayOk; rw [hp, Bool.false_and, Bool.and_false]))
      go_enter Try.func40, Try.ntmps40
      go_wp2_with (first | (go_at_call 58; refine (l3Ok_any _ _ _).mono ?_; rintro e w' ⟨rfl, rfl⟩) | (go_at_call 75; refine (primeIsS_any _ _).mono ?_; rintro e w' ⟨rfl, rfl⟩))
      go_ret
      exact ⟨retI HK.out.symm, rfl⟩
    | true =>
      have hpb := primeI_bd hp
      obtain ⟨P, rfl⟩ := Int.eq_ofNat_of_zero_le (show 0 ≤ p by omega)
      by_cases hp31 : 31 < (P : Int)
      · have HK := hid (swayV_no (show wayOk a b (P : Int) = false by unfold wayOk; rw [decide_eq_false (by omega : ¬ (P : Int) ≤ 31), Bool.and_false, Bool.and_false]))
        go_enter Try.func40, Try.ntmps40
        go_wp2_with (first | (go_at_call 58; refine (l3Ok_any _ _ _).mono ?_; rintro e w' ⟨rfl, rfl⟩) | (go_at_call 75; refine (primeIsS_any _ _).mono ?_; rintro e w' ⟨rfl, rfl⟩))
        go_ret
        exact ⟨retI HK.out.symm, rfl⟩
      · have HO : Hid (swayV a b (P : Int) = ((cntX a b P P : Nat) : Int)) := hid (by
          unfold swayV wayOk
          rw [O, hp, decide_eq_true (by omega : (P : Int) ≤ 31)]
          rfl)
        have hP2 : 2 ≤ P := by omega
        have hP31 : P ≤ 31 := by omega
        have hPP := Nat.mul_le_mul hP31 hP31
        have HZL := hid (fun x y => cntZ_le a b P x y)
        have HYL : Hid (∀ x Y, Y ≤ P → cntY a b P x Y ≤ 961) := hid (fun x Y hY => Nat.le_trans (cntY_le a b P x Y) (Nat.le_trans (Nat.mul_le_mul_right P hY) hPP))
        have HXL : Hid (∀ X, X ≤ P → cntX a b P X ≤ 29791) := hid (fun X hX => Nat.le_trans (cntX_le a b P X) (Nat.mul_le_mul (show X ≤ 31 by omega) hPP))
        clear hPP
        go_enter Try.func40, Try.ntmps40
        go_wp2_with (first | (go_at_call 58; refine (l3Ok_any _ _ _).mono ?_; rintro e w' ⟨rfl, rfl⟩) | (go_at_call 75; refine (primeIsS_any _ _).mono ?_; rintro e w' ⟨rfl, rfl⟩))
        go_loopw [7, 8] (fun sn sx wr => ∃ X n : Nat, sx = .int .i64 X ∧ X ≤ P ∧ sn = .int .i64 n ∧ Hid (n = cntX a b P X) ∧ wr = w) (fun _ sx _ => P - (intOf sx).toNat)
        case atStart => exact ⟨0, 0, rfl, by omega, rfl, hid rfl, rfl⟩
        case round =>
          obtain ⟨X, n, rfl, hX, rfl, HNX, rfl⟩ := hrel
          rename World => w
          by_cases hx : X < P
          · have hX0 : (X : Int) < (P : Int) := by omega
            go_wp2_with fail
            go_loopw [7, 9] (fun sn sy wr => ∃ Y n : Nat, sy = .int .i64 Y ∧ Y ≤ P ∧ sn = .int .i64 n ∧ Hid (n = cntX a b P X + cntY a b P X Y) ∧ wr = w) (fun _ sy _ => P - (intOf sy).toNat)
            case atStart => exact ⟨0, n, rfl, by omega, rfl, hid (by rw [HNX.out]; rfl), rfl⟩
            case round =>
              obtain ⟨Y, n2, rfl, hY, rfl, HNY, rfl⟩ := hrel
              rename World => w
              by_cases hy : Y < P
              · have hY0 : (Y : Int) < (P : Int) := by omega
                go_wp2_with fail
                go_loopw [7, 10] (fun sn sz wr => ∃ Z n : Nat, sz = .int .i64 Z ∧ Z ≤ P ∧ sn = .int .i64 n ∧ Hid (n = cntX a b P X + cntY a b P X Y + cntZ a b P X Y Z) ∧ wr = w) (fun _ sz _ => P - (intOf sz).toNat)
                case atStart => exact ⟨0, n2, rfl, by omega, rfl, hid (by rw [HNY.out]; rfl), rfl⟩
                case round =>
                  obtain ⟨Z, n3, rfl, hZ, rfl, HNZ, rfl⟩ := hrel
                  rename World => w
                  by_cases hz : Z < P
                  · have hZ0 : (Z : Int) < (P : Int) := by omega
                    obtain ⟨p1, p2, p3, p4⟩ := tri_bd a1 a2 hX (show P ≤ 32 by omega)
                    obtain ⟨q1, q2, q3, q4⟩ := tri_bd b1 b2 hY (show P ≤ 32 by omega)
                    have hzz := mul_bd (show Z ≤ 32 by omega) (show Z ≤ 32 by omega)
                    have z1 := hzz.1
                    have z2 := hzz.2
                    have hn3 : n3 ≤ 31000 := by
                      have h1 := HXL.out X hX
                      have h2 := HYL.out X Y hY
                      have h3 := HZL.out X Y Z
                      have h4 := HNZ.out
                      omega
                    have HD : Hid (wayB a b P X Y Z = (decide (0 < X + Y + Z) && ((a * (X : Int) * (X : Int) + b * (Y : Int) * (Y : Int) - (Z : Int) * (Z : Int)) % (P : Int) == 0))) := rfl
                    have HST : Hid (cntZ a b P X Y (Z + 1) = cntZ a b P X Y Z + (if wayB a b P X Y Z then 1 else 0)) := rfl
                    clear hzz
                    by_cases hs : 0 < X + Y + Z
                    · have hsi : (0 : Int) < (X : Int) + (Y : Int) + (Z : Int) := by omega
                      cases hE : ((a * (X : Int) * (X : Int) + b * (Y : Int) * (Y : Int) - (Z : Int) * (Z : Int)) % (P : Int) == 0) with
                      | true =>
                        have HN2 : Hid (n3 + 1 = cntX a b P X + cntY a b P X Y + cntZ a b P X Y (Z + 1)) := hid (by rw [HST.out, HD.out, hE, decide_eq_true hs, HNZ.out]; rfl)
                        clear hs
                        go_wp2_with (go_at_call 77; refine (l1Mod_any _ _ (by omega) (by omega) (by omega) (by omega) _).mono ?_; rintro e w' ⟨rfl, rfl⟩)
                        go_round
                        case measure => simp only [intOf]; omega
                        case rel => exact ⟨Z + 1, n3 + 1, by go_num, by omega, by go_num, HN2, by first | rfl | trivial⟩
                      | false =>
                        have HN2 : Hid (n3 = cntX a b P X + cntY a b P X Y + cntZ a b P X Y (Z + 1)) := hid (by rw [HST.out, HD.out, hE, Bool.and_false, HNZ.out]; rfl)
                        clear hs
                        go_wp2_with (go_at_call 77; refine (l1Mod_any _ _ (by omega) (by omega) (by omega) (by omega) _).mono ?_; rintro e w' ⟨rfl, rfl⟩)
                        go_round
                        case measure => simp only [intOf]; omega
                        case rel => exact ⟨Z + 1, n3, by go_num, by omega, by go_num, HN2, by first | rfl | trivial⟩
                    · have hsi : ¬ ((0 : Int) < (X : Int) + (Y : Int) + (Z : Int)) := by omega
                      have HN2 : Hid (n3 = cntX a b P X + cntY a b P X Y + cntZ a b P X Y (Z + 1)) := hid (by rw [HST.out, HD.out, decide_eq_false hs, Bool.false_and, HNZ.out]; rfl)
                      clear hs
                      go_wp2_with (go_at_call 77; refine (l1Mod_any _ _ (by omega) (by omega) (by omega) (by omega) _).mono ?_; rintro e w' ⟨rfl, rfl⟩)
                      go_round
                      case measure => simp only [intOf]; omega
                      case rel => exact ⟨Z + 1, n3, by go_num, by omega, by go_num, HN2, by first | rfl | trivial⟩
                  · obtain rfl : Z = P := by omega
                    have HN2 : Hid (n3 = cntX a b Z X + cntY a b Z X (Y + 1)) := hid (by rw [HNZ.out]; show _ = _ + (cntY a b Z X Y + cntZ a b Z X Y Z); omega)
                    clear hz
                    go_wp2_with fail
                    go_round
                    case measure => simp only [intOf]; omega
                    case rel => exact ⟨Y + 1, n3, by go_num, by omega, by go_num, HN2, by first | rfl | trivial⟩
              · obtain rfl : Y = P := by omega
                have HN2 : Hid (n2 = cntX a b Y (X + 1)) := hid (by rw [HNY.out]; rfl)
                clear hy
                go_wp2_with fail
                go_round
                case measure => simp only [intOf]; omega
                case rel => exact ⟨X + 1, n2, by go_num, by omega, by go_num, HN2, by first | rfl | trivial⟩
          · obtain rfl : X = P := by omega
            have HF : Hid (swayV a b (X : Int) = (n : Int)) := hid (by rw [HO.out, HNX.out])
            clear hx
            go_wp2_with fail
            go_ret
            exact ⟨retI HF.out.symm, rfl⟩
  · have HK := hid (swayV_no (p := p) (show wayOk a b p = false by unfold wayOk; rw [O, Bool.false_and]))
    go_enter Try.func40, Try.ntmps40
    go_wp2_with (first | (go_at_call 58; refine (l3Ok_any _ _ _).mono ?_; rintro e w' ⟨rfl, rfl⟩) | (go_at_call 75; refine (primeIsS_any _ _).mono ?_; rintro e w' ⟨rfl, rfl⟩))
    go_ret
    exact ⟨retI HK.out.symm, rfl⟩

end Go.Proofs.Ytdidmblkknnglaa
