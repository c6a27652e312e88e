/-
  Contracts of chapter 1's program: divisors and inverses by Euclid; the model's cores and residues.
-/
import Derived.Test.YtehjiejijlboeaaArith2
import Derived.BigQuiet
set_option linter.unusedVariables false
namespace Go.Proofs.Ytehjiejijlboeaa
open Go.RowKit

set_option maxHeartbeats 400000 in
theorem gcd_any (a b : Int) (w : World) : Calls Try.prog 19 #[.int .i64 a, .int .i64 b] w fun e w' => e = .returned (.int .i64 (gcdV a b)) ∧ ∃ k, w' = w.drewN k := by
  rcases okN_cases a with ⟨a1, a2, A⟩ | ⟨a1, A⟩ | ⟨a1, a2, A⟩
  · rcases okN_cases b with ⟨c1, c2, C⟩ | ⟨c1, C⟩ | ⟨c1, c2, C⟩
    · have P := hid (gcdV_yes (a := a) (b := b) (by simp [A, C]))
      go_enter Try.func19, Try.ntmps19
      go_wp2_with (first | (go_at_call 56; refine (valid_any _ _).mono ?_; rintro e w' ⟨rfl, rfl⟩) | (go_at_call 59; refine (size_any _ (by omega) (by omega) _).mono ?_; rintro e w' ⟨rfl, rfl⟩))
      go_loopw [5, 6] (fun x y wr => ∃ (X Y k : Nat), x = .int .i64 X ∧ y = .int .i64 Y ∧ X ≤ 1000000 ∧ Y ≤ 1000000 ∧ Hid (Nat.gcd X Y = Nat.gcd a.natAbs b.natAbs) ∧ wr = w.drewN k) (fun _ y _ => (intOf y).toNat)
      case atStart => exact ⟨_, _, 0, rfl, rfl, by omega, by omega, hid rfl, rfl⟩
      case round =>
        obtain ⟨X, Y, k, rfl, rfl, hX, hY, HV, rfl⟩ := hrel
        by_cases h0 : Y = 0
        · subst h0
          go_wp2
          go_ret
          exact ⟨retI (by rw [P.out, ← HV.out, Nat.gcd_zero_right]), k, rfl⟩
        · have T : ((Y : Int) != 0) = true := by rw [bne_iff_ne]; omega
          have hlt := Nat.mod_lt X (show Y > 0 by omega)
          go_wp2
          go_quiet (fail)
          go_wp2
          go_roundw
          case rel => exact ⟨Y, X % Y, _, rfl, vI (by push_cast; rfl), hY, by omega, hid (by rw [← HV.out, Nat.gcd_comm X Y, Nat.gcd_rec Y X, Nat.gcd_comm]), World.drewN_drewN ..⟩
          case measure => simp only [intOf]; omega
    all_goals
      have P := hid (gcdV_no (a := a) (b := b) (by simp [C]))
      go_enter Try.func19, Try.ntmps19
      go_wp2_with (first | (go_at_call 56; refine (valid_any _ _).mono ?_; rintro e w' ⟨rfl, rfl⟩))
      go_ret
      exact ⟨retI P.out.symm, 0, rfl⟩
  all_goals
    have P := hid (gcdV_no (a := a) (b := b) (by simp [A]))
    go_enter Try.func19, Try.ntmps19
    go_wp2_with (first | (go_at_call 56; refine (valid_any _ _).mono ?_; rintro e w' ⟨rfl, rfl⟩))
    go_ret
    exact ⟨retI P.out.symm, 0, rfl⟩

theorem dvd_step {N x y a b q M : Int} (h1 : M ∣ N * x - a) (h2 : M ∣ N * y - b) : M ∣ N * (x - q * y) - (a - q * b) := by
  have : N * (x - q * y) - (a - q * b) = (N * x - a) - q * (N * y - b) := by
    simp only [Int.mul_sub, Int.mul_left_comm N q]
    omega
  rw [this]
  exact Int.dvd_sub h1 (Int.dvd_mul_of_dvd_right h2)
theorem inv_end {B M : Nat} {n x : Int} (hM : 2 ≤ M) (hB : n % M = B) (h : (M : Int) ∣ n * x - 1) : invF B M = some (x % M).toNat := by
  have h0 := Int.emod_nonneg x (show (M : Int) ≠ 0 by omega)
  have h1 := Int.emod_lt_of_pos x (show (0 : Int) < M by omega)
  refine invF_of (by omega) ?_
  have e : ((B * (x % M).toNat % M : Nat) : Int) = 1 := by
    push_cast
    rw [Int.toNat_of_nonneg h0, ← hB, ← Int.mul_emod]
    rw [Int.emod_eq_emod_iff_emod_sub_eq_zero.2 (Int.emod_eq_zero_of_dvd h)]
    exact Int.emod_eq_of_lt (by omega) (by omega)
  exact_mod_cast e
theorem dvd_start {n M B : Int} (hB : n % M = B) : M ∣ n * 1 - B := by
  rw [Int.mul_one, ← hB]
  exact Int.dvd_self_sub_emod
theorem nat_q {a b X Y M : Nat} (hb : 0 < b) (h : X * b + Y * a = M) : Y * (a % b) + (X + a / b * Y) * b = M := by
  have := Nat.div_add_mod a b
  calc Y * (a % b) + (X + a / b * Y) * b = X * b + Y * (b * (a / b) + a % b) := by
        rw [Nat.add_mul, Nat.mul_add, Nat.mul_right_comm, Nat.mul_comm b (a / b), Nat.mul_comm Y (a / b * b)]
        rw [Nat.mul_right_comm (a / b) b Y]
        omega
    _ = M := by rw [this, h]

set_option maxHeartbeats 1000000 in
theorem inverseMod_any (n m : Int) (w : World) : Calls Try.prog 39 #[.int .i64 n, .int .i64 m] w fun en w' => en = .returned (invV n m) ∧ w = w' := by
  rcases okN_cases n with ⟨a1, a2, A⟩ | ⟨a1, A⟩ | ⟨a1, a2, A⟩
  · rcases inR_cases m 2 5000 with ⟨c1, c2, C⟩ | ⟨c1, C⟩ | ⟨c1, c2, C⟩
    · have P := hid (invV_yes (n := n) (m := m) (by simp [A, C]))
      have C1 : inR m 1 5000 = true := by unfold inR; simp; omega
      have T1 : (m == 1) = false := by rw [beq_eq_false_iff_ne]; omega
      obtain ⟨M, rfl⟩ := Int.eq_ofNat_of_zero_le (show 0 ≤ m by omega)
      obtain ⟨B, hB⟩ := Int.eq_ofNat_of_zero_le (Int.emod_nonneg n (show (M : Int) ≠ 0 by omega))
      have hBm : B < M := by have := Int.emod_lt_of_pos n (show (0 : Int) < M by omega); omega
      have HB := hid hB
      rw [hB] at P
      simp only [Int.toNat_natCast] at P
      clear hB C
      go_enter Try.func39, Try.ntmps39
      go_wp2_with (first | (go_at_call 56; refine (valid_any _ _).mono ?_; rintro e w' ⟨rfl, rfl⟩) | (go_at_call 57; refine (modulusValid_any _ _).mono ?_; rintro e w' ⟨rfl, rfl⟩) | (go_at_call 70; refine (rest_any _ _ (by omega) (by omega) (by omega) (by omega) _).mono ?_; rw [HB.out]; rintro e w' ⟨rfl, rfl⟩))
      go_loop [6, 7, 8, 9] (fun sa sx sb sy => ∃ (a b X Y : Nat) (x y : Int), sa = .int .i64 a ∧ sx = .int .i64 x ∧ sb = .int .i64 b ∧ sy = .int .i64 y ∧ 1 ≤ a ∧ a ≤ M ∧ b ≤ M ∧ X ≤ M ∧ Y ≤ M ∧ -X ≤ x ∧ x ≤ X ∧ -Y ≤ y ∧ y ≤ Y ∧ Hid (X * b + Y * a = M ∧ Nat.gcd a b = Nat.gcd B M ∧ (M : Int) ∣ n * x - a ∧ (M : Int) ∣ n * y - b)) (fun _ _ b _ => (intOf b).toNat)
      case atStart => exact ⟨M, B, 0, 1, 0, 1, rfl, rfl, rfl, rfl, by omega, by omega, by omega, by omega, by omega, by omega, by omega, by omega, by omega, hid ⟨by simp, Nat.gcd_comm _ _, by simp, dvd_start HB.out⟩⟩
      case round =>
        obtain ⟨a, b, X, Y, x, y, rfl, rfl, rfl, rfl, ha1, ha, hb, hX, hY, hx1, hx2, hy1, hy2, HV⟩ := hrel
        by_cases h0 : b = 0
        · subst h0
          have hg : Nat.gcd B M = a := by rw [← HV.out.2.1, Nat.gcd_zero_right]
          by_cases h1 : a = 1
          · subst h1
            have HE := hid (inv_end (B := B) (M := M) (n := n) (x := x) (by omega) HB.out HV.out.2.2.1)
            have h6 := Int.emod_nonneg x (show (M : Int) ≠ 0 by omega)
            have HX := hid (Int.toNat_of_nonneg h6)
            clear hg
            go_wp2_with (first | (go_at_call 70; refine (rest_any _ _ (by omega) (by omega) (by omega) (by omega) _).mono ?_; rintro e w' ⟨rfl, rfl⟩))
            go_ret2
            exact ⟨retV (by rw [P.out, HE.out]; show _ = Value.tuple #[.int .i64 ((x % M).toNat : Nat), .bool true]; rw [HX.out]; rfl), rfl⟩
          · have T : ((a : Int) != 1) = true := by rw [bne_iff_ne]; omega
            have HE := hid (invF_none (r := B) (m := M) (by omega))
            clear hg h1
            go_wp2
            go_ret2
            exact ⟨retV (by rw [P.out, HE.out]; rfl), rfl⟩
        · have T : ((b : Int) != 0) = true := by rw [bne_iff_ne]; omega
          have hlt := Nat.mod_lt a (show b > 0 by omega)
          have hI := nat_q (by omega) HV.out.1
          have hml := Nat.mod_le a b
          have hdd := ediv_bd (b := b) (show a ≤ 5000 by omega)
          have hd0 := hdd.1
          have hd1 := hdd.2
          clear hdd
          have hY' : X + a / b * Y ≤ M := by
            have : (X + a / b * Y) * 1 ≤ (X + a / b * Y) * b := Nat.mul_le_mul (Nat.le_refl _) (by omega)
            omega
          have hqb : ((a : Int) / b * b) = (a : Int) - (a % b : Nat) := by
            have := Int.mul_ediv_add_emod (a : Int) b
            have e2 : ((a % b : Nat) : Int) = (a : Int) % b := by push_cast; rfl
            rw [e2, Int.mul_comm]; omega
          have hq0 : 0 ≤ (a : Int) / b * b := by omega
          have hq1 : (a : Int) / b * b ≤ 5000 := by omega
          have hmod : (a : Int) - (a : Int) / b * b = (a % b : Nat) := by omega
          have hqy : -((a / b * Y : Nat) : Int) ≤ (a : Int) / b * y ∧ (a : Int) / b * y ≤ ((a / b * Y : Nat) : Int) := by
            push_cast
            have hq : (0 : Int) ≤ (a : Int) / b := by exact_mod_cast Nat.zero_le (a / b)
            constructor
            · have := Int.mul_le_mul_of_nonneg_left hy1 hq
              rw [Int.mul_neg] at this; exact this
            · exact Int.mul_le_mul_of_nonneg_left hy2 hq
          have hq2 := hqy.1
          have hq3 := hqy.2
          have HM := hid hmod
          have HN := hid hI
          have hZ : ∃ Z, Z = a / b * Y := ⟨_, rfl⟩
          obtain ⟨Z, hZ⟩ := hZ
          rw [← hZ] at hq2 hq3 hY'
          have HZ := hid hZ
          clear hqb hmod hI hqy h0 hZ
          go_wp2
          go_round
          case rel => exact ⟨b, a % b, Y, X + Z, y, x - (a : Int) / b * y, rfl, rfl, vI HM.out, rfl, by omega, hb, by omega, hY, hY', hy1, hy2, by push_cast; omega, by push_cast; omega, hid ⟨by rw [HZ.out]; exact HN.out, by rw [← HV.out.2.1, Nat.gcd_comm a b, Nat.gcd_rec b a, Nat.gcd_comm], HV.out.2.2.2, by rw [← HM.out]; exact dvd_step HV.out.2.2.1 HV.out.2.2.2⟩⟩
          case measure => simp only [intOf]; rw [HM.out]; omega
    · have P := hid (invV_no (n := n) (m := m) (by simp [C]))
      by_cases h1 : m = 1
      · subst h1
        go_enter Try.func39, Try.ntmps39
        go_wp2_with (first | (go_at_call 56; refine (valid_any _ _).mono ?_; rintro e w' ⟨rfl, rfl⟩))
        go_ret2
        exact ⟨retV (by rw [P.out]; rfl), rfl⟩
      · have C1 : inR m 1 5000 = false := by unfold inR; simp; omega
        have T1 : (m == 1) = false := by rw [beq_eq_false_iff_ne]; omega
        go_enter Try.func39, Try.ntmps39
        go_wp2_with (first | (go_at_call 56; refine (valid_any _ _).mono ?_; rintro e w' ⟨rfl, rfl⟩) | (go_at_call 57; refine (modulusValid_any _ _).mono ?_; rintro e w' ⟨rfl, rfl⟩))
        go_ret2
        exact ⟨retV (by rw [P.out]; rfl), rfl⟩
    · have P := hid (invV_no (n := n) (m := m) (by simp [C]))
      have C1 : inR m 1 5000 = false := by unfold inR; simp; omega
      have T1 : (m == 1) = false := by rw [beq_eq_false_iff_ne]; omega
      go_enter Try.func39, Try.ntmps39
      go_wp2_with (first | (go_at_call 56; refine (valid_any _ _).mono ?_; rintro e w' ⟨rfl, rfl⟩) | (go_at_call 57; refine (modulusValid_any _ _).mono ?_; rintro e w' ⟨rfl, rfl⟩))
      go_ret2
      exact ⟨retV (by rw [P.out]; rfl), rfl⟩
  all_goals
    have P := hid (invV_no (n := n) (m := m) (by simp [A]))
    go_enter Try.func39, Try.ntmps39
    go_wp2_with (first | (go_at_call 56; refine (valid_any _ _).mono ?_; rintro e w' ⟨rfl, rfl⟩))
    go_ret2
    exact ⟨retV (by rw [P.out]; rfl), rfl⟩

end Go.Proofs.Ytehjiejijlboeaa
