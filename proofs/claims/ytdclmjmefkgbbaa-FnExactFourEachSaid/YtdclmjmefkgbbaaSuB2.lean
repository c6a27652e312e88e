/-
  Contracts of the model's chapter 8: ways of two and of four squares; what three squares make.
-/
import Derived.Test.YtdclmjmefkgbbaaSuB
set_option linter.unusedVariables false
namespace Go.Proofs.Ytdclmjmefkgbbaa
open Go.RowKit

theorem mod_cast8 (N D : Nat) : ((N : Int) % (D : Int)) = ((N % D : Nat) : Int) := (Int.natCast_emod N D).symm
theorem div_yes {N D : Nat} (h : N % D = 0) : ((N : Int) % (D : Int) == 0) = true := by rw [mod_cast8, h]; rfl
theorem div_no {N D : Nat} (h : ¬ N % D = 0) : ((N : Int) % (D : Int) == 0) = false := by rw [mod_cast8, beq_eq_false_iff_ne]; omega
theorem divS_at {g : Nat → Int} {n D : Nat} (h : 1 ≤ D) : divS g n D = divS g n (D - 1) + if n % D = 0 then g D else 0 := by
  obtain ⟨k, rfl⟩ : ∃ k, D = k + 1 := ⟨D - 1, by omega⟩
  rfl
theorem divS_yes {g : Nat → Int} {n D : Nat} (h : 1 ≤ D) (hd : n % D = 0) : divS g n D = divS g n (D - 1) + g D := by rw [divS_at h, if_pos hd]
theorem divS_no {g : Nat → Int} {n D : Nat} (h : 1 ≤ D) (hd : ¬ n % D = 0) : divS g n D = divS g n (D - 1) := by rw [divS_at h, if_neg hd, Int.add_zero]
theorem g2_one {D : Nat} (h : D % 4 = 1) : g2 D = 1 := by unfold g2; rw [if_pos h]
theorem g2_three {D : Nat} (h : D % 4 = 3) : g2 D = -1 := by unfold g2; rw [if_neg (by omega), if_pos h]
theorem g2_else {D : Nat} (h : ¬ D % 4 = 1) (h3 : ¬ D % 4 = 3) : g2 D = 0 := by unfold g2; rw [if_neg h, if_neg h3]
theorem g4_zero {D : Nat} (h : D % 4 = 0) : g4 D = 0 := by unfold g4; rw [if_pos h]
theorem g4_else {D : Nat} (h : ¬ D % 4 = 0) : g4 D = D := by unfold g4; rw [if_neg h]
theorem mod4_is {D k : Nat} (h : D % 4 = k) : ((D : Int) % 4 == (k : Int)) = true := by rw [beq_iff_eq]; omega
theorem mod4_not {D k : Nat} (h : ¬ D % 4 = k) : ((D : Int) % 4 == (k : Int)) = false := by rw [beq_eq_false_iff_ne]; omega
theorem twoMany_yes {N : Nat} (h : sum1 (N : Int) = true) : twoManyV (N : Int) = 4 * divS g2 N N := by unfold twoManyV; rw [if_pos h, Int.toNat_natCast]
theorem twoMany_no {n : Int} (h : sum1 n = false) : twoManyV n = -1 := by unfold twoManyV; rw [h]; rfl
theorem fourMany_yes {N : Nat} (h : sum1 (N : Int) = true) : fourManyV (N : Int) = 8 * divS g4 N N := by unfold fourManyV; rw [if_pos h, Int.toNat_natCast]
theorem fourMany_no {n : Int} (h : sum1 n = false) : fourManyV n = -1 := by unfold fourManyV; rw [h]; rfl
theorem twoEach_yes {n : Int} (h : sumB n = true) : twoEachV n = twoW n := by unfold twoEachV; rw [if_pos h]
theorem twoEach_no {n : Int} (h : sumB n = false) : twoEachV n = -1 := by unfold twoEachV; rw [h]; rfl
theorem div2_bd {N D : Nat} (h2 : N ≤ 2000) (hD : D ≤ 2001) : -8004 ≤ 4 * divS g2 N (D - 1) ∧ 4 * divS g2 N (D - 1) ≤ 8004 := by
  have := divS_bd (g := g2) (n := N) (m := 1) (by omega) (D - 1) (fun d _ => g2_bd d)
  omega
theorem div4_bd {N D : Nat} (h2 : N ≤ 2000) (hD : D ≤ 2001) : -4000000 ≤ divS g4 N (D - 1) ∧ divS g4 N (D - 1) ≤ 4000000 := by
  have := divS_bd (g := g4) (n := N) (m := 2000) (by omega) (D - 1) (fun d hd => by have := g4_bd d (by omega); omega)
  omega

set_option maxRecDepth 100000 in
set_option maxHeartbeats 2000000 in
theorem twoManyS_any (n : Int) (w : World) : Calls Try.prog 21 #[.int .i64 n] w fun e w' => e = .returned (.int .i64 (twoManyV n)) ∧ Below w.heap.size w w' := by
  have HS1 := hid (fun w : World => l8Sum_any n 1 w)
  cases H : sum1 n with
  | false =>
    rw [show inR n 1 2000 = false from H] at HS1
    have HF := hid (twoMany_no H)
    clear H
    go_enter Try.func21, Try.ntmps21
    go_wp2_with (go_at_call 49; refine (HS1.out _).mono ?_; rintro e w' ⟨rfl, rfl⟩)
    go_ret
    exact ⟨retI HF.out.symm, Below.refl _ _⟩
  | true =>
    rw [show inR n 1 2000 = true from H] at HS1
    have hn : 1 ≤ n ∧ n ≤ 2000 := by
      rcases sum1_cases n with ⟨a, b, _⟩ | ⟨_, c⟩ | ⟨_, _, c⟩
      · exact ⟨a, b⟩
      · rw [H] at c; cases c
      · rw [H] at c; cases c
    obtain ⟨N, rfl⟩ := Int.eq_ofNat_of_zero_le (show 0 ≤ n by omega)
    have HF := hid (twoMany_yes H)
    have hN1 : 1 ≤ N := by omega
    have hN2 : N ≤ 2000 := by omega
    clear H hn
    go_enter Try.func21, Try.ntmps21
    go_wp2_with (go_at_call 49; refine (HS1.out _).mono ?_; rintro e w' ⟨rfl, rfl⟩)
    go_loop [3, 4] (fun sc sd => ∃ (c : Int) (D : Nat), sc = .int .i64 c ∧ sd = .int .i64 D ∧ 1 ≤ D ∧ D ≤ N + 1 ∧ Hid (c = 4 * divS g2 N (D - 1))) (fun _ sd => 2001 - (intOf sd).toNat)
    case atStart => exact ⟨0, 1, rfl, rfl, by omega, by omega, hid rfl⟩
    case round =>
      obtain ⟨c, D, rfl, rfl, hD1, hDN, HC⟩ := hrel
      have hb := div2_bd (N := N) (D := D) hN2 (by omega)
      rw [← HC.out] at hb
      by_cases hle : D ≤ N
      · have hlei : (D : Int) ≤ (N : Int) := by omega
        by_cases hd : N % D = 0
        · have T := div_yes hd
          have HV := hid (divS_yes (g := g2) hD1 hd)
          by_cases h1 : D % 4 = 1
          · have T1 := mod4_is h1
            have T3 := mod4_not (D := D) (k := 3) (by omega)
            have HG := hid (g2_one h1)
            clear hd h1
            go_wp2
            go_round
            case measure => simp only [intOf]; omega
            case rel => exact ⟨c + 4, D + 1, rfl, by go_num, by omega, by omega, hid (by show _ = 4 * divS g2 N D; rw [HV.out, HG.out, HC.out]; omega)⟩
          · by_cases h3 : D % 4 = 3
            · have T1 := mod4_not (D := D) (k := 1) h1
              have T3 := mod4_is h3
              have HG := hid (g2_three h3)
              clear hd h1 h3
              go_wp2
              go_round
              case measure => simp only [intOf]; omega
              case rel => exact ⟨c - 4, D + 1, rfl, by go_num, by omega, by omega, hid (by show _ = 4 * divS g2 N D; rw [HV.out, HG.out, HC.out]; omega)⟩
            · have T1 := mod4_not (D := D) (k := 1) h1
              have T3 := mod4_not (D := D) (k := 3) h3
              have HG := hid (g2_else h1 h3)
              clear hd h1 h3
              go_wp2
              go_round
              case measure => simp only [intOf]; omega
              case rel => exact ⟨c, D + 1, rfl, by go_num, by omega, by omega, hid (by show _ = 4 * divS g2 N D; rw [HV.out, HG.out, HC.out]; omega)⟩
        · have T := div_no hd
          have HV := hid (divS_no (g := g2) hD1 hd)
          clear hd
          go_wp2
          go_round
          case measure => simp only [intOf]; omega
          case rel => exact ⟨c, D + 1, rfl, by go_num, by omega, by omega, hid (by show _ = 4 * divS g2 N D; rw [HV.out, HC.out])⟩
      · obtain rfl : D = N + 1 := by omega
        go_wp2
        go_ret
        exact ⟨retI (by rw [HF.out, HC.out]; rfl), Below.refl _ _⟩

set_option maxRecDepth 100000 in
set_option maxHeartbeats 2000000 in
theorem fourManyS_any (n : Int) (w : World) : Calls Try.prog 32 #[.int .i64 n] w fun e w' => e = .returned (.int .i64 (fourManyV n)) ∧ Below w.heap.size w w' := by
  have HS1 := hid (fun w : World => l8Sum_any n 1 w)
  cases H : sum1 n with
  | false =>
    rw [show inR n 1 2000 = false from H] at HS1
    have HF := hid (fourMany_no H)
    clear H
    go_enter Try.func32, Try.ntmps32
    go_wp2_with (go_at_call 49; refine (HS1.out _).mono ?_; rintro e w' ⟨rfl, rfl⟩)
    go_ret
    exact ⟨retI HF.out.symm, Below.refl _ _⟩
  | true =>
    rw [show inR n 1 2000 = true from H] at HS1
    have hn : 1 ≤ n ∧ n ≤ 2000 := by
      rcases sum1_cases n with ⟨a, b, _⟩ | ⟨_, c⟩ | ⟨_, _, c⟩
      · exact ⟨a, b⟩
      · rw [H] at c; cases c
      · rw [H] at c; cases c
    obtain ⟨N, rfl⟩ := Int.eq_ofNat_of_zero_le (show 0 ≤ n by omega)
    have HF := hid (fourMany_yes H)
    have hN1 : 1 ≤ N := by omega
    have hN2 : N ≤ 2000 := by omega
    clear H hn
    go_enter Try.func32, Try.ntmps32
    go_wp2_with (go_at_call 49; refine (HS1.out _).mono ?_; rintro e w' ⟨rfl, rfl⟩)
    go_loop [3, 4] (fun sc sd => ∃ (c : Int) (D : Nat), sc = .int .i64 c ∧ sd = .int .i64 D ∧ 1 ≤ D ∧ D ≤ N + 1 ∧ Hid (c = divS g4 N (D - 1))) (fun _ sd => 2001 - (intOf sd).toNat)
    case atStart => exact ⟨0, 1, rfl, rfl, by omega, by omega, hid rfl⟩
    case round =>
      obtain ⟨c, D, rfl, rfl, hD1, hDN, HC⟩ := hrel
      have hb := div4_bd (N := N) (D := D) hN2 (by omega)
      rw [← HC.out] at hb
      by_cases hle : D ≤ N
      · have hlei : (D : Int) ≤ (N : Int) := by omega
        by_cases hd : N % D = 0
        · have T := div_yes hd
          have HV := hid (divS_yes (g := g4) hD1 hd)
          by_cases h1 : D % 4 = 0
          · have T1 : ((D : Int) % 4 != 0) = false := by simp; omega
            have HG := hid (g4_zero h1)
            clear hd h1
            go_wp2
            go_round
            case measure => simp only [intOf]; omega
            case rel => exact ⟨c, D + 1, rfl, by go_num, by omega, by omega, hid (by show _ = divS g4 N D; rw [HV.out, HG.out, HC.out]; omega)⟩
          · have T1 : ((D : Int) % 4 != 0) = true := by simp; omega
            have HG := hid (g4_else h1)
            clear hd h1
            go_wp2
            go_round
            case measure => simp only [intOf]; omega
            case rel => exact ⟨c + D, D + 1, rfl, by go_num, by omega, by omega, hid (by show _ = divS g4 N D; rw [HV.out, HG.out, HC.out])⟩
        · have T := div_no hd
          have HV := hid (divS_no (g := g4) hD1 hd)
          clear hd
          go_wp2
          go_round
          case measure => simp only [intOf]; omega
          case rel => exact ⟨c, D + 1, rfl, by go_num, by omega, by omega, hid (by show _ = divS g4 N D; rw [HV.out, HC.out])⟩
      · obtain rfl : D = N + 1 := by omega
        go_wp2
        go_ret
        exact ⟨retI (by rw [HF.out, HC.out]; rfl), Below.refl _ _⟩

theorem wt_bd (z k : Nat) : 0 ≤ (if z = 0 then (1 : Int) else 2) * (if k = 0 then 1 else 2) ∧ (if z = 0 then (1 : Int) else 2) * (if k = 0 then 1 else 2) ≤ 4 := by
  by_cases hz : z = 0 <;> by_cases hk : k = 0 <;> simp [hz, hk]
theorem twM_bd {n : Int} : ∀ k : Nat, 0 ≤ twM n k ∧ twM n k ≤ 4 * (k : Int)
  | 0 => by simp [twM]
  | k + 1 => by
    have ih := twM_bd (n := n) k
    unfold twM
    split
    · cases rtO (n - (k : Int) * k) with
      | some z => have := wt_bd z k; show 0 ≤ twM n k + (if z = 0 then (1 : Int) else 2) * (if k = 0 then 1 else 2) ∧ twM n k + (if z = 0 then (1 : Int) else 2) * (if k = 0 then 1 else 2) ≤ _; omega
      | none => show 0 ≤ twM n k + 0 ∧ twM n k + 0 ≤ _; omega
    · omega
theorem twM_some {n : Int} {K z : Nat} (h : (K : Int) * K ≤ n) (hz : rtO (n - (K : Int) * K) = some z) : twM n (K + 1) = twM n K + (if z = 0 then 1 else 2) * (if K = 0 then 1 else 2) := by
  conv => lhs; unfold twM
  rw [if_pos h, hz]
theorem twM_none {n : Int} {K : Nat} (h : (K : Int) * K ≤ n) (hz : rtO (n - (K : Int) * K) = none) : twM n (K + 1) = twM n K := by
  conv => lhs; unfold twM
  rw [if_pos h, hz, Int.add_zero]
theorem twM_end {n : Int} {K : Nat} (h0 : 0 ≤ n) (h2 : n ≤ 2000) (hK : K ≤ 45) (h : ¬ (K : Int) * K ≤ n) : twM n K = twoW n := by
  obtain ⟨k, rfl⟩ : ∃ k, K = k + 1 := ⟨K - 1, by
    rcases Nat.eq_zero_or_pos K with e | e
    · rw [e] at h; exact absurd (by simpa using h0) h
    · omega⟩
  rw [twM_is h0 h2 k]
  unfold twoW
  exact eachK_end (by omega) (by simpa using h)

set_option maxRecDepth 100000 in
set_option maxHeartbeats 2000000 in
theorem l8Two_any (n : Int) (h0 : 0 ≤ n) (h2 : n ≤ 2000) (w : World) : Calls Try.prog 58 #[.int .i64 n] w fun e w' => e = .returned (.int .i64 (twoW n)) ∧ w = w' := by
  go_enter Try.func58, Try.ntmps58
  go_wp2
  go_loop [3, 4] (fun sc sx => ∃ (c : Int) (K : Nat), sc = .int .i64 c ∧ sx = .int .i64 K ∧ K ≤ 45 ∧ Hid (c = twM n K)) (fun _ sx => 50 - (intOf sx).toNat)
  case atStart => exact ⟨0, 0, rfl, rfl, by omega, hid rfl⟩
  case round =>
    obtain ⟨c, K, rfl, rfl, hK, HC⟩ := hrel
    have hb := twM_bd (n := n) K
    rw [← HC.out] at hb
    have hKK := mul_bd (show K ≤ 45 by omega) (show K ≤ 45 by omega)
    by_cases hc : (K : Int) * K ≤ n
    · have h44 := sq_small (c := 1) (x := (K : Int)) (by omega) (by omega) (by simp only [Int.one_mul]; omega)
      have HR := hid (fun w : World => l5RootL_any (n - (K : Int) * K) (by omega) (by omega) w)
      cases e : rtO (n - (K : Int) * K) with
      | some z =>
        have HT := hid (twM_some hc e)
        by_cases hz : z = 0
        · have e0 : rtV (n - (K : Int) * K) = 0 := by rw [rtV_some e, hz]; rfl
          rw [e0] at HR
          by_cases hk : K = 0
          · have hk0 : ¬ 0 < (K : Int) := by omega
            have hE : Hid (c + 1 = twM n (K + 1)) := hid (by rw [HT.out, HC.out, if_pos hz, if_pos hk]; rfl)
            clear e e0 hk hz HT
            go_wp2_with (go_at_call 54; refine (HR.out _).mono ?_; rintro e w' ⟨rfl, rfl⟩)
            go_round
            case measure => simp only [intOf]; omega
            case rel => exact ⟨c + 1, K + 1, rfl, by go_num, by omega, hE⟩
          · have hk1 : 0 < (K : Int) := by omega
            have hE : Hid (c + 2 = twM n (K + 1)) := hid (by rw [HT.out, HC.out, if_pos hz, if_neg hk]; rfl)
            clear e e0 hk hz HT
            go_wp2_with (go_at_call 54; refine (HR.out _).mono ?_; rintro e w' ⟨rfl, rfl⟩)
            go_round
            case measure => simp only [intOf]; omega
            case rel => exact ⟨c + 2, K + 1, rfl, by go_num, by omega, hE⟩
        · have hz1 : 0 < (z : Int) := by omega
          rw [rtV_some e] at HR
          by_cases hk : K = 0
          · have hk0 : ¬ 0 < (K : Int) := by omega
            have hE : Hid (c + 2 = twM n (K + 1)) := hid (by rw [HT.out, HC.out, if_neg hz, if_pos hk]; rfl)
            clear e hk hz HT
            go_wp2_with (go_at_call 54; refine (HR.out _).mono ?_; rintro e w' ⟨rfl, rfl⟩)
            go_round
            case measure => simp only [intOf]; omega
            case rel => exact ⟨c + 2, K + 1, rfl, by go_num, by omega, hE⟩
          · have hk1 : 0 < (K : Int) := by omega
            have hE : Hid (c + 4 = twM n (K + 1)) := hid (by rw [HT.out, HC.out, if_neg hz, if_neg hk]; rfl)
            clear e hk hz HT
            go_wp2_with (go_at_call 54; refine (HR.out _).mono ?_; rintro e w' ⟨rfl, rfl⟩)
            go_round
            case measure => simp only [intOf]; omega
            case rel => exact ⟨c + 4, K + 1, rfl, by go_num, by omega, hE⟩
      | none =>
        rw [rtV_none e] at HR
        have HT := hid (twM_none hc e)
        clear e
        go_wp2_with (go_at_call 54; refine (HR.out _).mono ?_; rintro e w' ⟨rfl, rfl⟩)
        go_round
        case measure => simp only [intOf]; omega
        case rel => exact ⟨c, K + 1, rfl, by go_num, by omega, hid (by rw [HC.out]; exact HT.out.symm)⟩
    · have HE := hid (HC.out.trans (twM_end h0 h2 hK hc))
      go_wp2
      go_ret
      exact ⟨retI HE.out, rfl⟩

set_option maxRecDepth 100000 in
set_option maxHeartbeats 2000000 in
theorem twoEachS_any (n : Int) (w : World) : Calls Try.prog 23 #[.int .i64 n] w fun e w' => e = .returned (.int .i64 (twoEachV n)) ∧ Below w.heap.size w w' := by
  have HS0 := hid (fun w : World => l8Sum_any n 0 w)
  rcases sumB_cases n with ⟨n0, n2, H⟩ | ⟨n0, H⟩ | ⟨n0, n2, H⟩
  · rw [show inR n 0 2000 = true from H] at HS0
    have HF := hid (twoEach_yes H)
    clear H
    go_enter Try.func23, Try.ntmps23
    go_wp2_with (first | (go_at_call 58; refine (l8Two_any n n0 n2 _).mono ?_; rintro e w' ⟨rfl, rfl⟩) | (go_at_call 49; refine (HS0.out _).mono ?_; rintro e w' ⟨rfl, rfl⟩))
    go_ret
    exact ⟨retI HF.out.symm, Below.refl _ _⟩
  all_goals
    rw [show inR n 0 2000 = false from H] at HS0
    have HF := hid (twoEach_no H)
    clear H
    go_enter Try.func23, Try.ntmps23
    go_wp2_with (go_at_call 49; refine (HS0.out _).mono ?_; rintro e w' ⟨rfl, rfl⟩)
    go_ret
    exact ⟨retI HF.out.symm, Below.refl _ _⟩

theorem fourE_yes {N : Nat} (h : inR (N : Int) 0 300 = true) : fourEachV (N : Int) = fourK N (N + 1) := by unfold fourEachV; rw [if_pos h, Int.toNat_natCast]
theorem fourE_no {n : Int} (h : inR n 0 300 = false) : fourEachV n = -1 := by unfold fourEachV; rw [h]; rfl
set_option maxRecDepth 100000 in
set_option maxHeartbeats 2000000 in
theorem fourEachS_any (n : Int) (w : World) : Calls Try.prog 34 #[.int .i64 n] w fun e w' => e = .returned (.int .i64 (fourEachV n)) ∧ Below w.heap.size w w' := by
  have HS1 := hid (fun w : World => l6In_any n 0 300 w)
  cases H : inR n 0 300 with
  | false =>
    rw [H] at HS1
    have HF := hid (fourE_no H)
    clear H
    go_enter Try.func34, Try.ntmps34
    go_wp2_with (go_at_call 63; refine (HS1.out _).mono ?_; rintro e w' ⟨rfl, rfl⟩)
    go_ret
    exact ⟨retI HF.out.symm, Below.refl _ _⟩
  | true =>
    rw [H] at HS1
    have hn : 0 ≤ n ∧ n ≤ 300 := by
      rcases inR_cases n 0 300 with ⟨a, b, _⟩ | ⟨_, c⟩ | ⟨_, _, c⟩
      · exact ⟨a, b⟩
      · rw [H] at c; cases c
      · rw [H] at c; cases c
    obtain ⟨N, rfl⟩ := Int.eq_ofNat_of_zero_le hn.1
    have HF := hid (fourE_yes H)
    have hN2 : N ≤ 300 := by omega
    clear H hn
    go_enter Try.func34, Try.ntmps34
    go_wp2_with (go_at_call 63; refine (HS1.out _).mono ?_; rintro e w' ⟨rfl, rfl⟩)
    go_loop [3, 4] (fun sc sk => ∃ (c : Int) (K : Nat), sc = .int .i64 c ∧ sk = .int .i64 K ∧ K ≤ N + 1 ∧ Hid (c = fourK N K)) (fun _ sk => 400 - (intOf sk).toNat)
    case atStart => exact ⟨0, 0, rfl, rfl, by omega, hid rfl⟩
    case round =>
      obtain ⟨c, K, rfl, rfl, hK, HC⟩ := hrel
      have hb := fourK_bd (n := (N : Int)) (by omega) K (by omega)
      rw [← HC.out] at hb
      by_cases hle : K ≤ N
      · have hlei : (K : Int) ≤ (N : Int) := by omega
        have t1 := twoW_bd (n := (K : Int)) (by omega)
        have t2 := twoW_bd (n := (N : Int) - (K : Int)) (by omega)
        have HA := hid (fun w : World => l8Two_any (K : Int) (by omega) (by omega) w)
        have HB := hid (fun w : World => l8Two_any ((N : Int) - (K : Int)) (by omega) (by omega) w)
        have HK : Hid (fourK N (K + 1) = fourK N K + twoW (K : Int) * twoW ((N : Int) - (K : Int))) := hid rfl
        generalize twoW (K : Int) = a at *
        generalize twoW ((N : Int) - (K : Int)) = b at *
        have t3 : 0 ≤ a * b := Int.mul_nonneg t1.1 t2.1
        have t4 : a * b ≤ 8281 * 8281 := Int.mul_le_mul t1.2 t2.2 t2.1 (by omega)
        go_wp2_with fail
        refine (HA.out _).mono ?_
        rintro e w' ⟨rfl, rfl⟩
        go_wp2_with fail
        refine (HB.out _).mono ?_
        rintro e w' ⟨rfl, rfl⟩
        go_wp2
        go_round
        case measure => simp only [intOf]; omega
        case rel => exact ⟨c + a * b, K + 1, rfl, by go_num, by omega, hid (by rw [HK.out, HC.out])⟩
      · obtain rfl : K = N + 1 := by omega
        go_wp2
        go_ret
        exact ⟨retI (by rw [HF.out]; exact HC.out), Below.refl _ _⟩

theorem threeIs_yes {N : Nat} (h : sumB (N : Int) = true) : threeIsB (N : Int) = !decide (stripN N % 8 = 7) := by unfold threeIsB; rw [h, Int.toNat_natCast]; rfl
theorem threeIs_no {n : Int} (h : sumB n = false) : threeIsB n = false := by unfold threeIsB; rw [h]; rfl
theorem three_end {N M : Nat} (h : stripN M = stripN N) (hs : ¬ (0 < M ∧ M % 4 = 0)) : ((M : Int) % 8 != 7) = !decide (stripN N % 8 = 7) := by
  rw [← h, strip_stop hs]
  by_cases e : M % 8 = 7
  · rw [decide_eq_true e]; simp; omega
  · rw [decide_eq_false e]; simp; omega
set_option maxRecDepth 100000 in
set_option maxHeartbeats 2000000 in
theorem threeIsS_any (n : Int) (w : World) : Calls Try.prog 25 #[.int .i64 n] w fun e w' => e = .returned (.bool (threeIsB n)) ∧ Below w.heap.size w w' := by
  have HS0 := hid (fun w : World => l8Sum_any n 0 w)
  rcases sumB_cases n with ⟨n0, n2, H⟩ | ⟨n0, H⟩ | ⟨n0, n2, H⟩
  · rw [show inR n 0 2000 = true from H] at HS0
    obtain ⟨N, rfl⟩ := Int.eq_ofNat_of_zero_le n0
    have HF := hid (threeIs_yes H)
    have hN2 : N ≤ 2000 := by omega
    clear H
    go_enter Try.func25, Try.ntmps25
    go_wp2_with (go_at_call 49; refine (HS0.out _).mono ?_; rintro e w' ⟨rfl, rfl⟩)
    go_loop [0] (fun sn => ∃ M : Nat, sn = .int .i64 M ∧ M ≤ 2000 ∧ Hid (stripN M = stripN N)) (fun sn => (intOf sn).toNat)
    case atStart => exact ⟨N, rfl, hN2, hid rfl⟩
    case round =>
      obtain ⟨M, rfl, hM, HS⟩ := hrel
      by_cases hc : 0 < M ∧ M % 4 = 0
      · have T := mod4_is hc.2
        have hp : 0 < (M : Int) := by omega
        have HD := hid ((strip_step hc.1 hc.2).symm.trans HS.out)
        have hq : M / 4 < M := by omega
        clear hc
        go_wp2
        go_round
        case measure => simp only [intOf]; omega
        case rel => exact ⟨M / 4, by go_num, by omega, HD⟩
      · have HE := hid (three_end HS.out hc)
        rcases Nat.eq_zero_or_pos M with e | e
        · subst e
          go_wp2
          go_ret
          exact ⟨retB (by rw [HF.out]; exact HE.out), Below.refl _ _⟩
        · have T := mod4_not (D := M) (k := 0) (by omega)
          have hp : 0 < (M : Int) := by omega
          clear hc
          go_wp2
          go_ret
          exact ⟨retB (by rw [HF.out]; exact HE.out), Below.refl _ _⟩
  all_goals
    rw [show inR n 0 2000 = false from H] at HS0
    have HF := hid (threeIs_no H)
    clear H
    go_enter Try.func25, Try.ntmps25
    go_wp2_with (go_at_call 49; refine (HS0.out _).mono ?_; rintro e w' ⟨rfl, rfl⟩)
    go_ret
    exact ⟨retB HF.out.symm, Below.refl _ _⟩

end Go.Proofs.Ytdclmjmefkgbbaa
