/-
  Contracts of the program's chapter 8: sums over divisors and over squares, told to a function; what three squares make.
-/
import Derived.Test.YtdclmjmefkgbbaaSuB2
import Derived.RangeFuncBox
set_option linter.unusedVariables false
namespace Go.Proofs.Ytdclmjmefkgbbaa
open Go.RowKit

theorem summed_any (n : Int) (w : World) : Calls Try.prog 52 #[.int .i64 n] w fun e w' => e = .returned (.bool (sumB n)) ∧ w = w' := by
  rcases sumB_cases n with ⟨h1, h2, H⟩ | ⟨h1, H⟩ | ⟨h1, h2, H⟩
  all_goals
    have HH := hid H
    clear H
    go_enter Try.func52, Try.ntmps52
    go_wp2
    go_ret
    exact ⟨retB (by first | (rw [HH.out]; done) | (rw [HH.out]; simp; omega)), rfl⟩

theorem sum1_of {n : Int} (h : sumB n = true) (h0 : n ≠ 0) : sum1 n = true := by
  rcases sumB_cases n with ⟨a, b, _⟩ | ⟨_, c⟩ | ⟨_, _, c⟩
  · rcases sum1_cases n with ⟨_, _, d⟩ | ⟨d, _⟩ | ⟨_, d, _⟩
    · exact d
    · omega
    · omega
  · rw [h] at c; cases c
  · rw [h] at c; cases c
theorem sum1_out {n : Int} (h : sumB n = false) : sum1 n = false := by
  rcases sum1_cases n with ⟨a, b, d⟩ | ⟨_, d⟩ | ⟨_, _, d⟩
  · rcases sumB_cases n with ⟨_, _, c⟩ | ⟨c, _⟩ | ⟨_, c, _⟩
    · rw [h] at c; cases c
    · omega
    · omega
  · exact d
  · exact d
theorem sum1_zero : sum1 0 = false := by decide

set_option maxRecDepth 100000 in
set_option maxHeartbeats 2000000 in
theorem overDivisors_any (fc : Nat) (he : ∀ args W, (callFunc fc args).run Try.prog W = .ok (.enter fc args) W) (g : Nat → Int) (N : Nat) (h1 : 1 ≤ N) (h2 : N ≤ 2000) (hg : ∀ d, d ≤ 2000 → -2000 ≤ g d ∧ g d ≤ 2000)
    (hcl : ∀ (D : Nat) (w : World), 1 ≤ D → D ≤ 2000 → Calls Try.prog fc #[.int .i64 (D : Int)] w fun e w' => e = .returned (.int .i64 (g D)) ∧ w = w') (w : World) :
    Calls Try.prog 56 #[.int .i64 (N : Int), .func (.func fc) #[] #[]] w fun e w' => e = .returned (.int .i64 (divS g N N)) ∧ w = w' := by
  have HCL := hid hcl
  have HG := hid hg
  clear hcl hg
  go_enter Try.func56, Try.ntmps56
  go_wp2
  go_loop [5, 6] (fun sc sd => ∃ (c : Int) (D : Nat), sc = .int .i64 c ∧ sd = .int .i64 D ∧ 1 ≤ D ∧ D ≤ N + 1 ∧ Hid (c = divS g N (D - 1))) (fun _ sd => 2001 - (intOf sd).toNat)
  case atStart => exact ⟨0, 1, rfl, rfl, by omega, by omega, hid rfl⟩
  case round =>
    obtain ⟨c, D, rfl, rfl, hD1, hDN, HC⟩ := hrel
    have hb := divS_bd (g := g) (n := N) (m := 2000) (by omega) (D - 1) (fun d hd => HG.out d (by omega))
    rw [← HC.out] at hb
    by_cases hle : D ≤ N
    · have hlei : (D : Int) ≤ (N : Int) := by omega
      by_cases hd : N % D = 0
      · have T := div_yes hd
        have HV := hid (divS_yes (g := g) hD1 hd)
        have hgb := HG.out D (by omega)
        have HT := hid (fun w => HCL.out D w hD1 (by omega))
        generalize g D = x at *
        clear hd
        go_wp2_with fail
        show Calls _ _ _ _ _
        refine (HT.out _).mono ?_
        rintro e w' ⟨rfl, rfl⟩
        go_wp2
        go_round
        case measure => simp only [intOf]; omega
        case rel => exact ⟨c + x, D + 1, rfl, by go_num, by omega, by omega, hid (by show _ = divS g N D; rw [HV.out, HC.out])⟩
      · have T := div_no hd
        have HV := hid (divS_no (g := g) hD1 hd)
        clear hd
        go_wp2
        go_round
        case measure => simp only [intOf]; omega
        case rel => exact ⟨c, D + 1, rfl, by go_num, by omega, by omega, hid (by show _ = divS g N D; rw [HV.out, HC.out])⟩
    · obtain rfl : D = N + 1 := by omega
      go_wp2
      go_ret
      exact ⟨retI HC.out, rfl⟩

theorem twoTold_any (D : Nat) (h1 : 1 ≤ D) (h2 : D ≤ 2000) (w : World) : Calls Try.prog 57 #[.int .i64 (D : Int)] w fun e w' => e = .returned (.int .i64 (g2 D)) ∧ w = w' := by
  by_cases d1 : D % 4 = 1
  · have T1 := mod4_is d1
    have HG := hid (g2_one d1)
    clear d1
    go_enter Try.func57, Try.ntmps57
    go_wp2
    go_ret
    exact ⟨retI HG.out.symm, rfl⟩
  · by_cases d3 : D % 4 = 3
    · have T1 := mod4_not (D := D) (k := 1) d1
      have T3 := mod4_is d3
      have HG := hid (g2_three d3)
      clear d1 d3
      go_enter Try.func57, Try.ntmps57
      go_wp2
      go_ret
      exact ⟨retI HG.out.symm, rfl⟩
    · have T1 := mod4_not (D := D) (k := 1) d1
      have T3 := mod4_not (D := D) (k := 3) d3
      have HG := hid (g2_else d1 d3)
      clear d1 d3
      go_enter Try.func57, Try.ntmps57
      go_wp2
      go_ret
      exact ⟨retI HG.out.symm, rfl⟩

theorem fourTold_any (D : Nat) (h1 : 1 ≤ D) (h2 : D ≤ 2000) (w : World) : Calls Try.prog 62 #[.int .i64 (D : Int)] w fun e w' => e = .returned (.int .i64 (g4 D)) ∧ w = w' := by
  by_cases d1 : D % 4 = 0
  · have T1 := mod4_is d1
    have HG := hid (g4_zero d1)
    clear d1
    go_enter Try.func62, Try.ntmps62
    go_wp2
    go_ret
    exact ⟨retI HG.out.symm, rfl⟩
  · have T1 := mod4_not (D := D) (k := 0) d1
    have HG := hid (g4_else d1)
    clear d1
    go_enter Try.func62, Try.ntmps62
    go_wp2
    go_ret
    exact ⟨retI HG.out.symm, rfl⟩

set_option maxRecDepth 100000 in
theorem twoMany_any (n : Int) (w : World) : Calls Try.prog 22 #[.int .i64 n] w fun e w' => e = .returned (.int .i64 (twoManyV n)) ∧ Below w.heap.size w w' := by
  have HS := hid (fun w : World => summed_any n w)
  cases H : sumB n with
  | false =>
    rw [H] at HS
    have HF := hid (twoMany_no (sum1_out H))
    clear H
    go_enter Try.func22, Try.ntmps22
    go_wp2_with (go_at_call 52; refine (HS.out _).mono ?_; rintro e w' ⟨rfl, rfl⟩)
    go_ret
    exact ⟨retI HF.out.symm, Below.refl _ _⟩
  | true =>
    rw [H] at HS
    by_cases h0 : n = 0
    · subst h0
      have HF := hid (twoMany_no sum1_zero)
      clear H
      go_enter Try.func22, Try.ntmps22
      go_wp2_with (go_at_call 52; refine (HS.out _).mono ?_; rintro e w' ⟨rfl, rfl⟩)
      go_ret
      exact ⟨retI HF.out.symm, Below.refl _ _⟩
    · have T : (n == 0) = false := by rw [beq_eq_false_iff_ne]; exact h0
      have h1 := sum1_of H h0
      have hn : 1 ≤ n ∧ n ≤ 2000 := by
        rcases sum1_cases n with ⟨a, b, _⟩ | ⟨_, c⟩ | ⟨_, _, c⟩
        · exact ⟨a, b⟩
        · rw [h1] at c; cases c
        · rw [h1] at c; cases c
      obtain ⟨N, rfl⟩ := Int.eq_ofNat_of_zero_le (show 0 ≤ n by omega)
      have hN1 : 1 ≤ N := by omega
      have hN2 : N ≤ 2000 := by omega
      have HF := hid (twoMany_yes h1)
      have HO := hid (fun w => overDivisors_any 57 (fun _ _ => rfl) g2 N hN1 hN2 (fun d _ => by have := g2_bd d; omega) (fun D w a b => twoTold_any D a b w) w)
      have hb := divS_bd (g := g2) (n := N) (m := 1) (by omega) N (fun d _ => g2_bd d)
      generalize divS g2 N N = x at *
      clear h0 h1 H hn
      go_enter Try.func22, Try.ntmps22
      go_wp2_with (first | (go_at_call 56; refine (HO.out _).mono ?_; rintro e w' ⟨rfl, rfl⟩) | (go_at_call 52; refine (HS.out _).mono ?_; rintro e w' ⟨rfl, rfl⟩))
      go_ret
      exact ⟨retI HF.out.symm, Below.refl _ _⟩

set_option maxRecDepth 100000 in
theorem fourMany_any (n : Int) (w : World) : Calls Try.prog 33 #[.int .i64 n] w fun e w' => e = .returned (.int .i64 (fourManyV n)) ∧ Below w.heap.size w w' := by
  have HS := hid (fun w : World => summed_any n w)
  cases H : sumB n with
  | false =>
    rw [H] at HS
    have HF := hid (fourMany_no (sum1_out H))
    clear H
    go_enter Try.func33, Try.ntmps33
    go_wp2_with (go_at_call 52; refine (HS.out _).mono ?_; rintro e w' ⟨rfl, rfl⟩)
    go_ret
    exact ⟨retI HF.out.symm, Below.refl _ _⟩
  | true =>
    rw [H] at HS
    by_cases h0 : n = 0
    · subst h0
      have HF := hid (fourMany_no sum1_zero)
      clear H
      go_enter Try.func33, Try.ntmps33
      go_wp2_with (go_at_call 52; refine (HS.out _).mono ?_; rintro e w' ⟨rfl, rfl⟩)
      go_ret
      exact ⟨retI HF.out.symm, Below.refl _ _⟩
    · have T : (n == 0) = false := by rw [beq_eq_false_iff_ne]; exact h0
      have h1 := sum1_of H h0
      have hn : 1 ≤ n ∧ n ≤ 2000 := by
        rcases sum1_cases n with ⟨a, b, _⟩ | ⟨_, c⟩ | ⟨_, _, c⟩
        · exact ⟨a, b⟩
        · rw [h1] at c; cases c
        · rw [h1] at c; cases c
      obtain ⟨N, rfl⟩ := Int.eq_ofNat_of_zero_le (show 0 ≤ n by omega)
      have hN1 : 1 ≤ N := by omega
      have hN2 : N ≤ 2000 := by omega
      have HF := hid (fourMany_yes h1)
      have HO := hid (fun w => overDivisors_any 62 (fun _ _ => rfl) g4 N hN1 hN2 (fun d hd => by have := g4_bd d hd; omega) (fun D w a b => fourTold_any D a b w) w)
      have hb := divS_bd (g := g4) (n := N) (m := 2000) (by omega) N (fun d hd => by have := g4_bd d (by omega); omega)
      generalize divS g4 N N = x at *
      clear h0 h1 H hn
      go_enter Try.func33, Try.ntmps33
      go_wp2_with (first | (go_at_call 56; refine (HO.out _).mono ?_; rintro e w' ⟨rfl, rfl⟩) | (go_at_call 52; refine (HS.out _).mono ?_; rintro e w' ⟨rfl, rfl⟩))
      go_ret
      exact ⟨retI HF.out.symm, Below.refl _ _⟩

set_option maxRecDepth 100000 in
set_option maxHeartbeats 2000000 in
theorem threeIs_any (n : Int) (w : World) : Calls Try.prog 26 #[.int .i64 n] w fun e w' => e = .returned (.bool (threeIsB n)) ∧ Below w.heap.size w w' := by
  have HS0 := hid (fun w : World => summed_any n w)
  rcases sumB_cases n with ⟨n0, n2, H⟩ | ⟨n0, H⟩ | ⟨n0, n2, H⟩
  · rw [H] at HS0
    obtain ⟨N, rfl⟩ := Int.eq_ofNat_of_zero_le n0
    have HF := hid (threeIs_yes H)
    have hN2 : N ≤ 2000 := by omega
    clear H
    go_enter Try.func26, Try.ntmps26
    go_wp2_with (go_at_call 52; refine (HS0.out _).mono ?_; rintro e w' ⟨rfl, rfl⟩)
    go_loop [3] (fun sn => ∃ M : Nat, sn = .int .i64 M ∧ M ≤ 2000 ∧ Hid (stripN M = stripN N)) (fun sn => (intOf sn).toNat)
    case atStart => exact ⟨N, rfl, hN2, hid rfl⟩
    case round =>
      obtain ⟨M, rfl, hM, HS⟩ := hrel
      by_cases hc : 0 < M ∧ M % 4 = 0
      · have T := mod4_is hc.2
        have hp : 0 < (M : Int) := by omega
        have HD := hid ((strip_step hc.1 hc.2).symm.trans HS.out)
        have hq : M / 4 < M := by omega
        clear hc
        go_wp2
        go_round
        case measure => simp only [intOf]; omega
        case rel => exact ⟨M / 4, by go_num, by omega, HD⟩
      · have HE := hid (three_end HS.out hc)
        rcases Nat.eq_zero_or_pos M with e | e
        · subst e
          go_wp2
          go_ret
          exact ⟨retB (by rw [HF.out]; exact HE.out), Below.refl _ _⟩
        · have T := mod4_not (D := M) (k := 0) (by omega)
          have hp : 0 < (M : Int) := by omega
          clear hc
          go_wp2
          go_ret
          exact ⟨retB (by rw [HF.out]; exact HE.out), Below.refl _ _⟩
  all_goals
    rw [H] at HS0
    have HF := hid (threeIs_no H)
    clear H
    go_enter Try.func26, Try.ntmps26
    go_wp2_with (go_at_call 52; refine (HS0.out _).mono ?_; rintro e w' ⟨rfl, rfl⟩)
    go_ret
    exact ⟨retB HF.out.symm, Below.refl _ _⟩

end Go.Proofs.Ytdclmjmefkgbbaa
