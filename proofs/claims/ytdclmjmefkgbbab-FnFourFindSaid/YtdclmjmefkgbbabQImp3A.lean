/-
  Contracts of the program's chapter 3: the symbol at a place (functions that return functions).
-/
import Derived.Test.YtdclmjmefkgbbabQBun22
import Derived.Test.YtdclmjmefkgbbabQQr
set_option linter.unusedVariables false
namespace Go.Proofs.Ytdclmjmefkgbbab
open Go.RowKit

def sgB (b : Bool) : Int := if b = true then -1 else 1
theorem signOf_any (b : Bool) (w : World) : Calls Try.prog 101 #[.bool b] w fun e w' => e = .returned (.int .i64 (sgB b)) ∧ w = w' := by
  cases b
  all_goals
    go_enter Try.func101, Try.ntmps101
    go_wp2
    go_ret
    exact ⟨retI rfl, rfl⟩

def s8 (u : Int) : Int := if u % 8 = 3 ∨ u % 8 = 5 then -1 else 1
theorem s8_small (u : Int) : -1 ≤ s8 u ∧ s8 u ≤ 1 := by unfold s8; split <;> omega
theorem sgB_small (b : Bool) : -1 ≤ sgB b ∧ sgB b ≤ 1 := by cases b <;> decide
theorem signByEight_any (u : Int) (h1 : -1000000000 ≤ u) (h2 : u ≤ 1000000000) (w : World) : Calls Try.prog 109 #[.int .i64 u] w fun e w' => e = .returned (.int .i64 (s8 u)) ∧ w = w' := by
  have H : Hid (sgB (u % 8 == 3 || u % 8 == 5) = s8 u) := by
    show _ = _
    cases hb : (u % 8 == 3 || u % 8 == 5) with
    | true =>
      rw [Bool.or_eq_true, beq_iff_eq, beq_iff_eq] at hb
      unfold s8
      rw [if_pos hb]
      rfl
    | false =>
      have h : ¬ (u % 8 = 3 ∨ u % 8 = 5) := by
        intro h
        rw [← beq_iff_eq, ← beq_iff_eq (a := u % 8) (b := 5), ← Bool.or_eq_true, hb] at h
        cases h
      unfold s8
      rw [if_neg h]
      rfl
  by_cases h3 : u % 8 = 3
  · have T : (u % 8 == 3) = true := by rw [beq_iff_eq]; exact h3
    have H2 : Hid (sgB true = s8 u) := hid (by rw [← H.out, T]; rfl)
    clear h3
    go_enter Try.func109, Try.ntmps109
    go_wp2_with (first | (go_at_call 107; refine (rest_any _ _ (by omega) (by omega) (by omega) (by omega) _).mono ?_; rintro e w' ⟨rfl, rfl⟩) | (go_at_call 101; refine (signOf_any _ _).mono ?_; rintro e w' ⟨rfl, rfl⟩))
    go_ret
    exact ⟨retI H2.out, rfl⟩
  · have T : (u % 8 == 3) = false := by rw [beq_eq_false_iff_ne]; exact h3
    have H2 : Hid (sgB (u % 8 == 5) = s8 u) := hid (by rw [← H.out, T]; rfl)
    clear h3
    go_enter Try.func109, Try.ntmps109
    go_wp2_with (first | (go_at_call 107; refine (rest_any _ _ (by omega) (by omega) (by omega) (by omega) _).mono ?_; rintro e w' ⟨rfl, rfl⟩) | (go_at_call 101; refine (signOf_any _ _).mono ?_; rintro e w' ⟨rfl, rfl⟩))
    go_ret
    exact ⟨retI H2.out, rfl⟩

theorem emod4 (u : Int) : u % 8 % 4 = u % 4 := Int.emod_emod_of_dvd u (by decide)
theorem symTwo_eq {a b : Int} (a0 : a ≠ 0) (b0 : b ≠ 0) : symV a b 2 = sgB (unitI a 2 % 4 == 3 && unitI b 2 % 4 == 3) * (if val a.natAbs 2 % 2 = 1 then s8 (unitI b 2) else 1) * (if val b.natAbs 2 % 2 = 1 then s8 (unitI a 2) else 1) := by
  have hu : ¬ 2 ∣ (unitI a 2).natAbs := unit_dvd prime2 a0
  have hv : ¬ 2 ∣ (unitI b 2).natAbs := unit_dvd prime2 b0
  rw [symTwo, cls_two, cls_two]
  obtain ⟨u, hu2⟩ : ∃ u, u = unitI a 2 := ⟨_, rfl⟩
  obtain ⟨v, hv2⟩ : ∃ v, v = unitI b 2 := ⟨_, rfl⟩
  rw [← hu2] at hu ⊢
  rw [← hv2] at hv ⊢
  have h1 : u % 8 = 1 ∨ u % 8 = 3 ∨ u % 8 = 5 ∨ u % 8 = 7 := by omega
  have h2 : v % 8 = 1 ∨ v % 8 = 3 ∨ v % 8 = 5 ∨ v % 8 = 7 := by omega
  have h3 : val a.natAbs 2 % 2 = 0 ∨ val a.natAbs 2 % 2 = 1 := by omega
  have h4 : val b.natAbs 2 % 2 = 0 ∨ val b.natAbs 2 % 2 = 1 := by omega
  unfold s8
  rw [← emod4 u, ← emod4 v]
  rcases h1 with h | h | h | h <;> rcases h2 with k | k | k | k <;> rcases h3 with i | i <;> rcases h4 with j | j <;> rw [h, k, i, j] <;> decide

set_option maxHeartbeats 1000000 in
theorem symbolAtTwo_any (a b : Int) (a0 : a ≠ 0) (b0 : b ≠ 0) (a1 : -1000000000 ≤ a) (a2 : a ≤ 1000000000) (b1 : -1000000000 ≤ b) (b2 : b ≤ 1000000000) (w : World) :
    Calls Try.prog 102 #[.int .i64 a, .int .i64 b] w fun e w' => e = .returned (.int .i64 (symV a b 2)) ∧ w = w' := by
  have hub := unit_bd a 2
  have hvb := unit_bd b 2
  have HE := hid (symTwo_eq a0 b0)
  have A0 := hid a0
  have B0 := hid b0
  obtain ⟨i, hi⟩ : ∃ i, i = val a.natAbs 2 := ⟨_, rfl⟩
  obtain ⟨j, hj⟩ : ∃ j, j = val b.natAbs 2 := ⟨_, rfl⟩
  obtain ⟨U, hU⟩ : ∃ U, U = unitI a 2 := ⟨_, rfl⟩
  obtain ⟨V, hV⟩ : ∃ V, V = unitI b 2 := ⟨_, rfl⟩
  have hiv := val_le 2 (by omega) _ a.natAbs (Nat.le_refl _)
  have hjv := val_le 2 (by omega) _ b.natAbs (Nat.le_refl _)
  rw [← hi, ← hj, ← hU, ← hV] at HE
  rw [← hi] at hiv
  rw [← hj] at hjv
  rw [← hU] at hub
  rw [← hV] at hvb
  have HI : Hid (val a.natAbs (2 : Int).toNat = i) := hid hi.symm
  have HJ : Hid (val b.natAbs (2 : Int).toNat = j) := hid hj.symm
  have HU := hid hU.symm
  have HV := hid hV.symm
  have sv := s8_small V
  have su := s8_small U
  obtain ⟨x, hx⟩ : ∃ x, x = s8 V := ⟨_, rfl⟩
  obtain ⟨y, hy⟩ : ∃ y, y = s8 U := ⟨_, rfl⟩
  rw [← hx, ← hy] at HE
  rw [← hx] at sv
  rw [← hy] at su
  have HX := hid hx.symm
  have HY := hid hy.symm
  have sv1 := sv.1
  have sv2 := sv.2
  have su1 := su.1
  have su2 := su.2
  clear hi hj hU hV hx hy sv su a0 b0
  have key : ∀ t : Bool, (U % 4 == 3 && V % 4 == 3) = t → ∃ s, sgB t = s ∧ -1 ≤ s ∧ s ≤ 1 ∧ Hid (symV a b 2 = s * (if i % 2 = 1 then x else 1) * (if j % 2 = 1 then y else 1)) := fun t ht => ⟨_, rfl, (sgB_small t).1, (sgB_small t).2, hid (by rw [HE.out, ht])⟩
  have go : ∀ t : Bool, (U % 4 == 3 && V % 4 == 3) = t → (U % 4 == 3) = true ∨ ((U % 4 == 3) = false ∧ t = false) := fun t ht => by
    cases h : (U % 4 == 3)
    · right; rw [h] at ht; exact ⟨rfl, by rw [← ht]; rfl⟩
    · left; rfl
  obtain ⟨t, ht⟩ : ∃ t, (U % 4 == 3 && V % 4 == 3) = t := ⟨_, rfl⟩
  obtain ⟨s, hs, s1, s2, HS⟩ := key t ht
  have hsx := small_mul s1 s2 sv1 sv2
  have hsy := small_mul s1 s2 su1 su2
  have hsxy := small_mul hsx.1 hsx.2 su1 su2
  have p1 := hsx.1
  have p2 := hsx.2
  have q1 := hsy.1
  have q2 := hsy.2
  have r1 := hsxy.1
  have r2 := hsxy.2
  have HT := hid hs
  clear hs hsx hsy hsxy key HE
  rcases go t ht with T1 | ⟨T1, rfl⟩
  · have T2 : (V % 4 == 3) = t := by rw [← ht, T1]; rfl
    clear ht go
    have hi2 : i % 2 = 0 ∨ i % 2 = 1 := by omega
    have hj2 : j % 2 = 0 ∨ j % 2 = 1 := by omega
    rcases hi2 with e1 | e1 <;> rcases hj2 with e2 | e2
    all_goals
      rw [e1, e2] at HS
      first
        | have Ti : ((i : Int) % 2 == 1) = true := by rw [beq_iff_eq]; omega
        | have Ti : ((i : Int) % 2 == 1) = false := by rw [beq_eq_false_iff_ne]; omega
      first
        | have Tj : ((j : Int) % 2 == 1) = true := by rw [beq_iff_eq]; omega
        | have Tj : ((j : Int) % 2 == 1) = false := by rw [beq_eq_false_iff_ne]; omega
      clear e1 e2
      go_enter Try.func102, Try.ntmps102
      go_wp2_with fail
      refine (splitAt_any a 2 A0.out a1 a2 (by omega) (by omega) _).mono ?_
      rw [HI.out, HU.out]
      rintro e w' ⟨rfl, rfl⟩
      go_wp2_with fail
      refine (splitAt_any b 2 B0.out b1 b2 (by omega) (by omega) _).mono ?_
      rw [HJ.out, HV.out]
      rintro e w' ⟨rfl, rfl⟩
      go_wp2_with (first | (go_at_call 107; refine (rest_any _ _ (by omega) (by omega) (by omega) (by omega) _).mono ?_; rintro e w' ⟨rfl, rfl⟩) | (go_at_call 101; refine (signOf_any _ _).mono ?_; rw [HT.out]; rintro e w' ⟨rfl, rfl⟩) | (go_at_call 109; refine (signByEight_any _ (by omega) (by omega) _).mono ?_; (first | rw [HX.out] | rw [HY.out]); rintro e w' ⟨rfl, rfl⟩))
      go_ret
      exact ⟨retI (by rw [HS.out]; simp), rfl⟩
  · clear ht go
    have hi2 : i % 2 = 0 ∨ i % 2 = 1 := by omega
    have hj2 : j % 2 = 0 ∨ j % 2 = 1 := by omega
    rcases hi2 with e1 | e1 <;> rcases hj2 with e2 | e2
    all_goals
      rw [e1, e2] at HS
      first
        | have Ti : ((i : Int) % 2 == 1) = true := by rw [beq_iff_eq]; omega
        | have Ti : ((i : Int) % 2 == 1) = false := by rw [beq_eq_false_iff_ne]; omega
      first
        | have Tj : ((j : Int) % 2 == 1) = true := by rw [beq_iff_eq]; omega
        | have Tj : ((j : Int) % 2 == 1) = false := by rw [beq_eq_false_iff_ne]; omega
      clear e1 e2
      go_enter Try.func102, Try.ntmps102
      go_wp2_with fail
      refine (splitAt_any a 2 A0.out a1 a2 (by omega) (by omega) _).mono ?_
      rw [HI.out, HU.out]
      rintro e w' ⟨rfl, rfl⟩
      go_wp2_with fail
      refine (splitAt_any b 2 B0.out b1 b2 (by omega) (by omega) _).mono ?_
      rw [HJ.out, HV.out]
      rintro e w' ⟨rfl, rfl⟩
      go_wp2_with (first | (go_at_call 107; refine (rest_any _ _ (by omega) (by omega) (by omega) (by omega) _).mono ?_; rintro e w' ⟨rfl, rfl⟩) | (go_at_call 101; refine (signOf_any _ _).mono ?_; rw [HT.out]; rintro e w' ⟨rfl, rfl⟩) | (go_at_call 109; refine (signByEight_any _ (by omega) (by omega) _).mono ?_; (first | rw [HX.out] | rw [HY.out]); rintro e w' ⟨rfl, rfl⟩))
      go_ret
      exact ⟨retI (by rw [HS.out]; simp), rfl⟩

set_option maxHeartbeats 1000000 in
theorem residueSign_any (u : Int) (P : Nat) (hP : primeN P = true) (h3 : 3 ≤ P) (hd : ¬ P ∣ u.natAbs) (h1 : -1000000000 ≤ u) (h2 : u ≤ 1000000000) (w : World) :
    Calls Try.prog 105 #[.int .i64 u, .int .i64 P] w fun e w' => e = .returned (.int .i64 (resN (u % (P : Int)).toNat P)) ∧ w = w' := by
  have h5 := (primeN_bd hP).2.1
  have m1 := Int.emod_nonneg u (show (P : Int) ≠ 0 by omega)
  have m2 := Int.emod_lt_of_pos u (show (0 : Int) < (P : Int) by omega)
  obtain ⟨N, hN⟩ := Int.eq_ofNat_of_zero_le m1
  have hNP : N < P := by omega
  obtain ⟨R, hR⟩ : ∃ R, R = resN (u % (P : Int)).toNat P := ⟨_, rfl⟩
  have HR := hid hR
  have H0 : Hid (Nat.gcd N P = 1 ∧ P % 2 = 1 ∧ 1 * jaS (N : Int) (P : Int) = R) := hid (by
    refine ⟨?_, odd_two hP h3, ?_⟩
    · rw [Nat.gcd_comm]
      refine prime_coprime hP ?_
      have := emod_ndvd (by omega) hd
      rw [hN] at this
      exact this
    · rw [Int.one_mul, jaS_prime _ hP h3, hR, ← hN, Int.emod_emod_of_dvd u (Int.dvd_refl _)])
  have HN := hid hN
  rw [← hR]
  clear hR hN hd m1 m2
  go_enter Try.func105, Try.ntmps105
  go_wp2_with (go_at_call 107; refine (rest_any u (P : Int) (by omega) (by omega) (by omega) (by omega) _).mono ?_; rw [HN.out]; rintro e w' ⟨rfl, rfl⟩)
  go_loop [0, 1, 5] (fun sn sm ss => ∃ (n m : Nat) (s : Int), sn = .int .i64 n ∧ sm = .int .i64 m ∧ ss = .int .i64 s ∧ n ≤ 5000 ∧ 1 ≤ m ∧ m ≤ 5000 ∧ -1 ≤ s ∧ s ≤ 1 ∧ Hid (Nat.gcd n m = 1 ∧ m % 2 = 1 ∧ s * jaS (n : Int) (m : Int) = R)) (fun sn _ _ => (intOf sn).toNat)
  case atStart => exact ⟨N, P, 1, rfl, rfl, rfl, by omega, by omega, h5, by omega, by omega, H0⟩
  case round =>
    obtain ⟨n, m, s, rfl, rfl, rfl, n5, m1, m5, s1, s2, HI⟩ := hrel
    by_cases n0 : n = 0
    · subst n0
      have HF : Hid (s = R) := hid (by
        obtain ⟨g1, g2, g3⟩ := HI.out
        rw [Nat.gcd_zero_left] at g1
        rw [g1] at g3
        rw [← g3]
        have := jaS_zero
        show s = s * jaS 0 1
        rw [this, Int.mul_one])
      go_wp2
      go_ret
      exact ⟨retI HF.out, rfl⟩
    · have hn0 : (n : Int) ≠ 0 := by omega
      have T : ((n : Int) == 0) = false := by rw [beq_eq_false_iff_ne]; exact hn0
      obtain ⟨u1, u2, u3, _⟩ := unit_two (n := n) (by omega)
      obtain ⟨o, ho⟩ := Int.eq_ofNat_of_zero_le (show 0 ≤ unitI (n : Int) 2 by omega)
      have ho1 : 1 ≤ o := by omega
      have ho2 : o ≤ n := by omega
      have ho3 : o % 2 = 1 := by omega
      have hsv := symV_val (a := (n : Int)) (b := (m : Int)) (by omega) (by omega) pl2
      obtain ⟨x, hx⟩ : ∃ x, x = symV (n : Int) (m : Int) 2 := ⟨_, rfl⟩
      rw [← hx] at hsv
      have x1 : -1 ≤ x := by omega
      have x2 : x ≤ 1 := by omega
      have hsx := small_mul s1 s2 x1 x2
      have p1 := hsx.1
      have p2 := hsx.2
      have hml : m % o < o := Nat.mod_lt _ (by omega)
      have HX := hid hx.symm
      have HO := hid ho
      have hvv := val_le 2 (by omega) _ n (Nat.le_refl _)
      obtain ⟨v, hv⟩ : ∃ v, v = val (n : Int).natAbs (2 : Int).toNat := ⟨_, rfl⟩
      have HV := hid hv.symm
      have HNEW : Hid (Nat.gcd (m % o) o = 1 ∧ o % 2 = 1 ∧ s * x * jaS ((m % o : Nat) : Int) (o : Int) = R) := hid (by
        obtain ⟨g1, g2, g3⟩ := HI.out
        refine ⟨gcd_round (by omega) g1 ho, ho3, ?_⟩
        rw [jaS_step (by omega) n5 (by omega) m5 g1 ho] at g3
        rw [hx, Int.mul_assoc]
        exact g3)
      have HM : Hid (((m % o : Nat) : Int) = (m : Int) % (o : Int)) := hid (by rw [Int.natCast_emod])
      clear hsv hx hsx ho u1 u2 u3 hv n0
      go_wp2_with fail
      refine (symbolAtTwo_any _ _ (by omega) (by omega) (by omega) (by omega) (by omega) (by omega) _).mono ?_
      rw [HX.out]
      rintro e w' ⟨rfl, rfl⟩
      go_wp2_with fail
      refine (splitAt_any _ _ (by omega) (by omega) (by omega) (by omega) (by omega) _).mono ?_
      rw [HO.out, HV.out]
      rintro e w' ⟨rfl, rfl⟩
      go_wp2
      go_round
      case rel => exact ⟨m % o, o, s * x, by rw [HM.out], rfl, rfl, by omega, ho1, by omega, p1, p2, HNEW⟩
      case measure =>
        simp only [intOf]
        rw [← HM.out]
        omega

theorem symZero_any (a b : Int) (a0 : a ≠ 0) (b0 : b ≠ 0) (w : World) : Calls Try.prog 100 #[.int .i64 a, .int .i64 b] w fun e w' => e = .returned (.int .i64 (symV a b 0)) ∧ w = w' := by
  by_cases ha : a < 0
  · by_cases hb : b < 0
    · have H : Hid (sgB true = symV a b 0) := hid (by unfold symV symC; rw [cls_zero, cls_zero, if_neg (by omega : ¬ 0 < a), if_neg (by omega : ¬ 0 < b)]; rfl)
      go_enter Try.func100, Try.ntmps100
      go_wp2_with (go_at_call 101; refine (signOf_any _ _).mono ?_; rintro e w' ⟨rfl, rfl⟩)
      go_ret
      exact ⟨retI H.out, rfl⟩
    · have H : Hid (sgB false = symV a b 0) := hid (by unfold symV symC; rw [cls_zero, cls_zero, if_neg (by omega : ¬ 0 < a), if_pos (by omega : 0 < b)]; rfl)
      go_enter Try.func100, Try.ntmps100
      go_wp2_with (go_at_call 101; refine (signOf_any _ _).mono ?_; rintro e w' ⟨rfl, rfl⟩)
      go_ret
      exact ⟨retI H.out, rfl⟩
  · have H : Hid (sgB false = symV a b 0) := hid (by unfold symV symC; rw [cls_zero, cls_zero, if_pos (by omega : 0 < a)]; simp [sgB])
    go_enter Try.func100, Try.ntmps100
    go_wp2_with (go_at_call 101; refine (signOf_any _ _).mono ?_; rintro e w' ⟨rfl, rfl⟩)
    go_ret
    exact ⟨retI H.out, rfl⟩

theorem symOdd_eq (a b : Int) {P : Nat} (hP : primeN P = true) (h3 : 3 ≤ P) : symV a b (P : Int) = sgB (val a.natAbs P % 2 == 1 && val b.natAbs P % 2 == 1 && P % 4 == 3) * (if val b.natAbs P % 2 = 1 then resN (unitI a P % (P : Int)).toNat P else 1) * (if val a.natAbs P % 2 = 1 then resN (unitI b P % (P : Int)).toNat P else 1) := by
  have ho := odd_two hP h3
  rw [symOdd a b h3, cls_odd h3, cls_odd h3]
  congr 2
  dsimp only
  have h1 : val a.natAbs P % 2 = 0 ∨ val a.natAbs P % 2 = 1 := by omega
  have h2 : val b.natAbs P % 2 = 0 ∨ val b.natAbs P % 2 = 1 := by omega
  have h4 : P % 4 = 1 ∨ P % 4 = 3 := by omega
  rcases h1 with e1 | e1 <;> rcases h2 with e2 | e2 <;> rw [e1, e2]
  · simp [halfI, sgB]
  · simp [halfI, sgB]
  · simp [halfI, sgB]
  · rcases h4 with e | e
    · rw [e, halfI_congr (f := 0) (by omega)]; rfl
    · rw [e, halfI_congr (f := 1) (by omega)]; rfl

set_option maxHeartbeats 2000000 in
theorem symP_any (a b : Int) (P B : Nat) (hP : primeN P = true) (h3 : 3 ≤ P) (a0 : a ≠ 0) (b0 : b ≠ 0) (a1 : -1000000000 ≤ a) (a2 : a ≤ 1000000000) (b1 : -1000000000 ≤ b) (b2 : b ≤ 1000000000) (w : World) (hc : w.cell? ⟨B, 0, none⟩ = some (.int .i64 P)) :
    Calls Try.prog 103 #[.int .i64 a, .int .i64 b, .pointer (some ⟨B, 0, none⟩)] w fun e w' => e = .returned (.int .i64 (symV a b (P : Int))) ∧ w = w' := by
  have h5 := (primeN_bd hP).2.1
  have hub := unit_bd a P
  have hvb := unit_bd b P
  have HE := hid (symOdd_eq a b hP h3)
  have A0 := hid a0
  have B0 := hid b0
  have HP := hid hP
  obtain ⟨i, hi⟩ : ∃ i, i = val a.natAbs P := ⟨_, rfl⟩
  obtain ⟨j, hj⟩ : ∃ j, j = val b.natAbs P := ⟨_, rfl⟩
  obtain ⟨U, hU⟩ : ∃ U, U = unitI a (P : Int) := ⟨_, rfl⟩
  obtain ⟨V, hV⟩ : ∃ V, V = unitI b (P : Int) := ⟨_, rfl⟩
  have hiv := val_le P (by omega) _ a.natAbs (Nat.le_refl _)
  have hjv := val_le P (by omega) _ b.natAbs (Nat.le_refl _)
  have hud : ¬ P ∣ (unitI a (P : Int)).natAbs := unit_dvd hP a0
  have hvd : ¬ P ∣ (unitI b (P : Int)).natAbs := unit_dvd hP b0
  rw [← hi, ← hj, ← hU, ← hV] at HE
  rw [← hi] at hiv
  rw [← hj] at hjv
  rw [← hU] at hub hud
  rw [← hV] at hvb hvd
  have HI : Hid (val a.natAbs (P : Int).toNat = i) := hid hi.symm
  have HJ : Hid (val b.natAbs (P : Int).toNat = j) := hid hj.symm
  have HU := hid hU.symm
  have HV := hid hV.symm
  have HUD := hid hud
  have HVD := hid hvd
  obtain ⟨x, hx⟩ : ∃ x, x = resN (U % (P : Int)).toNat P := ⟨_, rfl⟩
  obtain ⟨y, hy⟩ : ∃ y, y = resN (V % (P : Int)).toNat P := ⟨_, rfl⟩
  have sx := resN_small hP h3 (U % (P : Int)).toNat
  have sy := resN_small hP h3 (V % (P : Int)).toNat
  rw [← hx, ← hy] at HE
  rw [← hx] at sx
  rw [← hy] at sy
  have HX := hid hx.symm
  have HY := hid hy.symm
  have sx1 := sx.1
  have sx2 := sx.2
  have sy1 := sy.1
  have sy2 := sy.2
  have hsxy := small_mul sx1 sx2 sy1 sy2
  clear hi hj hU hV hx hy sx sy a0 b0 hud hvd hP
  have hi2 : i % 2 = 0 ∨ i % 2 = 1 := by omega
  have hj2 : j % 2 = 0 ∨ j % 2 = 1 := by omega
  have hp4 : P % 4 = 3 ∨ ¬ P % 4 = 3 := by omega
  have key : ∀ t : Bool, (i % 2 == 1 && j % 2 == 1 && P % 4 == 3) = t → ∃ s, sgB t = s ∧ -1 ≤ s ∧ s ≤ 1 ∧ Hid (symV a b (P : Int) = s * (if j % 2 = 1 then x else 1) * (if i % 2 = 1 then y else 1)) := fun t h => ⟨_, rfl, (sgB_small _).1, (sgB_small _).2, hid (by rw [HE.out, h])⟩
  rcases hi2 with e1 | e1 <;> rcases hj2 with e2 | e2 <;> rcases hp4 with e3 | e3
  all_goals
    first
      | have hk : (i % 2 == 1 && j % 2 == 1 && P % 4 == 3) = false := by simp [e1, e2, e3]
      | have hk : (i % 2 == 1 && j % 2 == 1 && P % 4 == 3) = true := by simp [e1, e2, e3]
    obtain ⟨s, hs, s1, s2, HS⟩ := key _ hk
    clear hk
    rw [e1, e2] at HS
    have hsx := small_mul s1 s2 sx1 sx2
    have hsy := small_mul s1 s2 sy1 sy2
    have hsz := small_mul hsx.1 hsx.2 sy1 sy2
    have p1 := hsx.1
    have p2 := hsx.2
    have q1 := hsy.1
    have q2 := hsy.2
    have r1 := hsz.1
    have r2 := hsz.2
    have HT := hid hs
    first
      | have Ti : ((i : Int) % 2 == 1) = true := by rw [beq_iff_eq]; omega
      | have Ti : ((i : Int) % 2 == 1) = false := by rw [beq_eq_false_iff_ne]; omega
    first
      | have Tj : ((j : Int) % 2 == 1) = true := by rw [beq_iff_eq]; omega
      | have Tj : ((j : Int) % 2 == 1) = false := by rw [beq_eq_false_iff_ne]; omega
    first
      | have Tp : ((P : Int) % 4 == 3) = true := by rw [beq_iff_eq]; omega
      | have Tp : ((P : Int) % 4 == 3) = false := by rw [beq_eq_false_iff_ne]; omega
    clear hs hsx hsy hsz key HE e1 e2 e3 hsxy
    go_enter Try.func103, Try.ntmps103
    go_wp2_with fail
    refine (splitAt_any a P A0.out a1 a2 (by omega) (by omega) _).mono ?_
    rw [HI.out, HU.out]
    rintro e w' ⟨rfl, rfl⟩
    go_wp2_with fail
    refine (splitAt_any b P B0.out b1 b2 (by omega) (by omega) _).mono ?_
    rw [HJ.out, HV.out]
    rintro e w' ⟨rfl, rfl⟩
    go_wp2_with (first | (go_at_call 101; refine (signOf_any _ _).mono ?_; rw [HT.out]; rintro e w' ⟨rfl, rfl⟩) | (go_at_call 105; refine (residueSign_any _ _ HP.out h3 (by first | exact HUD.out | exact HVD.out) (by omega) (by omega) _).mono ?_; (first | rw [HX.out] | rw [HY.out]); rintro e w' ⟨rfl, rfl⟩))
    go_ret
    exact ⟨retI (by rw [HS.out]; simp), rfl⟩

/-- what symbolAt hands back -/
theorem symbolAt_zero (w : World) : Calls Try.prog 96 #[.int .i64 0] w fun e w' => e = .returned (.func (.func 100) #[] #[]) ∧ w = w' := by
  go_enter Try.func96, Try.ntmps96
  go_wp2
  go_ret
  exact ⟨rfl, rfl⟩
theorem symbolAt_two (w : World) : Calls Try.prog 96 #[.int .i64 2] w fun e w' => e = .returned (.func (.func 102) #[] #[]) ∧ w = w' := by
  go_enter Try.func96, Try.ntmps96
  go_wp2
  go_ret
  exact ⟨rfl, rfl⟩
theorem symbolAt_odd (P : Nat) (h3 : 3 ≤ P) (h5 : P ≤ 5000) (w : World) : Calls Try.prog 96 #[.int .i64 P] w fun e w' => e = .returned (.func (.func 103) #[] #[.pointer (some ⟨w.heap.size, 0, none⟩)]) ∧ w' = w.alloc (.cells #[.int .i64 P] 3) := by
  have T0 : ((P : Int) == 0) = false := by rw [beq_eq_false_iff_ne]; omega
  have T2 : ((P : Int) == 2) = false := by rw [beq_eq_false_iff_ne]; omega
  go_enter Try.func96, Try.ntmps96
  go_wp2
  go_ret
  exact ⟨rfl, rfl⟩

/-- a function value that tells the symbol at a place -/
def IsSym (B : Nat) (q : Int) (fv : Value) (w : World) : Prop :=
  (q = 0 ∧ fv = .func (.func 100) #[] #[]) ∨ (q = 2 ∧ fv = .func (.func 102) #[] #[]) ∨
  (∃ P C : Nat, q = (P : Int) ∧ primeN P = true ∧ 3 ≤ P ∧ fv = .func (.func 103) #[] #[.pointer (some ⟨C, 0, none⟩)] ∧ B ≤ C ∧ C < w.heap.size ∧ w.cell? ⟨C, 0, none⟩ = some (.int .i64 P))
theorem IsSym.keep {B : Nat} {q : Int} {fv : Value} {w w' : World} (h : IsSym B q fv w) (hb : Below w.heap.size w w') : IsSym B q fv w' := by
  rcases h with h | h | ⟨P, C, a, b, c, d, e, f, g⟩
  · exact .inl h
  · exact .inr (.inl h)
  · exact .inr (.inr ⟨P, C, a, b, c, d, e, Nat.lt_of_lt_of_le f hb.size, (World.cell?_of_block (hb.block C f)).trans g⟩)
theorem symbolAt_any (q : Int) (hq : plI q = true) (w : World) : Calls Try.prog 96 #[.int .i64 q] w fun e w' => ∃ fv, e = .returned fv ∧ IsSym w.heap.size q fv w' ∧ Below w.heap.size w w' := by
  rcases plI_cases hq with rfl | rfl | ⟨P, rfl, hP, h3, h5⟩
  · refine (symbolAt_zero w).mono ?_
    rintro e w' ⟨rfl, rfl⟩
    exact ⟨_, rfl, .inl ⟨rfl, rfl⟩, Below.refl _ _⟩
  · refine (symbolAt_two w).mono ?_
    rintro e w' ⟨rfl, rfl⟩
    exact ⟨_, rfl, .inr (.inl ⟨rfl, rfl⟩), Below.refl _ _⟩
  · refine (symbolAt_odd P h3 h5 w).mono ?_
    rintro e w' ⟨rfl, rfl⟩
    exact ⟨_, rfl, .inr (.inr ⟨P, _, rfl, hP, h3, rfl, Nat.le_refl _, by simp, (Boxed.new w 3 (.int .i64 P)).cell⟩), (Below.refl _ _).alloc (Nat.le_refl _) _⟩

end Go.Proofs.Ytdclmjmefkgbbab
