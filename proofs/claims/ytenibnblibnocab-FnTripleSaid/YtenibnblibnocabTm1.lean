/-
  Contracts of the model's chapter 6: triples.
-/
import Derived.Test.YtenibnblibnocabBun0
import Derived.Test.YtenibnblibnocabZm2
import Derived.Test.YtenibnblibnocabBun4
import Derived.Test.YtenibnblibnocabTriF
set_option linter.unusedVariables false
namespace Go.Proofs.Ytenibnblibnocab
open Go.RowKit

set_option maxRecDepth 100000 in
set_option maxHeartbeats 2000000 in
theorem tripleIsS_any (a b c : Int) (w : World) : Calls Try.prog 36 #[.int .i64 a, .int .i64 b, .int .i64 c] w fun e w' => e = .returned (.bool (triB a b c)) ∧ w = w' := by
  rcases inR_cases a 1 100000 with ⟨a1, a2, A⟩ | ⟨a1, A⟩ | ⟨a1, a2, A⟩
  · rcases inR_cases b 1 100000 with ⟨b1, b2, B⟩ | ⟨b1, B⟩ | ⟨b1, b2, B⟩
    · rcases inR_cases c 1 100000 with ⟨c1, c2, C⟩ | ⟨c1, C⟩ | ⟨c1, c2, C⟩
      · have ba := mul_bd2 a1 a2
        have bb := mul_bd2 b1 b2
        have bc := mul_bd2 c1 c2
        have ba1 := ba.1
        have ba2 := ba.2
        have bb1 := bb.1
        have bb2 := bb.2
        have bc1 := bc.1
        have bc2 := bc.2
        clear ba bb bc
        have ht0 := fun (g : Nat) (h : g = Nat.gcd a.natAbs b.natAbs) => triB_in2 h A B C
        have ht := triB_in A B C
        by_cases e : a * a + b * b = c * c
        · have T1 : (a * a + b * b == c * c) = true := by rw [beq_iff_eq]; exact e
          by_cases o : a % 2 = 1
          · have T2 : (a % 2 == 1) = true := by rw [beq_iff_eq]; exact o
            have T3 : (b % 2 == 0) = true := by rw [beq_iff_eq]; exact tri_even e o
            obtain ⟨g, hg⟩ : ∃ g, g = Nat.gcd a.natAbs b.natAbs := ⟨_, rfl⟩
            have HG := hid hg.symm
            have ht := ht0 g hg
            rw [decide_eq_true e, decide_eq_true o] at ht
            by_cases hg1 : g = 1
            · have T4 : ((g : Int) == 1) = true := by rw [beq_iff_eq]; omega
              rw [decide_eq_true hg1] at ht
              have HT := hid ht
              clear ht0 hg hg1 ht e o
              go_enter Try.func36, Try.ntmps36
              go_wp2_with (first | (go_at_call 79; refine (l6In_any _ _ _ _).mono ?_; rintro e w' ⟨rfl, rfl⟩) | (go_at_call 83; refine (l1Gcd_any _ _ (by omega) (by omega) (by omega) (by omega) _).mono ?_; rw [HG.out]; rintro e w' ⟨rfl, rfl⟩))
              go_ret
              exact ⟨retB HT.out.symm, rfl⟩
            · have T4 : ((g : Int) == 1) = false := by rw [beq_eq_false_iff_ne]; omega
              rw [decide_eq_false hg1] at ht
              have HT := hid ht
              clear ht0 hg hg1 ht e o
              go_enter Try.func36, Try.ntmps36
              go_wp2_with (first | (go_at_call 79; refine (l6In_any _ _ _ _).mono ?_; rintro e w' ⟨rfl, rfl⟩) | (go_at_call 83; refine (l1Gcd_any _ _ (by omega) (by omega) (by omega) (by omega) _).mono ?_; rw [HG.out]; rintro e w' ⟨rfl, rfl⟩))
              go_ret
              exact ⟨retB HT.out.symm, rfl⟩
          · have T2 : (a % 2 == 1) = false := by rw [beq_eq_false_iff_ne]; exact o
            rw [decide_eq_false o, Bool.false_and, Bool.and_false] at ht
            have HT := hid ht
            clear ht0 ht e o
            go_enter Try.func36, Try.ntmps36
            go_wp2_with (go_at_call 79; refine (l6In_any _ _ _ _).mono ?_; rintro e w' ⟨rfl, rfl⟩)
            go_ret
            exact ⟨retB HT.out.symm, rfl⟩
        · have T1 : (a * a + b * b == c * c) = false := by rw [beq_eq_false_iff_ne]; exact e
          rw [decide_eq_false e, Bool.false_and] at ht
          have HT := hid ht
          clear ht0 ht e
          go_enter Try.func36, Try.ntmps36
          go_wp2_with (go_at_call 79; refine (l6In_any _ _ _ _).mono ?_; rintro e w' ⟨rfl, rfl⟩)
          go_ret
          exact ⟨retB HT.out.symm, rfl⟩
      all_goals
        have HT := hid (triB_noC (a := a) (b := b) C)
        go_enter Try.func36, Try.ntmps36
        go_wp2_with (go_at_call 79; refine (l6In_any _ _ _ _).mono ?_; rintro e w' ⟨rfl, rfl⟩)
        go_ret
        exact ⟨retB HT.out.symm, rfl⟩
    all_goals
      have HT := hid (triB_noB (a := a) (c := c) B)
      go_enter Try.func36, Try.ntmps36
      go_wp2_with (go_at_call 79; refine (l6In_any _ _ _ _).mono ?_; rintro e w' ⟨rfl, rfl⟩)
      go_ret
      exact ⟨retB HT.out.symm, rfl⟩
  all_goals
    have HT := hid (triB_noA (b := b) (c := c) A)
    go_enter Try.func36, Try.ntmps36
    go_wp2_with (go_at_call 79; refine (l6In_any _ _ _ _).mono ?_; rintro e w' ⟨rfl, rfl⟩)
    go_ret
    exact ⟨retB HT.out.symm, rfl⟩

theorem mk_bd {m n : Int} (m1 : 2 ≤ m) (m2 : m ≤ 316) (n1 : 1 ≤ n) (n2 : n ≤ m - 1) : 0 ≤ m * m ∧ m * m ≤ 99856 ∧ 0 ≤ n * n ∧ n * n ≤ 99856 ∧ 0 ≤ 2 * m * n ∧ 2 * m * n ≤ 199712 := by
  have e1 := Int.mul_le_mul m2 m2 (by omega) (show (0 : Int) ≤ 316 by omega)
  have e2 := Int.mul_nonneg (show 0 ≤ m by omega) (show 0 ≤ m by omega)
  have e3 := Int.mul_le_mul (show n ≤ 316 by omega) (show n ≤ 316 by omega) (by omega) (show (0 : Int) ≤ 316 by omega)
  have e4 := Int.mul_nonneg (show 0 ≤ n by omega) (show 0 ≤ n by omega)
  have e5 := Int.mul_le_mul m2 (show n ≤ 316 by omega) (by omega) (show (0 : Int) ≤ 316 by omega)
  have e6 := Int.mul_nonneg (show 0 ≤ m by omega) (show 0 ≤ n by omega)
  rw [Int.mul_assoc]
  omega
theorem makeV_no {m n : Int} (h : makeOk m n = false) : makeV m n = .tuple #[.int .i64 0, .int .i64 0, .int .i64 0, .bool false] := by unfold makeV v4; rw [h]; rfl
theorem makeV_yes {m n : Int} (h : makeOk m n = true) : makeV m n = .tuple #[.int .i64 (m * m - n * n), .int .i64 (2 * m * n), .int .i64 (m * m + n * n), .bool true] := by unfold makeV v4; rw [h]; rfl
set_option maxRecDepth 100000 in
set_option maxHeartbeats 2000000 in
theorem tripleMakeS_any (m n : Int) (w : World) : Calls Try.prog 40 #[.int .i64 m, .int .i64 n] w fun e w' => e = .returned (makeV m n) ∧ w = w' := by
  rcases inR_cases m 2 316 with ⟨m1, m2, M⟩ | ⟨m1, M⟩ | ⟨m1, m2, M⟩
  · have m3 : 1 ≤ m - 1 := by omega
    rcases inR_cases n 1 (m - 1) with ⟨n1, n2, N⟩ | ⟨n1, N⟩ | ⟨n1, n2, N⟩
    · obtain ⟨q1, q2, q3, q4, q5, q6⟩ := mk_bd m1 m2 n1 n2
      cases ht : triB (m * m - n * n) (2 * m * n) (m * m + n * n) with
      | true =>
        have HV := hid (makeV_yes (m := m) (n := n) (by unfold makeOk; rw [M, N]; exact ht))
        have HT := hid ht
        clear ht
        go_enter Try.func40, Try.ntmps40
        go_wp2_with (first | (go_at_call 79; refine (l6In_any _ _ _ _).mono ?_; (first | rw [M] | rw [N]); rintro e w' ⟨rfl, rfl⟩) | (go_at_call 36; refine (tripleIsS_any _ _ _ _).mono ?_; rw [HT.out]; rintro e w' ⟨rfl, rfl⟩))
        refine bodyPost_ret (results_tmp4 rfl _ _ _) rfl ?_
        exact ⟨retV HV.out.symm, rfl⟩
      | false =>
        have HV := hid (makeV_no (m := m) (n := n) (by unfold makeOk; rw [M, N]; exact ht))
        have HT := hid ht
        clear ht
        go_enter Try.func40, Try.ntmps40
        go_wp2_with (first | (go_at_call 79; refine (l6In_any _ _ _ _).mono ?_; (first | rw [M] | rw [N]); rintro e w' ⟨rfl, rfl⟩) | (go_at_call 36; refine (tripleIsS_any _ _ _ _).mono ?_; rw [HT.out]; rintro e w' ⟨rfl, rfl⟩))
        refine bodyPost_ret (results_tmp4 rfl _ _ _) rfl ?_
        exact ⟨retV HV.out.symm, rfl⟩
    all_goals
      have HV := hid (makeV_no (m := m) (n := n) (by unfold makeOk; rw [N, Bool.false_and, Bool.and_false]))
      go_enter Try.func40, Try.ntmps40
      go_wp2_with (go_at_call 79; refine (l6In_any _ _ _ _).mono ?_; (first | rw [M] | rw [N]); rintro e w' ⟨rfl, rfl⟩)
      refine bodyPost_ret (results_tmp4 rfl _ _ _) rfl ?_
      exact ⟨retV HV.out.symm, rfl⟩
  all_goals
    have HV := hid (makeV_no (m := m) (n := n) (by unfold makeOk; rw [M]; rfl))
    go_enter Try.func40, Try.ntmps40
    go_wp2_with (go_at_call 79; refine (l6In_any _ _ _ _).mono ?_; rw [M]; rintro e w' ⟨rfl, rfl⟩)
    refine bodyPost_ret (results_tmp4 rfl _ _ _) rfl ?_
    exact ⟨retV HV.out.symm, rfl⟩

theorem nd_roots (m n : Nat) : rootO ((triC m n + triA m n) / 2) = some m ∧ rootO ((triC m n - triA m n) / 2) = some n := by
  have e1 : (triC m n + triA m n) / 2 = (m : Int) * m := by unfold triC triA; omega
  have e2 : (triC m n - triA m n) / 2 = (n : Int) * n := by unfold triC triA; omega
  rw [e1, e2]
  exact ⟨rootO_of rfl, rootO_of rfl⟩
theorem nd_bds {m n : Nat} (h : Nd m n) (hc : m * m + n * n ≤ 100000) : 1 ≤ triA m n ∧ triA m n ≤ 100000 ∧ 1 ≤ triC m n ∧ triC m n ≤ 100000 ∧ 0 ≤ triC m n - triA m n := by
  obtain ⟨⟨a1, a2⟩, _, ⟨c1, c2⟩, _⟩ := triB_iff.1 (nd_tri2 h hc)
  refine ⟨a1, a2, c1, c2, ?_⟩
  have := Int.mul_nonneg (show (0 : Int) ≤ n by omega) (show (0 : Int) ≤ n by omega)
  unfold triC triA
  omega
set_option maxRecDepth 100000 in
set_option maxHeartbeats 1000000 in
theorem l6kBack_any {m n : Nat} (h : Nd m n) (hc : m * m + n * n ≤ 100000) (w : World) : Calls Try.prog 88 #[.int .i64 (triA m n), .int .i64 (triC m n)] w fun e w' => e = .returned (.tuple #[.int .i64 m, .int .i64 n]) ∧ w = w' := by
  obtain ⟨a1, a2, c1, c2, d⟩ := nd_bds h hc
  obtain ⟨r1, r2⟩ := nd_roots m n
  obtain ⟨a, ha⟩ : ∃ a, a = triA m n := ⟨_, rfl⟩
  obtain ⟨c, hc'⟩ : ∃ c, c = triC m n := ⟨_, rfl⟩
  rw [← ha] at a1 a2 d r1 r2 ⊢
  rw [← hc'] at c1 c2 d r1 r2 ⊢
  have R1 := hid r1
  have R2 := hid r2
  clear r1 r2 ha hc'
  go_enter Try.func88, Try.ntmps88
  go_wp2_with fail
  refine (l5Root_any _ (by omega) (by omega) _).mono ?_
  rw [R1.out]
  rintro e w' ⟨⟨z, hz, _, rfl⟩ | ⟨hz, _⟩, rfl⟩
  · cases hz
    go_wp2_with fail
    refine (l5Root_any _ (by omega) (by omega) _).mono ?_
    rw [R2.out]
    rintro e w' ⟨⟨z, hz, _, rfl⟩ | ⟨hz, _⟩, rfl⟩
    · cases hz
      go_wp2_with fail
      go_ret2
      exact ⟨rfl, rfl⟩
    · cases hz
  · cases hz


theorem chi_bd {m n : Nat} (hc : m * m + n * n ≤ 100000) : 0 ≤ (m : Int) ∧ (m : Int) ≤ 316 ∧ 0 ≤ (n : Int) ∧ (n : Int) ≤ 316 := by
  have := nd_316 hc
  omega
theorem v4_make {m n : Nat} (h : Nd m n) : makeV m n = v4 (triB (triA m n) (triBb m n) (triC m n)) (triA m n) (triBb m n) (triC m n) := by unfold makeV; rw [make_nd h]
theorem nchi_make {m n : Nat} (h : Nd m n) {k : Int} (k0 : 0 ≤ k) (k2 : k ≤ 2) : nchiV k m n = makeV (chiM k.toNat m n) (chiN k.toNat m n) := by
  rw [v4_make (chi_nd h _)]
  unfold nchiV inR
  rw [decide_eq_true k0, decide_eq_true k2]; rfl
theorem chi0 {m n : Nat} (h : Nd m n) : ((chiM 0 m n : Nat) : Int) = 2 * (m : Int) - n ∧ chiN 0 m n = m := by
  obtain ⟨_, h2, _⟩ := h
  exact ⟨by show ((2 * m - n : Nat) : Int) = _; omega, rfl⟩
theorem chi1 (m n : Nat) : ((chiM 1 m n : Nat) : Int) = 2 * (m : Int) + n ∧ chiN 1 m n = m := ⟨by show ((2 * m + n : Nat) : Int) = _; omega, rfl⟩
theorem chi2 (m n : Nat) : ((chiM 2 m n : Nat) : Int) = (m : Int) + 2 * n ∧ chiN 2 m n = n := ⟨by show ((m + 2 * n : Nat) : Int) = _; omega, rfl⟩
set_option maxRecDepth 100000 in
set_option maxHeartbeats 2000000 in
theorem tripleChildS_nd {m n : Nat} (h : Nd m n) (hc : m * m + n * n ≤ 100000) (k : Int) (w : World) : Calls Try.prog 43 #[.int .i64 (triA m n), .int .i64 (triBb m n), .int .i64 (triC m n), .int .i64 k] w fun e w' => e = .returned (nchiV k m n) ∧ w = w' := by
  have HT := hid (nd_tri2 h hc)
  have HB := hid (fun wx => l6kBack_any h hc wx)
  obtain ⟨m1, m2, n1, n2⟩ := chi_bd hc
  have hk : k = 0 ∨ k = 1 ∨ k = 2 ∨ (k < 0 ∨ 2 < k) := by omega
  have H := hid h
  obtain ⟨a, ha⟩ : ∃ a, a = triA m n := ⟨_, rfl⟩
  obtain ⟨b, hb⟩ : ∃ b, b = triBb m n := ⟨_, rfl⟩
  obtain ⟨c, hc'⟩ : ∃ c, c = triC m n := ⟨_, rfl⟩
  rw [← ha, ← hb, ← hc'] at HT ⊢
  rw [← ha, ← hc'] at HB
  clear ha hb hc' h hc
  rcases hk with rfl | rfl | rfl | hk
  · have HV : Hid (nchiV 0 m n = makeV (2 * (m : Int) - n) m) := hid (by rw [nchi_make H.out (by omega) (by omega), ← (chi0 H.out).1, ← (chi0 H.out).2]; rfl)
    obtain ⟨p, q, r, o, hv⟩ := makeV_form (2 * (m : Int) - n) m
    have HM : Hid (∀ wx, Calls Try.prog 40 #[.int .i64 (2 * (m : Int) - n), .int .i64 (m : Int)] wx fun e w' => e = .returned (.tuple #[.int .i64 p, .int .i64 q, .int .i64 r, .bool o]) ∧ wx = w') := hid (fun wx => by rw [← hv]; exact tripleMakeS_any _ _ wx)
    rw [hv] at HV
    clear hv
    go_enter Try.func43, Try.ntmps43
    go_wp2_with (first | (go_at_call 36; refine (tripleIsS_any _ _ _ _).mono ?_; rw [HT.out]; rintro e w' ⟨rfl, rfl⟩) | (go_at_call 88; refine (HB.out _).mono ?_; rintro e w' ⟨rfl, rfl⟩) | (go_at_call 40; refine (HM.out _).mono ?_; rintro e w' ⟨rfl, rfl⟩))
    refine bodyPost_ret (results_tmp4 rfl _ _ _) rfl ?_
    exact ⟨retV HV.out.symm, rfl⟩
  · have HV : Hid (nchiV 1 m n = makeV (2 * (m : Int) + n) m) := hid (by rw [nchi_make H.out (by omega) (by omega), ← (chi1 m n).1, ← (chi1 m n).2]; rfl)
    obtain ⟨p, q, r, o, hv⟩ := makeV_form (2 * (m : Int) + n) m
    have HM : Hid (∀ wx, Calls Try.prog 40 #[.int .i64 (2 * (m : Int) + n), .int .i64 (m : Int)] wx fun e w' => e = .returned (.tuple #[.int .i64 p, .int .i64 q, .int .i64 r, .bool o]) ∧ wx = w') := hid (fun wx => by rw [← hv]; exact tripleMakeS_any _ _ wx)
    rw [hv] at HV
    clear hv
    go_enter Try.func43, Try.ntmps43
    go_wp2_with (first | (go_at_call 36; refine (tripleIsS_any _ _ _ _).mono ?_; rw [HT.out]; rintro e w' ⟨rfl, rfl⟩) | (go_at_call 88; refine (HB.out _).mono ?_; rintro e w' ⟨rfl, rfl⟩) | (go_at_call 40; refine (HM.out _).mono ?_; rintro e w' ⟨rfl, rfl⟩))
    refine bodyPost_ret (results_tmp4 rfl _ _ _) rfl ?_
    exact ⟨retV HV.out.symm, rfl⟩
  · have HV : Hid (nchiV 2 m n = makeV ((m : Int) + 2 * n) n) := hid (by rw [nchi_make H.out (by omega) (by omega), ← (chi2 m n).1, ← (chi2 m n).2]; rfl)
    obtain ⟨p, q, r, o, hv⟩ := makeV_form ((m : Int) + 2 * n) n
    have HM : Hid (∀ wx, Calls Try.prog 40 #[.int .i64 ((m : Int) + 2 * n), .int .i64 (n : Int)] wx fun e w' => e = .returned (.tuple #[.int .i64 p, .int .i64 q, .int .i64 r, .bool o]) ∧ wx = w') := hid (fun wx => by rw [← hv]; exact tripleMakeS_any _ _ wx)
    rw [hv] at HV
    clear hv
    go_enter Try.func43, Try.ntmps43
    go_wp2_with (first | (go_at_call 36; refine (tripleIsS_any _ _ _ _).mono ?_; rw [HT.out]; rintro e w' ⟨rfl, rfl⟩) | (go_at_call 88; refine (HB.out _).mono ?_; rintro e w' ⟨rfl, rfl⟩) | (go_at_call 40; refine (HM.out _).mono ?_; rintro e w' ⟨rfl, rfl⟩))
    refine bodyPost_ret (results_tmp4 rfl _ _ _) rfl ?_
    exact ⟨retV HV.out.symm, rfl⟩
  · have HV : Hid (nchiV k m n = .tuple #[.int .i64 0, .int .i64 0, .int .i64 0, .bool false]) := hid (by
      have : inR k 0 2 = false := by unfold inR; rcases hk with h | h; (· rw [decide_eq_false (show ¬ 0 ≤ k by omega)]; rfl); (· rw [decide_eq_false (show ¬ k ≤ 2 by omega), Bool.and_false])
      unfold nchiV v4; rw [this]; rfl)
    have T0 : (k == 0) = false := beq_eq_false_iff_ne.2 (by omega)
    have T1 : (k == 1) = false := beq_eq_false_iff_ne.2 (by omega)
    have T2 : (k == 2) = false := beq_eq_false_iff_ne.2 (by omega)
    clear hk
    go_enter Try.func43, Try.ntmps43
    go_wp2_with (first | (go_at_call 36; refine (tripleIsS_any _ _ _ _).mono ?_; rw [HT.out]; rintro e w' ⟨rfl, rfl⟩) | (go_at_call 88; refine (HB.out _).mono ?_; rintro e w' ⟨rfl, rfl⟩))
    refine bodyPost_ret (results_tmp4 rfl _ _ _) rfl ?_
    exact ⟨retV HV.out.symm, rfl⟩
set_option maxRecDepth 100000 in
set_option maxHeartbeats 1000000 in
theorem tripleChildS_any (a b c k : Int) (w : World) : Calls Try.prog 43 #[.int .i64 a, .int .i64 b, .int .i64 c, .int .i64 k] w fun e w' => e = .returned (childV a b c k) ∧ w = w' := by
  cases ht : triB a b c with
  | false =>
    have HT := hid ht
    have HV : Hid (childV a b c k = .tuple #[.int .i64 0, .int .i64 0, .int .i64 0, .bool false]) := hid (by unfold childV; rw [ht]; rfl)
    clear ht
    go_enter Try.func43, Try.ntmps43
    go_wp2_with (go_at_call 36; refine (tripleIsS_any _ _ _ _).mono ?_; rw [HT.out]; rintro e w' ⟨rfl, rfl⟩)
    refine bodyPost_ret (results_tmp4 rfl _ _ _) rfl ?_
    exact ⟨retV HV.out.symm, rfl⟩
  | true =>
    obtain ⟨m, n, hn, hm, hk, rfl, rfl, rfl, _, _⟩ := tri_back ht
    have e : childV (triA m n) (triBb m n) (triC m n) k = nchiV k m n := by unfold childV; rw [ht, if_pos rfl, hm, hk]
    rw [e]
    exact tripleChildS_nd hn (nd_c hn ht) k w

theorem v5_no (a b c k : Int) : v5 false a b c k = .tuple #[.int .i64 0, .int .i64 0, .int .i64 0, .int .i64 0, .bool false] := rfl
theorem nparV_root {m n : Nat} (e : m = 2 * n) : nparV m n = .tuple #[.int .i64 0, .int .i64 0, .int .i64 0, .int .i64 0, .bool false] := by
  unfold nparV; rw [decide_eq_false (by omega)]; rfl
theorem nparV_yes {m n : Nat} (e : m ≠ 2 * n) : nparV m n = .tuple #[.int .i64 (triA (parM m n) (parN m n)), .int .i64 (triBb (parM m n) (parN m n)), .int .i64 (triC (parM m n) (parN m n)), .int .i64 (parK m n : Nat), .bool true] := by
  unfold nparV; rw [decide_eq_true e]; rfl
theorem make_par2 {m n : Nat} (h : Nd m n) (e : m ≠ 2 * n) (hc : m * m + n * n ≤ 100000) : makeV (parM m n) (parN m n) = .tuple #[.int .i64 (triA (parM m n) (parN m n)), .int .i64 (triBb (parM m n) (parN m n)), .int .i64 (triC (parM m n) (parN m n)), .bool true] := by
  rw [makeV_yes (make_par h e hc)]; rfl
set_option maxRecDepth 100000 in
set_option maxHeartbeats 4000000 in
theorem tripleParentS_nd {m n : Nat} (h : Nd m n) (hc : m * m + n * n ≤ 100000) (w : World) : Calls Try.prog 47 #[.int .i64 (triA m n), .int .i64 (triBb m n), .int .i64 (triC m n)] w fun e w' => e = .returned (nparV m n) ∧ w = w' := by
  have HT := hid (nd_tri2 h hc)
  have HB := hid (fun wx => l6kBack_any h hc wx)
  obtain ⟨m1, m2, n1, n2⟩ := chi_bd hc
  have hp := h.1
  have hl := h.2.1
  by_cases e : m = 2 * n
  · have HV := hid (nparV_root e)
    obtain ⟨rfl, rfl⟩ := nd_root h e
    have HM : Hid (∀ wx, Calls Try.prog 40 #[.int .i64 1, .int .i64 0] wx fun e w' => e = .returned (.tuple #[.int .i64 0, .int .i64 0, .int .i64 0, .bool false]) ∧ wx = w') := hid (fun wx => by have := tripleMakeS_any 1 0 wx; rwa [makeV_no (m := 1) (n := 0) rfl] at this)
    obtain ⟨a, ha⟩ : ∃ a, a = triA (2 : Nat) (1 : Nat) := ⟨_, rfl⟩
    obtain ⟨b, hb⟩ : ∃ b, b = triBb (2 : Nat) (1 : Nat) := ⟨_, rfl⟩
    obtain ⟨c, hc'⟩ : ∃ c, c = triC (2 : Nat) (1 : Nat) := ⟨_, rfl⟩
    rw [← ha, ← hb, ← hc'] at HT ⊢
    rw [← ha, ← hc'] at HB
    clear ha hb hc' h hc e m1 m2 n1 n2 hp hl
    go_enter Try.func47, Try.ntmps47
    go_wp2_with (first | (go_at_call 36; refine (tripleIsS_any _ _ _ _).mono ?_; rw [HT.out]; rintro e w' ⟨rfl, rfl⟩) | (go_at_call 88; refine (HB.out _).mono ?_; rintro e w' ⟨rfl, rfl⟩) | (go_at_call 40; refine (HM.out _).mono ?_; rintro e w' ⟨rfl, rfl⟩))
    refine bodyPost_ret (results_tmp5 rfl _ _ _) rfl ?_
    exact ⟨retV HV.out.symm, rfl⟩
  · have HV := hid (nparV_yes e)
    have hm := make_par2 h e hc
    obtain ⟨p, hp1⟩ : ∃ p, p = triA (parM m n) (parN m n) := ⟨_, rfl⟩
    obtain ⟨q, hq1⟩ : ∃ q, q = triBb (parM m n) (parN m n) := ⟨_, rfl⟩
    obtain ⟨r, hr1⟩ : ∃ r, r = triC (parM m n) (parN m n) := ⟨_, rfl⟩
    rw [← hp1, ← hq1, ← hr1] at HV hm
    have HM : ∀ (x y : Int), x = parM m n → y = parN m n → Hid (∀ wx, Calls Try.prog 40 #[.int .i64 x, .int .i64 y] wx fun e w' => e = .returned (.tuple #[.int .i64 p, .int .i64 q, .int .i64 r, .bool true]) ∧ wx = w') := fun x y hx hy => hid (fun wx => by rw [hx, hy, ← hm]; exact tripleMakeS_any _ _ wx)
    obtain ⟨a, ha⟩ : ∃ a, a = triA m n := ⟨_, rfl⟩
    obtain ⟨b, hb⟩ : ∃ b, b = triBb m n := ⟨_, rfl⟩
    obtain ⟨c, hc'⟩ : ∃ c, c = triC m n := ⟨_, rfl⟩
    rw [← ha, ← hb, ← hc'] at HT ⊢
    rw [← ha, ← hc'] at HB
    clear ha hb hc' h hc e hm hp1 hq1 hr1
    by_cases l1 : m < 2 * n
    · have HM1 := HM n (2 * (n : Int) - m) (by unfold parM; rw [if_pos l1]) (by unfold parN; rw [if_pos l1]; omega)
      have HK : Hid (((parK m n : Nat) : Int) = 0) := hid (by unfold parK; rw [if_pos l1]; rfl)
      have T : (m : Int) < 2 * (n : Int) := by omega
      clear HM l1
      go_enter Try.func47, Try.ntmps47
      go_wp2_with (first | (go_at_call 36; refine (tripleIsS_any _ _ _ _).mono ?_; rw [HT.out]; rintro e w' ⟨rfl, rfl⟩) | (go_at_call 88; refine (HB.out _).mono ?_; rintro e w' ⟨rfl, rfl⟩) | (go_at_call 40; refine (HM1.out _).mono ?_; rintro e w' ⟨rfl, rfl⟩))
      refine bodyPost_ret (results_tmp5 rfl _ _ _) rfl ?_
      exact ⟨retV (by rw [HV.out, HK.out]; rfl), rfl⟩
    · have T1 : ¬ (m : Int) < 2 * (n : Int) := by omega
      by_cases l2 : m < 3 * n
      · have HM1 := HM n ((m : Int) - 2 * n) (by unfold parM; rw [if_neg l1, if_pos l2]) (by unfold parN; rw [if_neg l1, if_pos l2]; omega)
        have HK : Hid (((parK m n : Nat) : Int) = 1) := hid (by unfold parK; rw [if_neg l1, if_pos l2]; rfl)
        have T : (m : Int) < 3 * (n : Int) := by omega
        clear HM l1 l2
        go_enter Try.func47, Try.ntmps47
        go_wp2_with (first | (go_at_call 36; refine (tripleIsS_any _ _ _ _).mono ?_; rw [HT.out]; rintro e w' ⟨rfl, rfl⟩) | (go_at_call 88; refine (HB.out _).mono ?_; rintro e w' ⟨rfl, rfl⟩) | (go_at_call 40; refine (HM1.out _).mono ?_; rintro e w' ⟨rfl, rfl⟩))
        refine bodyPost_ret (results_tmp5 rfl _ _ _) rfl ?_
        exact ⟨retV (by rw [HV.out, HK.out]; rfl), rfl⟩
      · have HM1 := HM ((m : Int) - 2 * n) n (by unfold parM; rw [if_neg l1, if_neg l2]; omega) (by unfold parN; rw [if_neg l1, if_neg l2])
        have HK : Hid (((parK m n : Nat) : Int) = 2) := hid (by unfold parK; rw [if_neg l1, if_neg l2]; rfl)
        have T : ¬ (m : Int) < 3 * (n : Int) := by omega
        clear HM l1 l2
        go_enter Try.func47, Try.ntmps47
        go_wp2_with (first | (go_at_call 36; refine (tripleIsS_any _ _ _ _).mono ?_; rw [HT.out]; rintro e w' ⟨rfl, rfl⟩) | (go_at_call 88; refine (HB.out _).mono ?_; rintro e w' ⟨rfl, rfl⟩) | (go_at_call 40; refine (HM1.out _).mono ?_; rintro e w' ⟨rfl, rfl⟩))
        refine bodyPost_ret (results_tmp5 rfl _ _ _) rfl ?_
        exact ⟨retV (by rw [HV.out, HK.out]; rfl), rfl⟩
set_option maxRecDepth 100000 in
set_option maxHeartbeats 1000000 in
theorem tripleParentS_any (a b c : Int) (w : World) : Calls Try.prog 47 #[.int .i64 a, .int .i64 b, .int .i64 c] w fun e w' => e = .returned (parentV a b c) ∧ w = w' := by
  cases ht : triB a b c with
  | false =>
    have HT := hid ht
    have HV : Hid (parentV a b c = .tuple #[.int .i64 0, .int .i64 0, .int .i64 0, .int .i64 0, .bool false]) := hid (by unfold parentV; rw [ht]; rfl)
    clear ht
    go_enter Try.func47, Try.ntmps47
    go_wp2_with (go_at_call 36; refine (tripleIsS_any _ _ _ _).mono ?_; rw [HT.out]; rintro e w' ⟨rfl, rfl⟩)
    refine bodyPost_ret (results_tmp5 rfl _ _ _) rfl ?_
    exact ⟨retV HV.out.symm, rfl⟩
  | true =>
    obtain ⟨m, n, hn, hm, hk, rfl, rfl, rfl, _, _⟩ := tri_back ht
    have e : parentV (triA m n) (triBb m n) (triC m n) = nparV m n := by unfold parentV; rw [ht, if_pos rfl, hm, hk]
    rw [e]
    exact tripleParentS_nd hn (nd_c hn ht) w

def DepSt (m n K M N : Nat) : Prop := Nd M N ∧ M * M + N * N ≤ 100000 ∧ K + depN M N = depN m n
/-- what stands in x, y, z, ok -/
def NextSt (M N : Nat) (x y z : Int) (o : Bool) : Prop := (M = 2 * N ∧ o = false) ∨ (M ≠ 2 * N ∧ o = true ∧ x = triA (parM M N) (parN M N) ∧ y = triBb (parM M N) (parN M N) ∧ z = triC (parM M N) (parN M N))
theorem npar_next (M N : Nat) : ∃ (x y z k : Int) (o : Bool), nparV M N = .tuple #[.int .i64 x, .int .i64 y, .int .i64 z, .int .i64 k, .bool o] ∧ NextSt M N x y z o := by
  by_cases e : M = 2 * N
  · exact ⟨0, 0, 0, 0, false, nparV_root e, .inl ⟨e, rfl⟩⟩
  · exact ⟨_, _, _, _, true, nparV_yes e, .inr ⟨e, rfl, rfl, rfl, rfl⟩⟩
theorem dep_316 {m n : Nat} (hc : m * m + n * n ≤ 100000) : depN m n ≤ 316 := Nat.le_trans (dep_le m m n) (nd_316 hc).1
set_option maxRecDepth 100000 in
set_option maxHeartbeats 4000000 in
theorem tripleDepthS_nd {m n : Nat} (h : Nd m n) (hc : m * m + n * n ≤ 100000) (w : World) : Calls Try.prog 49 #[.int .i64 (triA m n), .int .i64 (triBb m n), .int .i64 (triC m n)] w fun e w' => e = .returned (.int .i64 (depN m n : Nat)) ∧ w = w' := by
  have HT := hid (nd_tri2 h hc)
  have hd := dep_316 hc
  have HS : Hid (DepSt m n 0 m n) := hid ⟨h, hc, by omega⟩
  obtain ⟨x, y, z, k, o, hv, hn⟩ := npar_next m n
  have HX := hid hn
  have HP : Hid (∀ wx, Calls Try.prog 47 #[.int .i64 (triA m n), .int .i64 (triBb m n), .int .i64 (triC m n)] wx fun e w' => e = .returned (.tuple #[.int .i64 x, .int .i64 y, .int .i64 z, .int .i64 k, .bool o]) ∧ wx = w') := hid (fun wx => by rw [← hv]; exact tripleParentS_nd h hc wx)
  obtain ⟨D, hD⟩ : ∃ D, D = depN m n := ⟨_, rfl⟩
  rw [← hD] at hd ⊢
  have HD := hid hD
  obtain ⟨a, ha⟩ : ∃ a, a = triA m n := ⟨_, rfl⟩
  obtain ⟨b, hb⟩ : ∃ b, b = triBb m n := ⟨_, rfl⟩
  obtain ⟨c, hc'⟩ : ∃ c, c = triC m n := ⟨_, rfl⟩
  rw [← ha, ← hb, ← hc'] at HT HP ⊢
  clear ha hb hc' h hc hn hv hD
  go_enter Try.func49, Try.ntmps49
  go_wp2_with (first | (go_at_call 36; refine (tripleIsS_any _ _ _ _).mono ?_; rw [HT.out]; rintro e w' ⟨rfl, rfl⟩) | (go_at_call 47; refine (HP.out _).mono ?_; rintro e w' ⟨rfl, rfl⟩))
  go_loop [7, 8, 9, 10, 12] (fun sn sx sy sz so => ∃ (K M N : Nat) (x y z : Int) (o : Bool), sn = .int .i64 K ∧ sx = .int .i64 x ∧ sy = .int .i64 y ∧ sz = .int .i64 z ∧ so = .bool o ∧ K ≤ D ∧ Hid (DepSt m n K M N) ∧ Hid (NextSt M N x y z o)) (fun sn _ _ _ _ => D - (intOf sn).toNat)
  case atStart => exact ⟨0, m, n, x, y, z, o, rfl, rfl, rfl, rfl, rfl, by omega, HS, HX⟩
  case round =>
    obtain ⟨K, M, N, x, y, z, o, rfl, rfl, rfl, rfl, rfl, hK, HS, HX⟩ := hrel
    cases o with
    | false =>
      have HE : Hid (depN m n = K) := hid (by
        obtain ⟨h1, h2, h3⟩ := HS.out
        rcases HX.out with ⟨e, _⟩ | ⟨_, h, _⟩
        · rw [dep_root e] at h3; omega
        · cases h)
      go_wp2
      go_ret
      exact ⟨retI (by rw [HD.out, HE.out]), rfl⟩
    | true =>
      have hne : M ≠ 2 * N := by rcases HX.out with ⟨_, h⟩ | ⟨h, _⟩; (· cases h); exact h
      obtain ⟨rfl, rfl, rfl⟩ : x = triA (parM M N) (parN M N) ∧ y = triBb (parM M N) (parN M N) ∧ z = triC (parM M N) (parN M N) := by rcases HX.out with ⟨_, h⟩ | ⟨_, _, h⟩; (· cases h); exact h
      obtain ⟨h1, h2, h3⟩ := HS.out
      have hs := dep_step h1 hne
      have hp := (par_nd h1 hne).1
      have hpc := par_c h1 hne h2
      have hst : DepSt m n (K + 1) (parM M N) (parN M N) := ⟨hp, hpc, by omega⟩
      have hK1 : K + 1 ≤ D := by rw [HD.out]; omega
      have HS2 := hid hst
      obtain ⟨P, hP⟩ : ∃ P, P = parM M N := ⟨_, rfl⟩
      obtain ⟨Q, hQ⟩ : ∃ Q, Q = parN M N := ⟨_, rfl⟩
      rw [← hP, ← hQ] at HS2 hp hpc ⊢
      obtain ⟨x, y, z, k, o, hv, hn⟩ := npar_next P Q
      have HX2 := hid hn
      have HP2 : Hid (∀ wx, Calls Try.prog 47 #[.int .i64 (triA P Q), .int .i64 (triBb P Q), .int .i64 (triC P Q)] wx fun e w' => e = .returned (.tuple #[.int .i64 x, .int .i64 y, .int .i64 z, .int .i64 k, .bool o]) ∧ wx = w') := hid (fun wx => by rw [← hv]; exact tripleParentS_nd hp hpc wx)
      obtain ⟨a2, ha⟩ : ∃ a, a = triA P Q := ⟨_, rfl⟩
      obtain ⟨b2, hb⟩ : ∃ b, b = triBb P Q := ⟨_, rfl⟩
      obtain ⟨c2, hc'⟩ : ∃ c, c = triC P Q := ⟨_, rfl⟩
      rw [← ha, ← hb, ← hc'] at HP2 ⊢
      clear hP hQ hp hpc hst h1 h2 h3 hs hne hn hv ha hb hc' HX HS
      go_wp2_with (go_at_call 47; refine (HP2.out _).mono ?_; rintro e w' ⟨rfl, rfl⟩)
      go_round
      case measure => simp only [intOf]; omega
      case rel => exact ⟨K + 1, P, Q, x, y, z, o, by go_num, rfl, rfl, rfl, rfl, hK1, HS2, HX2⟩
set_option maxRecDepth 100000 in
set_option maxHeartbeats 1000000 in
theorem tripleDepthS_any (a b c : Int) (w : World) : Calls Try.prog 49 #[.int .i64 a, .int .i64 b, .int .i64 c] w fun e w' => e = .returned (.int .i64 (depthV a b c)) ∧ w = w' := by
  cases ht : triB a b c with
  | false =>
    have HT := hid ht
    have HV : Hid (depthV a b c = -1) := hid (by unfold depthV; rw [ht]; rfl)
    clear ht
    go_enter Try.func49, Try.ntmps49
    go_wp2_with (go_at_call 36; refine (tripleIsS_any _ _ _ _).mono ?_; rw [HT.out]; rintro e w' ⟨rfl, rfl⟩)
    go_ret
    exact ⟨retI HV.out.symm, rfl⟩
  | true =>
    obtain ⟨m, n, hn, hm, hk, rfl, rfl, rfl, _, _⟩ := tri_back ht
    have e : depthV (triA m n) (triBb m n) (triC m n) = (depN m n : Nat) := by unfold depthV; rw [ht, if_pos rfl, hm, hk]
    rw [e]
    exact tripleDepthS_nd hn (nd_c hn ht) w

end Go.Proofs.Ytenibnblibnocab
