/-
  Contracts of the model's chapter 2: places, local squares, names.
-/
import Derived.Test.YtdidmblkknnglaaVals
set_option linter.unusedVariables false
namespace Go.Proofs.Ytdidmblkknnglaa
open Go.RowKit

theorem owns_lit {W : World} {B : Nat} (xs : List Int) (cur : Array Value) (hc : cur = (xs.map (Value.int .i64)).toArray) (hB : B ≤ W.heap.size) (hm : xs.length ≤ maxLen) :
    Owns (W.alloc (.cells cur 3)) B (.slice (some ⟨W.heap.size, 0, none⟩) xs.length xs.length) xs := by
  subst hc
  refine ⟨by simp, .inr ⟨W.heap.size, xs.length, _, rfl, hB, heap_alloc_new W _, Nat.le_refl _, hm, by simp, ?_⟩⟩
  rw [List.take_of_length_le (by simp)]

theorem unit_bd (n p : Int) : (unitI n p).natAbs ≤ n.natAbs := by
  unfold unitI
  rw [Int.natAbs_tdiv]
  exact Nat.div_le_self _ _

theorem placeValidS_any (q : Int) (w : World) : Calls Try.prog 59 #[.int .i64 q] w fun e w' => e = .returned (.bool (plI q)) ∧ w = w' := by
  by_cases h : q = 0
  · subst h
    go_enter Try.func59, Try.ntmps59
    go_wp2
    go_ret
    exact ⟨rfl, rfl⟩
  · have T : (q == 0) = false := by rw [beq_eq_false_iff_ne]; exact h
    have HP : Hid (plI q = primeI q) := by show _ = _; unfold plI; rw [decide_eq_false h, Bool.false_or]
    clear h
    go_enter Try.func59, Try.ntmps59
    go_wp2_with (go_at_call 75; refine (primeIsS_any _ _).mono ?_; rintro e w' ⟨rfl, rfl⟩)
    go_ret
    exact ⟨retB HP.out.symm, rfl⟩

theorem beq_pair (a b : Nat) (c d : Int) : (((a, c) : Nat × Int) == (b, d)) = ((a == b) && (c == d)) := rfl

set_option maxHeartbeats 400000 in
theorem l2Square_any (n q : Int) (h0 : n ≠ 0) (h1 : -1000000000000000 ≤ n) (h2 : n ≤ 1000000000000000) (hq : plI q = true) (w : World) :
    Calls Try.prog 83 #[.int .i64 n, .int .i64 q] w fun e w' => e = .returned (.bool (sqAt n q)) ∧ w = w' := by
  have hub := unit_bd n q
  rcases plI_cases hq with rfl | rfl | ⟨P, rfl, hP, h3, h5⟩
  · have HD : Hid (sqAt n 0 = decide (0 < n)) := by
      show _ = _
      unfold sqAt
      rw [cls_zero]
      by_cases h : 0 < n
      · rw [if_pos h, decide_eq_true h]; rfl
      · rw [if_neg h, decide_eq_false h]; rfl
    clear hq hub
    by_cases h : 0 < n
    · rw [HD.out, decide_eq_true h]
      go_enter Try.func83, Try.ntmps83
      go_wp2
      go_ret
      exact ⟨rfl, rfl⟩
    · rw [HD.out, decide_eq_false h]
      go_enter Try.func83, Try.ntmps83
      go_wp2
      go_ret
      exact ⟨rfl, rfl⟩
  · have HE : Hid (sqAt n 2 = ((val n.natAbs 2 % 2 == 0) && (unitI n 2 % 8 == 1))) := by
      show _ = _
      unfold sqAt
      rw [cls_two, beq_pair]
    have hval : Hid (val n.natAbs (2 : Int).toNat = val n.natAbs 2) := rfl
    obtain ⟨V, hV⟩ : ∃ V, V = val n.natAbs 2 := ⟨_, rfl⟩
    obtain ⟨U, hU⟩ : ∃ U, U = unitI n 2 := ⟨_, rfl⟩
    rw [← hV, ← hU] at HE
    rw [← hU] at hub
    have hv2 := val_le 2 (Nat.le_refl _) _ n.natAbs (Nat.le_refl _)
    rw [← hV] at hv2
    have HV := hid hV
    have HU : Hid (n.tdiv (2 ^ V) = U) := hid (by rw [hU, hV]; rfl)
    clear hV hU hq
    by_cases hv : V % 2 = 0
    · have T : ((V : Int) % 2 == 0) = true := by rw [beq_iff_eq]; omega
      have HF : Hid (sqAt n 2 = (U % 8 == 1)) := by show _ = _; rw [HE.out, hv]; rfl
      clear hv
      go_enter Try.func83, Try.ntmps83
      go_wp2_with (first | (go_at_call 92; refine (l1Valuation_any _ _ h0 h1 h2 (by decide) (by decide) _).mono ?_; rw [hval.out, ← HV.out, HU.out]; rintro e w' ⟨rfl, rfl⟩) | (go_at_call 77; refine (l1Mod_any _ _ (by omega) (by omega) (by decide) (by decide) _).mono ?_; rintro e w' ⟨rfl, rfl⟩))
      go_ret
      exact ⟨retB HF.out.symm, rfl⟩
    · have T : ((V : Int) % 2 == 0) = false := by rw [beq_eq_false_iff_ne]; omega
      have HF : Hid (sqAt n 2 = false) := by
        show _ = _
        rw [HE.out, show (V % 2 == 0) = false by rw [beq_eq_false_iff_ne]; exact hv]; rfl
      clear hv
      go_enter Try.func83, Try.ntmps83
      go_wp2_with (first | (go_at_call 92; refine (l1Valuation_any _ _ h0 h1 h2 (by decide) (by decide) _).mono ?_; rw [hval.out, ← HV.out, HU.out]; rintro e w' ⟨rfl, rfl⟩))
      go_ret
      exact ⟨retB HF.out.symm, rfl⟩
  · have HE : Hid (sqAt n (P : Int) = ((val n.natAbs P % 2 == 0) && (resN (unitI n (P : Int) % (P : Int)).toNat P == 1))) := by
      show _ = _
      unfold sqAt
      rw [cls_odd h3, beq_pair]
    have hval : Hid (val n.natAbs (P : Int).toNat = val n.natAbs P) := rfl
    obtain ⟨V, hV⟩ : ∃ V, V = val n.natAbs P := ⟨_, rfl⟩
    obtain ⟨U, hU⟩ : ∃ U, U = unitI n (P : Int) := ⟨_, rfl⟩
    rw [← hV, ← hU] at HE
    rw [← hU] at hub
    have hv2 := val_le P (by omega) _ n.natAbs (Nat.le_refl _)
    rw [← hV] at hv2
    have HV := hid hV
    have HU : Hid (n.tdiv ((P : Int) ^ V) = U) := hid (by rw [hU, hV]; rfl)
    have T2 : ((P : Int) == 2) = false := by rw [beq_eq_false_iff_ne]; omega
    have T0 : ((P : Int) == 0) = false := by rw [beq_eq_false_iff_ne]; omega
    have hR : Hid (resN (U % (P : Int)).toNat (P : Int).toNat = resN (U % (P : Int)).toNat P) := rfl
    have hsm := resN_small hP h3 (U % (P : Int)).toNat
    obtain ⟨R, hRe⟩ : ∃ R, R = resN (U % (P : Int)).toNat P := ⟨_, rfl⟩
    rw [← hRe] at hsm HE
    have HR := hid hRe
    clear hV hU hq hRe
    by_cases hv : V % 2 = 0
    · have T : ((V : Int) % 2 == 0) = true := by rw [beq_iff_eq]; omega
      have HF : Hid (sqAt n (P : Int) = (R == 1)) := by show _ = _; rw [HE.out, hv]; rfl
      clear hv
      go_enter Try.func83, Try.ntmps83
      go_wp2_with (first | (go_at_call 92; refine (l1Valuation_any _ _ h0 h1 h2 (by omega) (by omega) _).mono ?_; rw [hval.out, ← HV.out, HU.out]; rintro e w' ⟨rfl, rfl⟩) | (go_at_call 93; refine (l1Residue_any _ _ (by omega) (by omega) (by omega) (by omega) _).mono ?_; rw [hR.out, ← HR.out]; rintro e w' ⟨rfl, rfl⟩))
      go_ret
      exact ⟨retB HF.out.symm, rfl⟩
    · have T : ((V : Int) % 2 == 0) = false := by rw [beq_eq_false_iff_ne]; omega
      have HF : Hid (sqAt n (P : Int) = false) := by
        show _ = _
        rw [HE.out, show (V % 2 == 0) = false by rw [beq_eq_false_iff_ne]; exact hv]; rfl
      clear hv
      go_enter Try.func83, Try.ntmps83
      go_wp2_with (first | (go_at_call 92; refine (l1Valuation_any _ _ h0 h1 h2 (by omega) (by omega) _).mono ?_; rw [hval.out, ← HV.out, HU.out]; rintro e w' ⟨rfl, rfl⟩))
      go_ret
      exact ⟨retB HF.out.symm, rfl⟩

theorem l2Ok_any (n q : Int) (w : World) : Calls Try.prog 81 #[.int .i64 n, .int .i64 q] w fun e w' => e = .returned (.bool (okAt n q)) ∧ w = w' := by
  rcases factB_cases n with ⟨h1, h2, h0, O, hF⟩ | ⟨rfl, hF⟩ | ⟨h0, O, hF⟩
  · have T : (n != 0) = true := by rw [bne_iff_ne]; exact h0
    have T2 : (n == 0) = false := by rw [beq_eq_false_iff_ne]; exact h0
    have HK : Hid (okAt n q = plI q) := by show _ = _; unfold okAt; rw [hF, Bool.true_and]
    clear hF h0
    go_enter Try.func81, Try.ntmps81
    go_wp2_with (first | (go_at_call 70; refine (l1Number_any _ _).mono ?_; rintro e w' ⟨rfl, rfl⟩) | (go_at_call 59; refine (placeValidS_any _ _).mono ?_; rintro e w' ⟨rfl, rfl⟩))
    go_ret
    exact ⟨retB HK.out.symm, rfl⟩
  · have O : okN 0 = true := rfl
    have HK : Hid (okAt 0 q = false) := by show _ = _; unfold okAt; rw [hF, Bool.false_and]
    clear hF
    go_enter Try.func81, Try.ntmps81
    go_wp2_with (first | (go_at_call 70; refine (l1Number_any _ _).mono ?_; rintro e w' ⟨rfl, rfl⟩))
    go_ret
    exact ⟨retB HK.out.symm, rfl⟩
  · have HK : Hid (okAt n q = false) := by show _ = _; unfold okAt; rw [hF, Bool.false_and]
    clear hF
    go_enter Try.func81, Try.ntmps81
    go_wp2_with (first | (go_at_call 70; refine (l1Number_any _ _).mono ?_; rintro e w' ⟨rfl, rfl⟩))
    go_ret
    exact ⟨retB HK.out.symm, rfl⟩



theorem l2Names_any (q : Int) (hq : plI q = true) (w : World) : Calls Try.prog 82 #[.int .i64 q] w fun e w' => ∃ v, e = .returned v ∧ Owns w' w.heap.size v (namesOf q) ∧ Below w.heap.size w w' := by
  rcases plI_cases hq with rfl | rfl | ⟨P, rfl, hP, h3, h5⟩
  · go_enter Try.func82, Try.ntmps82
    go_wp2
    go_ret
    exact ⟨_, rfl, owns_lit [1, -1] _ rfl (Nat.le_refl _) (by unfold maxLen; simp), (Below.refl _ _).alloc (Nat.le_refl _) _⟩
  · go_enter Try.func82, Try.ntmps82
    go_wp2
    go_ret
    exact ⟨_, rfl, owns_lit [1, 3, 5, 7, 2, 6, 10, 14] _ rfl (Nat.le_refl _) (by unfold maxLen; simp), (Below.refl _ _).alloc (Nat.le_refl _) _⟩
  · obtain ⟨s1, s2, s3, s4, _⟩ := noneF_spec hP h3
    have HN := hid (names_odd h3)
    have HP : Hid (primeI (P : Int) = true) := hid hP
    obtain ⟨u, hu⟩ : ∃ u, u = noneF P := ⟨_, rfl⟩
    have T2 : ((P : Int) == 2) = false := by rw [beq_eq_false_iff_ne]; omega
    have T0 : ((P : Int) == 0) = false := by rw [beq_eq_false_iff_ne]; omega
    have hm := Nat.mul_le_mul h5 (show u ≤ 63 by omega)
    have m1 : (0 : Int) ≤ (P : Int) * (u : Int) := by rw [← Int.natCast_mul]; exact Int.natCast_nonneg _
    have m2 : (P : Int) * (u : Int) ≤ 315000 := by rw [← Int.natCast_mul]; omega
    have HU : Hid (noneF (P : Int).toNat = u) := hid hu.symm
    have HL : Hid (namesOf (P : Int) = [1, (u : Int), (P : Int), (P : Int) * (u : Int)]) := hid (by rw [HN.out, hu])
    clear hu s4 hq hm
    go_enter Try.func82, Try.ntmps82
    go_wp2_with (go_at_call 102; refine (l1None_any _ HP.out (by omega) (by omega) _).mono ?_; rw [HU.out]; rintro e w' ⟨rfl, rfl⟩)
    go_ret
    exact ⟨_, rfl, by rw [HL.out]; exact owns_lit [1, (u : Int), (P : Int), (P : Int) * (u : Int)] _ rfl (Nat.le_refl _) (by unfold maxLen; simp), (Below.refl _ _).alloc (Nat.le_refl _) _⟩



end Go.Proofs.Ytdidmblkknnglaa
