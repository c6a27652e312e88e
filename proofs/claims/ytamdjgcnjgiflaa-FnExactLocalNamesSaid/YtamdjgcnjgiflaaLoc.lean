/-
  Contracts of the model's chapter 2: places, local squares, names.
-/
import Derived.Test.YtamdjgcnjgiflaaVals
set_option linter.unusedVariables false
namespace Go.Proofs.Ytamdjgcnjgiflaa
open Go.RowKit

theorem owns_lit {W : World} {B : Nat} (xs : List Int) (cur : Array Value) (hc : cur = (xs.map (Value.int .i64)).toArray) (hB : B ≤ W.heap.size) (hm : xs.length ≤ maxLen) :
    Owns (W.alloc (.cells cur 3)) B (.slice (some ⟨W.heap.size, 0, none⟩) xs.length xs.length) xs := by
  subst hc
  refine ⟨by simp, .inr ⟨W.heap.size, xs.length, _, rfl, hB, heap_alloc_new W _, Nat.le_refl _, hm, by simp, ?_⟩⟩
  rw [List.take_of_length_le (by simp)]

theorem unit_bd (n p : Int) : (unitI n p).natAbs ≤ n.natAbs := by
  unfold unitI
  rw [Int.natAbs_tdiv]
  exact Nat.div_le_self _ _

theorem placeValidS_any (q : Int) (w : World) : Calls Try.prog 47 #[.int .i64 q] w fun e w' => e = .returned (.bool (plI q)) ∧ w = w' := by
  by_cases h : q = 0
  · subst h
    go_enter Try.func47, Try.ntmps47
    go_wp2
    go_ret
    exact ⟨rfl, rfl⟩
  · have T : (q == 0) = false := by rw [beq_eq_false_iff_ne]; exact h
    have HP : Hid (plI q = primeI q) := by show _ = _; unfold plI; rw [decide_eq_false h, Bool.false_or]
    clear h
    go_enter Try.func47, Try.ntmps47
    go_wp2_with (go_at_call 76; refine (primeIsS_any _ _).mono ?_; rintro e w' ⟨rfl, rfl⟩)
    go_ret
    exact ⟨retB HP.out.symm, rfl⟩

theorem beq_pair (a b : Nat) (c d : Int) : (((a, c) : Nat × Int) == (b, d)) = ((a == b) && (c == d)) := rfl

set_option maxHeartbeats 400000 in
theorem l2Square_any (n q : Int) (h0 : n ≠ 0) (h1 : -1000000000000000 ≤ n) (h2 : n ≤ 1000000000000000) (hq : plI q = true) (w : World) :
    Calls Try.prog 58 #[.int .i64 n, .int .i64 q] w fun e w' => e = .returned (.bool (sqAt n q)) ∧ w = w' := by
  have hub := unit_bd n q
  rcases plI_cases hq with rfl | rfl | ⟨P, rfl, hP, h3, h5⟩
  · have HD : Hid (sqAt n 0 = decide (0 < n)) := by
      show _ = _
      unfold sqAt
      rw [cls_zero]
      by_cases h : 0 < n
      · rw [if_pos h, decide_eq_true h]; rfl
      · rw [if_neg h, decide_eq_false h]; rfl
    clear hq hub
    by_cases h : 0 < n
    · rw [HD.out, decide_eq_true h]
      go_enter Try.func58, Try.ntmps58
      go_wp2
      go_ret
      exact ⟨rfl, rfl⟩
    · rw [HD.out, decide_eq_false h]
      go_enter Try.func58, Try.ntmps58
      go_wp2
      go_ret
      exact ⟨rfl, rfl⟩
  · have HE : Hid (sqAt n 2 = ((val n.natAbs 2 % 2 == 0) && (unitI n 2 % 8 == 1))) := by
      show _ = _
      unfold sqAt
      rw [cls_two, beq_pair]
    have hval : Hid (val n.natAbs (2 : Int).toNat = val n.natAbs 2) := rfl
    obtain ⟨V, hV⟩ : ∃ V, V = val n.natAbs 2 := ⟨_, rfl⟩
    obtain ⟨U, hU⟩ : ∃ U, U = unitI n 2 := ⟨_, rfl⟩
    rw [← hV, ← hU] at HE
    rw [← hU] at hub
    have hv2 := val_le 2 (Nat.le_refl _) _ n.natAbs (Nat.le_refl _)
    rw [← hV] at hv2
    have HV := hid hV
    have HU : Hid (n.tdiv (2 ^ V) = U) := hid (by rw [hU, hV]; rfl)
    clear hV hU hq
    by_cases hv : V % 2 = 0
    · have T : ((V : Int) % 2 == 0) = true := by rw [beq_iff_eq]; omega
      have HF : Hid (sqAt n 2 = (U % 8 == 1)) := by show _ = _; rw [HE.out, hv]; rfl
      clear hv
      go_enter Try.func58, Try.ntmps58
      go_wp2_with (first | (go_at_call 84; refine (l1Valuation_any _ _ h0 h1 h2 (by decide) (by decide) _).mono ?_; rw [hval.out, ← HV.out, HU.out]; rintro e w' ⟨rfl, rfl⟩) | (go_at_call 86; refine (l1Mod_any _ _ (by omega) (by omega) (by decide) (by decide) _).mono ?_; rintro e w' ⟨rfl, rfl⟩))
      go_ret
      exact ⟨retB HF.out.symm, rfl⟩
    · have T : ((V : Int) % 2 == 0) = false := by rw [beq_eq_false_iff_ne]; omega
      have HF : Hid (sqAt n 2 = false) := by
        show _ = _
        rw [HE.out, show (V % 2 == 0) = false by rw [beq_eq_false_iff_ne]; exact hv]; rfl
      clear hv
      go_enter Try.func58, Try.ntmps58
      go_wp2_with (first | (go_at_call 84; refine (l1Valuation_any _ _ h0 h1 h2 (by decide) (by decide) _).mono ?_; rw [hval.out, ← HV.out, HU.out]; rintro e w' ⟨rfl, rfl⟩))
      go_ret
      exact ⟨retB HF.out.symm, rfl⟩
  · have HE : Hid (sqAt n (P : Int) = ((val n.natAbs P % 2 == 0) && (resN (unitI n (P : Int) % (P : Int)).toNat P == 1))) := by
      show _ = _
      unfold sqAt
      rw [cls_odd h3, beq_pair]
    have hval : Hid (val n.natAbs (P : Int).toNat = val n.natAbs P) := rfl
    obtain ⟨V, hV⟩ : ∃ V, V = val n.natAbs P := ⟨_, rfl⟩
    obtain ⟨U, hU⟩ : ∃ U, U = unitI n (P : Int) := ⟨_, rfl⟩
    rw [← hV, ← hU] at HE
    rw [← hU] at hub
    have hv2 := val_le P (by omega) _ n.natAbs (Nat.le_refl _)
    rw [← hV] at hv2
    have HV := hid hV
    have HU : Hid (n.tdiv ((P : Int) ^ V) = U) := hid (by rw [hU, hV]; rfl)
    have T2 : ((P : Int) == 2) = false := by rw [beq_eq_false_iff_ne]; omega
    have T0 : ((P : Int) == 0) = false := by rw [beq_eq_false_iff_ne]; omega
    have hR : Hid (resN (U % (P : Int)).toNat (P : Int).toNat = resN (U % (P : Int)).toNat P) := rfl
    have hsm := resN_small hP h3 (U % (P : Int)).toNat
    obtain ⟨R, hRe⟩ : ∃ R, R = resN (U % (P : Int)).toNat P := ⟨_, rfl⟩
    rw [← hRe] at hsm HE
    have HR := hid hRe
    clear hV hU hq hRe
    by_cases hv : V % 2 = 0
    · have T : ((V : Int) % 2 == 0) = true := by rw [beq_iff_eq]; omega
      have HF : Hid (sqAt n (P : Int) = (R == 1)) := by show _ = _; rw [HE.out, hv]; rfl
      clear hv
      go_enter Try.func58, Try.ntmps58
      go_wp2_with (first | (go_at_call 84; refine (l1Valuation_any _ _ h0 h1 h2 (by omega) (by omega) _).mono ?_; rw [hval.out, ← HV.out, HU.out]; rintro e w' ⟨rfl, rfl⟩) | (go_at_call 87; refine (l1Residue_any _ _ (by omega) (by omega) (by omega) (by omega) _).mono ?_; rw [hR.out, ← HR.out]; rintro e w' ⟨rfl, rfl⟩))
      go_ret
      exact ⟨retB HF.out.symm, rfl⟩
    · have T : ((V : Int) % 2 == 0) = false := by rw [beq_eq_false_iff_ne]; omega
      have HF : Hid (sqAt n (P : Int) = false) := by
        show _ = _
        rw [HE.out, show (V % 2 == 0) = false by rw [beq_eq_false_iff_ne]; exact hv]; rfl
      clear hv
      go_enter Try.func58, Try.ntmps58
      go_wp2_with (first | (go_at_call 84; refine (l1Valuation_any _ _ h0 h1 h2 (by omega) (by omega) _).mono ?_; rw [hval.out, ← HV.out, HU.out]; rintro e w' ⟨rfl, rfl⟩))
      go_ret
      exact ⟨retB HF.out.symm, rfl⟩

theorem l2Ok_any (n q : Int) (w : World) : Calls Try.prog 57 #[.int .i64 n, .int .i64 q] w fun e w' => e = .returned (.bool (okAt n q)) ∧ w = w' := by
  rcases factB_cases n with ⟨h1, h2, h0, O, hF⟩ | ⟨rfl, hF⟩ | ⟨h0, O, hF⟩
  · have T : (n != 0) = true := by rw [bne_iff_ne]; exact h0
    have T2 : (n == 0) = false := by rw [beq_eq_false_iff_ne]; exact h0
    have HK : Hid (okAt n q = plI q) := by show _ = _; unfold okAt; rw [hF, Bool.true_and]
    clear hF h0
    go_enter Try.func57, Try.ntmps57
    go_wp2_with (first | (go_at_call 71; refine (l1Number_any _ _).mono ?_; rintro e w' ⟨rfl, rfl⟩) | (go_at_call 47; refine (placeValidS_any _ _).mono ?_; rintro e w' ⟨rfl, rfl⟩))
    go_ret
    exact ⟨retB HK.out.symm, rfl⟩
  · have O : okN 0 = true := rfl
    have HK : Hid (okAt 0 q = false) := by show _ = _; unfold okAt; rw [hF, Bool.false_and]
    clear hF
    go_enter Try.func57, Try.ntmps57
    go_wp2_with (first | (go_at_call 71; refine (l1Number_any _ _).mono ?_; rintro e w' ⟨rfl, rfl⟩))
    go_ret
    exact ⟨retB HK.out.symm, rfl⟩
  · have HK : Hid (okAt n q = false) := by show _ = _; unfold okAt; rw [hF, Bool.false_and]
    clear hF
    go_enter Try.func57, Try.ntmps57
    go_wp2_with (first | (go_at_call 71; refine (l1Number_any _ _).mono ?_; rintro e w' ⟨rfl, rfl⟩))
    go_ret
    exact ⟨retB HK.out.symm, rfl⟩

theorem localSquareS_any (n q : Int) (w : World) : Calls Try.prog 17 #[.int .i64 n, .int .i64 q] w fun e w' => e = .returned (.bool (lsV n q)) ∧ w = w' := by
  rcases okAt_cases n q with ⟨h1, h2, h0, hq, O⟩ | O
  · have HK : Hid (lsV n q = sqAt n q) := by show _ = _; unfold lsV; rw [O, Bool.true_and]
    have H0 := hid h0
    have HQ := hid hq
    clear h0 hq
    go_enter Try.func17, Try.ntmps17
    go_wp2_with (first | (go_at_call 57; refine (l2Ok_any _ _ _).mono ?_; rintro e w' ⟨rfl, rfl⟩) | (go_at_call 58; refine (l2Square_any _ _ H0.out (by omega) (by omega) HQ.out _).mono ?_; rintro e w' ⟨rfl, rfl⟩))
    go_ret
    exact ⟨retB HK.out.symm, rfl⟩
  · have HK : Hid (lsV n q = false) := by show _ = _; unfold lsV; rw [O, Bool.false_and]
    go_enter Try.func17, Try.ntmps17
    go_wp2_with (first | (go_at_call 57; refine (l2Ok_any _ _ _).mono ?_; rintro e w' ⟨rfl, rfl⟩))
    go_ret
    exact ⟨retB HK.out.symm, rfl⟩

theorem localSameS_any (a b q : Int) (w : World) : Calls Try.prog 31 #[.int .i64 a, .int .i64 b, .int .i64 q] w fun e w' => e = .returned (.bool (lsameV a b q)) ∧ w = w' := by
  rcases okAt_cases a q with ⟨h1, h2, h0, hq, O⟩ | O
  · rcases okAt_cases b q with ⟨k1, k2, k0, _, O'⟩ | O'
    · have HK : Hid (lsameV a b q = sqAt (a * b) q) := by show _ = _; unfold lsameV; rw [O, O', sq_mul h0 k0 hq]; rfl
      have hm := mul_bdI h1 h2 k1 k2
      have hm1 := hm.1
      have hm2 := hm.2
      have H0 := hid (Int.mul_ne_zero h0 k0)
      have HQ := hid hq
      clear h0 k0 hq hm
      go_enter Try.func31, Try.ntmps31
      go_wp2_with (first | (go_at_call 57; refine (l2Ok_any _ _ _).mono ?_; rintro e w' ⟨rfl, rfl⟩) | (go_at_call 58; refine (l2Square_any _ _ H0.out (by omega) (by omega) HQ.out _).mono ?_; rintro e w' ⟨rfl, rfl⟩))
      go_ret
      exact ⟨retB HK.out.symm, rfl⟩
    · have HK : Hid (lsameV a b q = false) := by show _ = _; unfold lsameV; rw [O, O']; rfl
      clear h0 hq
      go_enter Try.func31, Try.ntmps31
      go_wp2_with (first | (go_at_call 57; refine (l2Ok_any _ _ _).mono ?_; rintro e w' ⟨rfl, rfl⟩))
      go_ret
      exact ⟨retB HK.out.symm, rfl⟩
  · have HK : Hid (lsameV a b q = false) := by show _ = _; unfold lsameV; rw [O]; rfl
    go_enter Try.func31, Try.ntmps31
    go_wp2_with (first | (go_at_call 57; refine (l2Ok_any _ _ _).mono ?_; rintro e w' ⟨rfl, rfl⟩))
    go_ret
    exact ⟨retB HK.out.symm, rfl⟩

theorem l2Names_any (q : Int) (hq : plI q = true) (w : World) : Calls Try.prog 68 #[.int .i64 q] w fun e w' => ∃ v, e = .returned v ∧ Owns w' w.heap.size v (namesOf q) ∧ Below w.heap.size w w' := by
  rcases plI_cases hq with rfl | rfl | ⟨P, rfl, hP, h3, h5⟩
  · go_enter Try.func68, Try.ntmps68
    go_wp2
    go_ret
    exact ⟨_, rfl, owns_lit [1, -1] _ rfl (Nat.le_refl _) (by unfold maxLen; simp), (Below.refl _ _).alloc (Nat.le_refl _) _⟩
  · go_enter Try.func68, Try.ntmps68
    go_wp2
    go_ret
    exact ⟨_, rfl, owns_lit [1, 3, 5, 7, 2, 6, 10, 14] _ rfl (Nat.le_refl _) (by unfold maxLen; simp), (Below.refl _ _).alloc (Nat.le_refl _) _⟩
  · obtain ⟨s1, s2, s3, s4, _⟩ := noneF_spec hP h3
    have HN := hid (names_odd h3)
    have HP : Hid (primeI (P : Int) = true) := hid hP
    obtain ⟨u, hu⟩ : ∃ u, u = noneF P := ⟨_, rfl⟩
    have T2 : ((P : Int) == 2) = false := by rw [beq_eq_false_iff_ne]; omega
    have T0 : ((P : Int) == 0) = false := by rw [beq_eq_false_iff_ne]; omega
    have hm := Nat.mul_le_mul h5 (show u ≤ 63 by omega)
    have m1 : (0 : Int) ≤ (P : Int) * (u : Int) := by rw [← Int.natCast_mul]; exact Int.natCast_nonneg _
    have m2 : (P : Int) * (u : Int) ≤ 315000 := by rw [← Int.natCast_mul]; omega
    have HU : Hid (noneF (P : Int).toNat = u) := hid hu.symm
    have HL : Hid (namesOf (P : Int) = [1, (u : Int), (P : Int), (P : Int) * (u : Int)]) := hid (by rw [HN.out, hu])
    clear hu s4 hq hm
    go_enter Try.func68, Try.ntmps68
    go_wp2_with (go_at_call 90; refine (l1None_any _ HP.out (by omega) (by omega) _).mono ?_; rw [HU.out]; rintro e w' ⟨rfl, rfl⟩)
    go_ret
    exact ⟨_, rfl, by rw [HL.out]; exact owns_lit [1, (u : Int), (P : Int), (P : Int) * (u : Int)] _ rfl (Nat.le_refl _) (by unfold maxLen; simp), (Below.refl _ _).alloc (Nat.le_refl _) _⟩

theorem localNamesS_any (q : Int) (w : World) : Calls Try.prog 27 #[.int .i64 q] w fun e w' => ∃ v, e = .returned (.tuple #[v, .bool (plI q)]) ∧ Owns w' w.heap.size v (lnamesL q) ∧ Below w.heap.size w w' := by
  cases h : plI q
  · have HL : Hid (lnamesL q = []) := by show _ = _; unfold lnamesL; rw [h]; rfl
    go_enter Try.func27, Try.ntmps27
    go_wp2_with (first | (go_at_call 47; refine (placeValidS_any _ _).mono ?_; rintro e w' ⟨rfl, rfl⟩))
    go_ret2
    exact ⟨_, rfl, by rw [HL.out]; exact World.ownsRow_made (size := 1) w #[] 0 (Nat.le_refl _) (by unfold maxLen; omega) rfl, (Below.refl _ _).alloc (Nat.le_refl _) _⟩
  · have HL : Hid (lnamesL q = namesOf q) := by show _ = _; unfold lnamesL; rw [h]; rfl
    have HQ := hid h
    go_enter Try.func27, Try.ntmps27
    go_wp2_with (first | (go_at_call 47; refine (placeValidS_any _ _).mono ?_; rintro e w' ⟨rfl, rfl⟩) | (go_at_call 68; refine (l2Names_any _ HQ.out _).mono ?_; rintro e w' ⟨v, rfl, hv, hb⟩))
    go_ret2
    exact ⟨_, rfl, by rw [HL.out]; exact hv, hb⟩

set_option maxHeartbeats 1000000 in
theorem l2Name_any (n q : Int) (h0 : n ≠ 0) (h1 : -25000000 ≤ n) (h2 : n ≤ 25000000) (hq : plI q = true) (w : World) :
    Calls Try.prog 65 #[.int .i64 n, .int .i64 q] w fun e w' => e = .returned (.int .i64 (nameOf n q)) ∧ Below w.heap.size w w' := by
  have HQ := hid hq
  have H0 := hid h0
  have HI := hid (clsIdx_lt h0 hq)
  have HN := hid (names_bd hq)
  have HZ := hid (names_ne hq)
  have HS : Hid (∀ i, i < (namesOf q).length → sqAt (n * (namesOf q).getD i 0) q = decide (i = clsIdx n q)) := hid (fun i hi => sq_name h0 hq hi)
  obtain ⟨I, hI⟩ : ∃ I, I = clsIdx n q := ⟨_, rfl⟩
  have HE : Hid ((namesOf q).getD I 0 = nameOf n q) := hid (by rw [hI]; rfl)
  rw [← hI] at HI HS
  have HM : Hid (∀ i, i < (namesOf q).length → (namesOf q).getD i 0 ∈ namesOf q) := hid (fun i hi => by rw [getD_at _ _ hi]; exact List.getElem_mem _)
  clear hI hq h0
  go_enter Try.func65, Try.ntmps65
  go_wp2_with (go_at_call 68; refine (l2Names_any _ HQ.out _).mono ?_; rintro e w1 ⟨v, rfl, o1, hb1⟩)
  rcases o1.rd with ⟨a, cap, rfl, e0⟩ | ⟨b, o, cap, rfl, l0, lm, hc⟩
  · exact absurd HI.out (by rw [e0]; simp)
  · have HC := hid hc
    have HB := hid hb1
    unfold maxLen at lm
    clear hc hb1 o1
    go_wp2_with fail
    go_loopw [6] (fun k wr => ∃ K : Nat, k = .int .i64 K ∧ K ≤ I ∧ wr = w1) (fun k _ => I - (intOf k).toNat)
    case atStart => exact ⟨0, rfl, by omega, rfl⟩
    case round =>
      obtain ⟨K, rfl, hK, rfl⟩ := hrel
      have hKl : K < (namesOf q).length := by have := HI.out; omega
      have hKi : (K : Int) < ((namesOf q).length : Int) := by omega
      have c1 := HC.out K hKl
      have s1 := HS.out K hKl
      have hm := HM.out K hKl
      have b1 := (HN.out _ hm).1
      have b2 := (HN.out _ hm).2
      have z1 := HZ.out _ hm
      obtain ⟨m, hme⟩ : ∃ m, m = (namesOf q).getD K 0 := ⟨_, rfl⟩
      rw [← hme] at c1 s1 b1 b2 z1
      have HZ2 := hid (Int.mul_ne_zero H0.out z1)
      have hmb : (n * m).natAbs ≤ 25000000 * 315000 := by
        rw [Int.natAbs_mul]
        exact Nat.mul_le_mul (by omega) (by omega)
      have m1 : -7875000000000 ≤ n * m := by omega
      have m2 : n * m ≤ 7875000000000 := by omega
      have HME := hid hme
      have S1 := hid s1
      clear hm hmb z1 hme s1
      by_cases e : K = I
      · have S2 : Hid (sqAt (n * m) q = true) := hid (by rw [S1.out, decide_eq_true e])
        have HR : Hid (m = nameOf n q) := hid (by rw [HME.out, e]; exact HE.out)
        clear e
        go_wp2_with (go_at_call 58; refine (l2Square_any _ _ HZ2.out (by omega) (by omega) HQ.out _).mono ?_; rw [S2.out]; rintro e w' ⟨rfl, rfl⟩)
        go_ret
        exact ⟨retI HR.out, HB.out⟩
      · have S2 : Hid (sqAt (n * m) q = false) := hid (by rw [S1.out, decide_eq_false e])
        go_wp2_with (go_at_call 58; refine (l2Square_any _ _ HZ2.out (by omega) (by omega) HQ.out _).mono ?_; rw [S2.out]; rintro e w' ⟨rfl, rfl⟩)
        go_round
        case measure => simp only [intOf]; omega
        case rel => exact ⟨K + 1, by go_num, by omega, by first | rfl | trivial⟩

theorem localNameS_any (n q : Int) (w : World) : Calls Try.prog 22 #[.int .i64 n, .int .i64 q] w fun e w' => e = .returned (lnameV n q) ∧ Below w.heap.size w w' := by
  rcases okAt_cases n q with ⟨h1, h2, h0, hq, O⟩ | O
  · have HK := hid (lnameV_yes O)
    have H0 := hid h0
    have HQ := hid hq
    clear h0 hq
    go_enter Try.func22, Try.ntmps22
    go_wp2_with (first | (go_at_call 57; refine (l2Ok_any _ _ _).mono ?_; rintro e w' ⟨rfl, rfl⟩) | (go_at_call 65; refine (l2Name_any _ _ H0.out (by omega) (by omega) HQ.out _).mono ?_; rintro e w' ⟨rfl, hb⟩))
    go_ret2
    exact ⟨retV HK.out.symm, hb⟩
  · have HK := hid (lnameV_no O)
    go_enter Try.func22, Try.ntmps22
    go_wp2_with (first | (go_at_call 57; refine (l2Ok_any _ _ _).mono ?_; rintro e w' ⟨rfl, rfl⟩))
    go_ret2
    exact ⟨retV HK.out.symm, Below.refl _ _⟩

theorem localMulS_any (a b q : Int) (w : World) : Calls Try.prog 33 #[.int .i64 a, .int .i64 b, .int .i64 q] w fun e w' => e = .returned (lmulV a b q) ∧ Below w.heap.size w w' := by
  rcases okAt_cases a q with ⟨h1, h2, h0, hq, O⟩ | O
  · rcases okAt_cases b q with ⟨k1, k2, k0, _, O'⟩ | O'
    · have HK : Hid (lmulV a b q = .tuple #[.int .i64 (nameOf (a * b) q), .bool true]) := by show _ = _; unfold lmulV; rw [O, O']; rfl
      have hm := mul_bdI h1 h2 k1 k2
      have hm1 := hm.1
      have hm2 := hm.2
      have H0 := hid (Int.mul_ne_zero h0 k0)
      have HQ := hid hq
      clear h0 k0 hq hm
      go_enter Try.func33, Try.ntmps33
      go_wp2_with (first | (go_at_call 57; refine (l2Ok_any _ _ _).mono ?_; rintro e w' ⟨rfl, rfl⟩) | (go_at_call 65; refine (l2Name_any _ _ H0.out (by omega) (by omega) HQ.out _).mono ?_; rintro e w' ⟨rfl, hb⟩))
      go_ret2
      exact ⟨retV HK.out.symm, hb⟩
    · have HK : Hid (lmulV a b q = .tuple #[.int .i64 0, .bool false]) := by show _ = _; unfold lmulV; rw [O, O']; rfl
      clear h0 hq
      go_enter Try.func33, Try.ntmps33
      go_wp2_with (first | (go_at_call 57; refine (l2Ok_any _ _ _).mono ?_; rintro e w' ⟨rfl, rfl⟩))
      go_ret2
      exact ⟨retV HK.out.symm, Below.refl _ _⟩
  · have HK : Hid (lmulV a b q = .tuple #[.int .i64 0, .bool false]) := by show _ = _; unfold lmulV; rw [O]; rfl
    go_enter Try.func33, Try.ntmps33
    go_wp2_with (first | (go_at_call 57; refine (l2Ok_any _ _ _).mono ?_; rintro e w' ⟨rfl, rfl⟩))
    go_ret2
    exact ⟨retV HK.out.symm, Below.refl _ _⟩

theorem localUnitS_any (n p : Int) (w : World) : Calls Try.prog 45 #[.int .i64 n, .int .i64 p] w fun e w' => e = .returned (lunitV n p) ∧ w = w' := by
  by_cases hO : factB n = true ∧ primeI p = true
  · obtain ⟨hF, hp⟩ := hO
    have HK : Hid (lunitV n p = .tuple #[.int .i64 (unitI n p), .bool true]) := by show _ = _; unfold lunitV; rw [hF, hp]; rfl
    have HV := hid (valV_yes hF hp)
    have hbd := primeI_bd hp
    rcases factB_cases n with ⟨h1, h2, h0, _, _⟩ | ⟨_, h⟩ | ⟨_, _, h⟩
    · have H0 := hid h0
      clear h0 hF hp
      go_enter Try.func45, Try.ntmps45
      go_wp2_with (first | (go_at_call 83; refine (valuationOfS_any _ _ _).mono ?_; rw [HV.out]; rintro e w' ⟨rfl, rfl⟩) | (go_at_call 84; refine (l1Valuation_any _ _ H0.out (by omega) (by omega) (by omega) (by omega) _).mono ?_; rintro e w' ⟨rfl, rfl⟩))
      go_ret2
      exact ⟨retV HK.out.symm, rfl⟩
    · rw [hF] at h; cases h
    · rw [hF] at h; cases h
  · have hn : factB n = false ∨ primeI p = false := by
      cases hF : factB n
      · exact .inl rfl
      · cases hp : primeI p
        · exact .inr rfl
        · exact absurd ⟨hF, hp⟩ hO
    have HK : Hid (lunitV n p = .tuple #[.int .i64 0, .bool false]) := by
      show _ = _
      unfold lunitV
      rcases hn with h | h <;> rw [h] <;> simp
    have HV := hid (valV_no hn)
    clear hO hn
    go_enter Try.func45, Try.ntmps45
    go_wp2_with (first | (go_at_call 83; refine (valuationOfS_any _ _ _).mono ?_; rw [HV.out]; rintro e w' ⟨rfl, rfl⟩))
    go_ret2
    exact ⟨retV HK.out.symm, rfl⟩

end Go.Proofs.Ytamdjgcnjgiflaa
