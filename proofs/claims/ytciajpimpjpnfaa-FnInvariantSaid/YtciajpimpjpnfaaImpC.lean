/-
  Contracts of the program's chapter 2: the document's functions over classes and names.
-/
import Derived.Test.YtciajpimpjpnfaaImpB
set_option linter.unusedVariables false
namespace Go.Proofs.Ytciajpimpjpnfaa
open Go.RowKit

theorem Owns.low {W : World} {B C : Nat} {v : Value} {xs : List Int} (h : Owns W C v xs) (hb : B ≤ C) : Owns W B v xs := by
  obtain ⟨h1, h2⟩ := h
  refine ⟨h1, ?_⟩
  rcases h2 with h2 | ⟨g, cap, cur, hv, hg, r⟩
  · exact .inl h2
  · exact .inr ⟨g, cap, cur, hv, Nat.le_trans hb hg, r⟩
theorem factB_bd {n : Int} (h : factB n = true) : n ≠ 0 ∧ -5000 ≤ n ∧ n ≤ 5000 := by
  rcases factB_cases n with ⟨h1, h2, h0, _, _⟩ | ⟨_, e⟩ | ⟨_, _, e⟩
  · exact ⟨h0, h1, h2⟩
  · rw [h] at e; cases e
  · rw [h] at e; cases e

theorem localSquare_any (n q : Int) (w : World) : Calls Try.prog 18 #[.int .i64 n, .int .i64 q] w fun e w' => e = .returned (.bool (lsV n q)) ∧ Below w.heap.size w w' := by
  cases hF : factB n with
  | false =>
    have HV : Hid (lsV n q = false) := hid (by unfold lsV okAt; rw [hF]; rfl)
    have HF := hid hF
    clear hF
    go_enter Try.func18, Try.ntmps18
    go_wp2_with (go_at_call 64; refine (factored_any _ _).mono ?_; rw [HF.out]; rintro e w' ⟨rfl, rfl⟩)
    go_ret
    exact ⟨retB HV.out.symm, Below.refl _ _⟩
  | true =>
    obtain ⟨h0, h1, h2⟩ := factB_bd hF
    cases hq : plI q with
    | false =>
      have HV : Hid (lsV n q = false) := hid (by unfold lsV okAt; rw [hF, hq]; rfl)
      have HF := hid hF
      have HQ := hid hq
      clear hF hq h0
      go_enter Try.func18, Try.ntmps18
      go_wp2_with (first | (go_at_call 64; refine (factored_any _ _).mono ?_; rw [HF.out]; rintro e w' ⟨rfl, rfl⟩) | (go_at_call 61; refine (plValid_any _ _).mono ?_; rw [HQ.out]; rintro e w1 ⟨rfl, hb1⟩))
      go_ret
      exact ⟨retB HV.out.symm, hb1⟩
    | true =>
      have HV : Hid (lsV n q = sqAt n q) := hid (by unfold lsV okAt; rw [hF, hq]; rfl)
      have HF := hid hF
      have HQ := hid hq
      have H0 := hid h0
      clear hF hq h0
      go_enter Try.func18, Try.ntmps18
      go_wp2_with (first | (go_at_call 64; refine (factored_any _ _).mono ?_; rw [HF.out]; rintro e w' ⟨rfl, rfl⟩) | (go_at_call 61; refine (plValid_any _ _).mono ?_; rw [HQ.out]; rintro e w1 ⟨rfl, hb1⟩) | (go_at_call 62; refine (plSquare_any _ _ H0.out (by omega) (by omega) HQ.out _).mono ?_; rintro e w2 ⟨rfl, hb2⟩))
      go_ret
      exact ⟨retB HV.out.symm, hb1.trans (hb2.mono hb1.size)⟩

theorem localName_any (n q : Int) (w : World) : Calls Try.prog 31 #[.int .i64 n, .int .i64 q] w fun e w' => e = .returned (lnameV n q) ∧ Below w.heap.size w w' := by
  cases hF : factB n with
  | false =>
    have HV := hid (lnameV_no (show okAt n q = false by unfold okAt; rw [hF]; rfl))
    have HF := hid hF
    clear hF
    go_enter Try.func31, Try.ntmps31
    go_wp2_with (go_at_call 64; refine (factored_any _ _).mono ?_; rw [HF.out]; rintro e w' ⟨rfl, rfl⟩)
    go_ret2
    exact ⟨retV HV.out.symm, Below.refl _ _⟩
  | true =>
    obtain ⟨h0, h1, h2⟩ := factB_bd hF
    cases hq : plI q with
    | false =>
      have HV := hid (lnameV_no (show okAt n q = false by unfold okAt; rw [hF, hq]; rfl))
      have HF := hid hF
      have HQ := hid hq
      clear hF hq h0
      go_enter Try.func31, Try.ntmps31
      go_wp2_with (first | (go_at_call 64; refine (factored_any _ _).mono ?_; rw [HF.out]; rintro e w' ⟨rfl, rfl⟩) | (go_at_call 61; refine (plValid_any _ _).mono ?_; rw [HQ.out]; rintro e w1 ⟨rfl, hb1⟩))
      go_ret2
      exact ⟨retV HV.out.symm, hb1⟩
    | true =>
      have HV := hid (lnameV_yes (show okAt n q = true by unfold okAt; rw [hF, hq]; rfl))
      have HF := hid hF
      have HQ := hid hq
      have H0 := hid h0
      clear hF hq h0
      go_enter Try.func31, Try.ntmps31
      go_wp2_with (first | (go_at_call 64; refine (factored_any _ _).mono ?_; rw [HF.out]; rintro e w' ⟨rfl, rfl⟩) | (go_at_call 61; refine (plValid_any _ _).mono ?_; rw [HQ.out]; rintro e w1 ⟨rfl, hb1⟩) | (go_at_call 78; refine (class_any _ _ H0.out (by omega) (by omega) HQ.out _).mono ?_; rintro e w2 ⟨rfl, hb2⟩) | (go_at_call 77; refine (nameOf_any _ _ H0.out HQ.out _).mono ?_; rintro e w3 ⟨rfl, hb3⟩))
      go_ret2
      exact ⟨retV HV.out.symm, (hb1.trans (hb2.mono hb1.size)).trans (hb3.mono (Nat.le_trans hb1.size hb2.size))⟩

theorem localMul_any (a b q : Int) (w : World) : Calls Try.prog 30 #[.int .i64 a, .int .i64 b, .int .i64 q] w fun e w' => e = .returned (lmulV a b q) ∧ Below w.heap.size w w' := by
  cases hA : factB a with
  | false =>
    have HV : Hid (lmulV a b q = .tuple #[.int .i64 0, .bool false]) := hid (by unfold lmulV okAt; rw [hA]; rfl)
    have HA := hid hA
    clear hA
    go_enter Try.func30, Try.ntmps30
    go_wp2_with (go_at_call 64; refine (factored_any _ _).mono ?_; rw [HA.out]; rintro e w' ⟨rfl, rfl⟩)
    go_ret2
    exact ⟨retV HV.out.symm, Below.refl _ _⟩
  | true =>
    obtain ⟨a0, a1, a2⟩ := factB_bd hA
    cases hB : factB b with
    | false =>
      have HV : Hid (lmulV a b q = .tuple #[.int .i64 0, .bool false]) := hid (by unfold lmulV okAt; rw [hB, Bool.false_and, Bool.and_false]; rfl)
      have HA := hid hA
      have HB := hid hB
      clear hA hB a0
      go_enter Try.func30, Try.ntmps30
      go_wp2_with fail
      go_at_call 64
      refine (factored_any _ _).mono ?_
      rw [HA.out]
      rintro e w' ⟨rfl, rfl⟩
      go_wp2_with (go_at_call 64; refine (factored_any _ _).mono ?_; rw [HB.out]; rintro e w' ⟨rfl, rfl⟩)
      go_ret2
      exact ⟨retV HV.out.symm, Below.refl _ _⟩
    | true =>
      obtain ⟨b0, b1, b2⟩ := factB_bd hB
      cases hq : plI q with
      | false =>
        have HV : Hid (lmulV a b q = .tuple #[.int .i64 0, .bool false]) := hid (by unfold lmulV okAt; rw [hq, Bool.and_false, Bool.false_and]; rfl)
        have HA := hid hA
        have HB := hid hB
        have HQ := hid hq
        clear hA hB hq a0 b0
        go_enter Try.func30, Try.ntmps30
        go_wp2_with fail
        go_at_call 64
        refine (factored_any _ _).mono ?_
        rw [HA.out]
        rintro e w' ⟨rfl, rfl⟩
        go_wp2_with (first | (go_at_call 64; refine (factored_any _ _).mono ?_; rw [HB.out]; rintro e w' ⟨rfl, rfl⟩) | (go_at_call 61; refine (plValid_any _ _).mono ?_; rw [HQ.out]; rintro e w1 ⟨rfl, hb1⟩))
        go_ret2
        exact ⟨retV HV.out.symm, hb1⟩
      | true =>
        have HV : Hid (lmulV a b q = .tuple #[.int .i64 (nameOf (a * b) q), .bool true]) := hid (by unfold lmulV okAt; rw [hA, hB, hq]; rfl)
        have hm := mul_bdI a1 a2 b1 b2
        have hm1 := hm.1
        have hm2 := hm.2
        have HA := hid hA
        have HB := hid hB
        have HQ := hid hq
        have H0 := hid (Int.mul_ne_zero a0 b0)
        clear hA hB hq a0 b0 hm
        go_enter Try.func30, Try.ntmps30
        go_wp2_with fail
        go_at_call 64
        refine (factored_any _ _).mono ?_
        rw [HA.out]
        rintro e w' ⟨rfl, rfl⟩
        go_wp2_with (first | (go_at_call 64; refine (factored_any _ _).mono ?_; rw [HB.out]; rintro e w' ⟨rfl, rfl⟩) | (go_at_call 61; refine (plValid_any _ _).mono ?_; rw [HQ.out]; rintro e w1 ⟨rfl, hb1⟩) | (go_at_call 78; refine (class_any _ _ H0.out (by omega) (by omega) HQ.out _).mono ?_; rintro e w2 ⟨rfl, hb2⟩) | (go_at_call 77; refine (nameOf_any _ _ H0.out HQ.out _).mono ?_; rintro e w3 ⟨rfl, hb3⟩))
        go_ret2
        exact ⟨retV HV.out.symm, (hb1.trans (hb2.mono hb1.size)).trans (hb3.mono (Nat.le_trans hb1.size hb2.size))⟩

end Go.Proofs.Ytciajpimpjpnfaa
