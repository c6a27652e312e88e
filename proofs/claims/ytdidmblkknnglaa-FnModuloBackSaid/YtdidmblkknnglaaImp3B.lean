/-
  Contracts of the program's chapter 3: symbols, their lists and counts.
-/
import Derived.Test.YtdidmblkknnglaaImp3A
import Derived.Test.YtdidmblkknnglaaImpC
import Derived.Test.YtdidmblkknnglaaIterG
import Derived.Test.YtdidmblkknnglaaVals3
set_option linter.unusedVariables false
namespace Go.Proofs.Ytdidmblkknnglaa
open Go.RowKit

theorem okAB_parts {a b : Int} (h : okAB a b = true) : factB a = true ∧ factB b = true := by
  unfold okAB at h
  rw [Bool.and_eq_true] at h
  exact h

set_option maxHeartbeats 1000000 in
theorem symbolOf_any (a b q : Int) (w : World) : Calls Try.prog 16 #[.int .i64 a, .int .i64 b, .int .i64 q] w fun e w' => e = .returned (.int .i64 (symOfV a b q)) ∧ Below w.heap.size w w' := by
  cases hA : factB a with
  | false =>
    have HA := hid hA
    have H : Hid (symOfV a b q = 0) := hid (by unfold symOfV okAB; rw [hA]; rfl)
    clear hA
    go_enter Try.func16, Try.ntmps16
    go_wp2_with (go_at_call 55; refine (factored_any _ _).mono ?_; rw [HA.out]; rintro e w' ⟨rfl, rfl⟩)
    go_ret
    exact ⟨retI H.out.symm, Below.refl _ _⟩
  | true =>
    cases hB : factB b with
    | false =>
      have HA := hid hA
      have HB := hid hB
      have H : Hid (symOfV a b q = 0) := hid (by unfold symOfV okAB; rw [hA, hB]; rfl)
      clear hA hB
      go_enter Try.func16, Try.ntmps16
      go_wp2_with (go_at_call 55; refine (factored_any _ _).mono ?_; (first | rw [HA.out] | rw [HB.out]); rintro e w' ⟨rfl, rfl⟩)
      go_ret
      exact ⟨retI H.out.symm, Below.refl _ _⟩
    | true =>
      cases hQ : plI q with
      | false =>
        have HA := hid hA
        have HB := hid hB
        have HQ := hid hQ
        have H : Hid (symOfV a b q = 0) := hid (by unfold symOfV okAB; rw [hA, hB, hQ]; rfl)
        clear hA hB hQ
        go_enter Try.func16, Try.ntmps16
        go_wp2_with (first | (go_at_call 55; refine (factored_any _ _).mono ?_; (first | rw [HA.out] | rw [HB.out]); rintro e w' ⟨rfl, rfl⟩) | (go_at_call 56; refine (plValid_any _ _).mono ?_; rw [HQ.out]; rintro e w1 ⟨rfl, hb1⟩))
        go_ret
        exact ⟨retI H.out.symm, hb1⟩
      | true =>
        obtain ⟨a0, a1, a2⟩ := factB_bd hA
        obtain ⟨b0, b1, b2⟩ := factB_bd hB
        have A0 := hid a0
        have B0 := hid b0
        have HA := hid hA
        have HB := hid hB
        have HQ := hid hQ
        have H : Hid (symOfV a b q = symV a b q) := hid (by unfold symOfV okAB; rw [hA, hB, hQ]; rfl)
        clear hA hB hQ a0 b0
        go_enter Try.func16, Try.ntmps16
        go_wp2_with (first | (go_at_call 55; refine (factored_any _ _).mono ?_; (first | rw [HA.out] | rw [HB.out]); rintro e w' ⟨rfl, rfl⟩) | (go_at_call 56; refine (plValid_any _ _).mono ?_; rw [HQ.out]; rintro e w1 ⟨rfl, hb1⟩))
        refine (symbolAt_any q HQ.out _).mono ?_
        rintro e w2 ⟨fv, rfl, hs, hb2⟩
        rcases hs with ⟨rfl, rfl⟩ | ⟨rfl, rfl⟩ | ⟨P, C, rfl, hP, h3, rfl, hC1, hC2, hC3⟩
        · go_wp2_with (go_at_call 86; refine (symZero_any _ _ A0.out B0.out _).mono ?_; rw [← H.out]; rintro e w' ⟨rfl, rfl⟩)
          go_ret
          exact ⟨rfl, hb1.trans (hb2.mono hb1.size)⟩
        · go_wp2_with (go_at_call 88; refine (symbolAtTwo_any _ _ A0.out B0.out (by omega) (by omega) (by omega) (by omega) _).mono ?_; rw [← H.out]; rintro e w' ⟨rfl, rfl⟩)
          go_ret
          exact ⟨rfl, hb1.trans (hb2.mono hb1.size)⟩
        · go_wp2_with (go_at_call 89; refine (symP_any _ _ P C hP h3 A0.out B0.out (by omega) (by omega) (by omega) (by omega) _ hC3).mono ?_; rw [← H.out]; rintro e w' ⟨rfl, rfl⟩)
          go_ret
          exact ⟨rfl, hb1.trans (hb2.mono hb1.size)⟩

end Go.Proofs.Ytdidmblkknnglaa
