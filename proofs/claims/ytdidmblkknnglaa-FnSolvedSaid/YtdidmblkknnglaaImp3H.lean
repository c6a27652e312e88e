/-
  Contracts of the program's chapter 3: solved equations.
-/
import Derived.Test.YtdidmblkknnglaaImp3B
set_option linter.unusedVariables false
namespace Go.Proofs.Ytdidmblkknnglaa
open Go.RowKit Go.Shelf
attribute [local go_sem] Oper.semAt_some

set_option maxHeartbeats 2000000 in
theorem symbolSolved_any (a b x y z : Int) (w : World) : Calls Try.prog 31 #[.int .i64 a, .int .i64 b, .int .i64 x, .int .i64 y, .int .i64 z] w fun e w' => e = .returned (.bool (sol3 a b x y z)) ∧ Below w.heap.size w w' := by
  have fin : ∀ v, sol3 a b x y z = v → Hid (sol3 a b x y z = v) := fun _ h => h
  cases hA : factB a with
  | false =>
    have HK := fin false (by unfold sol3 okAB; rw [hA]; rfl)
    have HA := hid hA
    clear hA
    go_enter Try.func31, Try.ntmps31
    go_wp2_with (first | (go_at_call 55; refine (factored_any _ _).mono ?_; rw [HA.out]; rintro e w' ⟨rfl, rfl⟩) | (go_at_call 69; refine (valid_any _ _).mono ?_; fail; rintro e w' ⟨rfl, rfl⟩))
    go_ret
    exact ⟨retB HK.out.symm, Below.refl _ _⟩
  | true =>
    cases hBB : factB b with
    | false =>
      have HK := fin false (by unfold sol3 okAB; rw [hA, hBB]; rfl)
      have HA := hid hA
      have HBB := hid hBB
      clear hA hBB
      go_enter Try.func31, Try.ntmps31
      go_wp2_with (first | (go_at_call 55; refine (factored_any _ _).mono ?_; (first | rw [HA.out] | rw [HBB.out]); rintro e w' ⟨rfl, rfl⟩) | (go_at_call 69; refine (valid_any _ _).mono ?_; fail; rintro e w' ⟨rfl, rfl⟩))
      go_ret
      exact ⟨retB HK.out.symm, Below.refl _ _⟩
    | true =>
      have O : okAB a b = true := by unfold okAB; rw [hA, hBB]; rfl
      obtain ⟨a0, a1, a2⟩ := factB_bd hA
      obtain ⟨b0, b1, b2⟩ := factB_bd hBB
      have HA := hid hA
      have HBB := hid hBB
      clear a0 b0 hA hBB
      cases hx : okN x with
      | false =>
        have HK := fin false (by unfold sol3; rw [hx, Bool.false_and, Bool.and_false])
        have HX := hid hx
        clear hx O
        go_enter Try.func31, Try.ntmps31
        go_wp2_with (first | (go_at_call 55; refine (factored_any _ _).mono ?_; (first | rw [HA.out] | rw [HBB.out]); rintro e w' ⟨rfl, rfl⟩) | (go_at_call 69; refine (valid_any _ _).mono ?_; rw [HX.out]; rintro e w' ⟨rfl, rfl⟩))
        go_ret
        exact ⟨retB HK.out.symm, Below.refl _ _⟩
      | true =>
        cases hy : okN y with
        | false =>
          have HK := fin false (by unfold sol3; rw [hy, Bool.false_and, Bool.and_false, Bool.and_false])
          have HX := hid hx
          have HY := hid hy
          clear hx hy O
          go_enter Try.func31, Try.ntmps31
          go_wp2_with (first | (go_at_call 55; refine (factored_any _ _).mono ?_; (first | rw [HA.out] | rw [HBB.out]); rintro e w' ⟨rfl, rfl⟩) | (go_at_call 69; refine (valid_any _ _).mono ?_; (first | rw [HX.out] | rw [HY.out]); rintro e w' ⟨rfl, rfl⟩))
          go_ret
          exact ⟨retB HK.out.symm, Below.refl _ _⟩
        | true =>
          cases hz : okN z with
          | false =>
            have HK := fin false (by unfold sol3; rw [hz, Bool.false_and, Bool.and_false, Bool.and_false, Bool.and_false])
            have HX := hid hx
            have HY := hid hy
            have HZ := hid hz
            clear hx hy hz O
            go_enter Try.func31, Try.ntmps31
            go_wp2_with (first | (go_at_call 55; refine (factored_any _ _).mono ?_; (first | rw [HA.out] | rw [HBB.out]); rintro e w' ⟨rfl, rfl⟩) | (go_at_call 69; refine (valid_any _ _).mono ?_; (first | rw [HX.out] | rw [HY.out] | rw [HZ.out]); rintro e w' ⟨rfl, rfl⟩))
            go_ret
            exact ⟨retB HK.out.symm, Below.refl _ _⟩
          | true =>
            have xb := okN_iff.1 hx
            have yb := okN_iff.1 hy
            have zb := okN_iff.1 hz
            obtain ⟨p1, p2, p3, p4⟩ := cube_bd a1 a2 xb.1 xb.2
            obtain ⟨q1, q2, q3, q4⟩ := cube_bd b1 b2 yb.1 yb.2
            have zz := mul_bdI zb.1 zb.2 zb.1 zb.2
            have z1 := zz.1
            have z2 := zz.2
            have HV : Hid (sol3 a b x y z = ((!(decide (x = 0) && (decide (y = 0) && decide (z = 0)))) && decide (z * z = a * x * x + b * y * y))) := hid (by unfold sol3; rw [O, hx, hy, hz, Bool.true_and, Bool.true_and, Bool.true_and, Bool.true_and])
            have HX := hid hx
            have HY := hid hy
            have HZ := hid hz
            clear xb yb zb zz hx hy hz O
            by_cases x0 : x = 0
            · have X0 : (x != 0) = false := by rw [bne_eq_false_iff_eq]; exact x0
              by_cases y0 : y = 0
              · have Y0 : (y != 0) = false := by rw [bne_eq_false_iff_eq]; exact y0
                by_cases z0 : z = 0
                · have Z0 : (z != 0) = false := by rw [bne_eq_false_iff_eq]; exact z0
                  have HK := fin false (by rw [HV.out, decide_eq_true x0, decide_eq_true y0, decide_eq_true z0]; rfl)
                  clear x0 y0 z0 fin
                  go_enter Try.func31, Try.ntmps31
                  go_wp2_with (first | (go_at_call 55; refine (factored_any _ _).mono ?_; (first | rw [HA.out] | rw [HBB.out]); rintro e w' ⟨rfl, rfl⟩) | (go_at_call 69; refine (valid_any _ _).mono ?_; (first | rw [HX.out] | rw [HY.out] | rw [HZ.out]); rintro e w' ⟨rfl, rfl⟩))
                  go_ret
                  exact ⟨retB HK.out.symm, Below.refl _ _⟩
                · have Z0 : (z != 0) = true := by rw [bne_iff_ne]; exact z0
                  have HK := fin (z * z == a * x * x + b * y * y) (by rw [HV.out, decide_eq_false z0, Bool.and_false, Bool.and_false, Bool.not_false, Bool.true_and]; rfl)
                  clear x0 y0 z0 fin
                  go_enter Try.func31, Try.ntmps31
                  go_wp2_with (first | (go_at_call 55; refine (factored_any _ _).mono ?_; (first | rw [HA.out] | rw [HBB.out]); rintro e w' ⟨rfl, rfl⟩) | (go_at_call 69; refine (valid_any _ _).mono ?_; (first | rw [HX.out] | rw [HY.out] | rw [HZ.out]); rintro e w' ⟨rfl, rfl⟩))
                  go_ret
                  exact ⟨retB HK.out.symm, Below.refl _ _⟩
              · have Y0 : (y != 0) = true := by rw [bne_iff_ne]; exact y0
                have HK := fin (z * z == a * x * x + b * y * y) (by rw [HV.out, decide_eq_false y0, Bool.false_and, Bool.and_false, Bool.not_false, Bool.true_and]; rfl)
                clear x0 y0 fin
                go_enter Try.func31, Try.ntmps31
                go_wp2_with (first | (go_at_call 55; refine (factored_any _ _).mono ?_; (first | rw [HA.out] | rw [HBB.out]); rintro e w' ⟨rfl, rfl⟩) | (go_at_call 69; refine (valid_any _ _).mono ?_; (first | rw [HX.out] | rw [HY.out] | rw [HZ.out]); rintro e w' ⟨rfl, rfl⟩))
                go_ret
                exact ⟨retB HK.out.symm, Below.refl _ _⟩
            · have X0 : (x != 0) = true := by rw [bne_iff_ne]; exact x0
              have HK := fin (z * z == a * x * x + b * y * y) (by rw [HV.out, decide_eq_false x0, Bool.false_and, Bool.not_false, Bool.true_and]; rfl)
              clear x0 fin
              go_enter Try.func31, Try.ntmps31
              go_wp2_with (first | (go_at_call 55; refine (factored_any _ _).mono ?_; (first | rw [HA.out] | rw [HBB.out]); rintro e w' ⟨rfl, rfl⟩) | (go_at_call 69; refine (valid_any _ _).mono ?_; (first | rw [HX.out] | rw [HY.out] | rw [HZ.out]); rintro e w' ⟨rfl, rfl⟩))
              go_ret
              exact ⟨retB HK.out.symm, Below.refl _ _⟩

end Go.Proofs.Ytdidmblkknnglaa
