/-
  Contracts of the model's chapter 3: solved equations; symbols with the same places.
-/
import Derived.Test.YtdidmblkknnglaaSym5
import Derived.BigQuiet
set_option linter.unusedVariables false
namespace Go.Proofs.Ytdidmblkknnglaa
open Go.RowKit

set_option maxHeartbeats 2000000 in
theorem symbolSolvedS_any (a b x y z : Int) (w : World) : Calls Try.prog 32 #[.int .i64 a, .int .i64 b, .int .i64 x, .int .i64 y, .int .i64 z] w fun e w' => e = .returned (.bool (sol3 a b x y z)) ∧ w = w' := by
  have fin : ∀ v, sol3 a b x y z = v → Hid (sol3 a b x y z = v) := fun _ h => h
  rcases okAB_cases a b with ⟨a1, a2, a0, b1, b2, b0, O⟩ | O
  · clear a0 b0
    cases hx : okN x with
    | false =>
      have HK := fin false (by unfold sol3; rw [hx, Bool.false_and, Bool.and_false])
      go_enter Try.func32, Try.ntmps32
      go_wp2_with (first | (go_at_call 58; refine (l3Ok_any _ _ _).mono ?_; rintro e w' ⟨rfl, rfl⟩) | (go_at_call 70; refine (l1Number_any _ _).mono ?_; rintro e w' ⟨rfl, rfl⟩))
      go_ret
      exact ⟨retB HK.out.symm, rfl⟩
    | true =>
      cases hy : okN y with
      | false =>
        have HK := fin false (by unfold sol3; rw [hy, Bool.false_and, Bool.and_false, Bool.and_false])
        go_enter Try.func32, Try.ntmps32
        go_wp2_with (first | (go_at_call 58; refine (l3Ok_any _ _ _).mono ?_; rintro e w' ⟨rfl, rfl⟩) | (go_at_call 70; refine (l1Number_any _ _).mono ?_; rintro e w' ⟨rfl, rfl⟩))
        go_ret
        exact ⟨retB HK.out.symm, rfl⟩
      | true =>
        cases hz : okN z with
        | false =>
          have HK := fin false (by unfold sol3; rw [hz, Bool.false_and, Bool.and_false, Bool.and_false, Bool.and_false])
          go_enter Try.func32, Try.ntmps32
          go_wp2_with (first | (go_at_call 58; refine (l3Ok_any _ _ _).mono ?_; rintro e w' ⟨rfl, rfl⟩) | (go_at_call 70; refine (l1Number_any _ _).mono ?_; rintro e w' ⟨rfl, rfl⟩))
          go_ret
          exact ⟨retB HK.out.symm, rfl⟩
        | true =>
          have xb := okN_iff.1 hx
          have yb := okN_iff.1 hy
          have zb := okN_iff.1 hz
          obtain ⟨p1, p2, p3, p4⟩ := cube_bd a1 a2 xb.1 xb.2
          obtain ⟨q1, q2, q3, q4⟩ := cube_bd b1 b2 yb.1 yb.2
          have zz := mul_bdI zb.1 zb.2 zb.1 zb.2
          have z1 := zz.1
          have z2 := zz.2
          have HV : Hid (sol3 a b x y z = ((!(decide (x = 0) && (decide (y = 0) && decide (z = 0)))) && decide (z * z = a * x * x + b * y * y))) := hid (by unfold sol3; rw [O, hx, hy, hz, Bool.true_and, Bool.true_and, Bool.true_and, Bool.true_and])
          clear xb yb zb zz
          have cx : (x == 0) = decide (x = 0) := rfl
          have eqc : ∀ s t : Int, (s == t) = decide (s = t) := fun _ _ => rfl
          by_cases x0 : x = 0
          · have X0 : (x == 0) = true := by rw [beq_iff_eq]; exact x0
            by_cases y0 : y = 0
            · have Y0 : (y == 0) = true := by rw [beq_iff_eq]; exact y0
              by_cases z0 : z = 0
              · have Z0 : (z == 0) = true := by rw [beq_iff_eq]; exact z0
                have HK := fin false (by rw [HV.out, decide_eq_true x0, decide_eq_true y0, decide_eq_true z0]; rfl)
                clear x0 y0 z0 fin cx eqc
                go_enter Try.func32, Try.ntmps32
                go_wp2_with (first | (go_at_call 58; refine (l3Ok_any _ _ _).mono ?_; rintro e w' ⟨rfl, rfl⟩) | (go_at_call 70; refine (l1Number_any _ _).mono ?_; rintro e w' ⟨rfl, rfl⟩))
                go_ret
                exact ⟨retB HK.out.symm, rfl⟩
              · have Z0 : (z == 0) = false := by rw [beq_eq_false_iff_ne]; exact z0
                have HK := fin (z * z == a * x * x + b * y * y) (by rw [HV.out, decide_eq_false z0, Bool.and_false, Bool.and_false, Bool.not_false, Bool.true_and]; rfl)
                clear x0 y0 z0 fin cx eqc
                go_enter Try.func32, Try.ntmps32
                go_wp2_with (first | (go_at_call 58; refine (l3Ok_any _ _ _).mono ?_; rintro e w' ⟨rfl, rfl⟩) | (go_at_call 70; refine (l1Number_any _ _).mono ?_; rintro e w' ⟨rfl, rfl⟩))
                go_ret
                exact ⟨retB HK.out.symm, rfl⟩
            · have Y0 : (y == 0) = false := by rw [beq_eq_false_iff_ne]; exact y0
              have HK := fin (z * z == a * x * x + b * y * y) (by rw [HV.out, decide_eq_false y0, Bool.false_and, Bool.and_false, Bool.not_false, Bool.true_and]; rfl)
              clear x0 y0 fin cx eqc
              go_enter Try.func32, Try.ntmps32
              go_wp2_with (first | (go_at_call 58; refine (l3Ok_any _ _ _).mono ?_; rintro e w' ⟨rfl, rfl⟩) | (go_at_call 70; refine (l1Number_any _ _).mono ?_; rintro e w' ⟨rfl, rfl⟩))
              go_ret
              exact ⟨retB HK.out.symm, rfl⟩
          · have X0 : (x == 0) = false := by rw [beq_eq_false_iff_ne]; exact x0
            have HK := fin (z * z == a * x * x + b * y * y) (by rw [HV.out, decide_eq_false x0, Bool.false_and, Bool.not_false, Bool.true_and]; rfl)
            clear x0 fin cx eqc
            go_enter Try.func32, Try.ntmps32
            go_wp2_with (first | (go_at_call 58; refine (l3Ok_any _ _ _).mono ?_; rintro e w' ⟨rfl, rfl⟩) | (go_at_call 70; refine (l1Number_any _ _).mono ?_; rintro e w' ⟨rfl, rfl⟩))
            go_ret
            exact ⟨retB HK.out.symm, rfl⟩
  · have HK := fin false (by unfold sol3; rw [O]; rfl)
    go_enter Try.func32, Try.ntmps32
    go_wp2_with (first | (go_at_call 58; refine (l3Ok_any _ _ _).mono ?_; rintro e w' ⟨rfl, rfl⟩))
    go_ret
    exact ⟨retB HK.out.symm, rfl⟩

set_option maxRecDepth 100000 in
set_option maxHeartbeats 1000000 in
theorem symbolSameS_any (a b c d : Int) (w : World) : Calls Try.prog 45 #[.int .i64 a, .int .i64 b, .int .i64 c, .int .i64 d] w fun e w' => e = .returned (.bool (sym4 a b c d)) ∧ Below w.heap.size w w' := by
  cases O : okAB a b with
  | false =>
    have HK : Hid (sym4 a b c d = false) := hid (by unfold sym4; rw [O]; rfl)
    go_enter Try.func45, Try.ntmps45
    go_wp2_with (go_at_call 58; refine (l3Ok_any _ _ _).mono ?_; rintro e w' ⟨rfl, rfl⟩)
    go_ret
    exact ⟨retB HK.out.symm, Below.refl _ _⟩
  | true =>
    cases O2 : okAB c d with
    | false =>
      have HK : Hid (sym4 a b c d = false) := hid (by unfold sym4; rw [O2, Bool.false_and, Bool.and_false])
      go_enter Try.func45, Try.ntmps45
      go_wp2_with (go_at_call 58; refine (l3Ok_any _ _ _).mono ?_; rintro e w' ⟨rfl, rfl⟩)
      go_ret
      exact ⟨retB HK.out.symm, Below.refl _ _⟩
    | true =>
      have HK : Hid (sym4 a b c d = decide (splL a b = splL c d)) := hid (by unfold sym4; rw [O, O2]; rfl)
      have HC : Hid (∀ w : World, Calls Try.prog 24 #[.int .i64 a, .int .i64 b] w fun e w' => ∃ v, e = .returned v ∧ Owns w' w.heap.size v (splL a b) ∧ Below w.heap.size w w') := hid (fun w => symbolPlacesS_any a b w)
      have HD : Hid (∀ w : World, Calls Try.prog 24 #[.int .i64 c, .int .i64 d] w fun e w' => ∃ v, e = .returned v ∧ Owns w' w.heap.size v (splL c d) ∧ Below w.heap.size w w') := hid (fun w => symbolPlacesS_any c d w)
      have hxl := @splL_len a b
      obtain ⟨X, hX⟩ : ∃ X, X = splL a b := ⟨_, rfl⟩
      obtain ⟨Y, hY⟩ : ∃ Y, Y = splL c d := ⟨_, rfl⟩
      rw [← hX] at HC HK hxl
      rw [← hY] at HD HK
      clear hX hY
      go_enter Try.func45, Try.ntmps45
      go_wp2_with (go_at_call 58; refine (l3Ok_any _ _ _).mono ?_; rintro e w' ⟨rfl, rfl⟩)
      refine (HC.out _).mono ?_
      rintro e w2 ⟨v, rfl, ho, hb⟩
      have HO := hid ho
      have HB := hid hb
      clear ho hb
      go_wp2_with fail
      refine (HD.out _).mono ?_
      rintro e w3 ⟨v2, rfl, ho2, hb2⟩
      have HB3 := hid (HB.out.trans (hb2.mono HB.out.size))
      have HO1 := hid (HO.out.keep HO.out.lt hb2)
      obtain ⟨ax, cx, rfl, hfx⟩ := HO1.out.rd.form
      obtain ⟨ay, cy, rfl, hfy⟩ := ho2.rd.form
      have HFX := hid hfx
      have HFY := hid hfy
      clear ho2 hb2 hfx hfy
      by_cases hl : X.length = Y.length
      · have T : ((X.length : Int) != (Y.length : Int)) = false := by rw [bne_eq_false_iff_eq]; omega
        have HL := hid hl
        clear hl
        go_wp2_with fail
        go_loopw [11] (fun si wr => ∃ K k : Nat, si = .int .i64 K ∧ K ≤ X.length ∧ Hid (∀ j, j < K → X.getD j 0 = Y.getD j 0) ∧ wr = w3.drewN k) (fun si _ => X.length - (intOf si).toNat)
        case atStart => exact ⟨0, 0, rfl, by omega, hid (fun j hj => absurd hj (by omega)), rfl⟩
        case round =>
          obtain ⟨K, k, rfl, hK, HE, rfl⟩ := hrel
          by_cases hlt : K < X.length
          · obtain ⟨b1, o1, rfl, m1, hc1⟩ := HFX.out (by omega)
            obtain ⟨b2, o2, rfl, m2, hc2⟩ := HFY.out (by have := HL.out; omega)
            obtain ⟨x, hx⟩ : ∃ x, x = X.getD K 0 := ⟨_, rfl⟩
            obtain ⟨y, hy⟩ : ∃ y, y = Y.getD K 0 := ⟨_, rfl⟩
            have c1 := hc1 K hlt
            have c2 := hc2 K (by have := HL.out; omega)
            rw [← hx] at c1
            rw [← hy] at c2
            have Hx := hid hx
            have Hy := hid hy
            have hi : (K : Int) < (X.length : Int) := by omega
            have hi2 : (K : Int) < (Y.length : Int) := by have := HL.out; omega
            unfold maxLen at m1 m2
            clear hc1 hc2 hx hy
            by_cases hxy : x = y
            · have T2 : (x != y) = false := by rw [bne_eq_false_iff_eq]; exact hxy
              have HXY := hid hxy
              clear hxy
              go_wp2
              go_quiet (fail)
              go_wp2
              go_roundw
              case rel => exact ⟨K + 1, _, by go_num, by omega, hid (by intro j hj; by_cases e : j = K; (· rw [e, ← Hx.out, ← Hy.out, HXY.out]); (· exact HE.out j (by omega))), by first | rfl | exact World.drewN_drewN ..⟩
              case measure => simp only [intOf]; omega
            · have T2 : (x != y) = true := by rw [bne_iff_ne]; exact hxy
              have HXY := hid hxy
              have HF : Hid (sym4 a b c d = false) := hid (by rw [HK.out]; exact decide_eq_false (fun e => HXY.out (by rw [Hx.out, Hy.out, e])))
              clear hxy
              go_wp2
              go_quiet (fail)
              go_wp2
              go_ret
              exact ⟨retB HF.out.symm, by first | exact below_drewN HB3.out _ | (rw [World.drewN_drewN]; exact below_drewN HB3.out _)⟩
          · obtain rfl : K = X.length := by omega
            have HT : Hid (sym4 a b c d = true) := hid (by
              rw [HK.out]
              refine decide_eq_true (List.ext_getElem HL.out fun j h1 h2 => ?_)
              have := HE.out j h1
              rw [getD_at _ _ h1, getD_at _ _ h2] at this
              exact this)
            clear hlt
            go_wp2
            go_ret
            exact ⟨retB HT.out.symm, below_drewN HB3.out k⟩
      · have T : ((X.length : Int) != (Y.length : Int)) = true := by rw [bne_iff_ne]; omega
        have HF : Hid (sym4 a b c d = false) := hid (by rw [HK.out]; exact decide_eq_false (fun e => hl (by rw [e])))
        clear hl
        go_wp2_with fail
        go_ret
        exact ⟨retB HF.out.symm, HB3.out⟩

end Go.Proofs.Ytdidmblkknnglaa
