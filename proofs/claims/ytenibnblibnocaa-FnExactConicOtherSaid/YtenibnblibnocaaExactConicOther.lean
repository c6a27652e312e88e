/-
  Proves: for every three lists the program's ConicOther answers as the model's, in memory of its own.
  Conditions: none beyond the given statement's own.
-/
import Derived.Test.YtenibnblibnocaaRows
import Derived.Test.YtenibnblibnocaaBun16
import Derived.Test.YtenibnblibnocaaBun62
import Derived.Test.YtenibnblibnocaaFmLen
import Derived.Test.YtenibnblibnocaaBun0
import Derived.Test.YtenibnblibnocaaCm4
import Derived.Test.YtenibnblibnocaaCp5
import Derived.ProofKit
import Derived.OpenShut
import Derived.ShutString
import Derived.ChangeOld
namespace Go.Proofs.Ytenibnblibnocaa.fnExactConicOther
open Go.ChangeShapes Go.WideShapes Go.ChangeAt Go.RowKit
open Go.ChangeMaps (open_string shut_string)
set_option linter.unusedVariables false
theorem other_len (xs vs ws : List Int) : (otherL xs vs ws).length ≤ 1000 := by
  unfold otherL
  split
  · rw [plainL_len, line_len]; omega
  · simp
set_option maxRecDepth 100000 in
set_option maxHeartbeats 2000000 in
theorem walk  (a0 : Option Addr) (len0 cap0 : Nat) (z0 : List Int) (a1 : Option Addr) (len1 cap1 : Nat) (z1 : List Int) (a2 : Option Addr) (len2 cap2 : Nat) (z2 : List Int) (w : World) (w0 : IsRow .i64 w a0 len0 cap0 z0) (w1 : IsRow .i64 w a1 len1 cap1 z1) (w2 : IsRow .i64 w a2 len2 cap2 z2) :
    Calls Try.prog 4 #[.slice a0 len0 cap0, .slice a1 len1 cap1, .slice a2 len2 cap2] w fun e w' => e = .returned (.bool true) ∧ Below w.heap.size w w' := by
  obtain ⟨xs0, hxl0, hrd0⟩ := rd_row w0
  have RA0 := hid hrd0
  have HXL0 := hid hxl0
  clear hrd0 hxl0 w0
  obtain ⟨xs1, hxl1, hrd1⟩ := rd_row w1
  have RA1 := hid hrd1
  have HXL1 := hid hxl1
  clear hrd1 hxl1 w1
  obtain ⟨xs2, hxl2, hrd2⟩ := rd_row w2
  have RA2 := hid hrd2
  have HXL2 := hid hxl2
  clear hrd2 hxl2 w2
  by_cases hl0a : (1048576 : Int) < (len0 : Int)
  · go_enter Try.func4, Try.ntmps4
    go_wp2
    go_ret
    exact ⟨rfl, Below.refl _ _⟩
  by_cases hl1a : (1048576 : Int) < (len1 : Int)
  · go_enter Try.func4, Try.ntmps4
    go_wp2
    go_ret
    exact ⟨rfl, Below.refl _ _⟩
  by_cases hl2a : (1048576 : Int) < (len2 : Int)
  · go_enter Try.func4, Try.ntmps4
    go_wp2
    go_ret
    exact ⟨rfl, Below.refl _ _⟩
  have hl0 : xs0.length ≤ 1048576 := by have := HXL0.out; omega
  have HD0 : decide (xs0 = xs0) = true := by simp
  have hl1 : xs1.length ≤ 1048576 := by have := HXL1.out; omega
  have HD1 : decide (xs1 = xs1) = true := by simp
  have hl2 : xs2.length ≤ 1048576 := by have := HXL2.out; omega
  have HD2 : decide (xs2 = xs2) = true := by simp
  have B0 := hid (Below.refl w.heap.size w)
  obtain ⟨L, hL⟩ : ∃ L, L = otherL xs0 xs1 xs2 := ⟨_, rfl⟩
  obtain ⟨c, hc⟩ : ∃ c : Bool, c = otherOk xs0 xs1 xs2 := ⟨_, rfl⟩
  have hlen : L.length ≤ 1000 := by rw [hL]; exact other_len xs0 xs1 xs2
  have S : Hid (∀ (va vb vc : Value) (w : World), Rd w va xs0 → Rd w vb xs1 → Rd w vc xs2 → Calls Try.prog 18 #[va, vb, vc] w fun e w' => ∃ u, e = .returned (.tuple #[u, .bool c]) ∧ Owns w' w.heap.size u (L) ∧ Below w.heap.size w w') := hid (fun va vb vc w  h0 h1 h2 => by rw [hL, hc]; exact conicOtherS_any va vb vc xs0 xs1 xs2  w h0 h1 h2)
  have I : Hid (∀ (va vb vc : Value) (w : World), Rd w va xs0 → Rd w vb xs1 → Rd w vc xs2 → Calls Try.prog 19 #[va, vb, vc] w fun e w' => ∃ u, e = .returned (.tuple #[u, .bool c]) ∧ Owns w' w.heap.size u (L) ∧ Below w.heap.size w w') := hid (fun va vb vc w  h0 h1 h2 => by rw [hL, hc]; exact conicOther_any va vb vc xs0 xs1 xs2  w h0 h1 h2)
  have HDL : decide (L = L) = true := by simp
  have T1 : ((1 + (L.length : Int)) != 1 + L.length) = false := by simp
  have T2 : ¬ ((1 + (L.length : Int)) < 0) := by omega
  clear hL hc
  go_enter Try.func4, Try.ntmps4
  obtain ⟨W0, hW0⟩ : ∃ W0, W0 = w := ⟨_, rfl⟩
  have B0 : Hid (Below w.heap.size w W0) := hid (by rw [hW0]; exact Below.refl _ _)
  rw [← hW0]
  have HW0 := hid hW0
  clear hW0
  go_wp2_with fail
  refine (toIntS_any _ xs0 _ (RA0.out.keep2 B0.out) hl0).mono ?_
  rintro e W1 ⟨u0, rfl, o1, b1, f1⟩
  have Fu0 : Hid (Firm u0) := hid (.inr f1)
  clear f1
  have E1 := hid b1
  have s1 : W0.heap.size ≤ W1.heap.size := E1.out.size
  clear b1
  have B1 := hid (B0.out.trans (E1.out.mono B0.out.size))
  have Ou0_1 := hid o1
  have LTu0 := hid o1.lt
  clear o1
  go_wp2_with fail
  refine (toIntS_any _ xs1 _ (RA1.out.keep2 B1.out) hl1).mono ?_
  rintro e W2 ⟨u1, rfl, o2, b2, f2⟩
  have Fu1 : Hid (Firm u1) := hid (.inr f2)
  clear f2
  have E2 := hid b2
  have s2 : W1.heap.size ≤ W2.heap.size := E2.out.size
  clear b2
  have B2 := hid (B1.out.trans (E2.out.mono B1.out.size))
  have Ou0_2 := hid (Ou0_1.out.keep Ou0_1.out.lt E2.out)
  have Ou1_2 := hid o2
  have LTu1 := hid o2.lt
  clear o2
  go_wp2_with fail
  refine (toIntS_any _ xs2 _ (RA2.out.keep2 B2.out) hl2).mono ?_
  rintro e W3 ⟨u2, rfl, o3, b3, f3⟩
  have Fu2 : Hid (Firm u2) := hid (.inr f3)
  clear f3
  have E3 := hid b3
  have s3 : W2.heap.size ≤ W3.heap.size := E3.out.size
  clear b3
  have B3 := hid (B2.out.trans (E3.out.mono B2.out.size))
  have Ou0_3 := hid (Ou0_2.out.keep Ou0_2.out.lt E3.out)
  have Ou1_3 := hid (Ou1_2.out.keep Ou1_2.out.lt E3.out)
  have Ou2_3 := hid o3
  have LTu2 := hid o3.lt
  clear o3
  go_wp2_with fail
  refine (S.out _ _ _ _ Ou0_3.out.rd Ou1_3.out.rd Ou2_3.out.rd).mono ?_
  rintro e W4 ⟨v0, rfl, o4, b4⟩
  have E4 := hid b4
  have s4 : W3.heap.size ≤ W4.heap.size := E4.out.size
  clear b4
  have B4 := hid (B3.out.trans (E4.out.mono B3.out.size))
  have Ou0_4 := hid (Ou0_3.out.keep Ou0_3.out.lt E4.out)
  have Ou1_4 := hid (Ou1_3.out.keep Ou1_3.out.lt E4.out)
  have Ou2_4 := hid (Ou2_3.out.keep Ou2_3.out.lt E4.out)
  have Ov0_4 := hid o4
  have LTv0 := hid o4.lt
  clear o4
  go_wp2_with fail
  refine (toIntS_any _ xs0 _ (RA0.out.keep2 B4.out) hl0).mono ?_
  rintro e W5 ⟨y0, rfl, o5, b5, f5⟩
  have Fy0 : Hid (Firm y0) := hid (.inr f5)
  clear f5
  have E5 := hid b5
  have s5 : W4.heap.size ≤ W5.heap.size := E5.out.size
  clear b5
  have B5 := hid (B4.out.trans (E5.out.mono B4.out.size))
  have Ov0_5 := hid (Ov0_4.out.keep Ov0_4.out.lt E5.out)
  have Oy0_5 := hid o5
  have LTy0 := hid o5.lt
  clear o5
  go_wp2_with fail
  refine (toIntS_any _ xs1 _ (RA1.out.keep2 B5.out) hl1).mono ?_
  rintro e W6 ⟨y1, rfl, o6, b6, f6⟩
  have Fy1 : Hid (Firm y1) := hid (.inr f6)
  clear f6
  have E6 := hid b6
  have s6 : W5.heap.size ≤ W6.heap.size := E6.out.size
  clear b6
  have B6 := hid (B5.out.trans (E6.out.mono B5.out.size))
  have Ov0_6 := hid (Ov0_5.out.keep Ov0_5.out.lt E6.out)
  have Oy0_6 := hid (Oy0_5.out.keep Oy0_5.out.lt E6.out)
  have Oy1_6 := hid o6
  have LTy1 := hid o6.lt
  clear o6
  go_wp2_with fail
  refine (toIntS_any _ xs2 _ (RA2.out.keep2 B6.out) hl2).mono ?_
  rintro e W7 ⟨y2, rfl, o7, b7, f7⟩
  have Fy2 : Hid (Firm y2) := hid (.inr f7)
  clear f7
  have E7 := hid b7
  have s7 : W6.heap.size ≤ W7.heap.size := E7.out.size
  clear b7
  have B7 := hid (B6.out.trans (E7.out.mono B6.out.size))
  have Ov0_7 := hid (Ov0_6.out.keep Ov0_6.out.lt E7.out)
  have Oy0_7 := hid (Oy0_6.out.keep Oy0_6.out.lt E7.out)
  have Oy1_7 := hid (Oy1_6.out.keep Oy1_6.out.lt E7.out)
  have Oy2_7 := hid o7
  have LTy2 := hid o7.lt
  clear o7
  go_wp2_with fail
  refine (I.out _ _ _ _ Oy0_7.out.rd Oy1_7.out.rd Oy2_7.out.rd).mono ?_
  rintro e W8 ⟨v1, rfl, o8, b8⟩
  have E8 := hid b8
  have s8 : W7.heap.size ≤ W8.heap.size := E8.out.size
  clear b8
  have B8 := hid (B7.out.trans (E8.out.mono B7.out.size))
  have Ov0_8 := hid (Ov0_7.out.keep Ov0_7.out.lt E8.out)
  have Oy0_8 := hid (Oy0_7.out.keep Oy0_7.out.lt E8.out)
  have Oy1_8 := hid (Oy1_7.out.keep Oy1_7.out.lt E8.out)
  have Oy2_8 := hid (Oy2_7.out.keep Oy2_7.out.lt E8.out)
  have Ov1_8 := hid o8
  have LTv1 := hid o8.lt
  clear o8
  go_wp2_with fail
  refine (eqIntS_any _ _ L L _ Ov1_8.out.rd Ov0_8.out.rd).mono ?_
  rintro e W9 ⟨rfl, k9, hk9⟩
  have b9 : Below W8.heap.size W8 W9 := by rw [hk9]; exact below_drewN (Below.refl _ _) k9
  clear hk9
  have E9 := hid b9
  have s9 : W8.heap.size ≤ W9.heap.size := E9.out.size
  clear b9
  have B9 := hid (B8.out.trans (E9.out.mono B8.out.size))
  have Ov0_9 := hid (Ov0_8.out.keep Ov0_8.out.lt E9.out)
  have Oy0_9 := hid (Oy0_8.out.keep Oy0_8.out.lt E9.out)
  have Oy1_9 := hid (Oy1_8.out.keep Oy1_8.out.lt E9.out)
  have Oy2_9 := hid (Oy2_8.out.keep Oy2_8.out.lt E9.out)
  have Ov1_9 := hid (Ov1_8.out.keep Ov1_8.out.lt E9.out)
  go_wp2_with fail
  refine (toIntS_any _ xs0 _ (RA0.out.keep2 B9.out) hl0).mono ?_
  rintro e W10 ⟨t0, rfl, o10, b10, f10⟩
  have Ft0 : Hid (Firm t0) := hid (.inr f10)
  clear f10
  have E10 := hid b10
  have s10 : W9.heap.size ≤ W10.heap.size := E10.out.size
  clear b10
  have B10 := hid (B9.out.trans (E10.out.mono B9.out.size))
  have Ov0_10 := hid (Ov0_9.out.keep Ov0_9.out.lt E10.out)
  have Oy0_10 := hid (Oy0_9.out.keep Oy0_9.out.lt E10.out)
  have Oy1_10 := hid (Oy1_9.out.keep Oy1_9.out.lt E10.out)
  have Oy2_10 := hid (Oy2_9.out.keep Oy2_9.out.lt E10.out)
  have Ov1_10 := hid (Ov1_9.out.keep Ov1_9.out.lt E10.out)
  have Ot0_10 := hid o10
  have LTt0 := hid o10.lt
  clear o10
  go_wp2_with fail
  refine (eqIntS_any _ _ xs0 xs0 _ Oy0_10.out.rd Ot0_10.out.rd).mono ?_
  rintro e W11 ⟨rfl, k11, hk11⟩
  have b11 : Below W10.heap.size W10 W11 := by rw [hk11]; exact below_drewN (Below.refl _ _) k11
  clear hk11
  have E11 := hid b11
  have s11 : W10.heap.size ≤ W11.heap.size := E11.out.size
  clear b11
  have B11 := hid (B10.out.trans (E11.out.mono B10.out.size))
  have Ov0_11 := hid (Ov0_10.out.keep Ov0_10.out.lt E11.out)
  have Oy0_11 := hid (Oy0_10.out.keep Oy0_10.out.lt E11.out)
  have Oy1_11 := hid (Oy1_10.out.keep Oy1_10.out.lt E11.out)
  have Oy2_11 := hid (Oy2_10.out.keep Oy2_10.out.lt E11.out)
  have Ov1_11 := hid (Ov1_10.out.keep Ov1_10.out.lt E11.out)
  have Ot0_11 := hid (Ot0_10.out.keep Ot0_10.out.lt E11.out)
  go_wp2_with fail
  refine (toIntS_any _ xs1 _ (RA1.out.keep2 B11.out) hl1).mono ?_
  rintro e W12 ⟨t1, rfl, o12, b12, f12⟩
  have Ft1 : Hid (Firm t1) := hid (.inr f12)
  clear f12
  have E12 := hid b12
  have s12 : W11.heap.size ≤ W12.heap.size := E12.out.size
  clear b12
  have B12 := hid (B11.out.trans (E12.out.mono B11.out.size))
  have Ov0_12 := hid (Ov0_11.out.keep Ov0_11.out.lt E12.out)
  have Oy0_12 := hid (Oy0_11.out.keep Oy0_11.out.lt E12.out)
  have Oy1_12 := hid (Oy1_11.out.keep Oy1_11.out.lt E12.out)
  have Oy2_12 := hid (Oy2_11.out.keep Oy2_11.out.lt E12.out)
  have Ov1_12 := hid (Ov1_11.out.keep Ov1_11.out.lt E12.out)
  have Ot1_12 := hid o12
  have LTt1 := hid o12.lt
  clear o12
  go_wp2_with fail
  refine (eqIntS_any _ _ xs1 xs1 _ Oy1_12.out.rd Ot1_12.out.rd).mono ?_
  rintro e W13 ⟨rfl, k13, hk13⟩
  have b13 : Below W12.heap.size W12 W13 := by rw [hk13]; exact below_drewN (Below.refl _ _) k13
  clear hk13
  have E13 := hid b13
  have s13 : W12.heap.size ≤ W13.heap.size := E13.out.size
  clear b13
  have B13 := hid (B12.out.trans (E13.out.mono B12.out.size))
  have Ov0_13 := hid (Ov0_12.out.keep Ov0_12.out.lt E13.out)
  have Oy0_13 := hid (Oy0_12.out.keep Oy0_12.out.lt E13.out)
  have Oy1_13 := hid (Oy1_12.out.keep Oy1_12.out.lt E13.out)
  have Oy2_13 := hid (Oy2_12.out.keep Oy2_12.out.lt E13.out)
  have Ov1_13 := hid (Ov1_12.out.keep Ov1_12.out.lt E13.out)
  have Ot1_13 := hid (Ot1_12.out.keep Ot1_12.out.lt E13.out)
  go_wp2_with fail
  refine (toIntS_any _ xs2 _ (RA2.out.keep2 B13.out) hl2).mono ?_
  rintro e W14 ⟨t2, rfl, o14, b14, f14⟩
  have Ft2 : Hid (Firm t2) := hid (.inr f14)
  clear f14
  have E14 := hid b14
  have s14 : W13.heap.size ≤ W14.heap.size := E14.out.size
  clear b14
  have B14 := hid (B13.out.trans (E14.out.mono B13.out.size))
  have Ov0_14 := hid (Ov0_13.out.keep Ov0_13.out.lt E14.out)
  have Oy0_14 := hid (Oy0_13.out.keep Oy0_13.out.lt E14.out)
  have Oy1_14 := hid (Oy1_13.out.keep Oy1_13.out.lt E14.out)
  have Oy2_14 := hid (Oy2_13.out.keep Oy2_13.out.lt E14.out)
  have Ov1_14 := hid (Ov1_13.out.keep Ov1_13.out.lt E14.out)
  have Ot2_14 := hid o14
  have LTt2 := hid o14.lt
  clear o14
  go_wp2_with fail
  refine (eqIntS_any _ _ xs2 xs2 _ Oy2_14.out.rd Ot2_14.out.rd).mono ?_
  rintro e W15 ⟨rfl, k15, hk15⟩
  have b15 : Below W14.heap.size W14 W15 := by rw [hk15]; exact below_drewN (Below.refl _ _) k15
  clear hk15
  have E15 := hid b15
  have s15 : W14.heap.size ≤ W15.heap.size := E15.out.size
  clear b15
  have B15 := hid (B14.out.trans (E15.out.mono B14.out.size))
  have Ov0_15 := hid (Ov0_14.out.keep Ov0_14.out.lt E15.out)
  have Oy0_15 := hid (Oy0_14.out.keep Oy0_14.out.lt E15.out)
  have Oy1_15 := hid (Oy1_14.out.keep Oy1_14.out.lt E15.out)
  have Oy2_15 := hid (Oy2_14.out.keep Oy2_14.out.lt E15.out)
  have Ov1_15 := hid (Ov1_14.out.keep Ov1_14.out.lt E15.out)
  have Ot2_15 := hid (Ot2_14.out.keep Ot2_14.out.lt E15.out)
  go_wp2_with fail
  refine (markIntS2_any _ xs0 W4.heap.size 1 (by omega) (by omega) (by omega) _ Oy0_15.out).mono ?_
  rintro e W16 ⟨rfl, o16, b16, g16⟩
  have s16 : W15.heap.size ≤ W16.heap.size := b16.size
  have B16 := hid (B15.out.trans (b16.mono B4.out.size))
  have Ov0_16 := hid (Ov0_15.out.kept g16 (younger_apart (fun g h => Nat.lt_of_lt_of_le (LTv0.out g h) (by omega)) Oy0_15.out))
  have Oy1_16 := hid (Oy1_15.out.kept g16 (elder_apart (fun g h => Nat.lt_of_lt_of_le (LTy0.out g h) (by omega)) Oy1_15.out))
  have Oy2_16 := hid (Oy2_15.out.kept g16 (elder_apart (fun g h => Nat.lt_of_lt_of_le (LTy0.out g h) (by omega)) Oy2_15.out))
  have Ov1_16 := hid (Ov1_15.out.kept g16 (elder_apart (fun g h => Nat.lt_of_lt_of_le (LTy0.out g h) (by omega)) Ov1_15.out))
  have Oy0_16 := hid o16
  clear o16 b16 g16
  go_wp2_with fail
  refine (markIntS2_any _ xs1 W5.heap.size (1 + (xs0.length : Int)) (by omega) (by omega) (by omega) _ Oy1_16.out).mono ?_
  rintro e W17 ⟨rfl, o17, b17, g17⟩
  have s17 : W16.heap.size ≤ W17.heap.size := b17.size
  have B17 := hid (B16.out.trans (b17.mono B5.out.size))
  have Ov0_17 := hid (Ov0_16.out.kept g17 (younger_apart (fun g h => Nat.lt_of_lt_of_le (LTv0.out g h) (by omega)) Oy1_16.out))
  have Oy0_17 := hid (Oy0_16.out.kept g17 (younger_apart (fun g h => Nat.lt_of_lt_of_le (LTy0.out g h) (by omega)) Oy1_16.out))
  have Oy2_17 := hid (Oy2_16.out.kept g17 (elder_apart (fun g h => Nat.lt_of_lt_of_le (LTy1.out g h) (by omega)) Oy2_16.out))
  have Ov1_17 := hid (Ov1_16.out.kept g17 (elder_apart (fun g h => Nat.lt_of_lt_of_le (LTy1.out g h) (by omega)) Ov1_16.out))
  have Oy1_17 := hid o17
  clear o17 b17 g17
  go_wp2_with fail
  refine (markIntS2_any _ xs2 W6.heap.size (1 + (xs0.length : Int) + (xs1.length : Int)) (by omega) (by omega) (by omega) _ Oy2_17.out).mono ?_
  rintro e W18 ⟨rfl, o18, b18, g18⟩
  have s18 : W17.heap.size ≤ W18.heap.size := b18.size
  have B18 := hid (B17.out.trans (b18.mono B6.out.size))
  have Ov0_18 := hid (Ov0_17.out.kept g18 (younger_apart (fun g h => Nat.lt_of_lt_of_le (LTv0.out g h) (by omega)) Oy2_17.out))
  have Oy0_18 := hid (Oy0_17.out.kept g18 (younger_apart (fun g h => Nat.lt_of_lt_of_le (LTy0.out g h) (by omega)) Oy2_17.out))
  have Oy1_18 := hid (Oy1_17.out.kept g18 (younger_apart (fun g h => Nat.lt_of_lt_of_le (LTy1.out g h) (by omega)) Oy2_17.out))
  have Ov1_18 := hid (Ov1_17.out.kept g18 (elder_apart (fun g h => Nat.lt_of_lt_of_le (LTy2.out g h) (by omega)) Ov1_17.out))
  have Oy2_18 := hid o18
  clear o18 b18 g18
  have TK : ¬ (1 + (xs0.length : Int) + (xs1.length : Int) + (xs2.length : Int) < 0) := by omega
  go_wp2_with fail
  refine (eqIntS_any _ _ L L _ Ov1_18.out.rd Ov0_18.out.rd).mono ?_
  rintro e W19 ⟨rfl, k19, hk19⟩
  have b19 : Below W18.heap.size W18 W19 := by rw [hk19]; exact below_drewN (Below.refl _ _) k19
  clear hk19
  have E19 := hid b19
  have s19 : W18.heap.size ≤ W19.heap.size := E19.out.size
  clear b19
  have B19 := hid (B18.out.trans (E19.out.mono B18.out.size))
  have Ov0_19 := hid (Ov0_18.out.keep Ov0_18.out.lt E19.out)
  have Ov1_19 := hid (Ov1_18.out.keep Ov1_18.out.lt E19.out)
  go_wp2_with fail
  refine (markIntS2_any _ L W7.heap.size 1 (by omega) (by omega) (by omega) _ Ov1_19.out).mono ?_
  rintro e W20 ⟨rfl, o20, b20, g20⟩
  have s20 : W19.heap.size ≤ W20.heap.size := b20.size
  have B20 := hid (B19.out.trans (b20.mono B7.out.size))
  have Ov0_20 := hid (Ov0_19.out.kept g20 (younger_apart (fun g h => Nat.lt_of_lt_of_le (LTv0.out g h) (by omega)) Ov1_19.out))
  have Ov1_20 := hid o20
  clear o20 b20 g20
  go_wp2_with fail
  refine (heldIntS_any _ L.length 1 (by omega) (by omega) (by omega) _ Ov1_20.out.rd).mono ?_
  rintro e w' ⟨rfl, rfl⟩
  go_wp2_with fail
  refine (toIntS_any _ xs0 _ (RA0.out.keep2 B20.out) hl0).mono ?_
  rintro e W21 ⟨z0, rfl, o21, b21, f21⟩
  have Fz0 : Hid (Firm z0) := hid (.inr f21)
  clear f21
  have E21 := hid b21
  have s21 : W20.heap.size ≤ W21.heap.size := E21.out.size
  clear b21
  have B21 := hid (B20.out.trans (E21.out.mono B20.out.size))
  have Ov0_21 := hid (Ov0_20.out.keep Ov0_20.out.lt E21.out)
  have Ov1_21 := hid (Ov1_20.out.keep Ov1_20.out.lt E21.out)
  have Oz0_21 := hid o21
  have LTz0 := hid o21.lt
  clear o21
  go_wp2_with fail
  refine (toIntS_any _ xs1 _ (RA1.out.keep2 B21.out) hl1).mono ?_
  rintro e W22 ⟨z1, rfl, o22, b22, f22⟩
  have Fz1 : Hid (Firm z1) := hid (.inr f22)
  clear f22
  have E22 := hid b22
  have s22 : W21.heap.size ≤ W22.heap.size := E22.out.size
  clear b22
  have B22 := hid (B21.out.trans (E22.out.mono B21.out.size))
  have Ov0_22 := hid (Ov0_21.out.keep Ov0_21.out.lt E22.out)
  have Ov1_22 := hid (Ov1_21.out.keep Ov1_21.out.lt E22.out)
  have Oz0_22 := hid (Oz0_21.out.keep Oz0_21.out.lt E22.out)
  have Oz1_22 := hid o22
  have LTz1 := hid o22.lt
  clear o22
  go_wp2_with fail
  refine (toIntS_any _ xs2 _ (RA2.out.keep2 B22.out) hl2).mono ?_
  rintro e W23 ⟨z2, rfl, o23, b23, f23⟩
  have Fz2 : Hid (Firm z2) := hid (.inr f23)
  clear f23
  have E23 := hid b23
  have s23 : W22.heap.size ≤ W23.heap.size := E23.out.size
  clear b23
  have B23 := hid (B22.out.trans (E23.out.mono B22.out.size))
  have Ov0_23 := hid (Ov0_22.out.keep Ov0_22.out.lt E23.out)
  have Ov1_23 := hid (Ov1_22.out.keep Ov1_22.out.lt E23.out)
  have Oz0_23 := hid (Oz0_22.out.keep Oz0_22.out.lt E23.out)
  have Oz1_23 := hid (Oz1_22.out.keep Oz1_22.out.lt E23.out)
  have Oz2_23 := hid o23
  have LTz2 := hid o23.lt
  clear o23
  go_wp2_with fail
  refine (I.out _ _ _ _ Oz0_23.out.rd Oz1_23.out.rd Oz2_23.out.rd).mono ?_
  rintro e W24 ⟨v2, rfl, o24, b24⟩
  have E24 := hid b24
  have s24 : W23.heap.size ≤ W24.heap.size := E24.out.size
  clear b24
  have B24 := hid (B23.out.trans (E24.out.mono B23.out.size))
  have Ov0_24 := hid (Ov0_23.out.keep Ov0_23.out.lt E24.out)
  have Ov1_24 := hid (Ov1_23.out.keep Ov1_23.out.lt E24.out)
  have Oz0_24 := hid (Oz0_23.out.keep Oz0_23.out.lt E24.out)
  have Oz1_24 := hid (Oz1_23.out.keep Oz1_23.out.lt E24.out)
  have Oz2_24 := hid (Oz2_23.out.keep Oz2_23.out.lt E24.out)
  have Ov2_24 := hid o24
  have LTv2 := hid o24.lt
  clear o24
  go_wp2_with fail
  refine (eqIntS_any _ _ L L _ Ov2_24.out.rd Ov0_24.out.rd).mono ?_
  rintro e W25 ⟨rfl, k25, hk25⟩
  have b25 : Below W24.heap.size W24 W25 := by rw [hk25]; exact below_drewN (Below.refl _ _) k25
  clear hk25
  have E25 := hid b25
  have s25 : W24.heap.size ≤ W25.heap.size := E25.out.size
  clear b25
  have B25 := hid (B24.out.trans (E25.out.mono B24.out.size))
  have Ov0_25 := hid (Ov0_24.out.keep Ov0_24.out.lt E25.out)
  have Ov1_25 := hid (Ov1_24.out.keep Ov1_24.out.lt E25.out)
  have Ov2_25 := hid (Ov2_24.out.keep Ov2_24.out.lt E25.out)
  go_wp2_with fail
  refine (heldIntS_any _ L.length 1 (by omega) (by omega) (by omega) _ Ov1_25.out.rd).mono ?_
  rintro e w' ⟨rfl, rfl⟩
  go_wp2
  go_ret
  exact ⟨rfl, by have h := B25.out; rw [← HW0.out] at h; exact h⟩
theorem own : ownKnob Try.prog.godebug = none := by kernel_rfl
theorem laidOut : laidOutB Try.prog = true := by kernel_rfl
set_option maxRecDepth 100000 in
theorem lifted (os : Os) (started : os.Started) (H : Type) (enc : TypeId × Value → H) :
    ReturnsInHanded {} Try.checked os 4 .any (Rows.fnExactConicOtherSpec.pre6 enc Try.prog Try.f4 Rows.fnExactConicOtherRow.domain false) (Rows.fnExactConicOtherSpec.post enc Try.prog Try.f4 false true false false) := by
  refine returnsInHanded_of_change (C := Try.checked) own started (by kernel_rfl) Try.func4
    (ChangeSpec.witness6 (enc := enc) (C := Try.checked) false ⟨#[], #[.slice none 0 0, .slice none 0 0, .slice none 0 0], []⟩ 8 (by kernel_rfl) (by kernel_rfl) (by kernel_rfl) (by kernel_rfl)) ?_
  intro W base args ds gs before hval0 hW hcnd _
  have hval : ∀ (j : Nat) t v, Try.f4.params[j]? = some t → args[j]? = some v → Value.okWide Try.prog W .any base t v := hval0
  have hW' := hW
  obtain ⟨p, q, hA0, hV, rfl, hfz, hnd⟩ := hW
  have hA : DataW.TrodAll enc Try.prog W 0 (fun _ => true) true Try.f4.params.toList args.toList ds p := hA0
  rw [Try.params4] at hA hval
  obtain ⟨v0, vs0, d0, ds0, p0, q0, hargs, rfl, rfl, h0, r0⟩ := trodAll_cons hA
  obtain ⟨v1, vs1, d1, ds1, p1, q1, rfl, rfl, rfl, h1, r1⟩ := trodAll_cons r0
  obtain ⟨v2, vs2, d2, ds2, p2, q2, rfl, rfl, rfl, h2, r2⟩ := trodAll_cons r1
  obtain ⟨rfl, rfl, rfl⟩ := trodAll_nil r2
  obtain rfl : args = #[v0, v1, v2] := by cases args; simp_all
  obtain ⟨rfl, rfl⟩ := trodVars_none hV
  obtain ⟨a0, len0, cap0, rfl⟩ := okWide_slice Try.underlying22 (hval 0 22 v0 rfl rfl)
  have k0 := h0
  have lt0 : ∀ x ∈ p0, x.block < W.heap.size := by obtain ⟨m, hm⟩ := k0; exact DataW.trod_lt m _ _ _ hm
  obtain ⟨z0, w0⟩ : ∃ zs, IsRow .i64 W a0 len0 cap0 zs := by
    obtain ⟨fuel, hf⟩ := h0
    rcases open_ints Try.underlying22 Try.underlying3 (by kernel_rfl) hf with ⟨hcs, _⟩ | ⟨x, l, c, zs, hcs, _, hl, hm, hz, _, hcell, hwz⟩
    · simp [Value.cells] at hcs
      obtain ⟨rfl, rfl, rfl⟩ := hcs
      exact ⟨[], .inl ⟨rfl, rfl, rfl, rfl⟩⟩
    · simp [Value.cells] at hcs
      obtain ⟨rfl, rfl, rfl⟩ := hcs
      exact ⟨zs, .inr ⟨_, rfl, hl, hm, by simpa using hz, hcell, hwz⟩⟩
  obtain ⟨a1, len1, cap1, rfl⟩ := okWide_slice Try.underlying22 (hval 1 22 v1 rfl rfl)
  have k1 := h1
  have lt1 : ∀ x ∈ p1, x.block < W.heap.size := by obtain ⟨m, hm⟩ := k1; exact DataW.trod_lt m _ _ _ hm
  obtain ⟨z1, w1⟩ : ∃ zs, IsRow .i64 W a1 len1 cap1 zs := by
    obtain ⟨fuel, hf⟩ := h1
    rcases open_ints Try.underlying22 Try.underlying3 (by kernel_rfl) hf with ⟨hcs, _⟩ | ⟨x, l, c, zs, hcs, _, hl, hm, hz, _, hcell, hwz⟩
    · simp [Value.cells] at hcs
      obtain ⟨rfl, rfl, rfl⟩ := hcs
      exact ⟨[], .inl ⟨rfl, rfl, rfl, rfl⟩⟩
    · simp [Value.cells] at hcs
      obtain ⟨rfl, rfl, rfl⟩ := hcs
      exact ⟨zs, .inr ⟨_, rfl, hl, hm, by simpa using hz, hcell, hwz⟩⟩
  obtain ⟨a2, len2, cap2, rfl⟩ := okWide_slice Try.underlying22 (hval 2 22 v2 rfl rfl)
  have k2 := h2
  have lt2 : ∀ x ∈ p2, x.block < W.heap.size := by obtain ⟨m, hm⟩ := k2; exact DataW.trod_lt m _ _ _ hm
  obtain ⟨z2, w2⟩ : ∃ zs, IsRow .i64 W a2 len2 cap2 zs := by
    obtain ⟨fuel, hf⟩ := h2
    rcases open_ints Try.underlying22 Try.underlying3 (by kernel_rfl) hf with ⟨hcs, _⟩ | ⟨x, l, c, zs, hcs, _, hl, hm, hz, _, hcell, hwz⟩
    · simp [Value.cells] at hcs
      obtain ⟨rfl, rfl, rfl⟩ := hcs
      exact ⟨[], .inl ⟨rfl, rfl, rfl, rfl⟩⟩
    · simp [Value.cells] at hcs
      obtain ⟨rfl, rfl, rfl⟩ := hcs
      exact ⟨zs, .inr ⟨_, rfl, hl, hm, by simpa using hz, hcell, hwz⟩⟩
  clear hA0 hval0
  refine (walk a0 len0 cap0 z0 a1 len1 cap1 z1 a2 len2 cap2 z2 W w0 w1 w2).mono fun e W' ⟨he, bel⟩ => ?_
  subst he
  exact ⟨_, rfl, _, _, _, [], _, [], hW', trodAll_mk1 (shut_bool Try.underlying4 _), (trodAll_cons_mk (Below.trod laidOut (by kernel_rfl) (of_decide_eq_true (by kernel_rfl)) k0 bel lt0) (trodAll_cons_mk (Below.trod laidOut (by kernel_rfl) (of_decide_eq_true (by kernel_rfl)) k1 bel lt1) (trodAll_cons_mk (Below.trod laidOut (by kernel_rfl) (of_decide_eq_true (by kernel_rfl)) k2 bel lt2) trodAll_mk0))), rfl, bel.frame _, fun h => by cases h⟩
theorem over : Rows.fnExactConicOtherRow.holds Try.pinned (OpenSpec.ofChange Rows.fnExactConicOtherSpec) :=
  OpenClaim.holds_of_wide 4 Try.f4 rfl rfl rfl rfl rfl rfl rfl ⟨rfl, rfl, rfl, rfl, rfl⟩ rfl rfl rfl rfl rfl (by kernel_rfl) Try.func4 (by kernel_rfl)
    (of_decide_eq_true (by kernel_rfl)) (by unfold Func.isWrapper; first | (rw [if_pos (by decide +kernel)]; kernel_rfl) | (rw [if_neg (by decide +kernel)]; exact ⟨rfl, rfl⟩))
    (fun os started H enc _ => lifted os started H enc)
theorem proved : Rows.FnExactConicOtherSaid := over
end Go.Proofs.Ytenibnblibnocaa.fnExactConicOther
