/-
  Proves: for every two lists and two integers the program's ConicAt answers as the model's, in memory of its own.
  Conditions: none beyond the given statement's own.
-/
import Derived.Test.YtenibnblibnocaaRows
import Derived.Test.YtenibnblibnocaaBun16
import Derived.Test.YtenibnblibnocaaBun62
import Derived.Test.YtenibnblibnocaaFmLen
import Derived.Test.YtenibnblibnocaaBun0
import Derived.Test.YtenibnblibnocaaCm4
import Derived.Test.YtenibnblibnocaaCp5
import Derived.ProofKit
import Derived.OpenShut
import Derived.ShutString
import Derived.ChangeOld
namespace Go.Proofs.Ytenibnblibnocaa.fnExactConicAt
open Go.ChangeShapes Go.WideShapes Go.ChangeAt Go.RowKit
open Go.ChangeMaps (open_string shut_string)
set_option linter.unusedVariables false
theorem other_len (xs vs ws : List Int) : (otherL xs vs ws).length ≤ 1000 := by
  unfold otherL
  split
  · rw [plainL_len, line_len]; omega
  · simp
set_option maxRecDepth 100000 in
set_option maxHeartbeats 2000000 in
theorem walk  (a0 : Option Addr) (len0 cap0 : Nat) (z0 : List Int) (a1 : Option Addr) (len1 cap1 : Nat) (z1 : List Int) (a2 : Int) (a3 : Int) (w : World) (w0 : IsRow .i64 w a0 len0 cap0 z0) (w1 : IsRow .i64 w a1 len1 cap1 z1) (w2 : (Lit.int .i64 a2).wf = true) (w3 : (Lit.int .i64 a3).wf = true) :
    Calls Try.prog 5 #[.slice a0 len0 cap0, .slice a1 len1 cap1, .int .i64 a2, .int .i64 a3] w fun e w' => e = .returned (.bool true) ∧ Below w.heap.size w w' := by
  obtain ⟨xs0, hxl0, hrd0⟩ := rd_row w0
  have RA0 := hid hrd0
  have HXL0 := hid hxl0
  clear hrd0 hxl0 w0
  obtain ⟨xs1, hxl1, hrd1⟩ := rd_row w1
  have RA1 := hid hrd1
  have HXL1 := hid hxl1
  clear hrd1 hxl1 w1
  by_cases hl0a : (1048576 : Int) < (len0 : Int)
  · go_enter Try.func5, Try.ntmps5
    go_wp2
    go_ret
    exact ⟨rfl, Below.refl _ _⟩
  by_cases hl1a : (1048576 : Int) < (len1 : Int)
  · go_enter Try.func5, Try.ntmps5
    go_wp2
    go_ret
    exact ⟨rfl, Below.refl _ _⟩
  have hl0 : xs0.length ≤ 1048576 := by have := HXL0.out; omega
  have HD0 : decide (xs0 = xs0) = true := by simp
  have hl1 : xs1.length ≤ 1048576 := by have := HXL1.out; omega
  have HD1 : decide (xs1 = xs1) = true := by simp
  have B0 := hid (Below.refl w.heap.size w)
  obtain ⟨L, hL⟩ : ∃ L, L = otherL xs0 xs1 (headL xs1 a2 a3) := ⟨_, rfl⟩
  obtain ⟨c, hc⟩ : ∃ c : Bool, c = otherOk xs0 xs1 (headL xs1 a2 a3) := ⟨_, rfl⟩
  have hlen : L.length ≤ 1000 := by rw [hL]; exact other_len xs0 xs1 (headL xs1 a2 a3)
  have S : Hid (∀ (va vb : Value) (w : World), Rd w va xs0 → Rd w vb xs1 → Calls Try.prog 22 #[va, vb, .int .i64 a2, .int .i64 a3] w fun e w' => ∃ u, e = .returned (.tuple #[u, .bool c]) ∧ Owns w' w.heap.size u (L) ∧ Below w.heap.size w w') := hid (fun va vb w  h0 h1 => by rw [hL, hc]; exact conicAtS_any va vb xs0 xs1 a2 a3 w h0 h1)
  have I : Hid (∀ (va vb : Value) (w : World), Rd w va xs0 → Rd w vb xs1 → Calls Try.prog 23 #[va, vb, .int .i64 a2, .int .i64 a3] w fun e w' => ∃ u, e = .returned (.tuple #[u, .bool c]) ∧ Owns w' w.heap.size u (L) ∧ Below w.heap.size w w') := hid (fun va vb w  h0 h1 => by rw [hL, hc]; exact conicAt_any va vb xs0 xs1 a2 a3 w h0 h1)
  have HDL : decide (L = L) = true := by simp
  have T1 : ((1 + (L.length : Int)) != 1 + L.length) = false := by simp
  have T2 : ¬ ((1 + (L.length : Int)) < 0) := by omega
  clear hL hc
  go_enter Try.func5, Try.ntmps5
  obtain ⟨W0, hW0⟩ : ∃ W0, W0 = w := ⟨_, rfl⟩
  have B0 : Hid (Below w.heap.size w W0) := hid (by rw [hW0]; exact Below.refl _ _)
  rw [← hW0]
  have HW0 := hid hW0
  clear hW0
  go_wp2_with fail
  refine (toIntS_any _ xs0 _ (RA0.out.keep2 B0.out) hl0).mono ?_
  rintro e W1 ⟨u0, rfl, o1, b1, f1⟩
  have Fu0 : Hid (Firm u0) := hid (.inr f1)
  clear f1
  have E1 := hid b1
  have s1 : W0.heap.size ≤ W1.heap.size := E1.out.size
  clear b1
  have B1 := hid (B0.out.trans (E1.out.mono B0.out.size))
  have Ou0_1 := hid o1
  have LTu0 := hid o1.lt
  clear o1
  go_wp2_with fail
  refine (toIntS_any _ xs1 _ (RA1.out.keep2 B1.out) hl1).mono ?_
  rintro e W2 ⟨u1, rfl, o2, b2, f2⟩
  have Fu1 : Hid (Firm u1) := hid (.inr f2)
  clear f2
  have E2 := hid b2
  have s2 : W1.heap.size ≤ W2.heap.size := E2.out.size
  clear b2
  have B2 := hid (B1.out.trans (E2.out.mono B1.out.size))
  have Ou0_2 := hid (Ou0_1.out.keep Ou0_1.out.lt E2.out)
  have Ou1_2 := hid o2
  have LTu1 := hid o2.lt
  clear o2
  go_wp2_with fail
  refine (S.out _ _ _ Ou0_2.out.rd Ou1_2.out.rd).mono ?_
  rintro e W3 ⟨v0, rfl, o3, b3⟩
  have E3 := hid b3
  have s3 : W2.heap.size ≤ W3.heap.size := E3.out.size
  clear b3
  have B3 := hid (B2.out.trans (E3.out.mono B2.out.size))
  have Ou0_3 := hid (Ou0_2.out.keep Ou0_2.out.lt E3.out)
  have Ou1_3 := hid (Ou1_2.out.keep Ou1_2.out.lt E3.out)
  have Ov0_3 := hid o3
  have LTv0 := hid o3.lt
  clear o3
  go_wp2_with fail
  refine (toIntS_any _ xs0 _ (RA0.out.keep2 B3.out) hl0).mono ?_
  rintro e W4 ⟨y0, rfl, o4, b4, f4⟩
  have Fy0 : Hid (Firm y0) := hid (.inr f4)
  clear f4
  have E4 := hid b4
  have s4 : W3.heap.size ≤ W4.heap.size := E4.out.size
  clear b4
  have B4 := hid (B3.out.trans (E4.out.mono B3.out.size))
  have Ov0_4 := hid (Ov0_3.out.keep Ov0_3.out.lt E4.out)
  have Oy0_4 := hid o4
  have LTy0 := hid o4.lt
  clear o4
  go_wp2_with fail
  refine (toIntS_any _ xs1 _ (RA1.out.keep2 B4.out) hl1).mono ?_
  rintro e W5 ⟨y1, rfl, o5, b5, f5⟩
  have Fy1 : Hid (Firm y1) := hid (.inr f5)
  clear f5
  have E5 := hid b5
  have s5 : W4.heap.size ≤ W5.heap.size := E5.out.size
  clear b5
  have B5 := hid (B4.out.trans (E5.out.mono B4.out.size))
  have Ov0_5 := hid (Ov0_4.out.keep Ov0_4.out.lt E5.out)
  have Oy0_5 := hid (Oy0_4.out.keep Oy0_4.out.lt E5.out)
  have Oy1_5 := hid o5
  have LTy1 := hid o5.lt
  clear o5
  go_wp2_with fail
  refine (I.out _ _ _ Oy0_5.out.rd Oy1_5.out.rd).mono ?_
  rintro e W6 ⟨v1, rfl, o6, b6⟩
  have E6 := hid b6
  have s6 : W5.heap.size ≤ W6.heap.size := E6.out.size
  clear b6
  have B6 := hid (B5.out.trans (E6.out.mono B5.out.size))
  have Ov0_6 := hid (Ov0_5.out.keep Ov0_5.out.lt E6.out)
  have Oy0_6 := hid (Oy0_5.out.keep Oy0_5.out.lt E6.out)
  have Oy1_6 := hid (Oy1_5.out.keep Oy1_5.out.lt E6.out)
  have Ov1_6 := hid o6
  have LTv1 := hid o6.lt
  clear o6
  go_wp2_with fail
  refine (eqIntS_any _ _ L L _ Ov1_6.out.rd Ov0_6.out.rd).mono ?_
  rintro e W7 ⟨rfl, k7, hk7⟩
  have b7 : Below W6.heap.size W6 W7 := by rw [hk7]; exact below_drewN (Below.refl _ _) k7
  clear hk7
  have E7 := hid b7
  have s7 : W6.heap.size ≤ W7.heap.size := E7.out.size
  clear b7
  have B7 := hid (B6.out.trans (E7.out.mono B6.out.size))
  have Ov0_7 := hid (Ov0_6.out.keep Ov0_6.out.lt E7.out)
  have Oy0_7 := hid (Oy0_6.out.keep Oy0_6.out.lt E7.out)
  have Oy1_7 := hid (Oy1_6.out.keep Oy1_6.out.lt E7.out)
  have Ov1_7 := hid (Ov1_6.out.keep Ov1_6.out.lt E7.out)
  go_wp2_with fail
  refine (toIntS_any _ xs0 _ (RA0.out.keep2 B7.out) hl0).mono ?_
  rintro e W8 ⟨t0, rfl, o8, b8, f8⟩
  have Ft0 : Hid (Firm t0) := hid (.inr f8)
  clear f8
  have E8 := hid b8
  have s8 : W7.heap.size ≤ W8.heap.size := E8.out.size
  clear b8
  have B8 := hid (B7.out.trans (E8.out.mono B7.out.size))
  have Ov0_8 := hid (Ov0_7.out.keep Ov0_7.out.lt E8.out)
  have Oy0_8 := hid (Oy0_7.out.keep Oy0_7.out.lt E8.out)
  have Oy1_8 := hid (Oy1_7.out.keep Oy1_7.out.lt E8.out)
  have Ov1_8 := hid (Ov1_7.out.keep Ov1_7.out.lt E8.out)
  have Ot0_8 := hid o8
  have LTt0 := hid o8.lt
  clear o8
  go_wp2_with fail
  refine (eqIntS_any _ _ xs0 xs0 _ Oy0_8.out.rd Ot0_8.out.rd).mono ?_
  rintro e W9 ⟨rfl, k9, hk9⟩
  have b9 : Below W8.heap.size W8 W9 := by rw [hk9]; exact below_drewN (Below.refl _ _) k9
  clear hk9
  have E9 := hid b9
  have s9 : W8.heap.size ≤ W9.heap.size := E9.out.size
  clear b9
  have B9 := hid (B8.out.trans (E9.out.mono B8.out.size))
  have Ov0_9 := hid (Ov0_8.out.keep Ov0_8.out.lt E9.out)
  have Oy0_9 := hid (Oy0_8.out.keep Oy0_8.out.lt E9.out)
  have Oy1_9 := hid (Oy1_8.out.keep Oy1_8.out.lt E9.out)
  have Ov1_9 := hid (Ov1_8.out.keep Ov1_8.out.lt E9.out)
  have Ot0_9 := hid (Ot0_8.out.keep Ot0_8.out.lt E9.out)
  go_wp2_with fail
  refine (toIntS_any _ xs1 _ (RA1.out.keep2 B9.out) hl1).mono ?_
  rintro e W10 ⟨t1, rfl, o10, b10, f10⟩
  have Ft1 : Hid (Firm t1) := hid (.inr f10)
  clear f10
  have E10 := hid b10
  have s10 : W9.heap.size ≤ W10.heap.size := E10.out.size
  clear b10
  have B10 := hid (B9.out.trans (E10.out.mono B9.out.size))
  have Ov0_10 := hid (Ov0_9.out.keep Ov0_9.out.lt E10.out)
  have Oy0_10 := hid (Oy0_9.out.keep Oy0_9.out.lt E10.out)
  have Oy1_10 := hid (Oy1_9.out.keep Oy1_9.out.lt E10.out)
  have Ov1_10 := hid (Ov1_9.out.keep Ov1_9.out.lt E10.out)
  have Ot1_10 := hid o10
  have LTt1 := hid o10.lt
  clear o10
  go_wp2_with fail
  refine (eqIntS_any _ _ xs1 xs1 _ Oy1_10.out.rd Ot1_10.out.rd).mono ?_
  rintro e W11 ⟨rfl, k11, hk11⟩
  have b11 : Below W10.heap.size W10 W11 := by rw [hk11]; exact below_drewN (Below.refl _ _) k11
  clear hk11
  have E11 := hid b11
  have s11 : W10.heap.size ≤ W11.heap.size := E11.out.size
  clear b11
  have B11 := hid (B10.out.trans (E11.out.mono B10.out.size))
  have Ov0_11 := hid (Ov0_10.out.keep Ov0_10.out.lt E11.out)
  have Oy0_11 := hid (Oy0_10.out.keep Oy0_10.out.lt E11.out)
  have Oy1_11 := hid (Oy1_10.out.keep Oy1_10.out.lt E11.out)
  have Ov1_11 := hid (Ov1_10.out.keep Ov1_10.out.lt E11.out)
  have Ot1_11 := hid (Ot1_10.out.keep Ot1_10.out.lt E11.out)
  go_wp2_with fail
  refine (markIntS2_any _ xs0 W3.heap.size 1 (by omega) (by omega) (by omega) _ Oy0_11.out).mono ?_
  rintro e W12 ⟨rfl, o12, b12, g12⟩
  have s12 : W11.heap.size ≤ W12.heap.size := b12.size
  have B12 := hid (B11.out.trans (b12.mono B3.out.size))
  have Ov0_12 := hid (Ov0_11.out.kept g12 (younger_apart (fun g h => Nat.lt_of_lt_of_le (LTv0.out g h) (by omega)) Oy0_11.out))
  have Oy1_12 := hid (Oy1_11.out.kept g12 (elder_apart (fun g h => Nat.lt_of_lt_of_le (LTy0.out g h) (by omega)) Oy1_11.out))
  have Ov1_12 := hid (Ov1_11.out.kept g12 (elder_apart (fun g h => Nat.lt_of_lt_of_le (LTy0.out g h) (by omega)) Ov1_11.out))
  have Oy0_12 := hid o12
  clear o12 b12 g12
  go_wp2_with fail
  refine (markIntS2_any _ xs1 W4.heap.size (1 + (xs0.length : Int)) (by omega) (by omega) (by omega) _ Oy1_12.out).mono ?_
  rintro e W13 ⟨rfl, o13, b13, g13⟩
  have s13 : W12.heap.size ≤ W13.heap.size := b13.size
  have B13 := hid (B12.out.trans (b13.mono B4.out.size))
  have Ov0_13 := hid (Ov0_12.out.kept g13 (younger_apart (fun g h => Nat.lt_of_lt_of_le (LTv0.out g h) (by omega)) Oy1_12.out))
  have Oy0_13 := hid (Oy0_12.out.kept g13 (younger_apart (fun g h => Nat.lt_of_lt_of_le (LTy0.out g h) (by omega)) Oy1_12.out))
  have Ov1_13 := hid (Ov1_12.out.kept g13 (elder_apart (fun g h => Nat.lt_of_lt_of_le (LTy1.out g h) (by omega)) Ov1_12.out))
  have Oy1_13 := hid o13
  clear o13 b13 g13
  have TK : ¬ (1 + (xs0.length : Int) + (xs1.length : Int) < 0) := by omega
  go_wp2_with fail
  refine (eqIntS_any _ _ L L _ Ov1_13.out.rd Ov0_13.out.rd).mono ?_
  rintro e W14 ⟨rfl, k14, hk14⟩
  have b14 : Below W13.heap.size W13 W14 := by rw [hk14]; exact below_drewN (Below.refl _ _) k14
  clear hk14
  have E14 := hid b14
  have s14 : W13.heap.size ≤ W14.heap.size := E14.out.size
  clear b14
  have B14 := hid (B13.out.trans (E14.out.mono B13.out.size))
  have Ov0_14 := hid (Ov0_13.out.keep Ov0_13.out.lt E14.out)
  have Ov1_14 := hid (Ov1_13.out.keep Ov1_13.out.lt E14.out)
  go_wp2_with fail
  refine (markIntS2_any _ L W5.heap.size 1 (by omega) (by omega) (by omega) _ Ov1_14.out).mono ?_
  rintro e W15 ⟨rfl, o15, b15, g15⟩
  have s15 : W14.heap.size ≤ W15.heap.size := b15.size
  have B15 := hid (B14.out.trans (b15.mono B5.out.size))
  have Ov0_15 := hid (Ov0_14.out.kept g15 (younger_apart (fun g h => Nat.lt_of_lt_of_le (LTv0.out g h) (by omega)) Ov1_14.out))
  have Ov1_15 := hid o15
  clear o15 b15 g15
  go_wp2_with fail
  refine (heldIntS_any _ L.length 1 (by omega) (by omega) (by omega) _ Ov1_15.out.rd).mono ?_
  rintro e w' ⟨rfl, rfl⟩
  go_wp2_with fail
  refine (toIntS_any _ xs0 _ (RA0.out.keep2 B15.out) hl0).mono ?_
  rintro e W16 ⟨z0, rfl, o16, b16, f16⟩
  have Fz0 : Hid (Firm z0) := hid (.inr f16)
  clear f16
  have E16 := hid b16
  have s16 : W15.heap.size ≤ W16.heap.size := E16.out.size
  clear b16
  have B16 := hid (B15.out.trans (E16.out.mono B15.out.size))
  have Ov0_16 := hid (Ov0_15.out.keep Ov0_15.out.lt E16.out)
  have Ov1_16 := hid (Ov1_15.out.keep Ov1_15.out.lt E16.out)
  have Oz0_16 := hid o16
  have LTz0 := hid o16.lt
  clear o16
  go_wp2_with fail
  refine (toIntS_any _ xs1 _ (RA1.out.keep2 B16.out) hl1).mono ?_
  rintro e W17 ⟨z1, rfl, o17, b17, f17⟩
  have Fz1 : Hid (Firm z1) := hid (.inr f17)
  clear f17
  have E17 := hid b17
  have s17 : W16.heap.size ≤ W17.heap.size := E17.out.size
  clear b17
  have B17 := hid (B16.out.trans (E17.out.mono B16.out.size))
  have Ov0_17 := hid (Ov0_16.out.keep Ov0_16.out.lt E17.out)
  have Ov1_17 := hid (Ov1_16.out.keep Ov1_16.out.lt E17.out)
  have Oz0_17 := hid (Oz0_16.out.keep Oz0_16.out.lt E17.out)
  have Oz1_17 := hid o17
  have LTz1 := hid o17.lt
  clear o17
  go_wp2_with fail
  refine (I.out _ _ _ Oz0_17.out.rd Oz1_17.out.rd).mono ?_
  rintro e W18 ⟨v2, rfl, o18, b18⟩
  have E18 := hid b18
  have s18 : W17.heap.size ≤ W18.heap.size := E18.out.size
  clear b18
  have B18 := hid (B17.out.trans (E18.out.mono B17.out.size))
  have Ov0_18 := hid (Ov0_17.out.keep Ov0_17.out.lt E18.out)
  have Ov1_18 := hid (Ov1_17.out.keep Ov1_17.out.lt E18.out)
  have Oz0_18 := hid (Oz0_17.out.keep Oz0_17.out.lt E18.out)
  have Oz1_18 := hid (Oz1_17.out.keep Oz1_17.out.lt E18.out)
  have Ov2_18 := hid o18
  have LTv2 := hid o18.lt
  clear o18
  go_wp2_with fail
  refine (eqIntS_any _ _ L L _ Ov2_18.out.rd Ov0_18.out.rd).mono ?_
  rintro e W19 ⟨rfl, k19, hk19⟩
  have b19 : Below W18.heap.size W18 W19 := by rw [hk19]; exact below_drewN (Below.refl _ _) k19
  clear hk19
  have E19 := hid b19
  have s19 : W18.heap.size ≤ W19.heap.size := E19.out.size
  clear b19
  have B19 := hid (B18.out.trans (E19.out.mono B18.out.size))
  have Ov0_19 := hid (Ov0_18.out.keep Ov0_18.out.lt E19.out)
  have Ov1_19 := hid (Ov1_18.out.keep Ov1_18.out.lt E19.out)
  have Ov2_19 := hid (Ov2_18.out.keep Ov2_18.out.lt E19.out)
  go_wp2_with fail
  refine (heldIntS_any _ L.length 1 (by omega) (by omega) (by omega) _ Ov1_19.out.rd).mono ?_
  rintro e w' ⟨rfl, rfl⟩
  go_wp2
  go_ret
  exact ⟨rfl, by have h := B19.out; rw [← HW0.out] at h; exact h⟩
theorem own : ownKnob Try.prog.godebug = none := by kernel_rfl
theorem laidOut : laidOutB Try.prog = true := by kernel_rfl
set_option maxRecDepth 100000 in
theorem lifted (os : Os) (started : os.Started) (H : Type) (enc : TypeId × Value → H) :
    ReturnsInHanded {} Try.checked os 5 .any (Rows.fnExactConicAtSpec.pre6 enc Try.prog Try.f5 Rows.fnExactConicAtRow.domain false) (Rows.fnExactConicAtSpec.post enc Try.prog Try.f5 false true false false) := by
  refine returnsInHanded_of_change (C := Try.checked) own started (by kernel_rfl) Try.func5
    (ChangeSpec.witness6 (enc := enc) (C := Try.checked) false ⟨#[], #[.slice none 0 0, .slice none 0 0, .int .i64 0, .int .i64 0], []⟩ 8 (by kernel_rfl) (by kernel_rfl) (by kernel_rfl) (by kernel_rfl)) ?_
  intro W base args ds gs before hval0 hW hcnd _
  have hval : ∀ (j : Nat) t v, Try.f5.params[j]? = some t → args[j]? = some v → Value.okWide Try.prog W .any base t v := hval0
  have hW' := hW
  obtain ⟨p, q, hA0, hV, rfl, hfz, hnd⟩ := hW
  have hA : DataW.TrodAll enc Try.prog W 0 (fun _ => true) true Try.f5.params.toList args.toList ds p := hA0
  rw [Try.params5] at hA hval
  obtain ⟨v0, vs0, d0, ds0, p0, q0, hargs, rfl, rfl, h0, r0⟩ := trodAll_cons hA
  obtain ⟨v1, vs1, d1, ds1, p1, q1, rfl, rfl, rfl, h1, r1⟩ := trodAll_cons r0
  obtain ⟨v2, vs2, d2, ds2, p2, q2, rfl, rfl, rfl, h2, r2⟩ := trodAll_cons r1
  obtain ⟨v3, vs3, d3, ds3, p3, q3, rfl, rfl, rfl, h3, r3⟩ := trodAll_cons r2
  obtain ⟨rfl, rfl, rfl⟩ := trodAll_nil r3
  obtain rfl : args = #[v0, v1, v2, v3] := by cases args; simp_all
  obtain ⟨rfl, rfl⟩ := trodVars_none hV
  obtain ⟨a0, len0, cap0, rfl⟩ := okWide_slice Try.underlying22 (hval 0 22 v0 rfl rfl)
  have k0 := h0
  have lt0 : ∀ x ∈ p0, x.block < W.heap.size := by obtain ⟨m, hm⟩ := k0; exact DataW.trod_lt m _ _ _ hm
  obtain ⟨z0, w0⟩ : ∃ zs, IsRow .i64 W a0 len0 cap0 zs := by
    obtain ⟨fuel, hf⟩ := h0
    rcases open_ints Try.underlying22 Try.underlying3 (by kernel_rfl) hf with ⟨hcs, _⟩ | ⟨x, l, c, zs, hcs, _, hl, hm, hz, _, hcell, hwz⟩
    · simp [Value.cells] at hcs
      obtain ⟨rfl, rfl, rfl⟩ := hcs
      exact ⟨[], .inl ⟨rfl, rfl, rfl, rfl⟩⟩
    · simp [Value.cells] at hcs
      obtain ⟨rfl, rfl, rfl⟩ := hcs
      exact ⟨zs, .inr ⟨_, rfl, hl, hm, by simpa using hz, hcell, hwz⟩⟩
  obtain ⟨a1, len1, cap1, rfl⟩ := okWide_slice Try.underlying22 (hval 1 22 v1 rfl rfl)
  have k1 := h1
  have lt1 : ∀ x ∈ p1, x.block < W.heap.size := by obtain ⟨m, hm⟩ := k1; exact DataW.trod_lt m _ _ _ hm
  obtain ⟨z1, w1⟩ : ∃ zs, IsRow .i64 W a1 len1 cap1 zs := by
    obtain ⟨fuel, hf⟩ := h1
    rcases open_ints Try.underlying22 Try.underlying3 (by kernel_rfl) hf with ⟨hcs, _⟩ | ⟨x, l, c, zs, hcs, _, hl, hm, hz, _, hcell, hwz⟩
    · simp [Value.cells] at hcs
      obtain ⟨rfl, rfl, rfl⟩ := hcs
      exact ⟨[], .inl ⟨rfl, rfl, rfl, rfl⟩⟩
    · simp [Value.cells] at hcs
      obtain ⟨rfl, rfl, rfl⟩ := hcs
      exact ⟨zs, .inr ⟨_, rfl, hl, hm, by simpa using hz, hcell, hwz⟩⟩
  obtain ⟨a2, rfl, rfl, rfl, w2⟩ := open_int Try.underlying3 (hval 2 3 v2 rfl rfl) h2
  obtain ⟨a3, rfl, rfl, rfl, w3⟩ := open_int Try.underlying3 (hval 3 3 v3 rfl rfl) h3
  clear hA0 hval0
  refine (walk a0 len0 cap0 z0 a1 len1 cap1 z1 a2 a3 W w0 w1 w2 w3).mono fun e W' ⟨he, bel⟩ => ?_
  subst he
  exact ⟨_, rfl, _, _, _, [], _, [], hW', trodAll_mk1 (shut_bool Try.underlying4 _), (trodAll_cons_mk (Below.trod laidOut (by kernel_rfl) (of_decide_eq_true (by kernel_rfl)) k0 bel lt0) (trodAll_cons_mk (Below.trod laidOut (by kernel_rfl) (of_decide_eq_true (by kernel_rfl)) k1 bel lt1) (trodAll_cons_mk (shut_int Try.underlying3 w2) (trodAll_cons_mk (shut_int Try.underlying3 w3) trodAll_mk0)))), rfl, bel.frame _, fun h => by cases h⟩
theorem over : Rows.fnExactConicAtRow.holds Try.pinned (OpenSpec.ofChange Rows.fnExactConicAtSpec) :=
  OpenClaim.holds_of_wide 5 Try.f5 rfl rfl rfl rfl rfl rfl rfl ⟨rfl, rfl, rfl, rfl, rfl⟩ rfl rfl rfl rfl rfl (by kernel_rfl) Try.func5 (by kernel_rfl)
    (of_decide_eq_true (by kernel_rfl)) (by unfold Func.isWrapper; first | (rw [if_pos (by decide +kernel)]; kernel_rfl) | (rw [if_neg (by decide +kernel)]; exact ⟨rfl, rfl⟩))
    (fun os started H enc _ => lifted os started H enc)
theorem proved : Rows.FnExactConicAtSaid := over
end Go.Proofs.Ytenibnblibnocaa.fnExactConicAt
