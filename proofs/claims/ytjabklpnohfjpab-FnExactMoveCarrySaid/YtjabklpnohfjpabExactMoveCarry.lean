/-
  Proves: for every three lists the program's MoveCarry answers as the model's, in memory of its own.
  Conditions: none beyond the given statement's own.
-/
import Derived.Test.YtjabklpnohfjpabRows
import Derived.Test.YtjabklpnohfjpabQBun38
import Derived.Test.YtjabklpnohfjpabQBun40
import Derived.ProofKit
import Derived.OpenShut
import Derived.ShutString
import Derived.ChangeOld
namespace Go.Proofs.Ytjabklpnohfjpab.fnExactMoveCarry
open Go.ChangeShapes Go.WideShapes Go.ChangeAt Go.RowKit
open Go.ChangeMaps (open_string shut_string)
set_option linter.unusedVariables false
set_option maxRecDepth 100000 in
set_option maxHeartbeats 4000000 in
theorem walk  (a0 : Option Addr) (len0 cap0 : Nat) (z0 : List Int) (a1 : Option Addr) (len1 cap1 : Nat) (z1 : List Int) (a2 : Option Addr) (len2 cap2 : Nat) (z2 : List Int) (w : World) (w0 : IsRow .i64 w a0 len0 cap0 z0) (w1 : IsRow .i64 w a1 len1 cap1 z1) (w2 : IsRow .i64 w a2 len2 cap2 z2) :
    Calls Try.prog 12 #[.slice a0 len0 cap0, .slice a1 len1 cap1, .slice a2 len2 cap2] w fun e w' => e = .returned (.bool true) ∧ Below w.heap.size w w' := by
  obtain ⟨xs0, hxl0, hrd0⟩ := rd_row w0
  have RA0 := hid hrd0
  have HXL0 := hid hxl0
  clear hrd0 hxl0 w0
  obtain ⟨xs1, hxl1, hrd1⟩ := rd_row w1
  have RA1 := hid hrd1
  have HXL1 := hid hxl1
  clear hrd1 hxl1 w1
  obtain ⟨xs2, hxl2, hrd2⟩ := rd_row w2
  have RA2 := hid hrd2
  have HXL2 := hid hxl2
  clear hrd2 hxl2 w2
  by_cases hl0a : (1048576 : Int) < (len0 : Int)
  · go_enter Try.func12, Try.ntmps12
    go_wp2
    go_ret
    exact ⟨rfl, Below.refl _ _⟩
  by_cases hl1a : (1048576 : Int) < (len1 : Int)
  · go_enter Try.func12, Try.ntmps12
    go_wp2
    go_ret
    exact ⟨rfl, Below.refl _ _⟩
  by_cases hl2a : (1048576 : Int) < (len2 : Int)
  · go_enter Try.func12, Try.ntmps12
    go_wp2
    go_ret
    exact ⟨rfl, Below.refl _ _⟩
  have hl0 : xs0.length ≤ 1048576 := by have := HXL0.out; omega
  have hl1 : xs1.length ≤ 1048576 := by have := HXL1.out; omega
  have hl2 : xs2.length ≤ 1048576 := by have := HXL2.out; omega
  obtain ⟨R, hR⟩ : ∃ R, R = (if carryOk xs0 xs1 xs2 then carryL xs0 xs1 xs2 else []) := ⟨_, rfl⟩
  obtain ⟨b, hb⟩ : ∃ b, b = carryOk xs0 xs1 xs2 := ⟨_, rfl⟩
  have hlen : preL R R.length ≤ 1000 := by rw [hR]; exact carry_rows xs0 xs1 xs2
  have S : Hid (∀ (va vb vc : Value) (w : World), Rd w va xs0 → Rd w vb xs1 → Rd w vc xs2 → Calls Try.prog 45 #[va, vb, vc] w fun e w' => ∃ u, e = .returned (.tuple #[u, .bool b]) ∧ OwnM w' w.heap.size none u R ∧ Below w.heap.size w w') := hid (fun va vb vc w h0 h1 h2 => by rw [hR, hb]; exact moveCarryS_any va vb vc xs0 xs1 xs2 w h0 h1 h2)
  have I : Hid (∀ (va vb vc : Value) (w : World), Rd w va xs0 → Rd w vb xs1 → Rd w vc xs2 → Calls Try.prog 46 #[va, vb, vc] w fun e w' => ∃ u, e = .returned (.tuple #[u, .bool b]) ∧ OwnM w' w.heap.size none u R ∧ Below w.heap.size w w') := hid (fun va vb vc w h0 h1 h2 => by rw [hR, hb]; exact moveCarry_any va vb vc xs0 xs1 xs2 w h0 h1 h2)
  have TB : (b != b) = false := by simp
  have T1 : ((1 + ((preL R R.length : Nat) : Int)) != 1 + ((preL R R.length : Nat) : Int)) = false := by simp
  have T2 : ¬ ((1 + ((preL R R.length : Nat) : Int)) < 0) := by omega
  clear hR hb
  go_enter Try.func12, Try.ntmps12
  obtain ⟨W0, hW0⟩ : ∃ W0, W0 = w := ⟨_, rfl⟩
  have B0 : Hid (Below w.heap.size w W0) := hid (by rw [hW0]; exact Below.refl _ _)
  rw [← hW0]
  have HW0 := hid hW0
  clear hW0
  go_wp2_with fail
  refine (toIntS_any _ xs0 _ (RA0.out.keep2 B0.out) hl0).mono ?_
  rintro e W1 ⟨u0, rfl, o1, b1, _⟩
  have E1 := hid b1
  have s1 : W0.heap.size ≤ W1.heap.size := E1.out.size
  have B1 := hid (B0.out.trans (E1.out.mono B0.out.size))
  have Ou0_1 := hid o1
  have LTu0 := hid o1.lt
  clear o1 b1
  go_wp2_with fail
  refine (toIntS_any _ xs1 _ (RA1.out.keep2 B1.out) hl1).mono ?_
  rintro e W2 ⟨u1, rfl, o2, b2, _⟩
  have E2 := hid b2
  have s2 : W1.heap.size ≤ W2.heap.size := E2.out.size
  have B2 := hid (B1.out.trans (E2.out.mono B1.out.size))
  have Ou0_2 := hid (Ou0_1.out.keep Ou0_1.out.lt E2.out)
  clear Ou0_1
  have Ou1_2 := hid o2
  have LTu1 := hid o2.lt
  clear o2 b2
  go_wp2_with fail
  refine (toIntS_any _ xs2 _ (RA2.out.keep2 B2.out) hl2).mono ?_
  rintro e W3 ⟨u2, rfl, o3, b3, _⟩
  have E3 := hid b3
  have s3 : W2.heap.size ≤ W3.heap.size := E3.out.size
  have B3 := hid (B2.out.trans (E3.out.mono B2.out.size))
  have Ou0_3 := hid (Ou0_2.out.keep Ou0_2.out.lt E3.out)
  clear Ou0_2
  have Ou1_3 := hid (Ou1_2.out.keep Ou1_2.out.lt E3.out)
  clear Ou1_2
  have Ou2_3 := hid o3
  have LTu2 := hid o3.lt
  clear o3 b3
  go_wp2_with fail
  refine (S.out _ _ _ _ Ou0_3.out.rd Ou1_3.out.rd Ou2_3.out.rd).mono ?_
  rintro e W4 ⟨p, rfl, o4, b4⟩
  have E4 := hid b4
  have s4 : W3.heap.size ≤ W4.heap.size := E4.out.size
  have B4 := hid (B3.out.trans (E4.out.mono B3.out.size))
  have Ou0_4 := hid (Ou0_3.out.keep Ou0_3.out.lt E4.out)
  clear Ou0_3
  have Ou1_4 := hid (Ou1_3.out.keep Ou1_3.out.lt E4.out)
  clear Ou1_3
  have Ou2_4 := hid (Ou2_3.out.keep Ou2_3.out.lt E4.out)
  clear Ou2_3
  obtain ⟨valsp, oc4⟩ := o4.ownC
  obtain ⟨ap, cp, rfl⟩ := o4.rd.form
  have Op_4 := hid oc4
  clear o4 b4 oc4
  go_wp2_with fail
  refine (toIntS_any _ xs0 _ (RA0.out.keep2 B4.out) hl0).mono ?_
  rintro e W5 ⟨y0, rfl, o5, b5, _⟩
  have E5 := hid b5
  have s5 : W4.heap.size ≤ W5.heap.size := E5.out.size
  have B5 := hid (B4.out.trans (E5.out.mono B4.out.size))
  have Op_5 := hid (Op_4.out.at_blocks fun g _ h => E5.out.block g (by omega))
  clear Op_4
  have Oy0_5 := hid o5
  have LTy0 := hid o5.lt
  clear o5 b5
  go_wp2_with fail
  refine (toIntS_any _ xs1 _ (RA1.out.keep2 B5.out) hl1).mono ?_
  rintro e W6 ⟨y1, rfl, o6, b6, _⟩
  have E6 := hid b6
  have s6 : W5.heap.size ≤ W6.heap.size := E6.out.size
  have B6 := hid (B5.out.trans (E6.out.mono B5.out.size))
  have Op_6 := hid (Op_5.out.at_blocks fun g _ h => E6.out.block g (by omega))
  clear Op_5
  have Oy0_6 := hid (Oy0_5.out.keep Oy0_5.out.lt E6.out)
  clear Oy0_5
  have Oy1_6 := hid o6
  have LTy1 := hid o6.lt
  clear o6 b6
  go_wp2_with fail
  refine (toIntS_any _ xs2 _ (RA2.out.keep2 B6.out) hl2).mono ?_
  rintro e W7 ⟨y2, rfl, o7, b7, _⟩
  have E7 := hid b7
  have s7 : W6.heap.size ≤ W7.heap.size := E7.out.size
  have B7 := hid (B6.out.trans (E7.out.mono B6.out.size))
  have Op_7 := hid (Op_6.out.at_blocks fun g _ h => E7.out.block g (by omega))
  clear Op_6
  have Oy0_7 := hid (Oy0_6.out.keep Oy0_6.out.lt E7.out)
  clear Oy0_6
  have Oy1_7 := hid (Oy1_6.out.keep Oy1_6.out.lt E7.out)
  clear Oy1_6
  have Oy2_7 := hid o7
  have LTy2 := hid o7.lt
  clear o7 b7
  go_wp2_with fail
  refine (I.out _ _ _ _ Oy0_7.out.rd Oy1_7.out.rd Oy2_7.out.rd).mono ?_
  rintro e W8 ⟨g, rfl, o8, b8⟩
  have E8 := hid b8
  have s8 : W7.heap.size ≤ W8.heap.size := E8.out.size
  have B8 := hid (B7.out.trans (E8.out.mono B7.out.size))
  have Op_8 := hid (Op_7.out.at_blocks fun g _ h => E8.out.block g (by omega))
  clear Op_7
  have Oy0_8 := hid (Oy0_7.out.keep Oy0_7.out.lt E8.out)
  clear Oy0_7
  have Oy1_8 := hid (Oy1_7.out.keep Oy1_7.out.lt E8.out)
  clear Oy1_7
  have Oy2_8 := hid (Oy2_7.out.keep Oy2_7.out.lt E8.out)
  clear Oy2_7
  obtain ⟨valsg, oc8⟩ := o8.ownC
  obtain ⟨ag, cg, rfl⟩ := o8.rd.form
  have Og_8 := hid oc8
  clear o8 b8 oc8
  go_wp2_with fail
  refine (eqIntSS_any _ _ R R _ Og_8.out.rd Op_8.out.rd).mono ?_
  rw [dec_rows]
  rintro e W9 ⟨rfl, k9, hk9⟩
  have b9 : Below W8.heap.size W8 W9 := by rw [hk9]; exact below_drewN (Below.refl _ _) k9
  clear hk9
  have E9 := hid b9
  have s9 : W8.heap.size ≤ W9.heap.size := E9.out.size
  have B9 := hid (B8.out.trans (E9.out.mono B8.out.size))
  have Op_9 := hid (Op_8.out.at_blocks fun g _ h => E9.out.block g (by omega))
  clear Op_8
  have Oy0_9 := hid (Oy0_8.out.keep Oy0_8.out.lt E9.out)
  clear Oy0_8
  have Oy1_9 := hid (Oy1_8.out.keep Oy1_8.out.lt E9.out)
  clear Oy1_8
  have Oy2_9 := hid (Oy2_8.out.keep Oy2_8.out.lt E9.out)
  clear Oy2_8
  have Og_9 := hid (Og_8.out.at_blocks fun g _ h => E9.out.block g (by omega))
  clear Og_8
  clear b9
  go_wp2_with fail
  refine (toIntS_any _ xs0 _ (RA0.out.keep2 B9.out) hl0).mono ?_
  rintro e W10 ⟨t0, rfl, o10, b10, _⟩
  have E10 := hid b10
  have s10 : W9.heap.size ≤ W10.heap.size := E10.out.size
  have B10 := hid (B9.out.trans (E10.out.mono B9.out.size))
  have Op_10 := hid (Op_9.out.at_blocks fun g _ h => E10.out.block g (by omega))
  clear Op_9
  have Oy0_10 := hid (Oy0_9.out.keep Oy0_9.out.lt E10.out)
  clear Oy0_9
  have Oy1_10 := hid (Oy1_9.out.keep Oy1_9.out.lt E10.out)
  clear Oy1_9
  have Oy2_10 := hid (Oy2_9.out.keep Oy2_9.out.lt E10.out)
  clear Oy2_9
  have Og_10 := hid (Og_9.out.at_blocks fun g _ h => E10.out.block g (by omega))
  clear Og_9
  have Ot0_10 := hid o10
  have LTt0 := hid o10.lt
  clear o10 b10
  go_wp2_with fail
  refine (eqIntS_any _ _ xs0 xs0 _ Oy0_10.out.rd Ot0_10.out.rd).mono ?_
  rw [dec_one]
  rintro e W11 ⟨rfl, k11, hk11⟩
  have b11 : Below W10.heap.size W10 W11 := by rw [hk11]; exact below_drewN (Below.refl _ _) k11
  clear hk11
  have E11 := hid b11
  have s11 : W10.heap.size ≤ W11.heap.size := E11.out.size
  have B11 := hid (B10.out.trans (E11.out.mono B10.out.size))
  have Op_11 := hid (Op_10.out.at_blocks fun g _ h => E11.out.block g (by omega))
  clear Op_10
  have Oy0_11 := hid (Oy0_10.out.keep Oy0_10.out.lt E11.out)
  clear Oy0_10
  have Oy1_11 := hid (Oy1_10.out.keep Oy1_10.out.lt E11.out)
  clear Oy1_10
  have Oy2_11 := hid (Oy2_10.out.keep Oy2_10.out.lt E11.out)
  clear Oy2_10
  have Og_11 := hid (Og_10.out.at_blocks fun g _ h => E11.out.block g (by omega))
  clear Og_10
  have Ot0_11 := hid (Ot0_10.out.keep Ot0_10.out.lt E11.out)
  clear Ot0_10
  clear b11
  go_wp2_with fail
  refine (toIntS_any _ xs1 _ (RA1.out.keep2 B11.out) hl1).mono ?_
  rintro e W12 ⟨t1, rfl, o12, b12, _⟩
  have E12 := hid b12
  have s12 : W11.heap.size ≤ W12.heap.size := E12.out.size
  have B12 := hid (B11.out.trans (E12.out.mono B11.out.size))
  have Op_12 := hid (Op_11.out.at_blocks fun g _ h => E12.out.block g (by omega))
  clear Op_11
  have Oy0_12 := hid (Oy0_11.out.keep Oy0_11.out.lt E12.out)
  clear Oy0_11
  have Oy1_12 := hid (Oy1_11.out.keep Oy1_11.out.lt E12.out)
  clear Oy1_11
  have Oy2_12 := hid (Oy2_11.out.keep Oy2_11.out.lt E12.out)
  clear Oy2_11
  have Og_12 := hid (Og_11.out.at_blocks fun g _ h => E12.out.block g (by omega))
  clear Og_11
  have Ot1_12 := hid o12
  have LTt1 := hid o12.lt
  clear o12 b12
  go_wp2_with fail
  refine (eqIntS_any _ _ xs1 xs1 _ Oy1_12.out.rd Ot1_12.out.rd).mono ?_
  rw [dec_one]
  rintro e W13 ⟨rfl, k13, hk13⟩
  have b13 : Below W12.heap.size W12 W13 := by rw [hk13]; exact below_drewN (Below.refl _ _) k13
  clear hk13
  have E13 := hid b13
  have s13 : W12.heap.size ≤ W13.heap.size := E13.out.size
  have B13 := hid (B12.out.trans (E13.out.mono B12.out.size))
  have Op_13 := hid (Op_12.out.at_blocks fun g _ h => E13.out.block g (by omega))
  clear Op_12
  have Oy0_13 := hid (Oy0_12.out.keep Oy0_12.out.lt E13.out)
  clear Oy0_12
  have Oy1_13 := hid (Oy1_12.out.keep Oy1_12.out.lt E13.out)
  clear Oy1_12
  have Oy2_13 := hid (Oy2_12.out.keep Oy2_12.out.lt E13.out)
  clear Oy2_12
  have Og_13 := hid (Og_12.out.at_blocks fun g _ h => E13.out.block g (by omega))
  clear Og_12
  have Ot1_13 := hid (Ot1_12.out.keep Ot1_12.out.lt E13.out)
  clear Ot1_12
  clear b13
  go_wp2_with fail
  refine (toIntS_any _ xs2 _ (RA2.out.keep2 B13.out) hl2).mono ?_
  rintro e W14 ⟨t2, rfl, o14, b14, _⟩
  have E14 := hid b14
  have s14 : W13.heap.size ≤ W14.heap.size := E14.out.size
  have B14 := hid (B13.out.trans (E14.out.mono B13.out.size))
  have Op_14 := hid (Op_13.out.at_blocks fun g _ h => E14.out.block g (by omega))
  clear Op_13
  have Oy0_14 := hid (Oy0_13.out.keep Oy0_13.out.lt E14.out)
  clear Oy0_13
  have Oy1_14 := hid (Oy1_13.out.keep Oy1_13.out.lt E14.out)
  clear Oy1_13
  have Oy2_14 := hid (Oy2_13.out.keep Oy2_13.out.lt E14.out)
  clear Oy2_13
  have Og_14 := hid (Og_13.out.at_blocks fun g _ h => E14.out.block g (by omega))
  clear Og_13
  have Ot2_14 := hid o14
  have LTt2 := hid o14.lt
  clear o14 b14
  go_wp2_with fail
  refine (eqIntS_any _ _ xs2 xs2 _ Oy2_14.out.rd Ot2_14.out.rd).mono ?_
  rw [dec_one]
  rintro e W15 ⟨rfl, k15, hk15⟩
  have b15 : Below W14.heap.size W14 W15 := by rw [hk15]; exact below_drewN (Below.refl _ _) k15
  clear hk15
  have E15 := hid b15
  have s15 : W14.heap.size ≤ W15.heap.size := E15.out.size
  have B15 := hid (B14.out.trans (E15.out.mono B14.out.size))
  have Op_15 := hid (Op_14.out.at_blocks fun g _ h => E15.out.block g (by omega))
  clear Op_14
  have Oy0_15 := hid (Oy0_14.out.keep Oy0_14.out.lt E15.out)
  clear Oy0_14
  have Oy1_15 := hid (Oy1_14.out.keep Oy1_14.out.lt E15.out)
  clear Oy1_14
  have Oy2_15 := hid (Oy2_14.out.keep Oy2_14.out.lt E15.out)
  clear Oy2_14
  have Og_15 := hid (Og_14.out.at_blocks fun g _ h => E15.out.block g (by omega))
  clear Og_14
  have Ot2_15 := hid (Ot2_14.out.keep Ot2_14.out.lt E15.out)
  clear Ot2_14
  clear b15
  go_wp2_with fail
  refine (markIntS2_any _ xs0 W4.heap.size (1) (by omega) (by omega) (by omega) _ Oy0_15.out).mono ?_
  rintro e W16 ⟨rfl, o16, b16, g16⟩
  have G16 := hid g16
  have s16 : W15.heap.size ≤ W16.heap.size := b16.size
  have B16 := hid (B15.out.trans (b16.mono B4.out.size))
  have Op_16 := hid (Op_15.out.at_blocks fun g h3 h4 => G16.out.block g (by omega) (fun e => by have h1 := Oy0_15.out.ge g e.symm; have h2 := LTy0.out g e.symm; omega))
  clear Op_15
  have Oy1_16 := hid (Oy1_15.out.kept G16.out (elder_apart (fun g h => Nat.lt_of_lt_of_le (LTy0.out g h) (by omega)) Oy1_15.out))
  clear Oy1_15
  have Oy2_16 := hid (Oy2_15.out.kept G16.out (elder_apart (fun g h => Nat.lt_of_lt_of_le (LTy0.out g h) (by omega)) Oy2_15.out))
  clear Oy2_15
  have Og_16 := hid (Og_15.out.at_blocks fun g h3 h4 => G16.out.block g (by omega) (fun e => by have h1 := Oy0_15.out.ge g e.symm; have h2 := LTy0.out g e.symm; omega))
  clear Og_15
  have Oy0_16 := hid o16
  clear o16 b16 g16
  go_wp2_with fail
  refine (markIntS2_any _ xs1 W5.heap.size (1 + (xs0.length : Int)) (by omega) (by omega) (by omega) _ Oy1_16.out).mono ?_
  rintro e W17 ⟨rfl, o17, b17, g17⟩
  have G17 := hid g17
  have s17 : W16.heap.size ≤ W17.heap.size := b17.size
  have B17 := hid (B16.out.trans (b17.mono B5.out.size))
  have Op_17 := hid (Op_16.out.at_blocks fun g h3 h4 => G17.out.block g (by omega) (fun e => by have h1 := Oy1_16.out.ge g e.symm; have h2 := LTy1.out g e.symm; omega))
  clear Op_16
  have Oy0_17 := hid (Oy0_16.out.kept G17.out (younger_apart (fun g h => Nat.lt_of_lt_of_le (LTy0.out g h) (by omega)) Oy1_16.out))
  clear Oy0_16
  have Oy2_17 := hid (Oy2_16.out.kept G17.out (elder_apart (fun g h => Nat.lt_of_lt_of_le (LTy1.out g h) (by omega)) Oy2_16.out))
  clear Oy2_16
  have Og_17 := hid (Og_16.out.at_blocks fun g h3 h4 => G17.out.block g (by omega) (fun e => by have h1 := Oy1_16.out.ge g e.symm; have h2 := LTy1.out g e.symm; omega))
  clear Og_16
  have Oy1_17 := hid o17
  clear o17 b17 g17
  go_wp2_with fail
  refine (markIntS2_any _ xs2 W6.heap.size (1 + (xs0.length : Int) + (xs1.length : Int)) (by omega) (by omega) (by omega) _ Oy2_17.out).mono ?_
  rintro e W18 ⟨rfl, o18, b18, g18⟩
  have G18 := hid g18
  have s18 : W17.heap.size ≤ W18.heap.size := b18.size
  have B18 := hid (B17.out.trans (b18.mono B6.out.size))
  have Op_18 := hid (Op_17.out.at_blocks fun g h3 h4 => G18.out.block g (by omega) (fun e => by have h1 := Oy2_17.out.ge g e.symm; have h2 := LTy2.out g e.symm; omega))
  clear Op_17
  have Oy0_18 := hid (Oy0_17.out.kept G18.out (younger_apart (fun g h => Nat.lt_of_lt_of_le (LTy0.out g h) (by omega)) Oy2_17.out))
  clear Oy0_17
  have Oy1_18 := hid (Oy1_17.out.kept G18.out (younger_apart (fun g h => Nat.lt_of_lt_of_le (LTy1.out g h) (by omega)) Oy2_17.out))
  clear Oy1_17
  have Og_18 := hid (Og_17.out.at_blocks fun g h3 h4 => G18.out.block g (by omega) (fun e => by have h1 := Oy2_17.out.ge g e.symm; have h2 := LTy2.out g e.symm; omega))
  clear Og_17
  have Oy2_18 := hid o18
  clear o18 b18 g18
  have T3 : ¬ (1 + (xs0.length : Int) + (xs1.length : Int) + (xs2.length : Int) < 0) := by omega
  go_wp2_with fail
  refine (eqIntSS_any _ _ R R _ Og_18.out.rd Op_18.out.rd).mono ?_
  rw [dec_rows]
  rintro e W19 ⟨rfl, k19, hk19⟩
  have b19 : Below W18.heap.size W18 W19 := by rw [hk19]; exact below_drewN (Below.refl _ _) k19
  clear hk19
  have E19 := hid b19
  have s19 : W18.heap.size ≤ W19.heap.size := E19.out.size
  have B19 := hid (B18.out.trans (E19.out.mono B18.out.size))
  have Op_19 := hid (Op_18.out.at_blocks fun g _ h => E19.out.block g (by omega))
  clear Op_18
  have Oy0_19 := hid (Oy0_18.out.keep Oy0_18.out.lt E19.out)
  clear Oy0_18
  have Oy1_19 := hid (Oy1_18.out.keep Oy1_18.out.lt E19.out)
  clear Oy1_18
  have Oy2_19 := hid (Oy2_18.out.keep Oy2_18.out.lt E19.out)
  clear Oy2_18
  have Og_19 := hid (Og_18.out.at_blocks fun g _ h => E19.out.block g (by omega))
  clear Og_18
  clear b19
  go_wp2_with fail
  refine (markIntSS_any _ R valsg W7.heap.size W8.heap.size 1 (by omega) (by omega) (by omega) _ Og_19.out).mono ?_
  rintro e W20 ⟨rfl, o20, b20, u20⟩
  have U20 := hid u20
  have D20 := hid b20
  have s20 : W19.heap.size ≤ W20.heap.size := b20.size
  have B20 := hid (B19.out.trans (b20.mono B7.out.size))
  have Op_20 := hid (Op_19.out.at_blocks fun g h3 h4 => D20.out.block g (by omega))
  clear Op_19
  have Og_20 := hid o20
  clear o20 b20 u20
  go_wp2_with fail
  refine (heldIntSS_any _ R 1 (by omega) (by omega) (by omega) _ Og_20.out.rd).mono ?_
  rintro e w' ⟨rfl, rfl⟩
  go_wp2_with fail
  refine (toIntS_any _ xs0 _ (RA0.out.keep2 B20.out) hl0).mono ?_
  rintro e W21 ⟨r0, rfl, o21, b21, _⟩
  have E21 := hid b21
  have s21 : W20.heap.size ≤ W21.heap.size := E21.out.size
  have B21 := hid (B20.out.trans (E21.out.mono B20.out.size))
  have Op_21 := hid (Op_20.out.at_blocks fun g _ h => E21.out.block g (by omega))
  clear Op_20
  have Og_21 := hid (Og_20.out.at_blocks fun g _ h => E21.out.block g (by omega))
  clear Og_20
  have Or0_21 := hid o21
  have LTr0 := hid o21.lt
  clear o21 b21
  go_wp2_with fail
  refine (toIntS_any _ xs1 _ (RA1.out.keep2 B21.out) hl1).mono ?_
  rintro e W22 ⟨r1, rfl, o22, b22, _⟩
  have E22 := hid b22
  have s22 : W21.heap.size ≤ W22.heap.size := E22.out.size
  have B22 := hid (B21.out.trans (E22.out.mono B21.out.size))
  have Op_22 := hid (Op_21.out.at_blocks fun g _ h => E22.out.block g (by omega))
  clear Op_21
  have Og_22 := hid (Og_21.out.at_blocks fun g _ h => E22.out.block g (by omega))
  clear Og_21
  have Or0_22 := hid (Or0_21.out.keep Or0_21.out.lt E22.out)
  clear Or0_21
  have Or1_22 := hid o22
  have LTr1 := hid o22.lt
  clear o22 b22
  go_wp2_with fail
  refine (toIntS_any _ xs2 _ (RA2.out.keep2 B22.out) hl2).mono ?_
  rintro e W23 ⟨r2, rfl, o23, b23, _⟩
  have E23 := hid b23
  have s23 : W22.heap.size ≤ W23.heap.size := E23.out.size
  have B23 := hid (B22.out.trans (E23.out.mono B22.out.size))
  have Op_23 := hid (Op_22.out.at_blocks fun g _ h => E23.out.block g (by omega))
  clear Op_22
  have Og_23 := hid (Og_22.out.at_blocks fun g _ h => E23.out.block g (by omega))
  clear Og_22
  have Or0_23 := hid (Or0_22.out.keep Or0_22.out.lt E23.out)
  clear Or0_22
  have Or1_23 := hid (Or1_22.out.keep Or1_22.out.lt E23.out)
  clear Or1_22
  have Or2_23 := hid o23
  have LTr2 := hid o23.lt
  clear o23 b23
  go_wp2_with fail
  refine (I.out _ _ _ _ Or0_23.out.rd Or1_23.out.rd Or2_23.out.rd).mono ?_
  rintro e W24 ⟨h, rfl, o24, b24⟩
  have E24 := hid b24
  have s24 : W23.heap.size ≤ W24.heap.size := E24.out.size
  have B24 := hid (B23.out.trans (E24.out.mono B23.out.size))
  have Op_24 := hid (Op_23.out.at_blocks fun g _ h => E24.out.block g (by omega))
  clear Op_23
  have Og_24 := hid (Og_23.out.at_blocks fun g _ h => E24.out.block g (by omega))
  clear Og_23
  have Or0_24 := hid (Or0_23.out.keep Or0_23.out.lt E24.out)
  clear Or0_23
  have Or1_24 := hid (Or1_23.out.keep Or1_23.out.lt E24.out)
  clear Or1_23
  have Or2_24 := hid (Or2_23.out.keep Or2_23.out.lt E24.out)
  clear Or2_23
  obtain ⟨valsh, oc24⟩ := o24.ownC
  obtain ⟨ah, ch, rfl⟩ := o24.rd.form
  have Oh_24 := hid oc24
  clear o24 b24 oc24
  go_wp2_with fail
  refine (eqIntSS_any _ _ R R _ Oh_24.out.rd Op_24.out.rd).mono ?_
  rw [dec_rows]
  rintro e W25 ⟨rfl, k25, hk25⟩
  have b25 : Below W24.heap.size W24 W25 := by rw [hk25]; exact below_drewN (Below.refl _ _) k25
  clear hk25
  have E25 := hid b25
  have s25 : W24.heap.size ≤ W25.heap.size := E25.out.size
  have B25 := hid (B24.out.trans (E25.out.mono B24.out.size))
  have Op_25 := hid (Op_24.out.at_blocks fun g _ h => E25.out.block g (by omega))
  clear Op_24
  have Og_25 := hid (Og_24.out.at_blocks fun g _ h => E25.out.block g (by omega))
  clear Og_24
  have Oh_25 := hid (Oh_24.out.at_blocks fun g _ h => E25.out.block g (by omega))
  clear Oh_24
  clear b25
  go_wp2_with fail
  refine (heldIntSS_any _ R 1 (by omega) (by omega) (by omega) _ Og_25.out.rd).mono ?_
  rintro e w' ⟨rfl, rfl⟩
  go_wp2
  go_ret
  exact ⟨rfl, by rw [HW0.out]; exact B25.out⟩
theorem own : ownKnob Try.prog.godebug = none := by kernel_rfl
theorem laidOut : laidOutB Try.prog = true := by kernel_rfl
set_option maxRecDepth 100000 in
theorem lifted (os : Os) (started : os.Started) (H : Type) (enc : TypeId × Value → H) :
    ReturnsInHanded {} Try.checked os 12 .any (Rows.fnExactMoveCarrySpec.pre6 enc Try.prog Try.f12 Rows.fnExactMoveCarryRow.domain false) (Rows.fnExactMoveCarrySpec.post enc Try.prog Try.f12 false true false false) := by
  refine returnsInHanded_of_change (C := Try.checked) own started (by kernel_rfl) Try.func12
    (ChangeSpec.witness6 (enc := enc) (C := Try.checked) false ⟨#[], #[.slice none 0 0, .slice none 0 0, .slice none 0 0], []⟩ 8 (by kernel_rfl) (by kernel_rfl) (by kernel_rfl) (by kernel_rfl)) ?_
  intro W base args ds gs before hval0 hW hcnd _
  have hval : ∀ (j : Nat) t v, Try.f12.params[j]? = some t → args[j]? = some v → Value.okWide Try.prog W .any base t v := hval0
  have hW' := hW
  obtain ⟨p, q, hA0, hV, rfl, hfz, hnd⟩ := hW
  have hA : DataW.TrodAll enc Try.prog W 0 (fun _ => true) true Try.f12.params.toList args.toList ds p := hA0
  rw [Try.params12] at hA hval
  obtain ⟨v0, vs0, d0, ds0, p0, q0, hargs, rfl, rfl, h0, r0⟩ := trodAll_cons hA
  obtain ⟨v1, vs1, d1, ds1, p1, q1, rfl, rfl, rfl, h1, r1⟩ := trodAll_cons r0
  obtain ⟨v2, vs2, d2, ds2, p2, q2, rfl, rfl, rfl, h2, r2⟩ := trodAll_cons r1
  obtain ⟨rfl, rfl, rfl⟩ := trodAll_nil r2
  obtain rfl : args = #[v0, v1, v2] := by cases args; simp_all
  obtain ⟨rfl, rfl⟩ := trodVars_none hV
  obtain ⟨a0, len0, cap0, rfl⟩ := okWide_slice Try.underlying22 (hval 0 22 v0 rfl rfl)
  have k0 := h0
  have lt0 : ∀ x ∈ p0, x.block < W.heap.size := by obtain ⟨m, hm⟩ := k0; exact DataW.trod_lt m _ _ _ hm
  obtain ⟨z0, w0⟩ : ∃ zs, IsRow .i64 W a0 len0 cap0 zs := by
    obtain ⟨fuel, hf⟩ := h0
    rcases open_ints Try.underlying22 Try.underlying3 (by kernel_rfl) hf with ⟨hcs, _⟩ | ⟨x, l, c, zs, hcs, _, hl, hm, hz, _, hcell, hwz⟩
    · simp [Value.cells] at hcs
      obtain ⟨rfl, rfl, rfl⟩ := hcs
      exact ⟨[], .inl ⟨rfl, rfl, rfl, rfl⟩⟩
    · simp [Value.cells] at hcs
      obtain ⟨rfl, rfl, rfl⟩ := hcs
      exact ⟨zs, .inr ⟨_, rfl, hl, hm, by simpa using hz, hcell, hwz⟩⟩
  obtain ⟨a1, len1, cap1, rfl⟩ := okWide_slice Try.underlying22 (hval 1 22 v1 rfl rfl)
  have k1 := h1
  have lt1 : ∀ x ∈ p1, x.block < W.heap.size := by obtain ⟨m, hm⟩ := k1; exact DataW.trod_lt m _ _ _ hm
  obtain ⟨z1, w1⟩ : ∃ zs, IsRow .i64 W a1 len1 cap1 zs := by
    obtain ⟨fuel, hf⟩ := h1
    rcases open_ints Try.underlying22 Try.underlying3 (by kernel_rfl) hf with ⟨hcs, _⟩ | ⟨x, l, c, zs, hcs, _, hl, hm, hz, _, hcell, hwz⟩
    · simp [Value.cells] at hcs
      obtain ⟨rfl, rfl, rfl⟩ := hcs
      exact ⟨[], .inl ⟨rfl, rfl, rfl, rfl⟩⟩
    · simp [Value.cells] at hcs
      obtain ⟨rfl, rfl, rfl⟩ := hcs
      exact ⟨zs, .inr ⟨_, rfl, hl, hm, by simpa using hz, hcell, hwz⟩⟩
  obtain ⟨a2, len2, cap2, rfl⟩ := okWide_slice Try.underlying22 (hval 2 22 v2 rfl rfl)
  have k2 := h2
  have lt2 : ∀ x ∈ p2, x.block < W.heap.size := by obtain ⟨m, hm⟩ := k2; exact DataW.trod_lt m _ _ _ hm
  obtain ⟨z2, w2⟩ : ∃ zs, IsRow .i64 W a2 len2 cap2 zs := by
    obtain ⟨fuel, hf⟩ := h2
    rcases open_ints Try.underlying22 Try.underlying3 (by kernel_rfl) hf with ⟨hcs, _⟩ | ⟨x, l, c, zs, hcs, _, hl, hm, hz, _, hcell, hwz⟩
    · simp [Value.cells] at hcs
      obtain ⟨rfl, rfl, rfl⟩ := hcs
      exact ⟨[], .inl ⟨rfl, rfl, rfl, rfl⟩⟩
    · simp [Value.cells] at hcs
      obtain ⟨rfl, rfl, rfl⟩ := hcs
      exact ⟨zs, .inr ⟨_, rfl, hl, hm, by simpa using hz, hcell, hwz⟩⟩
  clear hA0 hval0
  refine (walk a0 len0 cap0 z0 a1 len1 cap1 z1 a2 len2 cap2 z2 W w0 w1 w2).mono fun e W' ⟨he, bel⟩ => ?_
  subst he
  exact ⟨_, rfl, _, _, _, [], _, [], hW', trodAll_mk1 (shut_bool Try.underlying4 _), (trodAll_cons_mk (Below.trod laidOut (by kernel_rfl) (of_decide_eq_true (by kernel_rfl)) k0 bel lt0) (trodAll_cons_mk (Below.trod laidOut (by kernel_rfl) (of_decide_eq_true (by kernel_rfl)) k1 bel lt1) (trodAll_cons_mk (Below.trod laidOut (by kernel_rfl) (of_decide_eq_true (by kernel_rfl)) k2 bel lt2) trodAll_mk0))), rfl, bel.frame _, fun h => by cases h⟩
theorem over : Rows.fnExactMoveCarryRow.holds Try.pinned (OpenSpec.ofChange Rows.fnExactMoveCarrySpec) :=
  OpenClaim.holds_of_wide 12 Try.f12 rfl rfl rfl rfl rfl rfl rfl ⟨rfl, rfl, rfl, rfl, rfl⟩ rfl rfl rfl rfl rfl (by kernel_rfl) Try.func12 (by kernel_rfl)
    (of_decide_eq_true (by kernel_rfl)) (by unfold Func.isWrapper; first | (rw [if_pos (by decide +kernel)]; kernel_rfl) | (rw [if_neg (by decide +kernel)]; exact ⟨rfl, rfl⟩))
    (fun os started H enc _ => lifted os started H enc)
theorem proved : Rows.FnExactMoveCarrySaid := over
end Go.Proofs.Ytjabklpnohfjpab.fnExactMoveCarry
