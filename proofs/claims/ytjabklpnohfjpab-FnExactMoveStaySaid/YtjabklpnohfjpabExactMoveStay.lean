/-
  Proves: for every list the program's MoveStay answers as the model's, in memory of its own.
  Conditions: none beyond the given statement's own.
-/
import Derived.Test.YtjabklpnohfjpabRows
import Derived.Test.YtjabklpnohfjpabQBun38
import Derived.Test.YtjabklpnohfjpabQBun40
import Derived.ProofKit
import Derived.OpenShut
import Derived.ShutString
import Derived.ChangeOld
namespace Go.Proofs.Ytjabklpnohfjpab.fnExactMoveStay
open Go.ChangeShapes Go.WideShapes Go.ChangeAt Go.RowKit
open Go.ChangeMaps (open_string shut_string)
set_option linter.unusedVariables false
set_option maxRecDepth 100000 in
set_option maxHeartbeats 4000000 in
theorem walk  (a0 : Option Addr) (len0 cap0 : Nat) (z0 : List Int) (w : World) (w0 : IsRow .i64 w a0 len0 cap0 z0) :
    Calls Try.prog 4 #[.slice a0 len0 cap0] w fun e w' => e = .returned (.bool true) ∧ Below w.heap.size w w' := by
  obtain ⟨xs0, hxl0, hrd0⟩ := rd_row w0
  have RA0 := hid hrd0
  have HXL0 := hid hxl0
  clear hrd0 hxl0 w0
  by_cases hl0a : (1048576 : Int) < (len0 : Int)
  · go_enter Try.func4, Try.ntmps4
    go_wp2
    go_ret
    exact ⟨rfl, Below.refl _ _⟩
  have hl0 : xs0.length ≤ 1048576 := by have := HXL0.out; omega
  obtain ⟨R, hR⟩ : ∃ R, R = (stayV xs0).elim [] (·.1) := ⟨_, rfl⟩
  obtain ⟨d, hd⟩ : ∃ d, d = (stayV xs0).elim 0 (·.2) := ⟨_, rfl⟩
  obtain ⟨b, hb⟩ : ∃ b, b = (stayV xs0).isSome := ⟨_, rfl⟩
  have hlen : preL R R.length ≤ 1000 := by rw [hR]; exact move_rows (stay_rows xs0)
  have S : Hid (∀ (v : Value) (w : World), Rd w v xs0 → Calls Try.prog 20 #[v] w fun e w' => ∃ u, e = .returned (.tuple #[.agg #[u, .int .i64 d], .bool b]) ∧ OwnM w' w.heap.size none u R ∧ Below w.heap.size w w') := hid (fun v w h0 => by rw [hR, hd, hb]; exact moveStayS_any v xs0 w h0)
  have I : Hid (∀ (v : Value) (w : World), Rd w v xs0 → Calls Try.prog 21 #[v] w fun e w' => ∃ u, e = .returned (.tuple #[.agg #[u, .int .i64 d], .bool b]) ∧ OwnM w' w.heap.size none u R ∧ Below w.heap.size w w') := hid (fun v w h0 => by rw [hR, hd, hb]; exact moveStay_any v xs0 w h0)
  have TB : (b != b) = false := by simp
  have T1 : ((1 + ((preL R R.length : Nat) : Int)) != 1 + ((preL R R.length : Nat) : Int)) = false := by simp
  have T2 : ¬ ((1 + ((preL R R.length : Nat) : Int)) < 0) := by omega
  clear hR hd hb
  go_enter Try.func4, Try.ntmps4
  obtain ⟨W0, hW0⟩ : ∃ W0, W0 = w := ⟨_, rfl⟩
  have B0 : Hid (Below w.heap.size w W0) := hid (by rw [hW0]; exact Below.refl _ _)
  rw [← hW0]
  have HW0 := hid hW0
  clear hW0
  go_wp2_with fail
  refine (toIntS_any _ xs0 _ (RA0.out.keep2 B0.out) hl0).mono ?_
  rintro e W1 ⟨u0, rfl, o1, b1, _⟩
  have E1 := hid b1
  have s1 : W0.heap.size ≤ W1.heap.size := E1.out.size
  have B1 := hid (B0.out.trans (E1.out.mono B0.out.size))
  have Ou0_1 := hid o1
  have LTu0 := hid o1.lt
  clear o1 b1
  go_wp2_with fail
  refine (S.out _ _ Ou0_1.out.rd).mono ?_
  rintro e W2 ⟨p, rfl, o2, b2⟩
  have E2 := hid b2
  have s2 : W1.heap.size ≤ W2.heap.size := E2.out.size
  have B2 := hid (B1.out.trans (E2.out.mono B1.out.size))
  have Ou0_2 := hid (Ou0_1.out.keep Ou0_1.out.lt E2.out)
  clear Ou0_1
  obtain ⟨valsp, oc2⟩ := o2.ownC
  obtain ⟨ap, cp, rfl⟩ := o2.rd.form
  have Op_2 := hid oc2
  clear o2 b2 oc2
  obtain ⟨W3, hW3⟩ : ∃ W3, W3 = W2.alloc (.cells #[.slice ap R.length cp, .int .i64 d] 29) := ⟨_, rfl⟩
  have HW3 := hid hW3
  have b3 : Below W2.heap.size W2 W3 := by rw [hW3]; exact below_box3 _ _
  have S3 : Hid (W3.heap.size = W2.heap.size + 1) := hid (by rw [hW3]; simp)
  have E3 := hid b3
  have s3 : W2.heap.size ≤ W3.heap.size := E3.out.size
  have B3 := hid (B2.out.trans (E3.out.mono B2.out.size))
  have Ou0_3 := hid (Ou0_2.out.keep Ou0_2.out.lt E3.out)
  clear Ou0_2
  have Op_3 := hid (Op_2.out.at_blocks fun g _ h => E3.out.block g (by omega))
  clear Op_2
  have OXp_3 : Hid (W3.heap[W2.heap.size]? = some (.cells #[.slice ap R.length cp, .int .i64 d] 29 (0, 0))) := hid (by rw [hW3]; exact World.alloc_heap_new _ _)
  clear b3 hW3
  go_wp2_with fail
  rw [← HW3.out]
  refine (toIntS_any _ xs0 _ (RA0.out.keep2 B3.out) hl0).mono ?_
  rintro e W4 ⟨y0, rfl, o4, b4, _⟩
  have E4 := hid b4
  have s4 : W3.heap.size ≤ W4.heap.size := E4.out.size
  have B4 := hid (B3.out.trans (E4.out.mono B3.out.size))
  have Op_4 := hid (Op_3.out.at_blocks fun g _ h => E4.out.block g (by omega))
  clear Op_3
  have OXp_4 := hid (heap_below E4.out OXp_3.out)
  clear OXp_3
  have Oy0_4 := hid o4
  have LTy0 := hid o4.lt
  clear o4 b4
  go_wp2_with fail
  refine (I.out _ _ Oy0_4.out.rd).mono ?_
  rintro e W5 ⟨g, rfl, o5, b5⟩
  have E5 := hid b5
  have s5 : W4.heap.size ≤ W5.heap.size := E5.out.size
  have B5 := hid (B4.out.trans (E5.out.mono B4.out.size))
  have Op_5 := hid (Op_4.out.at_blocks fun g _ h => E5.out.block g (by omega))
  clear Op_4
  have OXp_5 := hid (heap_below E5.out OXp_4.out)
  clear OXp_4
  have Oy0_5 := hid (Oy0_4.out.keep Oy0_4.out.lt E5.out)
  clear Oy0_4
  obtain ⟨valsg, oc5⟩ := o5.ownC
  obtain ⟨ag, cg, rfl⟩ := o5.rd.form
  have Og_5 := hid oc5
  clear o5 b5 oc5
  obtain ⟨W6, hW6⟩ : ∃ W6, W6 = W5.alloc (.cells #[.slice ag R.length cg, .int .i64 d] 29) := ⟨_, rfl⟩
  have HW6 := hid hW6
  have b6 : Below W5.heap.size W5 W6 := by rw [hW6]; exact below_box3 _ _
  have S6 : Hid (W6.heap.size = W5.heap.size + 1) := hid (by rw [hW6]; simp)
  have E6 := hid b6
  have s6 : W5.heap.size ≤ W6.heap.size := E6.out.size
  have B6 := hid (B5.out.trans (E6.out.mono B5.out.size))
  have Op_6 := hid (Op_5.out.at_blocks fun g _ h => E6.out.block g (by omega))
  clear Op_5
  have OXp_6 := hid (heap_below E6.out OXp_5.out)
  clear OXp_5
  have Oy0_6 := hid (Oy0_5.out.keep Oy0_5.out.lt E6.out)
  clear Oy0_5
  have Og_6 := hid (Og_5.out.at_blocks fun g _ h => E6.out.block g (by omega))
  clear Og_5
  have OXg_6 : Hid (W6.heap[W5.heap.size]? = some (.cells #[.slice ag R.length cg, .int .i64 d] 29 (0, 0))) := hid (by rw [hW6]; exact World.alloc_heap_new _ _)
  clear b6 hW6
  have qg0 := cellB (i := 0) OXg_6.out
  have qg1 := cellB (i := 1) OXg_6.out
  have qp0 := cellB (i := 0) OXp_6.out
  have qp1 := cellB (i := 1) OXp_6.out
  rw [HW6.out] at qg0 qg1
  rw [HW6.out] at qp0 qp1
  go_wp2_with fail
  rw [← HW6.out]
  refine (eqMove_any _ _ R R d d _ Og_6.out.rd Op_6.out.rd).mono ?_
  rw [dec_two]
  rintro e W7 ⟨rfl, b7⟩
  clear qg0 qg1 qp0 qp1
  have E7 := hid b7
  have s7 : W6.heap.size ≤ W7.heap.size := E7.out.size
  have B7 := hid (B6.out.trans (E7.out.mono B6.out.size))
  have Op_7 := hid (Op_6.out.at_blocks fun g _ h => E7.out.block g (by omega))
  clear Op_6
  have OXp_7 := hid (heap_below E7.out OXp_6.out)
  clear OXp_6
  have Oy0_7 := hid (Oy0_6.out.keep Oy0_6.out.lt E7.out)
  clear Oy0_6
  have Og_7 := hid (Og_6.out.at_blocks fun g _ h => E7.out.block g (by omega))
  clear Og_6
  have OXg_7 := hid (heap_below E7.out OXg_6.out)
  clear OXg_6
  clear b7
  go_wp2_with fail
  refine (toIntS_any _ xs0 _ (RA0.out.keep2 B7.out) hl0).mono ?_
  rintro e W8 ⟨t0, rfl, o8, b8, _⟩
  have E8 := hid b8
  have s8 : W7.heap.size ≤ W8.heap.size := E8.out.size
  have B8 := hid (B7.out.trans (E8.out.mono B7.out.size))
  have Op_8 := hid (Op_7.out.at_blocks fun g _ h => E8.out.block g (by omega))
  clear Op_7
  have OXp_8 := hid (heap_below E8.out OXp_7.out)
  clear OXp_7
  have Oy0_8 := hid (Oy0_7.out.keep Oy0_7.out.lt E8.out)
  clear Oy0_7
  have Og_8 := hid (Og_7.out.at_blocks fun g _ h => E8.out.block g (by omega))
  clear Og_7
  have OXg_8 := hid (heap_below E8.out OXg_7.out)
  clear OXg_7
  have Ot0_8 := hid o8
  have LTt0 := hid o8.lt
  clear o8 b8
  go_wp2_with fail
  refine (eqIntS_any _ _ xs0 xs0 _ Oy0_8.out.rd Ot0_8.out.rd).mono ?_
  rw [dec_one]
  rintro e W9 ⟨rfl, k9, hk9⟩
  have b9 : Below W8.heap.size W8 W9 := by rw [hk9]; exact below_drewN (Below.refl _ _) k9
  clear hk9
  have E9 := hid b9
  have s9 : W8.heap.size ≤ W9.heap.size := E9.out.size
  have B9 := hid (B8.out.trans (E9.out.mono B8.out.size))
  have Op_9 := hid (Op_8.out.at_blocks fun g _ h => E9.out.block g (by omega))
  clear Op_8
  have OXp_9 := hid (heap_below E9.out OXp_8.out)
  clear OXp_8
  have Oy0_9 := hid (Oy0_8.out.keep Oy0_8.out.lt E9.out)
  clear Oy0_8
  have Og_9 := hid (Og_8.out.at_blocks fun g _ h => E9.out.block g (by omega))
  clear Og_8
  have OXg_9 := hid (heap_below E9.out OXg_8.out)
  clear OXg_8
  have Ot0_9 := hid (Ot0_8.out.keep Ot0_8.out.lt E9.out)
  clear Ot0_8
  clear b9
  go_wp2_with fail
  refine (markIntS2_any _ xs0 W3.heap.size (1) (by omega) (by omega) (by omega) _ Oy0_9.out).mono ?_
  rintro e W10 ⟨rfl, o10, b10, g10⟩
  have G10 := hid g10
  have s10 : W9.heap.size ≤ W10.heap.size := b10.size
  have B10 := hid (B9.out.trans (b10.mono B3.out.size))
  have Op_10 := hid (Op_9.out.at_blocks fun g h3 h4 => G10.out.block g (by omega) (fun e => by have h1 := Oy0_9.out.ge g e.symm; have h2 := LTy0.out g e.symm; omega))
  clear Op_9
  have OXp_10 := hid ((G10.out.block W2.heap.size (by have h9 := S3.out; omega) (fun e => by have h1 := Oy0_9.out.ge _ e.symm; have h2 := LTy0.out _ e.symm; have h9 := S3.out; omega)).trans OXp_9.out)
  clear OXp_9
  have Og_10 := hid (Og_9.out.at_blocks fun g h3 h4 => G10.out.block g (by omega) (fun e => by have h1 := Oy0_9.out.ge g e.symm; have h2 := LTy0.out g e.symm; omega))
  clear Og_9
  have OXg_10 := hid ((G10.out.block W5.heap.size (by have h9 := S6.out; omega) (fun e => by have h1 := Oy0_9.out.ge _ e.symm; have h2 := LTy0.out _ e.symm; have h9 := S6.out; omega)).trans OXg_9.out)
  clear OXg_9
  have Oy0_10 := hid o10
  clear o10 b10 g10
  have T3 : ¬ (1 + (xs0.length : Int) < 0) := by omega
  have qg0 := cellB (i := 0) OXg_10.out
  have qg1 := cellB (i := 1) OXg_10.out
  have qp0 := cellB (i := 0) OXp_10.out
  have qp1 := cellB (i := 1) OXp_10.out
  go_wp2_with fail
  refine (eqMove_any _ _ R R d d _ Og_10.out.rd Op_10.out.rd).mono ?_
  rw [dec_two]
  rintro e W11 ⟨rfl, b11⟩
  clear qg0 qg1 qp0 qp1
  have E11 := hid b11
  have s11 : W10.heap.size ≤ W11.heap.size := E11.out.size
  have B11 := hid (B10.out.trans (E11.out.mono B10.out.size))
  have Op_11 := hid (Op_10.out.at_blocks fun g _ h => E11.out.block g (by omega))
  clear Op_10
  have OXp_11 := hid (heap_below E11.out OXp_10.out)
  clear OXp_10
  have Oy0_11 := hid (Oy0_10.out.keep Oy0_10.out.lt E11.out)
  clear Oy0_10
  have Og_11 := hid (Og_10.out.at_blocks fun g _ h => E11.out.block g (by omega))
  clear Og_10
  have OXg_11 := hid (heap_below E11.out OXg_10.out)
  clear OXg_10
  clear b11
  have qg0 := cellB (i := 0) OXg_11.out
  have qg1 := cellB (i := 1) OXg_11.out
  go_wp2_with fail
  refine (markMove_any _ R valsg W4.heap.size W5.heap.size d 1 (by omega) (by omega) (by omega) _ Og_11.out (by omega) (by omega)).mono ?_
  rintro e W12 ⟨rfl, o12, b12, u12⟩
  clear qg0 qg1
  have U12 := hid u12
  have D12 := hid b12
  have s12 : W11.heap.size ≤ W12.heap.size := b12.size
  have B12 := hid (B11.out.trans (b12.mono B4.out.size))
  have Op_12 := hid (Op_11.out.at_blocks fun g h3 h4 => D12.out.block g (by omega))
  clear Op_11
  have OXp_12 := hid ((D12.out.block W2.heap.size (by have h9 := S3.out; omega)).trans OXp_11.out)
  clear OXp_11
  have OXg_12 := hid ((U12.out W5.heap.size (by omega) (by have h9 := S6.out; omega)).trans OXg_11.out)
  clear OXg_11
  have Og_12 := hid o12
  clear o12 b12 u12
  have qg0 := cellB (i := 0) OXg_12.out
  have qg1 := cellB (i := 1) OXg_12.out
  go_wp2_with fail
  refine (heldMove_any _ R d 1 (by omega) (by omega) (by omega) _ Og_12.out.rd).mono ?_
  rintro e W13 ⟨rfl, b13⟩
  clear qg0 qg1
  have E13 := hid b13
  have s13 : W12.heap.size ≤ W13.heap.size := E13.out.size
  have B13 := hid (B12.out.trans (E13.out.mono B12.out.size))
  have Op_13 := hid (Op_12.out.at_blocks fun g _ h => E13.out.block g (by omega))
  clear Op_12
  have OXp_13 := hid (heap_below E13.out OXp_12.out)
  clear OXp_12
  have Og_13 := hid (Og_12.out.at_blocks fun g _ h => E13.out.block g (by omega))
  clear Og_12
  have OXg_13 := hid (heap_below E13.out OXg_12.out)
  clear OXg_12
  clear b13
  go_wp2_with fail
  refine (toIntS_any _ xs0 _ (RA0.out.keep2 B13.out) hl0).mono ?_
  rintro e W14 ⟨r0, rfl, o14, b14, _⟩
  have E14 := hid b14
  have s14 : W13.heap.size ≤ W14.heap.size := E14.out.size
  have B14 := hid (B13.out.trans (E14.out.mono B13.out.size))
  have Op_14 := hid (Op_13.out.at_blocks fun g _ h => E14.out.block g (by omega))
  clear Op_13
  have OXp_14 := hid (heap_below E14.out OXp_13.out)
  clear OXp_13
  have Og_14 := hid (Og_13.out.at_blocks fun g _ h => E14.out.block g (by omega))
  clear Og_13
  have OXg_14 := hid (heap_below E14.out OXg_13.out)
  clear OXg_13
  have Or0_14 := hid o14
  have LTr0 := hid o14.lt
  clear o14 b14
  go_wp2_with fail
  refine (I.out _ _ Or0_14.out.rd).mono ?_
  rintro e W15 ⟨h, rfl, o15, b15⟩
  have E15 := hid b15
  have s15 : W14.heap.size ≤ W15.heap.size := E15.out.size
  have B15 := hid (B14.out.trans (E15.out.mono B14.out.size))
  have Op_15 := hid (Op_14.out.at_blocks fun g _ h => E15.out.block g (by omega))
  clear Op_14
  have OXp_15 := hid (heap_below E15.out OXp_14.out)
  clear OXp_14
  have Og_15 := hid (Og_14.out.at_blocks fun g _ h => E15.out.block g (by omega))
  clear Og_14
  have OXg_15 := hid (heap_below E15.out OXg_14.out)
  clear OXg_14
  have Or0_15 := hid (Or0_14.out.keep Or0_14.out.lt E15.out)
  clear Or0_14
  obtain ⟨valsh, oc15⟩ := o15.ownC
  obtain ⟨ah, ch, rfl⟩ := o15.rd.form
  have Oh_15 := hid oc15
  clear o15 b15 oc15
  obtain ⟨W16, hW16⟩ : ∃ W16, W16 = W15.alloc (.cells #[.slice ah R.length ch, .int .i64 d] 29) := ⟨_, rfl⟩
  have HW16 := hid hW16
  have b16 : Below W15.heap.size W15 W16 := by rw [hW16]; exact below_box3 _ _
  have S16 : Hid (W16.heap.size = W15.heap.size + 1) := hid (by rw [hW16]; simp)
  have E16 := hid b16
  have s16 : W15.heap.size ≤ W16.heap.size := E16.out.size
  have B16 := hid (B15.out.trans (E16.out.mono B15.out.size))
  have Op_16 := hid (Op_15.out.at_blocks fun g _ h => E16.out.block g (by omega))
  clear Op_15
  have OXp_16 := hid (heap_below E16.out OXp_15.out)
  clear OXp_15
  have Og_16 := hid (Og_15.out.at_blocks fun g _ h => E16.out.block g (by omega))
  clear Og_15
  have OXg_16 := hid (heap_below E16.out OXg_15.out)
  clear OXg_15
  have Or0_16 := hid (Or0_15.out.keep Or0_15.out.lt E16.out)
  clear Or0_15
  have Oh_16 := hid (Oh_15.out.at_blocks fun g _ h => E16.out.block g (by omega))
  clear Oh_15
  have OXh_16 : Hid (W16.heap[W15.heap.size]? = some (.cells #[.slice ah R.length ch, .int .i64 d] 29 (0, 0))) := hid (by rw [hW16]; exact World.alloc_heap_new _ _)
  clear b16 hW16
  have qh0 := cellB (i := 0) OXh_16.out
  have qh1 := cellB (i := 1) OXh_16.out
  have qp0 := cellB (i := 0) OXp_16.out
  have qp1 := cellB (i := 1) OXp_16.out
  rw [HW16.out] at qh0 qh1
  rw [HW16.out] at qp0 qp1
  go_wp2_with fail
  rw [← HW16.out]
  refine (eqMove_any _ _ R R d d _ Oh_16.out.rd Op_16.out.rd).mono ?_
  rw [dec_two]
  rintro e W17 ⟨rfl, b17⟩
  clear qh0 qh1 qp0 qp1
  have E17 := hid b17
  have s17 : W16.heap.size ≤ W17.heap.size := E17.out.size
  have B17 := hid (B16.out.trans (E17.out.mono B16.out.size))
  have Op_17 := hid (Op_16.out.at_blocks fun g _ h => E17.out.block g (by omega))
  clear Op_16
  have OXp_17 := hid (heap_below E17.out OXp_16.out)
  clear OXp_16
  have Og_17 := hid (Og_16.out.at_blocks fun g _ h => E17.out.block g (by omega))
  clear Og_16
  have OXg_17 := hid (heap_below E17.out OXg_16.out)
  clear OXg_16
  have Oh_17 := hid (Oh_16.out.at_blocks fun g _ h => E17.out.block g (by omega))
  clear Oh_16
  have OXh_17 := hid (heap_below E17.out OXh_16.out)
  clear OXh_16
  clear b17
  have qg0 := cellB (i := 0) OXg_17.out
  have qg1 := cellB (i := 1) OXg_17.out
  go_wp2_with fail
  refine (heldMove_any _ R d 1 (by omega) (by omega) (by omega) _ Og_17.out.rd).mono ?_
  rintro e W18 ⟨rfl, b18⟩
  clear qg0 qg1
  have E18 := hid b18
  have s18 : W17.heap.size ≤ W18.heap.size := E18.out.size
  have B18 := hid (B17.out.trans (E18.out.mono B17.out.size))
  have Op_18 := hid (Op_17.out.at_blocks fun g _ h => E18.out.block g (by omega))
  clear Op_17
  have OXp_18 := hid (heap_below E18.out OXp_17.out)
  clear OXp_17
  have Og_18 := hid (Og_17.out.at_blocks fun g _ h => E18.out.block g (by omega))
  clear Og_17
  have OXg_18 := hid (heap_below E18.out OXg_17.out)
  clear OXg_17
  have Oh_18 := hid (Oh_17.out.at_blocks fun g _ h => E18.out.block g (by omega))
  clear Oh_17
  have OXh_18 := hid (heap_below E18.out OXh_17.out)
  clear OXh_17
  clear b18
  go_wp2
  go_ret
  exact ⟨rfl, by rw [HW0.out]; exact B18.out⟩
theorem own : ownKnob Try.prog.godebug = none := by kernel_rfl
theorem laidOut : laidOutB Try.prog = true := by kernel_rfl
set_option maxRecDepth 100000 in
theorem lifted (os : Os) (started : os.Started) (H : Type) (enc : TypeId × Value → H) :
    ReturnsInHanded {} Try.checked os 4 .any (Rows.fnExactMoveStaySpec.pre6 enc Try.prog Try.f4 Rows.fnExactMoveStayRow.domain false) (Rows.fnExactMoveStaySpec.post enc Try.prog Try.f4 false true false false) := by
  refine returnsInHanded_of_change (C := Try.checked) own started (by kernel_rfl) Try.func4
    (ChangeSpec.witness6 (enc := enc) (C := Try.checked) false ⟨#[], #[.slice none 0 0], []⟩ 8 (by kernel_rfl) (by kernel_rfl) (by kernel_rfl) (by kernel_rfl)) ?_
  intro W base args ds gs before hval0 hW hcnd _
  have hval : ∀ (j : Nat) t v, Try.f4.params[j]? = some t → args[j]? = some v → Value.okWide Try.prog W .any base t v := hval0
  have hW' := hW
  obtain ⟨p, q, hA0, hV, rfl, hfz, hnd⟩ := hW
  have hA : DataW.TrodAll enc Try.prog W 0 (fun _ => true) true Try.f4.params.toList args.toList ds p := hA0
  rw [Try.params4] at hA hval
  obtain ⟨v0, vs0, d0, ds0, p0, q0, hargs, rfl, rfl, h0, r0⟩ := trodAll_cons hA
  obtain ⟨rfl, rfl, rfl⟩ := trodAll_nil r0
  obtain rfl : args = #[v0] := by cases args; simp_all
  obtain ⟨rfl, rfl⟩ := trodVars_none hV
  obtain ⟨a0, len0, cap0, rfl⟩ := okWide_slice Try.underlying22 (hval 0 22 v0 rfl rfl)
  have k0 := h0
  have lt0 : ∀ x ∈ p0, x.block < W.heap.size := by obtain ⟨m, hm⟩ := k0; exact DataW.trod_lt m _ _ _ hm
  obtain ⟨z0, w0⟩ : ∃ zs, IsRow .i64 W a0 len0 cap0 zs := by
    obtain ⟨fuel, hf⟩ := h0
    rcases open_ints Try.underlying22 Try.underlying3 (by kernel_rfl) hf with ⟨hcs, _⟩ | ⟨x, l, c, zs, hcs, _, hl, hm, hz, _, hcell, hwz⟩
    · simp [Value.cells] at hcs
      obtain ⟨rfl, rfl, rfl⟩ := hcs
      exact ⟨[], .inl ⟨rfl, rfl, rfl, rfl⟩⟩
    · simp [Value.cells] at hcs
      obtain ⟨rfl, rfl, rfl⟩ := hcs
      exact ⟨zs, .inr ⟨_, rfl, hl, hm, by simpa using hz, hcell, hwz⟩⟩
  clear hA0 hval0
  refine (walk a0 len0 cap0 z0 W w0).mono fun e W' ⟨he, bel⟩ => ?_
  subst he
  exact ⟨_, rfl, _, _, _, [], _, [], hW', trodAll_mk1 (shut_bool Try.underlying4 _), (trodAll_cons_mk (Below.trod laidOut (by kernel_rfl) (of_decide_eq_true (by kernel_rfl)) k0 bel lt0) trodAll_mk0), rfl, bel.frame _, fun h => by cases h⟩
theorem over : Rows.fnExactMoveStayRow.holds Try.pinned (OpenSpec.ofChange Rows.fnExactMoveStaySpec) :=
  OpenClaim.holds_of_wide 4 Try.f4 rfl rfl rfl rfl rfl rfl rfl ⟨rfl, rfl, rfl, rfl, rfl⟩ rfl rfl rfl rfl rfl (by kernel_rfl) Try.func4 (by kernel_rfl)
    (of_decide_eq_true (by kernel_rfl)) (by unfold Func.isWrapper; first | (rw [if_pos (by decide +kernel)]; kernel_rfl) | (rw [if_neg (by decide +kernel)]; exact ⟨rfl, rfl⟩))
    (fun os started H enc _ => lifted os started H enc)
theorem proved : Rows.FnExactMoveStaySaid := over
end Go.Proofs.Ytjabklpnohfjpab.fnExactMoveStay
