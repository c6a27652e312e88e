/-
  Proves: for every list and every list of lists the program's MoveOf answers as the model's, in memory of its own.
  Conditions: none beyond the given statement's own.
-/
import Derived.Test.YtjabklpnohfjpabRows
import Derived.Test.YtjabklpnohfjpabQBun38
import Derived.Test.YtjabklpnohfjpabQBun40
import Derived.ProofKit
import Derived.OpenShut
import Derived.ShutString
import Derived.ChangeOld
namespace Go.Proofs.Ytjabklpnohfjpab.fnExactMoveOf
open Go.ChangeShapes Go.WideShapes Go.ChangeAt Go.RowKit
open Go.ChangeMaps (open_string shut_string)
set_option linter.unusedVariables false
theorem un_drew9 {W W' : World} (h : Below W.drew.heap.size W.drew W') : Below W.heap.size W W' := ⟨h.os, h.tape, h.output, h.size, h.block⟩
theorem own_cap9 {W : World} {B : Nat} {ex : Option Nat} {v : Value} {R : List (List Int)} (h : OwnM W B ex v R) : ∀ a n c, v = .slice a n c → n ≤ c := by
  intro a n c e
  subst e
  obtain ⟨vals, hl, ⟨h1, h2⟩, _⟩ := h.own
  rcases h2 with ⟨h3, hn⟩ | ⟨g, cap, cur, h3, _, hg, hc2, hm, hs, ht⟩
  · cases h3; exact Nat.le_refl _
  · cases h3; exact hc2
theorem row_small9 {R : List (List Int)} {n : Int} (h : (R.length : Int) + (preL R R.length : Nat) ≤ n) (hn : n ≤ 1048576) : ∀ i, i < R.length → (R.getD i []).length ≤ 1048576 := fun i hi => by
  have := preL_mono R (show i + 1 ≤ R.length by omega)
  have e : preL R (i + 1) = preL R i + (R.getD i []).length := rfl
  omega
set_option maxRecDepth 100000 in
set_option maxHeartbeats 40000000 in
theorem walk  (a0 : Option Addr) (len0 cap0 : Nat) (z0 : List Int) (a1 : Option Addr) (len1 cap1 : Nat) (R1 : List (List Int)) (w : World) (w0 : IsRow .i64 w a0 len0 cap0 z0) (w1 : RdM w (.slice a1 len1 cap1) R1) :
    Calls Try.prog 10 #[.slice a0 len0 cap0, .slice a1 len1 cap1] w fun e w' => e = .returned (.bool true) ∧ Below w.heap.size w w' := by
  obtain ⟨xs0, hxl0, hrd0⟩ := rd_row w0
  have HXL0 := hid hxl0
  obtain rfl : len1 = R1.length := w1.len
  obtain ⟨V0, hV0⟩ : ∃ V0, V0 = w := ⟨_, rfl⟩
  have HV0 := hid hV0
  have PRE0 : Hid (Below w.heap.size w V0) := hid (by rw [hV0]; exact Below.refl w.heap.size w)
  have RAV0 := hid (hrd0.keep2 PRE0.out)
  have RMV1 := hid (w1.keep PRE0.out)
  clear hV0 hrd0 hxl0 w0 w1
  by_cases hl0a : (1048576 : Int) < (len0 : Int)
  · go_enter Try.func10, Try.ntmps10
    go_wp2
    go_ret
    exact ⟨rfl, Below.refl _ _⟩
  have hl0 : xs0.length ≤ 1048576 := by have := HXL0.out; omega
  go_enter Try.func10, Try.ntmps10
  go_wp2_with fail
  refine (szIntSS_any _ R1 (1048576) (by omega) (by omega) _ (by have h9 := RMV1.out; rw [HV0.out] at h9; exact h9)).mono ?_
  rintro e w' ⟨rfl, rfl | ⟨hle1, rfl⟩⟩
  · go_wp2
    go_ret
    exact ⟨rfl, Below.refl _ _⟩
  have hR1 : R1.length ≤ 1048576 := by omega
  have hp1 : preL R1 R1.length ≤ 1048576 := by omega
  have hr1 := row_small9 hle1 (by omega)
  have HRR1 := hid hr1
  clear hr1
  have ht1 : ¬ (1048576 - (R1.length : Int) - ((preL R1 R1.length : Nat) : Int) < 0) := by omega
  obtain ⟨W0, hW0⟩ : ∃ W0, W0 = V0 := ⟨_, rfl⟩
  rw [← hW0] at PRE0
  rw [← hW0] at RAV0
  have RA0 := RAV0
  clear RAV0
  rw [← hW0] at RMV1
  have RM1 := RMV1
  clear RMV1
  rw [show w = W0 by rw [hW0, HV0.out]]
  have PRE := PRE0
  have HSW := hid hW0
  have B0 := hid (Below.refl W0.heap.size W0)
  have slt : w.heap.size + 0 ≤ W0.heap.size := by have h9 := PRE0.out.size; have hb9 := PRE0.out.size; omega
  clear hW0
  obtain ⟨R, hR⟩ : ∃ R, R = (ofV xs0 R1).elim [] (·.1) := ⟨_, rfl⟩
  obtain ⟨d, hd⟩ : ∃ d, d = (ofV xs0 R1).elim 0 (·.2) := ⟨_, rfl⟩
  obtain ⟨b, hb⟩ : ∃ b, b = (ofV xs0 R1).isSome := ⟨_, rfl⟩
  have hlen : preL R R.length ≤ 1000 := by rw [hR]; exact move_rows (fun R d h => (of_some h).2.2.2.1)
  have S : Hid (∀ (v0 v1 : Value) (w : World), Rd w v0 xs0 → RdM w v1 R1 → Calls Try.prog 37 #[v0, v1] w fun e w' => ∃ u, e = .returned (.tuple #[.agg #[u, .int .i64 d], .bool b]) ∧ OwnM w' w.heap.size none u R ∧ Below w.heap.size w w') := hid (fun v0 v1 w h0 h1 => by rw [hR, hd, hb]; exact moveOfS_any v0 v1 xs0 R1 w h0 h1)
  have I : Hid (∀ (v0 v1 : Value) (w : World), Rd w v0 xs0 → RdM w v1 R1 → Calls Try.prog 39 #[v0, v1] w fun e w' => ∃ u, e = .returned (.tuple #[.agg #[u, .int .i64 d], .bool b]) ∧ OwnM w' w.heap.size none u R ∧ Below w.heap.size w w') := hid (fun v0 v1 w h0 h1 => by rw [hR, hd, hb]; exact moveOf9_any v0 v1 xs0 R1 w h0 h1)
  have TB : (b != b) = false := by simp
  have T1 : ((1 + ((preL R R.length : Nat) : Int)) != 1 + ((preL R R.length : Nat) : Int)) = false := by simp
  have T2 : ¬ ((1 + ((preL R R.length : Nat) : Int)) < 0) := by omega
  clear hR hd hb
  go_wp2_with fail
  refine (toIntS_any _ xs0 _ (RA0.out.keep2 B0.out) hl0).mono ?_
  rintro e W1 ⟨u0, rfl, o1, b1, _⟩
  have E1 := hid b1
  have s1 : W0.heap.size ≤ W1.heap.size := E1.out.size
  have B1 := hid (B0.out.trans (E1.out.mono B0.out.size))
  have Ou0_1 := hid o1
  have LTu0 := hid o1.lt
  clear o1 b1
  go_wp2_with fail
  refine (toIntSS_any _ R1 _ (RM1.out.keep B1.out) hR1 HRR1.out).mono ?_
  rintro e W2 ⟨u1, rfl, o2, b2, _⟩
  have E2 := hid b2
  have s2 : W1.heap.size ≤ W2.heap.size := E2.out.size
  have B2 := hid (B1.out.trans (E2.out.mono B1.out.size))
  have Ou0_2 := hid (Ou0_1.out.keep Ou0_1.out.lt E2.out)
  clear Ou0_1
  obtain ⟨valsu1, oc2⟩ := o2.ownC
  obtain ⟨au1, cu1, rfl⟩ := o2.rd.form
  have Ou1_2 := hid oc2
  clear o2 b2 oc2
  go_wp2_with fail
  refine (S.out _ _ _ Ou0_2.out.rd Ou1_2.out.rd).mono ?_
  rintro e W3 ⟨p, rfl, o3, b3⟩
  have E3 := hid b3
  have s3 : W2.heap.size ≤ W3.heap.size := E3.out.size
  have B3 := hid (B2.out.trans (E3.out.mono B2.out.size))
  have Ou0_3 := hid (Ou0_2.out.keep Ou0_2.out.lt E3.out)
  clear Ou0_2
  have Ou1_3 := hid (Ou1_2.out.at_blocks fun g _ h => E3.out.block g (by omega))
  clear Ou1_2
  obtain ⟨valsp, oc3⟩ := o3.ownC
  obtain ⟨ap, cp, rfl⟩ := o3.rd.form
  have Op_3 := hid oc3
  clear o3 b3 oc3
  obtain ⟨W4, hW4⟩ : ∃ W4, W4 = W3.alloc (.cells #[.slice ap R.length cp, .int .i64 d] 29) := ⟨_, rfl⟩
  have HW4 := hid hW4
  have b4 : Below W3.heap.size W3 W4 := by rw [hW4]; exact below_box3 _ _
  have S4 : Hid (W4.heap.size = W3.heap.size + 1) := hid (by rw [hW4]; simp)
  have E4 := hid b4
  have s4 : W3.heap.size ≤ W4.heap.size := E4.out.size
  have B4 := hid (B3.out.trans (E4.out.mono B3.out.size))
  have Ou0_4 := hid (Ou0_3.out.keep Ou0_3.out.lt E4.out)
  clear Ou0_3
  have Ou1_4 := hid (Ou1_3.out.at_blocks fun g _ h => E4.out.block g (by omega))
  clear Ou1_3
  have Op_4 := hid (Op_3.out.at_blocks fun g _ h => E4.out.block g (by omega))
  clear Op_3
  have OXp_4 : Hid (W4.heap[W3.heap.size]? = some (.cells #[.slice ap R.length cp, .int .i64 d] 29 (0, 0))) := hid (by rw [hW4]; exact World.alloc_heap_new _ _)
  clear b4 hW4
  go_wp2_with fail
  rw [← HW4.out]
  refine (toIntS_any _ xs0 _ (RA0.out.keep2 B4.out) hl0).mono ?_
  rintro e W5 ⟨z0, rfl, o5, b5, _⟩
  have E5 := hid b5
  have s5 : W4.heap.size ≤ W5.heap.size := E5.out.size
  have B5 := hid (B4.out.trans (E5.out.mono B4.out.size))
  have Op_5 := hid (Op_4.out.at_blocks fun g _ h => E5.out.block g (by omega))
  clear Op_4
  have OXp_5 := hid (heap_below E5.out OXp_4.out)
  clear OXp_4
  have Oz0_5 := hid o5
  have LTz0 := hid o5.lt
  clear o5 b5
  go_wp2_with fail
  refine (toIntSS_any _ R1 _ (RM1.out.keep B5.out) hR1 HRR1.out).mono ?_
  rintro e W6 ⟨z1, rfl, o6, b6, _⟩
  have E6 := hid b6
  have s6 : W5.heap.size ≤ W6.heap.size := E6.out.size
  have B6 := hid (B5.out.trans (E6.out.mono B5.out.size))
  have Op_6 := hid (Op_5.out.at_blocks fun g _ h => E6.out.block g (by omega))
  clear Op_5
  have OXp_6 := hid (heap_below E6.out OXp_5.out)
  clear OXp_5
  have Oz0_6 := hid (Oz0_5.out.keep Oz0_5.out.lt E6.out)
  clear Oz0_5
  obtain ⟨valsz1, oc6⟩ := o6.ownC
  obtain ⟨az1, cz1, rfl⟩ := o6.rd.form
  have Oz1_6 := hid oc6
  clear o6 b6 oc6
  go_wp2_with fail
  refine (I.out _ _ _ Oz0_6.out.rd Oz1_6.out.rd).mono ?_
  rintro e W7 ⟨g, rfl, o7, b7⟩
  have E7 := hid b7
  have s7 : W6.heap.size ≤ W7.heap.size := E7.out.size
  have B7 := hid (B6.out.trans (E7.out.mono B6.out.size))
  have Op_7 := hid (Op_6.out.at_blocks fun g _ h => E7.out.block g (by omega))
  clear Op_6
  have OXp_7 := hid (heap_below E7.out OXp_6.out)
  clear OXp_6
  have Oz0_7 := hid (Oz0_6.out.keep Oz0_6.out.lt E7.out)
  clear Oz0_6
  have Oz1_7 := hid (Oz1_6.out.at_blocks fun g _ h => E7.out.block g (by omega))
  clear Oz1_6
  obtain ⟨valsg, oc7⟩ := o7.ownC
  obtain ⟨ag, cg, rfl⟩ := o7.rd.form
  have Og_7 := hid oc7
  clear o7 b7 oc7
  obtain ⟨W8, hW8⟩ : ∃ W8, W8 = W7.alloc (.cells #[.slice ag R.length cg, .int .i64 d] 29) := ⟨_, rfl⟩
  have HW8 := hid hW8
  have b8 : Below W7.heap.size W7 W8 := by rw [hW8]; exact below_box3 _ _
  have S8 : Hid (W8.heap.size = W7.heap.size + 1) := hid (by rw [hW8]; simp)
  have E8 := hid b8
  have s8 : W7.heap.size ≤ W8.heap.size := E8.out.size
  have B8 := hid (B7.out.trans (E8.out.mono B7.out.size))
  have Op_8 := hid (Op_7.out.at_blocks fun g _ h => E8.out.block g (by omega))
  clear Op_7
  have OXp_8 := hid (heap_below E8.out OXp_7.out)
  clear OXp_7
  have Oz0_8 := hid (Oz0_7.out.keep Oz0_7.out.lt E8.out)
  clear Oz0_7
  have Oz1_8 := hid (Oz1_7.out.at_blocks fun g _ h => E8.out.block g (by omega))
  clear Oz1_7
  have Og_8 := hid (Og_7.out.at_blocks fun g _ h => E8.out.block g (by omega))
  clear Og_7
  have OXg_8 : Hid (W8.heap[W7.heap.size]? = some (.cells #[.slice ag R.length cg, .int .i64 d] 29 (0, 0))) := hid (by rw [hW8]; exact World.alloc_heap_new _ _)
  clear b8 hW8
  have qg0 := cellB (i := 0) OXg_8.out
  have qg1 := cellB (i := 1) OXg_8.out
  have qp0 := cellB (i := 0) OXp_8.out
  have qp1 := cellB (i := 1) OXp_8.out
  rw [HW8.out] at qg0 qg1
  rw [HW8.out] at qp0 qp1
  go_wp2_with fail
  rw [← HW8.out]
  refine (eqMove_any _ _ R R d d _ Og_8.out.rd Op_8.out.rd).mono ?_
  rw [dec_two]
  rintro e W9 ⟨rfl, b9⟩
  clear qg0 qg1 qp0 qp1
  have E9 := hid b9
  have s9 : W8.heap.size ≤ W9.heap.size := E9.out.size
  have B9 := hid (B8.out.trans (E9.out.mono B8.out.size))
  have Op_9 := hid (Op_8.out.at_blocks fun g _ h => E9.out.block g (by omega))
  clear Op_8
  have OXp_9 := hid (heap_below E9.out OXp_8.out)
  clear OXp_8
  have Oz0_9 := hid (Oz0_8.out.keep Oz0_8.out.lt E9.out)
  clear Oz0_8
  have Oz1_9 := hid (Oz1_8.out.at_blocks fun g _ h => E9.out.block g (by omega))
  clear Oz1_8
  have Og_9 := hid (Og_8.out.at_blocks fun g _ h => E9.out.block g (by omega))
  clear Og_8
  have OXg_9 := hid (heap_below E9.out OXg_8.out)
  clear OXg_8
  clear b9
  go_wp2_with fail
  refine (toIntS_any _ xs0 _ (RA0.out.keep2 B9.out) hl0).mono ?_
  rintro e W10 ⟨t0, rfl, o10, b10, _⟩
  have E10 := hid b10
  have s10 : W9.heap.size ≤ W10.heap.size := E10.out.size
  have B10 := hid (B9.out.trans (E10.out.mono B9.out.size))
  have Op_10 := hid (Op_9.out.at_blocks fun g _ h => E10.out.block g (by omega))
  clear Op_9
  have OXp_10 := hid (heap_below E10.out OXp_9.out)
  clear OXp_9
  have Oz0_10 := hid (Oz0_9.out.keep Oz0_9.out.lt E10.out)
  clear Oz0_9
  have Oz1_10 := hid (Oz1_9.out.at_blocks fun g _ h => E10.out.block g (by omega))
  clear Oz1_9
  have Og_10 := hid (Og_9.out.at_blocks fun g _ h => E10.out.block g (by omega))
  clear Og_9
  have OXg_10 := hid (heap_below E10.out OXg_9.out)
  clear OXg_9
  have Ot0_10 := hid o10
  have LTt0 := hid o10.lt
  clear o10 b10
  go_wp2_with fail
  refine (eqIntS_any _ _ xs0 xs0 _ Oz0_10.out.rd Ot0_10.out.rd).mono ?_
  rw [dec_one]
  rintro e W11 ⟨rfl, k11, hk11⟩
  have b11 : Below W10.heap.size W10 W11 := by rw [hk11]; exact below_drewN (Below.refl _ _) k11
  clear hk11
  have E11 := hid b11
  have s11 : W10.heap.size ≤ W11.heap.size := E11.out.size
  have B11 := hid (B10.out.trans (E11.out.mono B10.out.size))
  have Op_11 := hid (Op_10.out.at_blocks fun g _ h => E11.out.block g (by omega))
  clear Op_10
  have OXp_11 := hid (heap_below E11.out OXp_10.out)
  clear OXp_10
  have Oz0_11 := hid (Oz0_10.out.keep Oz0_10.out.lt E11.out)
  clear Oz0_10
  have Oz1_11 := hid (Oz1_10.out.at_blocks fun g _ h => E11.out.block g (by omega))
  clear Oz1_10
  have Og_11 := hid (Og_10.out.at_blocks fun g _ h => E11.out.block g (by omega))
  clear Og_10
  have OXg_11 := hid (heap_below E11.out OXg_10.out)
  clear OXg_10
  have Ot0_11 := hid (Ot0_10.out.keep Ot0_10.out.lt E11.out)
  clear Ot0_10
  clear b11
  go_wp2_with fail
  refine (toIntSS_any _ R1 _ (RM1.out.keep B11.out) hR1 HRR1.out).mono ?_
  rintro e W12 ⟨t1, rfl, o12, b12, _⟩
  have E12 := hid b12
  have s12 : W11.heap.size ≤ W12.heap.size := E12.out.size
  have B12 := hid (B11.out.trans (E12.out.mono B11.out.size))
  have Op_12 := hid (Op_11.out.at_blocks fun g _ h => E12.out.block g (by omega))
  clear Op_11
  have OXp_12 := hid (heap_below E12.out OXp_11.out)
  clear OXp_11
  have Oz0_12 := hid (Oz0_11.out.keep Oz0_11.out.lt E12.out)
  clear Oz0_11
  have Oz1_12 := hid (Oz1_11.out.at_blocks fun g _ h => E12.out.block g (by omega))
  clear Oz1_11
  have Og_12 := hid (Og_11.out.at_blocks fun g _ h => E12.out.block g (by omega))
  clear Og_11
  have OXg_12 := hid (heap_below E12.out OXg_11.out)
  clear OXg_11
  obtain ⟨valst1, oc12⟩ := o12.ownC
  obtain ⟨at1, ct1, rfl⟩ := o12.rd.form
  have Ot1_12 := hid oc12
  clear o12 b12 oc12
  go_wp2_with fail
  refine (eqIntSS_any _ _ R1 R1 _ Oz1_12.out.rd Ot1_12.out.rd).mono ?_
  rw [dec_rows]
  rintro e W13 ⟨rfl, k13, hk13⟩
  have b13 : Below W12.heap.size W12 W13 := by rw [hk13]; exact below_drewN (Below.refl _ _) k13
  clear hk13
  have E13 := hid b13
  have s13 : W12.heap.size ≤ W13.heap.size := E13.out.size
  have B13 := hid (B12.out.trans (E13.out.mono B12.out.size))
  have Op_13 := hid (Op_12.out.at_blocks fun g _ h => E13.out.block g (by omega))
  clear Op_12
  have OXp_13 := hid (heap_below E13.out OXp_12.out)
  clear OXp_12
  have Oz0_13 := hid (Oz0_12.out.keep Oz0_12.out.lt E13.out)
  clear Oz0_12
  have Oz1_13 := hid (Oz1_12.out.at_blocks fun g _ h => E13.out.block g (by omega))
  clear Oz1_12
  have Og_13 := hid (Og_12.out.at_blocks fun g _ h => E13.out.block g (by omega))
  clear Og_12
  have OXg_13 := hid (heap_below E13.out OXg_12.out)
  clear OXg_12
  have Ot1_13 := hid (Ot1_12.out.at_blocks fun g _ h => E13.out.block g (by omega))
  clear Ot1_12
  clear b13
  go_wp2_with fail
  refine (markIntS2_any _ xs0 W4.heap.size (1) (by omega) (by omega) (by omega) _ Oz0_13.out).mono ?_
  rintro e W14 ⟨rfl, o14, b14, g14⟩
  have G14 := hid g14
  have s14 : W13.heap.size ≤ W14.heap.size := b14.size
  have B14 := hid (B13.out.trans (b14.mono B4.out.size))
  have Op_14 := hid (Op_13.out.at_blocks fun g h3 h4 => G14.out.block g (by omega) (fun e => by have h1 := Oz0_13.out.ge g e.symm; have h2 := LTz0.out g e.symm; omega))
  clear Op_13
  have OXp_14 := hid ((G14.out.block W3.heap.size (by have h9 := S4.out; omega) (fun e => by have h1 := Oz0_13.out.ge _ e.symm; have h2 := LTz0.out _ e.symm; have h9 := S4.out; omega)).trans OXp_13.out)
  clear OXp_13
  have Oz1_14 := hid (Oz1_13.out.at_blocks fun g h3 h4 => G14.out.block g (by omega) (fun e => by have h1 := Oz0_13.out.ge g e.symm; have h2 := LTz0.out g e.symm; omega))
  clear Oz1_13
  have Og_14 := hid (Og_13.out.at_blocks fun g h3 h4 => G14.out.block g (by omega) (fun e => by have h1 := Oz0_13.out.ge g e.symm; have h2 := LTz0.out g e.symm; omega))
  clear Og_13
  have OXg_14 := hid ((G14.out.block W7.heap.size (by have h9 := S8.out; omega) (fun e => by have h1 := Oz0_13.out.ge _ e.symm; have h2 := LTz0.out _ e.symm; have h9 := S8.out; omega)).trans OXg_13.out)
  clear OXg_13
  have Oz0_14 := hid o14
  clear o14 b14 g14
  go_wp2_with fail
  refine (markIntSS_any _ R1 valsz1 W5.heap.size W6.heap.size (1 + (xs0.length : Int)) (by omega) (by omega) (by omega) _ Oz1_14.out).mono ?_
  rintro e W15 ⟨rfl, o15, b15, u15⟩
  have U15 := hid u15
  have D15 := hid b15
  have s15 : W14.heap.size ≤ W15.heap.size := b15.size
  have B15 := hid (B14.out.trans (b15.mono B5.out.size))
  have Op_15 := hid (Op_14.out.at_blocks fun g h3 h4 => D15.out.block g (by omega))
  clear Op_14
  have OXp_15 := hid ((D15.out.block W3.heap.size (by have h9 := S4.out; omega)).trans OXp_14.out)
  clear OXp_14
  have Oz0_15 := hid (Oz0_14.out.at_block fun g h => D15.out.block g (by have := LTz0.out g h; omega))
  clear Oz0_14
  have Og_15 := hid (Og_14.out.at_blocks fun g h3 h4 => U15.out g (by omega) (by omega))
  clear Og_14
  have OXg_15 := hid ((U15.out W7.heap.size (by omega) (by have h9 := S8.out; omega)).trans OXg_14.out)
  clear OXg_14
  have Oz1_15 := hid o15
  clear o15 b15 u15
  have T3 : ¬ (1 + (xs0.length : Int) + ((preL R1 R1.length : Nat) : Int) < 0) := by omega
  have qg0 := cellB (i := 0) OXg_15.out
  have qg1 := cellB (i := 1) OXg_15.out
  have qp0 := cellB (i := 0) OXp_15.out
  have qp1 := cellB (i := 1) OXp_15.out
  go_wp2_with fail
  refine (eqMove_any _ _ R R d d _ Og_15.out.rd Op_15.out.rd).mono ?_
  rw [dec_two]
  rintro e W16 ⟨rfl, b16⟩
  clear qg0 qg1 qp0 qp1
  have E16 := hid b16
  have s16 : W15.heap.size ≤ W16.heap.size := E16.out.size
  have B16 := hid (B15.out.trans (E16.out.mono B15.out.size))
  have Op_16 := hid (Op_15.out.at_blocks fun g _ h => E16.out.block g (by omega))
  clear Op_15
  have OXp_16 := hid (heap_below E16.out OXp_15.out)
  clear OXp_15
  have Oz0_16 := hid (Oz0_15.out.keep Oz0_15.out.lt E16.out)
  clear Oz0_15
  have Oz1_16 := hid (Oz1_15.out.at_blocks fun g _ h => E16.out.block g (by omega))
  clear Oz1_15
  have Og_16 := hid (Og_15.out.at_blocks fun g _ h => E16.out.block g (by omega))
  clear Og_15
  have OXg_16 := hid (heap_below E16.out OXg_15.out)
  clear OXg_15
  clear b16
  have qg0 := cellB (i := 0) OXg_16.out
  have qg1 := cellB (i := 1) OXg_16.out
  go_wp2_with fail
  refine (markMove_any _ R valsg W6.heap.size W7.heap.size d 1 (by omega) (by omega) (by omega) _ Og_16.out (by omega) (by omega)).mono ?_
  rintro e W17 ⟨rfl, o17, b17, u17⟩
  clear qg0 qg1
  have U17 := hid u17
  have D17 := hid b17
  have s17 : W16.heap.size ≤ W17.heap.size := b17.size
  have B17 := hid (B16.out.trans (b17.mono B6.out.size))
  have Op_17 := hid (Op_16.out.at_blocks fun g h3 h4 => D17.out.block g (by omega))
  clear Op_16
  have OXp_17 := hid ((D17.out.block W3.heap.size (by have h9 := S4.out; omega)).trans OXp_16.out)
  clear OXp_16
  have OXg_17 := hid ((U17.out W7.heap.size (by omega) (by have h9 := S8.out; omega)).trans OXg_16.out)
  clear OXg_16
  have Og_17 := hid o17
  clear o17 b17 u17
  have qg0 := cellB (i := 0) OXg_17.out
  have qg1 := cellB (i := 1) OXg_17.out
  go_wp2_with fail
  refine (heldMove_any _ R d 1 (by omega) (by omega) (by omega) _ Og_17.out.rd).mono ?_
  rintro e W18 ⟨rfl, b18⟩
  clear qg0 qg1
  have E18 := hid b18
  have s18 : W17.heap.size ≤ W18.heap.size := E18.out.size
  have B18 := hid (B17.out.trans (E18.out.mono B17.out.size))
  have Op_18 := hid (Op_17.out.at_blocks fun g _ h => E18.out.block g (by omega))
  clear Op_17
  have OXp_18 := hid (heap_below E18.out OXp_17.out)
  clear OXp_17
  have Og_18 := hid (Og_17.out.at_blocks fun g _ h => E18.out.block g (by omega))
  clear Og_17
  have OXg_18 := hid (heap_below E18.out OXg_17.out)
  clear OXg_17
  clear b18
  go_wp2_with fail
  refine (toIntS_any _ xs0 _ (RA0.out.keep2 B18.out) hl0).mono ?_
  rintro e W19 ⟨u0, rfl, o19, b19, _⟩
  have E19 := hid b19
  have s19 : W18.heap.size ≤ W19.heap.size := E19.out.size
  have B19 := hid (B18.out.trans (E19.out.mono B18.out.size))
  have Op_19 := hid (Op_18.out.at_blocks fun g _ h => E19.out.block g (by omega))
  clear Op_18
  have OXp_19 := hid (heap_below E19.out OXp_18.out)
  clear OXp_18
  have Og_19 := hid (Og_18.out.at_blocks fun g _ h => E19.out.block g (by omega))
  clear Og_18
  have OXg_19 := hid (heap_below E19.out OXg_18.out)
  clear OXg_18
  have Ou0_19 := hid o19
  have LTu0 := hid o19.lt
  clear o19 b19
  go_wp2_with fail
  refine (toIntSS_any _ R1 _ (RM1.out.keep B19.out) hR1 HRR1.out).mono ?_
  rintro e W20 ⟨u1, rfl, o20, b20, _⟩
  have E20 := hid b20
  have s20 : W19.heap.size ≤ W20.heap.size := E20.out.size
  have B20 := hid (B19.out.trans (E20.out.mono B19.out.size))
  have Op_20 := hid (Op_19.out.at_blocks fun g _ h => E20.out.block g (by omega))
  clear Op_19
  have OXp_20 := hid (heap_below E20.out OXp_19.out)
  clear OXp_19
  have Og_20 := hid (Og_19.out.at_blocks fun g _ h => E20.out.block g (by omega))
  clear Og_19
  have OXg_20 := hid (heap_below E20.out OXg_19.out)
  clear OXg_19
  have Ou0_20 := hid (Ou0_19.out.keep Ou0_19.out.lt E20.out)
  clear Ou0_19
  obtain ⟨valsu1, oc20⟩ := o20.ownC
  obtain ⟨au1, cu1, rfl⟩ := o20.rd.form
  have Ou1_20 := hid oc20
  clear o20 b20 oc20
  go_wp2_with fail
  refine (I.out _ _ _ Ou0_20.out.rd Ou1_20.out.rd).mono ?_
  rintro e W21 ⟨h, rfl, o21, b21⟩
  have E21 := hid b21
  have s21 : W20.heap.size ≤ W21.heap.size := E21.out.size
  have B21 := hid (B20.out.trans (E21.out.mono B20.out.size))
  have Op_21 := hid (Op_20.out.at_blocks fun g _ h => E21.out.block g (by omega))
  clear Op_20
  have OXp_21 := hid (heap_below E21.out OXp_20.out)
  clear OXp_20
  have Og_21 := hid (Og_20.out.at_blocks fun g _ h => E21.out.block g (by omega))
  clear Og_20
  have OXg_21 := hid (heap_below E21.out OXg_20.out)
  clear OXg_20
  have Ou0_21 := hid (Ou0_20.out.keep Ou0_20.out.lt E21.out)
  clear Ou0_20
  have Ou1_21 := hid (Ou1_20.out.at_blocks fun g _ h => E21.out.block g (by omega))
  clear Ou1_20
  obtain ⟨valsh, oc21⟩ := o21.ownC
  obtain ⟨ah, ch, rfl⟩ := o21.rd.form
  have Oh_21 := hid oc21
  clear o21 b21 oc21
  obtain ⟨W22, hW22⟩ : ∃ W22, W22 = W21.alloc (.cells #[.slice ah R.length ch, .int .i64 d] 29) := ⟨_, rfl⟩
  have HW22 := hid hW22
  have b22 : Below W21.heap.size W21 W22 := by rw [hW22]; exact below_box3 _ _
  have S22 : Hid (W22.heap.size = W21.heap.size + 1) := hid (by rw [hW22]; simp)
  have E22 := hid b22
  have s22 : W21.heap.size ≤ W22.heap.size := E22.out.size
  have B22 := hid (B21.out.trans (E22.out.mono B21.out.size))
  have Op_22 := hid (Op_21.out.at_blocks fun g _ h => E22.out.block g (by omega))
  clear Op_21
  have OXp_22 := hid (heap_below E22.out OXp_21.out)
  clear OXp_21
  have Og_22 := hid (Og_21.out.at_blocks fun g _ h => E22.out.block g (by omega))
  clear Og_21
  have OXg_22 := hid (heap_below E22.out OXg_21.out)
  clear OXg_21
  have Ou0_22 := hid (Ou0_21.out.keep Ou0_21.out.lt E22.out)
  clear Ou0_21
  have Ou1_22 := hid (Ou1_21.out.at_blocks fun g _ h => E22.out.block g (by omega))
  clear Ou1_21
  have Oh_22 := hid (Oh_21.out.at_blocks fun g _ h => E22.out.block g (by omega))
  clear Oh_21
  have OXh_22 : Hid (W22.heap[W21.heap.size]? = some (.cells #[.slice ah R.length ch, .int .i64 d] 29 (0, 0))) := hid (by rw [hW22]; exact World.alloc_heap_new _ _)
  clear b22 hW22
  have qh0 := cellB (i := 0) OXh_22.out
  have qh1 := cellB (i := 1) OXh_22.out
  have qp0 := cellB (i := 0) OXp_22.out
  have qp1 := cellB (i := 1) OXp_22.out
  rw [HW22.out] at qh0 qh1
  rw [HW22.out] at qp0 qp1
  go_wp2_with fail
  rw [← HW22.out]
  refine (eqMove_any _ _ R R d d _ Oh_22.out.rd Op_22.out.rd).mono ?_
  rw [dec_two]
  rintro e W23 ⟨rfl, b23⟩
  clear qh0 qh1 qp0 qp1
  have E23 := hid b23
  have s23 : W22.heap.size ≤ W23.heap.size := E23.out.size
  have B23 := hid (B22.out.trans (E23.out.mono B22.out.size))
  have Op_23 := hid (Op_22.out.at_blocks fun g _ h => E23.out.block g (by omega))
  clear Op_22
  have OXp_23 := hid (heap_below E23.out OXp_22.out)
  clear OXp_22
  have Og_23 := hid (Og_22.out.at_blocks fun g _ h => E23.out.block g (by omega))
  clear Og_22
  have OXg_23 := hid (heap_below E23.out OXg_22.out)
  clear OXg_22
  have Oh_23 := hid (Oh_22.out.at_blocks fun g _ h => E23.out.block g (by omega))
  clear Oh_22
  have OXh_23 := hid (heap_below E23.out OXh_22.out)
  clear OXh_22
  clear b23
  have qg0 := cellB (i := 0) OXg_23.out
  have qg1 := cellB (i := 1) OXg_23.out
  go_wp2_with fail
  refine (heldMove_any _ R d 1 (by omega) (by omega) (by omega) _ Og_23.out.rd).mono ?_
  rintro e W24 ⟨rfl, b24⟩
  clear qg0 qg1
  have E24 := hid b24
  have s24 : W23.heap.size ≤ W24.heap.size := E24.out.size
  have B24 := hid (B23.out.trans (E24.out.mono B23.out.size))
  have Op_24 := hid (Op_23.out.at_blocks fun g _ h => E24.out.block g (by omega))
  clear Op_23
  have OXp_24 := hid (heap_below E24.out OXp_23.out)
  clear OXp_23
  have Og_24 := hid (Og_23.out.at_blocks fun g _ h => E24.out.block g (by omega))
  clear Og_23
  have OXg_24 := hid (heap_below E24.out OXg_23.out)
  clear OXg_23
  have Oh_24 := hid (Oh_23.out.at_blocks fun g _ h => E24.out.block g (by omega))
  clear Oh_23
  have OXh_24 := hid (heap_below E24.out OXh_23.out)
  clear OXh_23
  clear b24
  go_wp2
  go_ret
  first | exact ⟨rfl, PRE.out.trans (B24.out.mono PRE.out.size)⟩ | exact ⟨rfl, B24.out⟩
theorem own : ownKnob Try.prog.godebug = none := by kernel_rfl
theorem laidOut : laidOutB Try.prog = true := by kernel_rfl
set_option maxRecDepth 100000 in
theorem lifted (os : Os) (started : os.Started) (H : Type) (enc : TypeId × Value → H) :
    ReturnsInHanded {} Try.checked os 10 .any (Rows.fnExactMoveOfSpec.pre6 enc Try.prog Try.f10 Rows.fnExactMoveOfRow.domain false) (Rows.fnExactMoveOfSpec.post enc Try.prog Try.f10 false true false false) := by
  refine returnsInHanded_of_change (C := Try.checked) own started (by kernel_rfl) Try.func10
    (ChangeSpec.witness6 (enc := enc) (C := Try.checked) false ⟨#[], #[.slice none 0 0, .slice none 0 0], []⟩ 8 (by kernel_rfl) (by kernel_rfl) (by kernel_rfl) (by kernel_rfl)) ?_
  intro W base args ds gs before hval0 hW hcnd _
  have hval : ∀ (j : Nat) t v, Try.f10.params[j]? = some t → args[j]? = some v → Value.okWide Try.prog W .any base t v := hval0
  have hW' := hW
  obtain ⟨p, q, hA0, hV, rfl, hfz, hnd⟩ := hW
  have hA : DataW.TrodAll enc Try.prog W 0 (fun _ => true) true Try.f10.params.toList args.toList ds p := hA0
  rw [Try.params10] at hA hval
  obtain ⟨v0, vs0, d0, ds0, p0, q0, hargs, rfl, rfl, h0, r0⟩ := trodAll_cons hA
  obtain ⟨v1, vs1, d1, ds1, p1, q1, rfl, rfl, rfl, h1, r1⟩ := trodAll_cons r0
  obtain ⟨rfl, rfl, rfl⟩ := trodAll_nil r1
  obtain rfl : args = #[v0, v1] := by cases args; simp_all
  obtain ⟨rfl, rfl⟩ := trodVars_none hV
  obtain ⟨a0, len0, cap0, rfl⟩ := okWide_slice Try.underlying22 (hval 0 22 v0 rfl rfl)
  have k0 := h0
  have lt0 : ∀ x ∈ p0, x.block < W.heap.size := by obtain ⟨m, hm⟩ := k0; exact DataW.trod_lt m _ _ _ hm
  obtain ⟨z0, w0⟩ : ∃ zs, IsRow .i64 W a0 len0 cap0 zs := by
    obtain ⟨fuel, hf⟩ := h0
    rcases open_ints Try.underlying22 Try.underlying3 (by kernel_rfl) hf with ⟨hcs, _⟩ | ⟨x, l, c, zs, hcs, _, hl, hm, hz, _, hcell, hwz⟩
    · simp [Value.cells] at hcs
      obtain ⟨rfl, rfl, rfl⟩ := hcs
      exact ⟨[], .inl ⟨rfl, rfl, rfl, rfl⟩⟩
    · simp [Value.cells] at hcs
      obtain ⟨rfl, rfl, rfl⟩ := hcs
      exact ⟨zs, .inr ⟨_, rfl, hl, hm, by simpa using hz, hcell, hwz⟩⟩
  obtain ⟨a1, len1, cap1, rfl⟩ := okWide_slice Try.underlying23 (hval 1 23 v1 rfl rfl)
  have k1 := h1
  have lt1 : ∀ x ∈ p1, x.block < W.heap.size := by obtain ⟨m, hm⟩ := k1; exact DataW.trod_lt m _ _ _ hm
  obtain ⟨R1, w1⟩ : ∃ R, RdM W (.slice a1 len1 cap1) R := by
    obtain ⟨fuel, hf⟩ := h1
    exact rows_open (by simpa [Value.cells] using hf)
  clear hA0 hval0
  refine (walk a0 len0 cap0 z0 a1 len1 cap1 R1 W w0 w1).mono fun e W' ⟨he, bel⟩ => ?_
  subst he
  exact ⟨_, rfl, _, _, _, [], _, [], hW', trodAll_mk1 (shut_bool Try.underlying4 _), (trodAll_cons_mk (Below.trod laidOut (by kernel_rfl) (of_decide_eq_true (by kernel_rfl)) k0 bel lt0) (trodAll_cons_mk (Below.trod laidOut (by kernel_rfl) (of_decide_eq_true (by kernel_rfl)) k1 bel lt1) trodAll_mk0)), rfl, bel.frame _, fun h => by cases h⟩
theorem over : Rows.fnExactMoveOfRow.holds Try.pinned (OpenSpec.ofChange Rows.fnExactMoveOfSpec) :=
  OpenClaim.holds_of_wide 10 Try.f10 rfl rfl rfl rfl rfl rfl rfl ⟨rfl, rfl, rfl, rfl, rfl⟩ rfl rfl rfl rfl rfl (by kernel_rfl) Try.func10 (by kernel_rfl)
    (of_decide_eq_true (by kernel_rfl)) (by unfold Func.isWrapper; first | (rw [if_pos (by decide +kernel)]; kernel_rfl) | (rw [if_neg (by decide +kernel)]; exact ⟨rfl, rfl⟩))
    (fun os started H enc _ => lifted os started H enc)
theorem proved : Rows.FnExactMoveOfSaid := over
end Go.Proofs.Ytjabklpnohfjpab.fnExactMoveOf
