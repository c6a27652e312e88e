/-
  Proves: for every list and every move the program's MoveValid answers as the model's.
  Conditions: none beyond the given statement's own.
-/
import Derived.Test.YtjabklpnohfjpabRows
import Derived.Test.YtjabklpnohfjpabQBun38
import Derived.Test.YtjabklpnohfjpabQBun40
import Derived.ProofKit
import Derived.OpenShut
import Derived.ShutString
import Derived.ChangeOld
namespace Go.Proofs.Ytjabklpnohfjpab.fnExactMoveValid
open Go.ChangeShapes Go.WideShapes Go.ChangeAt Go.RowKit
open Go.ChangeMaps (open_string shut_string)
set_option linter.unusedVariables false
theorem un_drew9 {W W' : World} (h : Below W.drew.heap.size W.drew W') : Below W.heap.size W W' := ⟨h.os, h.tape, h.output, h.size, h.block⟩
theorem own_cap9 {W : World} {B : Nat} {ex : Option Nat} {v : Value} {R : List (List Int)} (h : OwnM W B ex v R) : ∀ a n c, v = .slice a n c → n ≤ c := by
  intro a n c e
  subst e
  obtain ⟨vals, hl, ⟨h1, h2⟩, _⟩ := h.own
  rcases h2 with ⟨h3, hn⟩ | ⟨g, cap, cur, h3, _, hg, hc2, hm, hs, ht⟩
  · cases h3; exact Nat.le_refl _
  · cases h3; exact hc2
theorem row_small9 {R : List (List Int)} {n : Int} (h : (R.length : Int) + (preL R R.length : Nat) ≤ n) (hn : n ≤ 1048576) : ∀ i, i < R.length → (R.getD i []).length ≤ 1048576 := fun i hi => by
  have := preL_mono R (show i + 1 ≤ R.length by omega)
  have e : preL R (i + 1) = preL R i + (R.getD i []).length := rfl
  omega
set_option maxRecDepth 100000 in
set_option maxHeartbeats 40000000 in
theorem walk  (a0 : Option Addr) (len0 cap0 : Nat) (z0 : List Int) (y1 : Value) (R1 : List (List Int)) (n1 : Int) (w : World) (w0 : IsRow .i64 w a0 len0 cap0 z0) (w1 : RdM w y1 R1) :
    Calls Try.prog 3 #[.slice a0 len0 cap0, .agg #[y1, .int .i64 n1]] w fun e w' => e = .returned (.bool true) ∧ Below w.heap.size w w' := by
  obtain ⟨xs0, hxl0, hrd0⟩ := rd_row w0
  have HXL0 := hid hxl0
  obtain ⟨ay1, cy1, rfl⟩ := w1.form
  obtain ⟨V0, hV0⟩ : ∃ V0, V0 = (w.alloc (.cells #[.slice ay1 R1.length cy1, .int .i64 n1] 25)) := ⟨_, rfl⟩
  have HV0 := hid hV0
  have PRE0 : Hid (Below w.heap.size w V0) := hid (by rw [hV0]; exact (Below.refl w.heap.size w).alloc (Nat.le_refl _) _)
  have HXV1 : Hid (V0.heap[w.heap.size]? = some (.cells #[.slice ay1 R1.length cy1, .int .i64 n1] 25 (0, 0))) := hid (by rw [hV0]; have h9 := heap_alloc_new w (.cells #[.slice ay1 R1.length cy1, .int .i64 n1] 25); exact h9)
  have RAV0 := hid (hrd0.keep2 PRE0.out)
  have RMV1 := hid (w1.keep PRE0.out)
  clear hV0 hrd0 hxl0 w0 w1
  by_cases hl0a : (1048576 : Int) < (len0 : Int)
  · go_enter Try.func3, Try.ntmps3
    go_wp2
    go_ret
    exact ⟨rfl, by have h9 := PRE0.out; rw [HV0.out] at h9; exact h9⟩
  have hl0 : xs0.length ≤ 1048576 := by have := HXL0.out; omega
  have qx10 := cellB (i := 0) HXV1.out
  have qx11 := cellB (i := 1) HXV1.out
  rw [HV0.out] at qx10 qx11
  go_enter Try.func3, Try.ntmps3
  go_wp2_with fail
  rw [← HV0.out]
  clear qx10 qx11
  refine (szMove_any _ R1 n1 (1048576) (by omega) (by omega) _ RMV1.out).mono ?_
  rintro e V1 ⟨hb1, rfl | ⟨hle1, rfl⟩⟩
  · go_wp2
    go_ret
    exact ⟨rfl, PRE0.out.trans (hb1.mono PRE0.out.size)⟩
  have EV1 := hid hb1
  have PRE1 := hid (PRE0.out.trans (EV1.out.mono PRE0.out.size))
  have HXW1 := hid (heap_below EV1.out HXV1.out)
  clear HXV1
  have HXV1 := HXW1
  clear HXW1
  have RAW0 := hid (RAV0.out.keep2 EV1.out)
  clear RAV0
  have RAV0 := RAW0
  clear RAW0
  have RMW1 := hid (RMV1.out.keep EV1.out)
  clear RMV1
  have RMV1 := RMW1
  clear RMW1
  clear hb1
  have hR1 : R1.length ≤ 1048576 := by omega
  have hp1 : preL R1 R1.length ≤ 1048576 := by omega
  have hr1 := row_small9 hle1 (by omega)
  have HRR1 := hid hr1
  clear hr1
  have ht1 : ¬ (1048576 - (R1.length : Int) - ((preL R1 R1.length : Nat) : Int) < 0) := by omega
  obtain ⟨W0, hW0⟩ : ∃ W0, W0 = V1 := ⟨_, rfl⟩
  rw [← hW0] at PRE1
  rw [← hW0] at HXV1
  rw [← hW0] at RAV0
  have RA0 := RAV0
  clear RAV0
  rw [← hW0] at RMV1
  have RM1 := RMV1
  clear RMV1
  rw [← hW0]
  have PRE := PRE1
  have HSW := hid hW0
  have B0 := hid (Below.refl W0.heap.size W0)
  have slt : w.heap.size + 1 ≤ W0.heap.size := by have h9 := PRE1.out.size; have hb9 := PRE0.out.size; have h81 := (Array.getElem?_eq_some_iff.1 HXV1.out).1; omega
  clear hW0
  obtain ⟨x, hx⟩ : ∃ x : Bool, x = moveB xs0 R1 n1 := ⟨_, rfl⟩
  have S : Hid (∀ (va vb : Value) (w : World), Rd w va xs0 → RdM w vb R1 → Calls Try.prog 14 #[va, .agg #[vb, .int .i64 n1]] w fun e w' => e = .returned (.bool x) ∧ Below w.heap.size w w') := hid (fun va vb w h0 h1 => by rw [hx]; exact moveValidS_any va vb xs0 R1 n1 w h0 h1)
  have I : Hid (∀ (va vb : Value) (w : World) (B : Nat), Rd w va xs0 → OwnM w B none vb R1 → Calls Try.prog 17 #[va, .agg #[vb, .int .i64 n1]] w fun e w' => e = .returned (.bool x) ∧ Below w.heap.size w w') := hid (fun va vb w B h0 h1 => by rw [hx]; exact moveValid_any va vb xs0 R1 n1 w h0 h1.rd)
  have TX : (x != x) = false := by simp
  clear hx
  go_upto_region 7 with fail
  go_cut [6] (fun s6 wx => s6 = .bool x ∧ Hid (Below W0.heap.size W0 wx))
  case first =>
    have qr10 := cellB (i := 0) (heap_below B0.out HXV1.out)
    have qr11 := cellB (i := 1) (heap_below B0.out HXV1.out)
    have RD0 : Rd W0 (.slice a0 len0 cap0) xs0 := RA0.out.keep2 B0.out
    have RD1 : Rd W0.drew (.slice a0 len0 cap0) xs0 := RD0
    have RDH := hid RD1
    clear RD0 RD1
    go_region_with (first | (go_at_call 14; refine (S.out _ _ _ OU0.out OU1.out.rd).mono ?_; rintro e U2 ⟨rfl, b2⟩; have EA2 := hid (EA1.out.trans (b2.mono EA1.out.size)); clear b2) | (go_at_call 16; refine (toMove_any _ R1 n1 _ (RM1.out.keep (B0.out.trans (EA0.out.mono B0.out.size))) hR1 HRR1.out).mono ?_; rintro e U1 ⟨u1, rfl, o1, b1⟩; have EA1 := hid (EA0.out.trans (b1.mono EA0.out.size)); have OU0x := hid (OU0.out.keep2 b1); clear OU0; have OU0 := OU0x; clear OU0x; have OU1 := hid o1; have qs110 := cellB (i := 0) (heap_below (B0.out.trans (EA1.out.mono B0.out.size)) HXV1.out); have qs111 := cellB (i := 1) (heap_below (B0.out.trans (EA1.out.mono B0.out.size)) HXV1.out); clear o1 b1) | (go_at_call 15; refine (toIntS_any _ xs0 _ RDH.out hl0).mono ?_; rintro e U0 ⟨u0, rfl, o0, b0, _⟩; have EA0 : Hid (Below W0.heap.size W0 U0) := hid (un_drew9 b0); have OU0 := hid o0.rd; have qs010 := cellB (i := 0) (heap_below (B0.out.trans (EA0.out.mono B0.out.size)) HXV1.out); have qs011 := cellB (i := 1) (heap_below (B0.out.trans (EA0.out.mono B0.out.size)) HXV1.out); clear o0 b0))
    all_goals (go_wp2_with fail; go_meet; exact ⟨rfl, EA2⟩)
  case rest =>
    obtain ⟨rfl, bc⟩ := hcut
    rename World => W1
    have b1 := bc.out
    clear bc
    have E1 := hid b1
    have s1 : W0.heap.size ≤ W1.heap.size := E1.out.size
    have B1 := hid (B0.out.trans (E1.out.mono B0.out.size))
    clear b1
    go_wp2_with fail
    refine (toIntS_any _ xs0 _ (RA0.out.keep2 B1.out) hl0).mono ?_
    rintro e W2 ⟨y0, rfl, o2, b2, _⟩
    have E2 := hid b2
    have s2 : W1.heap.size ≤ W2.heap.size := E2.out.size
    have B2 := hid (B1.out.trans (E2.out.mono B1.out.size))
    have Oy0_2 := hid o2
    have LTy0 := hid o2.lt
    clear o2 b2
    have qx10 := cellB (i := 0) (heap_below B2.out HXV1.out)
    have qx11 := cellB (i := 1) (heap_below B2.out HXV1.out)
    go_wp2_with fail
    refine (toMove_any _ R1 n1 _ (RM1.out.keep B2.out) hR1 HRR1.out).mono ?_
    clear qx10 qx11
    rintro e W3 ⟨v1, rfl, o3, b3⟩
    have E3 := hid b3
    have s3 : W2.heap.size ≤ W3.heap.size := E3.out.size
    have B3 := hid (B2.out.trans (E3.out.mono B2.out.size))
    have Oy0_3 := hid (Oy0_2.out.keep Oy0_2.out.lt E3.out)
    clear Oy0_2
    obtain ⟨valsv1, oc3⟩ := o3.ownC
    obtain ⟨av1, cv1, rfl⟩ := o3.rd.form
    have Ov1_3 := hid oc3
    clear o3 b3 oc3
    obtain ⟨W4, hW4⟩ : ∃ W4, W4 = W3.alloc (.cells #[.slice av1 R1.length cv1, .int .i64 n1] 29) := ⟨_, rfl⟩
    have HW4 := hid hW4
    have b4 : Below W3.heap.size W3 W4 := by rw [hW4]; exact below_box3 _ _
    have S4 : Hid (W4.heap.size = W3.heap.size + 1) := hid (by rw [hW4]; simp)
    have E4 := hid b4
    have s4 : W3.heap.size ≤ W4.heap.size := E4.out.size
    have B4 := hid (B3.out.trans (E4.out.mono B3.out.size))
    have Oy0_4 := hid (Oy0_3.out.keep Oy0_3.out.lt E4.out)
    clear Oy0_3
    have Ov1_4 := hid (Ov1_3.out.at_blocks fun g _ h => E4.out.block g (by omega))
    clear Ov1_3
    have OXv1_4 : Hid (W4.heap[W3.heap.size]? = some (.cells #[.slice av1 R1.length cv1, .int .i64 n1] 29 (0, 0))) := hid (by rw [hW4]; exact World.alloc_heap_new _ _)
    clear b4 hW4
    have qy0 := cellB (i := 0) OXv1_4.out
    have qy1 := cellB (i := 1) OXv1_4.out
    rw [HW4.out] at qy0 qy1
    go_wp2_with fail
    rw [← HW4.out]
    refine (I.out _ _ _ _ Oy0_4.out.rd Ov1_4.out.ownM).mono ?_
    rintro e W5 ⟨rfl, b5⟩
    clear qy0 qy1
    have E5 := hid b5
    have s5 : W4.heap.size ≤ W5.heap.size := E5.out.size
    have B5 := hid (B4.out.trans (E5.out.mono B4.out.size))
    have Oy0_5 := hid (Oy0_4.out.keep Oy0_4.out.lt E5.out)
    clear Oy0_4
    have Ov1_5 := hid (Ov1_4.out.at_blocks fun g _ h => E5.out.block g (by omega))
    clear Ov1_4
    have OXv1_5 := hid (heap_below E5.out OXv1_4.out)
    clear OXv1_4
    clear b5
    go_wp2_with fail
    refine (toIntS_any _ xs0 _ (RA0.out.keep2 B5.out) hl0).mono ?_
    rintro e W6 ⟨t0, rfl, o6, b6, _⟩
    have E6 := hid b6
    have s6 : W5.heap.size ≤ W6.heap.size := E6.out.size
    have B6 := hid (B5.out.trans (E6.out.mono B5.out.size))
    have Oy0_6 := hid (Oy0_5.out.keep Oy0_5.out.lt E6.out)
    clear Oy0_5
    have Ov1_6 := hid (Ov1_5.out.at_blocks fun g _ h => E6.out.block g (by omega))
    clear Ov1_5
    have OXv1_6 := hid (heap_below E6.out OXv1_5.out)
    clear OXv1_5
    have Ot0_6 := hid o6
    have LTt0 := hid o6.lt
    clear o6 b6
    go_wp2_with fail
    refine (eqIntS_any _ _ xs0 xs0 _ Oy0_6.out.rd Ot0_6.out.rd).mono ?_
    rw [dec_one]
    rintro e W7 ⟨rfl, k7, hk7⟩
    have b7 : Below W6.heap.size W6 W7 := by rw [hk7]; exact below_drewN (Below.refl _ _) k7
    clear hk7
    have E7 := hid b7
    have s7 : W6.heap.size ≤ W7.heap.size := E7.out.size
    have B7 := hid (B6.out.trans (E7.out.mono B6.out.size))
    have Oy0_7 := hid (Oy0_6.out.keep Oy0_6.out.lt E7.out)
    clear Oy0_6
    have Ov1_7 := hid (Ov1_6.out.at_blocks fun g _ h => E7.out.block g (by omega))
    clear Ov1_6
    have OXv1_7 := hid (heap_below E7.out OXv1_6.out)
    clear OXv1_6
    have Ot0_7 := hid (Ot0_6.out.keep Ot0_6.out.lt E7.out)
    clear Ot0_6
    clear b7
    go_upto_region 15 with fail
    go_cut [42] (fun s6 wx => s6 = .bool false ∧ Hid (Below W7.heap.size W7 wx))
    case first =>
      have qr0 := cellB (i := 0) (heap_below B7.out HXV1.out)
      have qr1 := cellB (i := 1) (heap_below B7.out HXV1.out)
      have qb0 := cellB (i := 0) OXv1_7.out
      have qb1 := cellB (i := 1) OXv1_7.out
      have RD0 : RdM W7 (.slice ay1 R1.length cy1) R1 := RM1.out.keep B7.out
      have RD1 : RdM W7.drew (.slice ay1 R1.length cy1) R1 := RD0
      have RDH := hid RD1
      clear RD0 RD1
      go_region_with (first | (go_at_call 19; refine (eqMove_any _ _ R1 R1 n1 n1 _ OQ.out OU.out.rd).mono ?_; rw [dec_two]; rintro e U1 ⟨rfl, b1⟩; have EA1 := hid (EA0.out.trans (b1.mono EA0.out.size)); clear b1) | (go_at_call 16; refine (toMove_any _ R1 n1 _ RDH.out hR1 HRR1.out).mono ?_; rintro e U0 ⟨u0, rfl, o0, b0⟩; have EA0 : Hid (Below W7.heap.size W7 U0) := hid (un_drew9 b0); have OU := hid o0; have OQ := hid ((Ov1_7.out.at_blocks fun g _ h => EA0.out.block g (by omega)).rd); have qc0 := cellB (i := 0) (heap_below EA0.out OXv1_7.out); have qc1 := cellB (i := 1) (heap_below EA0.out OXv1_7.out); clear o0 b0))
      all_goals (go_wp2_with fail; go_meet; exact ⟨rfl, EA1⟩)
    case rest =>
      obtain ⟨rfl, bc⟩ := hcut
      rename World => W8
      have b8 := bc.out
      clear bc
      have E8 := hid b8
      have s8 : W7.heap.size ≤ W8.heap.size := E8.out.size
      have B8 := hid (B7.out.trans (E8.out.mono B7.out.size))
      have Oy0_8 := hid (Oy0_7.out.keep Oy0_7.out.lt E8.out)
      clear Oy0_7
      have Ov1_8 := hid (Ov1_7.out.at_blocks fun g _ h => E8.out.block g (by omega))
      clear Ov1_7
      have OXv1_8 := hid (heap_below E8.out OXv1_7.out)
      clear OXv1_7
      clear b8
      go_wp2
      go_ret
      exact ⟨rfl, PRE.out.trans (B8.out.mono PRE.out.size)⟩
theorem own : ownKnob Try.prog.godebug = none := by kernel_rfl
theorem laidOut : laidOutB Try.prog = true := by kernel_rfl
set_option maxRecDepth 100000 in
theorem lifted (os : Os) (started : os.Started) (H : Type) (enc : TypeId × Value → H) :
    ReturnsInHanded {} Try.checked os 3 .any (Rows.fnExactMoveValidSpec.pre6 enc Try.prog Try.f3 Rows.fnExactMoveValidRow.domain false) (Rows.fnExactMoveValidSpec.post enc Try.prog Try.f3 false true false false) := by
  refine returnsInHanded_of_change (C := Try.checked) own started (by kernel_rfl) Try.func3
    (ChangeSpec.witness6 (enc := enc) (C := Try.checked) false ⟨#[], #[.slice none 0 0, .agg #[.slice none 0 0, .int .i64 0]], []⟩ 8 (by kernel_rfl) (by kernel_rfl) (by kernel_rfl) (by kernel_rfl)) ?_
  intro W base args ds gs before hval0 hW hcnd _
  have hval : ∀ (j : Nat) t v, Try.f3.params[j]? = some t → args[j]? = some v → Value.okWide Try.prog W .any base t v := hval0
  have hW' := hW
  obtain ⟨p, q, hA0, hV, rfl, hfz, hnd⟩ := hW
  have hA : DataW.TrodAll enc Try.prog W 0 (fun _ => true) true Try.f3.params.toList args.toList ds p := hA0
  rw [Try.params3] at hA hval
  obtain ⟨v0, vs0, d0, ds0, p0, q0, hargs, rfl, rfl, h0, r0⟩ := trodAll_cons hA
  obtain ⟨v1, vs1, d1, ds1, p1, q1, rfl, rfl, rfl, h1, r1⟩ := trodAll_cons r0
  obtain ⟨rfl, rfl, rfl⟩ := trodAll_nil r1
  obtain rfl : args = #[v0, v1] := by cases args; simp_all
  obtain ⟨rfl, rfl⟩ := trodVars_none hV
  obtain ⟨a0, len0, cap0, rfl⟩ := okWide_slice Try.underlying22 (hval 0 22 v0 rfl rfl)
  have k0 := h0
  have lt0 : ∀ x ∈ p0, x.block < W.heap.size := by obtain ⟨m, hm⟩ := k0; exact DataW.trod_lt m _ _ _ hm
  obtain ⟨z0, w0⟩ : ∃ zs, IsRow .i64 W a0 len0 cap0 zs := by
    obtain ⟨fuel, hf⟩ := h0
    rcases open_ints Try.underlying22 Try.underlying3 (by kernel_rfl) hf with ⟨hcs, _⟩ | ⟨x, l, c, zs, hcs, _, hl, hm, hz, _, hcell, hwz⟩
    · simp [Value.cells] at hcs
      obtain ⟨rfl, rfl, rfl⟩ := hcs
      exact ⟨[], .inl ⟨rfl, rfl, rfl, rfl⟩⟩
    · simp [Value.cells] at hcs
      obtain ⟨rfl, rfl, rfl⟩ := hcs
      exact ⟨zs, .inr ⟨_, rfl, hl, hm, by simpa using hz, hcell, hwz⟩⟩
  obtain ⟨y1, R1, n1, rfl, w1⟩ := move_open (hval 1 25 v1 rfl rfl) h1
  have k1 := h1
  have lt1 : ∀ x ∈ p1, x.block < W.heap.size := by obtain ⟨m, hm⟩ := k1; exact DataW.trod_lt m _ _ _ hm
  clear hA0 hval0
  refine (walk a0 len0 cap0 z0 y1 R1 n1 W w0 w1).mono fun e W' ⟨he, bel⟩ => ?_
  subst he
  exact ⟨_, rfl, _, _, _, [], _, [], hW', trodAll_mk1 (shut_bool Try.underlying4 _), (trodAll_cons_mk (Below.trod laidOut (by kernel_rfl) (of_decide_eq_true (by kernel_rfl)) k0 bel lt0) (trodAll_cons_mk (Below.trod laidOut (by kernel_rfl) (of_decide_eq_true (by kernel_rfl)) k1 bel lt1) trodAll_mk0)), rfl, bel.frame _, fun h => by cases h⟩
theorem over : Rows.fnExactMoveValidRow.holds Try.pinned (OpenSpec.ofChange Rows.fnExactMoveValidSpec) :=
  OpenClaim.holds_of_wide 3 Try.f3 rfl rfl rfl rfl rfl rfl rfl ⟨rfl, rfl, rfl, rfl, rfl⟩ rfl rfl rfl rfl rfl (by kernel_rfl) Try.func3 (by kernel_rfl)
    (of_decide_eq_true (by kernel_rfl)) (by unfold Func.isWrapper; first | (rw [if_pos (by decide +kernel)]; kernel_rfl) | (rw [if_neg (by decide +kernel)]; exact ⟨rfl, rfl⟩))
    (fun os started H enc _ => lifted os started H enc)
theorem proved : Rows.FnExactMoveValidSaid := over
end Go.Proofs.Ytjabklpnohfjpab.fnExactMoveValid
