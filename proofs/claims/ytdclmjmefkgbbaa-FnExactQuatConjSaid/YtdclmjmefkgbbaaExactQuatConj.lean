/-
  Proves: for every list the program's QuatConj answers as the model's, in memory of its own.
  Conditions: none beyond the given statement's own.
-/
import Derived.Test.YtdclmjmefkgbbaaRows
import Derived.Test.YtdclmjmefkgbbaaQBun14
import Derived.Test.YtdclmjmefkgbbaaQuB
import Derived.Test.YtdclmjmefkgbbaaQuC
import Derived.ProofKit
import Derived.OpenShut
import Derived.ShutString
import Derived.ChangeOld
namespace Go.Proofs.Ytdclmjmefkgbbaa.fnExactQuatConj
open Go.ChangeShapes Go.WideShapes Go.ChangeAt Go.RowKit
open Go.ChangeMaps (open_string shut_string)
set_option linter.unusedVariables false
set_option maxRecDepth 100000 in
set_option maxHeartbeats 2000000 in
theorem walk  (a0 : Option Addr) (len0 cap0 : Nat) (z0 : List Int) (w : World) (w0 : IsRow .i64 w a0 len0 cap0 z0) :
    Calls Try.prog 15 #[.slice a0 len0 cap0] w fun e w' => e = .returned (.bool true) ∧ Below w.heap.size w w' := by
  obtain ⟨xs0, hxl0, hrd0⟩ := rd_row w0
  have RA0 := hid hrd0
  have HXL0 := hid hxl0
  clear hrd0 hxl0 w0
  by_cases hl0a : (1048576 : Int) < (len0 : Int)
  · go_enter Try.func15, Try.ntmps15
    go_wp2
    go_ret
    exact ⟨rfl, Below.refl _ _⟩
  have hl0 : xs0.length ≤ 1048576 := by have := HXL0.out; omega
  have HD0 : decide (xs0 = xs0) = true := by simp
  have B0 := hid (Below.refl w.heap.size w)
  obtain ⟨L, hL⟩ : ∃ L, L = qconjL xs0 := ⟨_, rfl⟩
  obtain ⟨c, hc⟩ : ∃ c : Bool, c = quatB xs0 := ⟨_, rfl⟩
  have hlen : L.length ≤ 1000 := by rw [hL]; exact qconj_len xs0
  have S : Hid (∀ (v : Value) (w : World), Rd w v xs0 → Calls Try.prog 45 #[v] w fun e w' => ∃ u, e = .returned (.tuple #[u, .bool c]) ∧ Owns w' w.heap.size u (L) ∧ Below w.heap.size w w') := hid (fun v w  h0 => by rw [hL, hc]; exact quatConjS_any v xs0  w h0)
  have I : Hid (∀ (v : Value) (w : World), Rd w v xs0 → Calls Try.prog 46 #[v] w fun e w' => ∃ u, e = .returned (.tuple #[u, .bool c]) ∧ Owns w' w.heap.size u (L) ∧ Below w.heap.size w w') := hid (fun v w  h0 => by rw [hL, hc]; exact quatConj_any v xs0  w h0)
  have HDL : decide (L = L) = true := by simp
  have T1 : ((1 + (L.length : Int)) != 1 + L.length) = false := by simp
  have T2 : ¬ ((1 + (L.length : Int)) < 0) := by omega
  clear hL hc
  go_enter Try.func15, Try.ntmps15
  obtain ⟨W0, hW0⟩ : ∃ W0, W0 = w := ⟨_, rfl⟩
  have B0 : Hid (Below w.heap.size w W0) := hid (by rw [hW0]; exact Below.refl _ _)
  rw [← hW0]
  have HW0 := hid hW0
  clear hW0
  go_wp2_with fail
  refine (toIntS_any _ xs0 _ (RA0.out.keep2 B0.out) hl0).mono ?_
  rintro e W1 ⟨u0, rfl, o1, b1, f1⟩
  have Fu0 : Hid (Firm u0) := hid (.inr f1)
  clear f1
  have E1 := hid b1
  have s1 : W0.heap.size ≤ W1.heap.size := E1.out.size
  clear b1
  have B1 := hid (B0.out.trans (E1.out.mono B0.out.size))
  have Ou0_1 := hid o1
  have LTu0 := hid o1.lt
  clear o1
  go_wp2_with fail
  refine (S.out _ _ Ou0_1.out.rd).mono ?_
  rintro e W2 ⟨v0, rfl, o2, b2⟩
  have E2 := hid b2
  have s2 : W1.heap.size ≤ W2.heap.size := E2.out.size
  clear b2
  have B2 := hid (B1.out.trans (E2.out.mono B1.out.size))
  have Ou0_2 := hid (Ou0_1.out.keep Ou0_1.out.lt E2.out)
  have Ov0_2 := hid o2
  have LTv0 := hid o2.lt
  clear o2
  go_wp2_with fail
  refine (toIntS_any _ xs0 _ (RA0.out.keep2 B2.out) hl0).mono ?_
  rintro e W3 ⟨y0, rfl, o3, b3, f3⟩
  have Fy0 : Hid (Firm y0) := hid (.inr f3)
  clear f3
  have E3 := hid b3
  have s3 : W2.heap.size ≤ W3.heap.size := E3.out.size
  clear b3
  have B3 := hid (B2.out.trans (E3.out.mono B2.out.size))
  have Ov0_3 := hid (Ov0_2.out.keep Ov0_2.out.lt E3.out)
  have Oy0_3 := hid o3
  have LTy0 := hid o3.lt
  clear o3
  go_wp2_with fail
  refine (I.out _ _ Oy0_3.out.rd).mono ?_
  rintro e W4 ⟨v1, rfl, o4, b4⟩
  have E4 := hid b4
  have s4 : W3.heap.size ≤ W4.heap.size := E4.out.size
  clear b4
  have B4 := hid (B3.out.trans (E4.out.mono B3.out.size))
  have Ov0_4 := hid (Ov0_3.out.keep Ov0_3.out.lt E4.out)
  have Oy0_4 := hid (Oy0_3.out.keep Oy0_3.out.lt E4.out)
  have Ov1_4 := hid o4
  have LTv1 := hid o4.lt
  clear o4
  go_wp2_with fail
  refine (eqIntS_any _ _ L L _ Ov1_4.out.rd Ov0_4.out.rd).mono ?_
  rintro e W5 ⟨rfl, k5, hk5⟩
  have b5 : Below W4.heap.size W4 W5 := by rw [hk5]; exact below_drewN (Below.refl _ _) k5
  clear hk5
  have E5 := hid b5
  have s5 : W4.heap.size ≤ W5.heap.size := E5.out.size
  clear b5
  have B5 := hid (B4.out.trans (E5.out.mono B4.out.size))
  have Ov0_5 := hid (Ov0_4.out.keep Ov0_4.out.lt E5.out)
  have Oy0_5 := hid (Oy0_4.out.keep Oy0_4.out.lt E5.out)
  have Ov1_5 := hid (Ov1_4.out.keep Ov1_4.out.lt E5.out)
  go_wp2_with fail
  refine (toIntS_any _ xs0 _ (RA0.out.keep2 B5.out) hl0).mono ?_
  rintro e W6 ⟨t0, rfl, o6, b6, f6⟩
  have Ft0 : Hid (Firm t0) := hid (.inr f6)
  clear f6
  have E6 := hid b6
  have s6 : W5.heap.size ≤ W6.heap.size := E6.out.size
  clear b6
  have B6 := hid (B5.out.trans (E6.out.mono B5.out.size))
  have Ov0_6 := hid (Ov0_5.out.keep Ov0_5.out.lt E6.out)
  have Oy0_6 := hid (Oy0_5.out.keep Oy0_5.out.lt E6.out)
  have Ov1_6 := hid (Ov1_5.out.keep Ov1_5.out.lt E6.out)
  have Ot0_6 := hid o6
  have LTt0 := hid o6.lt
  clear o6
  go_wp2_with fail
  refine (eqIntS_any _ _ xs0 xs0 _ Oy0_6.out.rd Ot0_6.out.rd).mono ?_
  rintro e W7 ⟨rfl, k7, hk7⟩
  have b7 : Below W6.heap.size W6 W7 := by rw [hk7]; exact below_drewN (Below.refl _ _) k7
  clear hk7
  have E7 := hid b7
  have s7 : W6.heap.size ≤ W7.heap.size := E7.out.size
  clear b7
  have B7 := hid (B6.out.trans (E7.out.mono B6.out.size))
  have Ov0_7 := hid (Ov0_6.out.keep Ov0_6.out.lt E7.out)
  have Oy0_7 := hid (Oy0_6.out.keep Oy0_6.out.lt E7.out)
  have Ov1_7 := hid (Ov1_6.out.keep Ov1_6.out.lt E7.out)
  have Ot0_7 := hid (Ot0_6.out.keep Ot0_6.out.lt E7.out)
  go_wp2_with fail
  refine (markIntS2_any _ xs0 W2.heap.size 1 (by omega) (by omega) (by omega) _ Oy0_7.out).mono ?_
  rintro e W8 ⟨rfl, o8, b8, g8⟩
  have s8 : W7.heap.size ≤ W8.heap.size := b8.size
  have B8 := hid (B7.out.trans (b8.mono B2.out.size))
  have Ov0_8 := hid (Ov0_7.out.kept g8 (younger_apart (fun g h => Nat.lt_of_lt_of_le (LTv0.out g h) (by omega)) Oy0_7.out))
  have Ov1_8 := hid (Ov1_7.out.kept g8 (elder_apart (fun g h => Nat.lt_of_lt_of_le (LTy0.out g h) (by omega)) Ov1_7.out))
  have Oy0_8 := hid o8
  clear o8 b8 g8
  have TK : ¬ (1 + (xs0.length : Int) < 0) := by omega
  go_wp2_with fail
  refine (eqIntS_any _ _ L L _ Ov1_8.out.rd Ov0_8.out.rd).mono ?_
  rintro e W9 ⟨rfl, k9, hk9⟩
  have b9 : Below W8.heap.size W8 W9 := by rw [hk9]; exact below_drewN (Below.refl _ _) k9
  clear hk9
  have E9 := hid b9
  have s9 : W8.heap.size ≤ W9.heap.size := E9.out.size
  clear b9
  have B9 := hid (B8.out.trans (E9.out.mono B8.out.size))
  have Ov0_9 := hid (Ov0_8.out.keep Ov0_8.out.lt E9.out)
  have Ov1_9 := hid (Ov1_8.out.keep Ov1_8.out.lt E9.out)
  go_wp2_with fail
  refine (markIntS2_any _ L W3.heap.size 1 (by omega) (by omega) (by omega) _ Ov1_9.out).mono ?_
  rintro e W10 ⟨rfl, o10, b10, g10⟩
  have s10 : W9.heap.size ≤ W10.heap.size := b10.size
  have B10 := hid (B9.out.trans (b10.mono B3.out.size))
  have Ov0_10 := hid (Ov0_9.out.kept g10 (younger_apart (fun g h => Nat.lt_of_lt_of_le (LTv0.out g h) (by omega)) Ov1_9.out))
  have Ov1_10 := hid o10
  clear o10 b10 g10
  go_wp2_with fail
  refine (heldIntS_any _ L.length 1 (by omega) (by omega) (by omega) _ Ov1_10.out.rd).mono ?_
  rintro e w' ⟨rfl, rfl⟩
  go_wp2_with fail
  refine (toIntS_any _ xs0 _ (RA0.out.keep2 B10.out) hl0).mono ?_
  rintro e W11 ⟨z0, rfl, o11, b11, f11⟩
  have Fz0 : Hid (Firm z0) := hid (.inr f11)
  clear f11
  have E11 := hid b11
  have s11 : W10.heap.size ≤ W11.heap.size := E11.out.size
  clear b11
  have B11 := hid (B10.out.trans (E11.out.mono B10.out.size))
  have Ov0_11 := hid (Ov0_10.out.keep Ov0_10.out.lt E11.out)
  have Ov1_11 := hid (Ov1_10.out.keep Ov1_10.out.lt E11.out)
  have Oz0_11 := hid o11
  have LTz0 := hid o11.lt
  clear o11
  go_wp2_with fail
  refine (I.out _ _ Oz0_11.out.rd).mono ?_
  rintro e W12 ⟨v2, rfl, o12, b12⟩
  have E12 := hid b12
  have s12 : W11.heap.size ≤ W12.heap.size := E12.out.size
  clear b12
  have B12 := hid (B11.out.trans (E12.out.mono B11.out.size))
  have Ov0_12 := hid (Ov0_11.out.keep Ov0_11.out.lt E12.out)
  have Ov1_12 := hid (Ov1_11.out.keep Ov1_11.out.lt E12.out)
  have Oz0_12 := hid (Oz0_11.out.keep Oz0_11.out.lt E12.out)
  have Ov2_12 := hid o12
  have LTv2 := hid o12.lt
  clear o12
  go_wp2_with fail
  refine (eqIntS_any _ _ L L _ Ov2_12.out.rd Ov0_12.out.rd).mono ?_
  rintro e W13 ⟨rfl, k13, hk13⟩
  have b13 : Below W12.heap.size W12 W13 := by rw [hk13]; exact below_drewN (Below.refl _ _) k13
  clear hk13
  have E13 := hid b13
  have s13 : W12.heap.size ≤ W13.heap.size := E13.out.size
  clear b13
  have B13 := hid (B12.out.trans (E13.out.mono B12.out.size))
  have Ov0_13 := hid (Ov0_12.out.keep Ov0_12.out.lt E13.out)
  have Ov1_13 := hid (Ov1_12.out.keep Ov1_12.out.lt E13.out)
  have Ov2_13 := hid (Ov2_12.out.keep Ov2_12.out.lt E13.out)
  go_wp2_with fail
  refine (heldIntS_any _ L.length 1 (by omega) (by omega) (by omega) _ Ov1_13.out.rd).mono ?_
  rintro e w' ⟨rfl, rfl⟩
  go_wp2
  go_ret
  exact ⟨rfl, by have h := B13.out; rw [← HW0.out] at h; exact h⟩
theorem own : ownKnob Try.prog.godebug = none := by kernel_rfl
theorem laidOut : laidOutB Try.prog = true := by kernel_rfl
set_option maxRecDepth 100000 in
theorem lifted (os : Os) (started : os.Started) (H : Type) (enc : TypeId × Value → H) :
    ReturnsInHanded {} Try.checked os 15 .any (Rows.fnExactQuatConjSpec.pre6 enc Try.prog Try.f15 Rows.fnExactQuatConjRow.domain false) (Rows.fnExactQuatConjSpec.post enc Try.prog Try.f15 false true false false) := by
  refine returnsInHanded_of_change (C := Try.checked) own started (by kernel_rfl) Try.func15
    (ChangeSpec.witness6 (enc := enc) (C := Try.checked) false ⟨#[], #[.slice none 0 0], []⟩ 8 (by kernel_rfl) (by kernel_rfl) (by kernel_rfl) (by kernel_rfl)) ?_
  intro W base args ds gs before hval0 hW hcnd _
  have hval : ∀ (j : Nat) t v, Try.f15.params[j]? = some t → args[j]? = some v → Value.okWide Try.prog W .any base t v := hval0
  have hW' := hW
  obtain ⟨p, q, hA0, hV, rfl, hfz, hnd⟩ := hW
  have hA : DataW.TrodAll enc Try.prog W 0 (fun _ => true) true Try.f15.params.toList args.toList ds p := hA0
  rw [Try.params15] at hA hval
  obtain ⟨v0, vs0, d0, ds0, p0, q0, hargs, rfl, rfl, h0, r0⟩ := trodAll_cons hA
  obtain ⟨rfl, rfl, rfl⟩ := trodAll_nil r0
  obtain rfl : args = #[v0] := by cases args; simp_all
  obtain ⟨rfl, rfl⟩ := trodVars_none hV
  obtain ⟨a0, len0, cap0, rfl⟩ := okWide_slice Try.underlying26 (hval 0 26 v0 rfl rfl)
  have k0 := h0
  have lt0 : ∀ x ∈ p0, x.block < W.heap.size := by obtain ⟨m, hm⟩ := k0; exact DataW.trod_lt m _ _ _ hm
  obtain ⟨z0, w0⟩ : ∃ zs, IsRow .i64 W a0 len0 cap0 zs := by
    obtain ⟨fuel, hf⟩ := h0
    rcases open_ints Try.underlying26 Try.underlying3 (by kernel_rfl) hf with ⟨hcs, _⟩ | ⟨x, l, c, zs, hcs, _, hl, hm, hz, _, hcell, hwz⟩
    · simp [Value.cells] at hcs
      obtain ⟨rfl, rfl, rfl⟩ := hcs
      exact ⟨[], .inl ⟨rfl, rfl, rfl, rfl⟩⟩
    · simp [Value.cells] at hcs
      obtain ⟨rfl, rfl, rfl⟩ := hcs
      exact ⟨zs, .inr ⟨_, rfl, hl, hm, by simpa using hz, hcell, hwz⟩⟩
  clear hA0 hval0
  refine (walk a0 len0 cap0 z0 W w0).mono fun e W' ⟨he, bel⟩ => ?_
  subst he
  exact ⟨_, rfl, _, _, _, [], _, [], hW', trodAll_mk1 (shut_bool Try.underlying4 _), (trodAll_cons_mk (Below.trod laidOut (by kernel_rfl) (of_decide_eq_true (by kernel_rfl)) k0 bel lt0) trodAll_mk0), rfl, bel.frame _, fun h => by cases h⟩
theorem over : Rows.fnExactQuatConjRow.holds Try.pinned (OpenSpec.ofChange Rows.fnExactQuatConjSpec) :=
  OpenClaim.holds_of_wide 15 Try.f15 rfl rfl rfl rfl rfl rfl rfl ⟨rfl, rfl, rfl, rfl, rfl⟩ rfl rfl rfl rfl rfl (by kernel_rfl) Try.func15 (by kernel_rfl)
    (of_decide_eq_true (by kernel_rfl)) (by unfold Func.isWrapper; first | (rw [if_pos (by decide +kernel)]; kernel_rfl) | (rw [if_neg (by decide +kernel)]; exact ⟨rfl, rfl⟩))
    (fun os started H enc _ => lifted os started H enc)
theorem proved : Rows.FnExactQuatConjSaid := over
end Go.Proofs.Ytdclmjmefkgbbaa.fnExactQuatConj
