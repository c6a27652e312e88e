/-
  Proves: for every three lists the program's ConicBack answers as the model's.
  Conditions: none beyond the given statement's own.
-/
import Derived.Test.YtenibnblibnocaaRows
import Derived.Test.YtenibnblibnocaaBun16
import Derived.Test.YtenibnblibnocaaBun62
import Derived.Test.YtenibnblibnocaaBun0
import Derived.Test.YtenibnblibnocaaCm4
import Derived.Test.YtenibnblibnocaaCp5
import Derived.ProofKit
import Derived.OpenShut
import Derived.ShutString
import Derived.ChangeOld
namespace Go.Proofs.Ytenibnblibnocaa.fnExactConicBack
open Go.ChangeShapes Go.WideShapes Go.ChangeAt Go.RowKit
open Go.ChangeMaps (open_string shut_string)
set_option linter.unusedVariables false
set_option maxRecDepth 100000 in
set_option maxHeartbeats 2000000 in
theorem walk  (a0 : Option Addr) (len0 cap0 : Nat) (z0 : List Int) (a1 : Option Addr) (len1 cap1 : Nat) (z1 : List Int) (a2 : Option Addr) (len2 cap2 : Nat) (z2 : List Int) (w : World) (w0 : IsRow .i64 w a0 len0 cap0 z0) (w1 : IsRow .i64 w a1 len1 cap1 z1) (w2 : IsRow .i64 w a2 len2 cap2 z2) :
    Calls Try.prog 6 #[.slice a0 len0 cap0, .slice a1 len1 cap1, .slice a2 len2 cap2] w fun e w' => e = .returned (.bool true) ∧ Below w.heap.size w w' := by
  obtain ⟨xs0, hxl0, hrd0⟩ := rd_row w0
  have RA0 := hid hrd0
  have HXL0 := hid hxl0
  clear hrd0 hxl0 w0
  obtain ⟨xs1, hxl1, hrd1⟩ := rd_row w1
  have RA1 := hid hrd1
  have HXL1 := hid hxl1
  clear hrd1 hxl1 w1
  obtain ⟨xs2, hxl2, hrd2⟩ := rd_row w2
  have RA2 := hid hrd2
  have HXL2 := hid hxl2
  clear hrd2 hxl2 w2
  by_cases hl0a : (1048576 : Int) < (len0 : Int)
  · go_enter Try.func6, Try.ntmps6
    go_wp2
    go_ret
    exact ⟨rfl, Below.refl _ _⟩
  by_cases hl1a : (1048576 : Int) < (len1 : Int)
  · go_enter Try.func6, Try.ntmps6
    go_wp2
    go_ret
    exact ⟨rfl, Below.refl _ _⟩
  by_cases hl2a : (1048576 : Int) < (len2 : Int)
  · go_enter Try.func6, Try.ntmps6
    go_wp2
    go_ret
    exact ⟨rfl, Below.refl _ _⟩
  have hl0 : xs0.length ≤ 1048576 := by have := HXL0.out; omega
  have HD0 : decide (xs0 = xs0) = true := by simp
  have hl1 : xs1.length ≤ 1048576 := by have := HXL1.out; omega
  have HD1 : decide (xs1 = xs1) = true := by simp
  have hl2 : xs2.length ≤ 1048576 := by have := HXL2.out; omega
  have HD2 : decide (xs2 = xs2) = true := by simp
  have B0 := hid (Below.refl w.heap.size w)
  obtain ⟨x, y, c, hx⟩ : ∃ (x y : Int) (c : Bool), backV xs0 xs1 xs2 = .tuple #[.int .i64 x, .int .i64 y, .bool c] := backV_form xs0 xs1 xs2
  have P := hid hx
  clear hx
  go_enter Try.func6, Try.ntmps6
  go_wp2_with fail
  refine (toIntS_any _ xs0 _ (RA0.out.keep2 B0.out) hl0).mono ?_
  rintro e W1 ⟨u0, rfl, o1, b1, f1⟩
  have E1 := hid b1
  have Q1 := hid o1
  have Fu0 : Hid (Firm u0) := hid (.inr f1)
  clear b1 o1 f1
  have B1 := hid (B0.out.trans (E1.out.mono B0.out.size))
  have Ru0_1 := hid Q1.out.rd
  go_wp2_with fail
  refine (toIntS_any _ xs1 _ (RA1.out.keep2 B1.out) hl1).mono ?_
  rintro e W2 ⟨u1, rfl, o2, b2, f2⟩
  have E2 := hid b2
  have Q2 := hid o2
  have Fu1 : Hid (Firm u1) := hid (.inr f2)
  clear b2 o2 f2
  have B2 := hid (B1.out.trans (E2.out.mono B1.out.size))
  have Ru0_2 := hid (Ru0_1.out.keep2 E2.out)
  have Ru1_2 := hid Q2.out.rd
  go_wp2_with fail
  refine (toIntS_any _ xs2 _ (RA2.out.keep2 B2.out) hl2).mono ?_
  rintro e W3 ⟨u2, rfl, o3, b3, f3⟩
  have E3 := hid b3
  have Q3 := hid o3
  have Fu2 : Hid (Firm u2) := hid (.inr f3)
  clear b3 o3 f3
  have B3 := hid (B2.out.trans (E3.out.mono B2.out.size))
  have Ru0_3 := hid (Ru0_2.out.keep2 E3.out)
  have Ru1_3 := hid (Ru1_2.out.keep2 E3.out)
  have Ru2_3 := hid Q3.out.rd
  go_wp2_with fail
  refine (conicBackS_any _ _ _ xs0 xs1 xs2  _ Ru0_3.out Ru1_3.out Ru2_3.out).mono ?_
  rw [P.out]
  rintro e W4 ⟨rfl, b4⟩
  have E4 := hid b4
  clear b4
  have B4 := hid (B3.out.trans (E4.out.mono B3.out.size))
  have Ru0_4 := hid (Ru0_3.out.keep2 E4.out)
  have Ru1_4 := hid (Ru1_3.out.keep2 E4.out)
  have Ru2_4 := hid (Ru2_3.out.keep2 E4.out)
  go_wp2_with fail
  refine (toIntS_any _ xs0 _ (RA0.out.keep2 B4.out) hl0).mono ?_
  rintro e W5 ⟨y0, rfl, o5, b5, f5⟩
  have E5 := hid b5
  have Q5 := hid o5
  have Fy0 : Hid (Firm y0) := hid (.inr f5)
  clear b5 o5 f5
  have B5 := hid (B4.out.trans (E5.out.mono B4.out.size))
  have Ry0_5 := hid Q5.out.rd
  go_wp2_with fail
  refine (toIntS_any _ xs1 _ (RA1.out.keep2 B5.out) hl1).mono ?_
  rintro e W6 ⟨y1, rfl, o6, b6, f6⟩
  have E6 := hid b6
  have Q6 := hid o6
  have Fy1 : Hid (Firm y1) := hid (.inr f6)
  clear b6 o6 f6
  have B6 := hid (B5.out.trans (E6.out.mono B5.out.size))
  have Ry0_6 := hid (Ry0_5.out.keep2 E6.out)
  have Ry1_6 := hid Q6.out.rd
  go_wp2_with fail
  refine (toIntS_any _ xs2 _ (RA2.out.keep2 B6.out) hl2).mono ?_
  rintro e W7 ⟨y2, rfl, o7, b7, f7⟩
  have E7 := hid b7
  have Q7 := hid o7
  have Fy2 : Hid (Firm y2) := hid (.inr f7)
  clear b7 o7 f7
  have B7 := hid (B6.out.trans (E7.out.mono B6.out.size))
  have Ry0_7 := hid (Ry0_6.out.keep2 E7.out)
  have Ry1_7 := hid (Ry1_6.out.keep2 E7.out)
  have Ry2_7 := hid Q7.out.rd
  go_wp2_with fail
  refine (conicBack_any _ _ _ xs0 xs1 xs2  _ Ry0_7.out Ry1_7.out Ry2_7.out).mono ?_
  rw [P.out]
  rintro e W8 ⟨rfl, b8⟩
  have E8 := hid b8
  clear b8
  have B8 := hid (B7.out.trans (E8.out.mono B7.out.size))
  have Ry0_8 := hid (Ry0_7.out.keep2 E8.out)
  have Ry1_8 := hid (Ry1_7.out.keep2 E8.out)
  have Ry2_8 := hid (Ry2_7.out.keep2 E8.out)
  go_wp2_with fail
  refine (toIntS_any _ xs0 _ (RA0.out.keep2 B8.out) hl0).mono ?_
  rintro e W9 ⟨t0, rfl, o9, b9, f9⟩
  have E9 := hid b9
  have Q9 := hid o9
  have Ft0 : Hid (Firm t0) := hid (.inr f9)
  clear b9 o9 f9
  have B9 := hid (B8.out.trans (E9.out.mono B8.out.size))
  have Ry0_9 := hid (Ry0_8.out.keep2 E9.out)
  have Ry1_9 := hid (Ry1_8.out.keep2 E9.out)
  have Ry2_9 := hid (Ry2_8.out.keep2 E9.out)
  have Rt0_9 := hid Q9.out.rd
  go_wp2_with fail
  refine (eqIntS_any _ _ xs0 xs0 _ Ry0_9.out Rt0_9.out).mono ?_
  rintro e W10 ⟨rfl, k10, hk10⟩
  have E10 : Hid (Below W9.heap.size W9 W10) := hid (by rw [hk10]; exact below_drewN (Below.refl _ _) k10)
  clear hk10
  have B10 := hid (B9.out.trans (E10.out.mono B9.out.size))
  have Ry0_10 := hid (Ry0_9.out.keep2 E10.out)
  have Ry1_10 := hid (Ry1_9.out.keep2 E10.out)
  have Ry2_10 := hid (Ry2_9.out.keep2 E10.out)
  have Rt0_10 := hid (Rt0_9.out.keep2 E10.out)
  go_wp2_with fail
  refine (toIntS_any _ xs1 _ (RA1.out.keep2 B10.out) hl1).mono ?_
  rintro e W11 ⟨t1, rfl, o11, b11, f11⟩
  have E11 := hid b11
  have Q11 := hid o11
  have Ft1 : Hid (Firm t1) := hid (.inr f11)
  clear b11 o11 f11
  have B11 := hid (B10.out.trans (E11.out.mono B10.out.size))
  have Ry1_11 := hid (Ry1_10.out.keep2 E11.out)
  have Ry2_11 := hid (Ry2_10.out.keep2 E11.out)
  have Rt1_11 := hid Q11.out.rd
  go_wp2_with fail
  refine (eqIntS_any _ _ xs1 xs1 _ Ry1_11.out Rt1_11.out).mono ?_
  rintro e W12 ⟨rfl, k12, hk12⟩
  have E12 : Hid (Below W11.heap.size W11 W12) := hid (by rw [hk12]; exact below_drewN (Below.refl _ _) k12)
  clear hk12
  have B12 := hid (B11.out.trans (E12.out.mono B11.out.size))
  have Ry1_12 := hid (Ry1_11.out.keep2 E12.out)
  have Ry2_12 := hid (Ry2_11.out.keep2 E12.out)
  have Rt1_12 := hid (Rt1_11.out.keep2 E12.out)
  go_wp2_with fail
  refine (toIntS_any _ xs2 _ (RA2.out.keep2 B12.out) hl2).mono ?_
  rintro e W13 ⟨t2, rfl, o13, b13, f13⟩
  have E13 := hid b13
  have Q13 := hid o13
  have Ft2 : Hid (Firm t2) := hid (.inr f13)
  clear b13 o13 f13
  have B13 := hid (B12.out.trans (E13.out.mono B12.out.size))
  have Ry2_13 := hid (Ry2_12.out.keep2 E13.out)
  have Rt2_13 := hid Q13.out.rd
  go_wp2_with fail
  refine (eqIntS_any _ _ xs2 xs2 _ Ry2_13.out Rt2_13.out).mono ?_
  rintro e W14 ⟨rfl, k14, hk14⟩
  have E14 : Hid (Below W13.heap.size W13 W14) := hid (by rw [hk14]; exact below_drewN (Below.refl _ _) k14)
  clear hk14
  have B14 := hid (B13.out.trans (E14.out.mono B13.out.size))
  have Ry2_14 := hid (Ry2_13.out.keep2 E14.out)
  have Rt2_14 := hid (Rt2_13.out.keep2 E14.out)
  go_wp2
  go_ret
  exact ⟨rfl, B14.out⟩
theorem own : ownKnob Try.prog.godebug = none := by kernel_rfl
theorem laidOut : laidOutB Try.prog = true := by kernel_rfl
set_option maxRecDepth 100000 in
theorem lifted (os : Os) (started : os.Started) (H : Type) (enc : TypeId × Value → H) :
    ReturnsInHanded {} Try.checked os 6 .any (Rows.fnExactConicBackSpec.pre6 enc Try.prog Try.f6 Rows.fnExactConicBackRow.domain false) (Rows.fnExactConicBackSpec.post enc Try.prog Try.f6 false true false false) := by
  refine returnsInHanded_of_change (C := Try.checked) own started (by kernel_rfl) Try.func6
    (ChangeSpec.witness6 (enc := enc) (C := Try.checked) false ⟨#[], #[.slice none 0 0, .slice none 0 0, .slice none 0 0], []⟩ 8 (by kernel_rfl) (by kernel_rfl) (by kernel_rfl) (by kernel_rfl)) ?_
  intro W base args ds gs before hval0 hW hcnd _
  have hval : ∀ (j : Nat) t v, Try.f6.params[j]? = some t → args[j]? = some v → Value.okWide Try.prog W .any base t v := hval0
  have hW' := hW
  obtain ⟨p, q, hA0, hV, rfl, hfz, hnd⟩ := hW
  have hA : DataW.TrodAll enc Try.prog W 0 (fun _ => true) true Try.f6.params.toList args.toList ds p := hA0
  rw [Try.params6] at hA hval
  obtain ⟨v0, vs0, d0, ds0, p0, q0, hargs, rfl, rfl, h0, r0⟩ := trodAll_cons hA
  obtain ⟨v1, vs1, d1, ds1, p1, q1, rfl, rfl, rfl, h1, r1⟩ := trodAll_cons r0
  obtain ⟨v2, vs2, d2, ds2, p2, q2, rfl, rfl, rfl, h2, r2⟩ := trodAll_cons r1
  obtain ⟨rfl, rfl, rfl⟩ := trodAll_nil r2
  obtain rfl : args = #[v0, v1, v2] := by cases args; simp_all
  obtain ⟨rfl, rfl⟩ := trodVars_none hV
  obtain ⟨a0, len0, cap0, rfl⟩ := okWide_slice Try.underlying22 (hval 0 22 v0 rfl rfl)
  have k0 := h0
  have lt0 : ∀ x ∈ p0, x.block < W.heap.size := by obtain ⟨m, hm⟩ := k0; exact DataW.trod_lt m _ _ _ hm
  obtain ⟨z0, w0⟩ : ∃ zs, IsRow .i64 W a0 len0 cap0 zs := by
    obtain ⟨fuel, hf⟩ := h0
    rcases open_ints Try.underlying22 Try.underlying3 (by kernel_rfl) hf with ⟨hcs, _⟩ | ⟨x, l, c, zs, hcs, _, hl, hm, hz, _, hcell, hwz⟩
    · simp [Value.cells] at hcs
      obtain ⟨rfl, rfl, rfl⟩ := hcs
      exact ⟨[], .inl ⟨rfl, rfl, rfl, rfl⟩⟩
    · simp [Value.cells] at hcs
      obtain ⟨rfl, rfl, rfl⟩ := hcs
      exact ⟨zs, .inr ⟨_, rfl, hl, hm, by simpa using hz, hcell, hwz⟩⟩
  obtain ⟨a1, len1, cap1, rfl⟩ := okWide_slice Try.underlying22 (hval 1 22 v1 rfl rfl)
  have k1 := h1
  have lt1 : ∀ x ∈ p1, x.block < W.heap.size := by obtain ⟨m, hm⟩ := k1; exact DataW.trod_lt m _ _ _ hm
  obtain ⟨z1, w1⟩ : ∃ zs, IsRow .i64 W a1 len1 cap1 zs := by
    obtain ⟨fuel, hf⟩ := h1
    rcases open_ints Try.underlying22 Try.underlying3 (by kernel_rfl) hf with ⟨hcs, _⟩ | ⟨x, l, c, zs, hcs, _, hl, hm, hz, _, hcell, hwz⟩
    · simp [Value.cells] at hcs
      obtain ⟨rfl, rfl, rfl⟩ := hcs
      exact ⟨[], .inl ⟨rfl, rfl, rfl, rfl⟩⟩
    · simp [Value.cells] at hcs
      obtain ⟨rfl, rfl, rfl⟩ := hcs
      exact ⟨zs, .inr ⟨_, rfl, hl, hm, by simpa using hz, hcell, hwz⟩⟩
  obtain ⟨a2, len2, cap2, rfl⟩ := okWide_slice Try.underlying22 (hval 2 22 v2 rfl rfl)
  have k2 := h2
  have lt2 : ∀ x ∈ p2, x.block < W.heap.size := by obtain ⟨m, hm⟩ := k2; exact DataW.trod_lt m _ _ _ hm
  obtain ⟨z2, w2⟩ : ∃ zs, IsRow .i64 W a2 len2 cap2 zs := by
    obtain ⟨fuel, hf⟩ := h2
    rcases open_ints Try.underlying22 Try.underlying3 (by kernel_rfl) hf with ⟨hcs, _⟩ | ⟨x, l, c, zs, hcs, _, hl, hm, hz, _, hcell, hwz⟩
    · simp [Value.cells] at hcs
      obtain ⟨rfl, rfl, rfl⟩ := hcs
      exact ⟨[], .inl ⟨rfl, rfl, rfl, rfl⟩⟩
    · simp [Value.cells] at hcs
      obtain ⟨rfl, rfl, rfl⟩ := hcs
      exact ⟨zs, .inr ⟨_, rfl, hl, hm, by simpa using hz, hcell, hwz⟩⟩
  clear hA0 hval0
  refine (walk a0 len0 cap0 z0 a1 len1 cap1 z1 a2 len2 cap2 z2 W w0 w1 w2).mono fun e W' ⟨he, bel⟩ => ?_
  subst he
  exact ⟨_, rfl, _, _, _, [], _, [], hW', trodAll_mk1 (shut_bool Try.underlying4 _), (trodAll_cons_mk (Below.trod laidOut (by kernel_rfl) (of_decide_eq_true (by kernel_rfl)) k0 bel lt0) (trodAll_cons_mk (Below.trod laidOut (by kernel_rfl) (of_decide_eq_true (by kernel_rfl)) k1 bel lt1) (trodAll_cons_mk (Below.trod laidOut (by kernel_rfl) (of_decide_eq_true (by kernel_rfl)) k2 bel lt2) trodAll_mk0))), rfl, bel.frame _, fun h => by cases h⟩
theorem over : Rows.fnExactConicBackRow.holds Try.pinned (OpenSpec.ofChange Rows.fnExactConicBackSpec) :=
  OpenClaim.holds_of_wide 6 Try.f6 rfl rfl rfl rfl rfl rfl rfl ⟨rfl, rfl, rfl, rfl, rfl⟩ rfl rfl rfl rfl rfl (by kernel_rfl) Try.func6 (by kernel_rfl)
    (of_decide_eq_true (by kernel_rfl)) (by unfold Func.isWrapper; first | (rw [if_pos (by decide +kernel)]; kernel_rfl) | (rw [if_neg (by decide +kernel)]; exact ⟨rfl, rfl⟩))
    (fun os started H enc _ => lifted os started H enc)
theorem proved : Rows.FnExactConicBackSaid := over
end Go.Proofs.Ytenibnblibnocaa.fnExactConicBack
