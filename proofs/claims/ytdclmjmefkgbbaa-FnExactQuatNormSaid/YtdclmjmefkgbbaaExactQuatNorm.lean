/-
  Proves: for every list the program's QuatNorm answers as the model's.
  Conditions: none beyond the given statement's own.
-/
import Derived.Test.YtdclmjmefkgbbaaRows
import Derived.Test.YtdclmjmefkgbbaaQBun14
import Derived.Test.YtdclmjmefkgbbaaQuB
import Derived.Test.YtdclmjmefkgbbaaQuC
import Derived.ProofKit
import Derived.OpenShut
import Derived.ShutString
import Derived.ChangeOld
namespace Go.Proofs.Ytdclmjmefkgbbaa.fnExactQuatNorm
open Go.ChangeShapes Go.WideShapes Go.ChangeAt Go.RowKit
open Go.ChangeMaps (open_string shut_string)
set_option linter.unusedVariables false
set_option maxRecDepth 100000 in
set_option maxHeartbeats 2000000 in
theorem walk  (a0 : Option Addr) (len0 cap0 : Nat) (z0 : List Int) (w : World) (w0 : IsRow .i64 w a0 len0 cap0 z0) :
    Calls Try.prog 13 #[.slice a0 len0 cap0] w fun e w' => e = .returned (.bool true) ∧ Below w.heap.size w w' := by
  obtain ⟨xs0, hxl0, hrd0⟩ := rd_row w0
  have RA0 := hid hrd0
  have HXL0 := hid hxl0
  clear hrd0 hxl0 w0
  by_cases hl0a : (1048576 : Int) < (len0 : Int)
  · go_enter Try.func13, Try.ntmps13
    go_wp2
    go_ret
    exact ⟨rfl, Below.refl _ _⟩
  have hl0 : xs0.length ≤ 1048576 := by have := HXL0.out; omega
  have HD0 : decide (xs0 = xs0) = true := by simp
  have B0 := hid (Below.refl w.heap.size w)
  obtain ⟨x, hx⟩ : ∃ x : Int, x = qnormV xs0 := ⟨_, rfl⟩
  have P : Hid (qnormV xs0 = x) := hid hx.symm
  clear hx
  go_enter Try.func13, Try.ntmps13
  go_wp2_with fail
  refine (toIntS_any _ xs0 _ (RA0.out.keep2 B0.out) hl0).mono ?_
  rintro e W1 ⟨u0, rfl, o1, b1, f1⟩
  have E1 := hid b1
  have Q1 := hid o1
  have Fu0 : Hid (Firm u0) := hid (.inr f1)
  clear b1 o1 f1
  have B1 := hid (B0.out.trans (E1.out.mono B0.out.size))
  have Ru0_1 := hid Q1.out.rd
  go_wp2_with fail
  refine (quatNormS_any _ xs0  _ Ru0_1.out).mono ?_
  rw [P.out]
  rintro e W2 ⟨rfl, k2, hk2⟩
  have E2 : Hid (Below W1.heap.size W1 W2) := hid (by rw [hk2]; exact below_drewN (Below.refl _ _) k2)
  clear hk2
  have B2 := hid (B1.out.trans (E2.out.mono B1.out.size))
  have Ru0_2 := hid (Ru0_1.out.keep2 E2.out)
  go_wp2_with fail
  refine (toIntS_any _ xs0 _ (RA0.out.keep2 B2.out) hl0).mono ?_
  rintro e W3 ⟨y0, rfl, o3, b3, f3⟩
  have E3 := hid b3
  have Q3 := hid o3
  have Fy0 : Hid (Firm y0) := hid (.inr f3)
  clear b3 o3 f3
  have B3 := hid (B2.out.trans (E3.out.mono B2.out.size))
  have Ry0_3 := hid Q3.out.rd
  go_wp2_with fail
  refine (quatNorm_any _ xs0  _ Ry0_3.out).mono ?_
  rw [P.out]
  rintro e W4 ⟨rfl, b4⟩
  have E4 := hid b4
  clear b4
  have B4 := hid (B3.out.trans (E4.out.mono B3.out.size))
  have Ry0_4 := hid (Ry0_3.out.keep2 E4.out)
  go_wp2_with fail
  refine (toIntS_any _ xs0 _ (RA0.out.keep2 B4.out) hl0).mono ?_
  rintro e W5 ⟨t0, rfl, o5, b5, f5⟩
  have E5 := hid b5
  have Q5 := hid o5
  have Ft0 : Hid (Firm t0) := hid (.inr f5)
  clear b5 o5 f5
  have B5 := hid (B4.out.trans (E5.out.mono B4.out.size))
  have Ry0_5 := hid (Ry0_4.out.keep2 E5.out)
  have Rt0_5 := hid Q5.out.rd
  go_wp2_with fail
  refine (eqIntS_any _ _ xs0 xs0 _ Ry0_5.out Rt0_5.out).mono ?_
  rintro e W6 ⟨rfl, k6, hk6⟩
  have E6 : Hid (Below W5.heap.size W5 W6) := hid (by rw [hk6]; exact below_drewN (Below.refl _ _) k6)
  clear hk6
  have B6 := hid (B5.out.trans (E6.out.mono B5.out.size))
  have Ry0_6 := hid (Ry0_5.out.keep2 E6.out)
  have Rt0_6 := hid (Rt0_5.out.keep2 E6.out)
  go_wp2
  go_ret
  exact ⟨rfl, B6.out⟩
theorem own : ownKnob Try.prog.godebug = none := by kernel_rfl
theorem laidOut : laidOutB Try.prog = true := by kernel_rfl
set_option maxRecDepth 100000 in
theorem lifted (os : Os) (started : os.Started) (H : Type) (enc : TypeId × Value → H) :
    ReturnsInHanded {} Try.checked os 13 .any (Rows.fnExactQuatNormSpec.pre6 enc Try.prog Try.f13 Rows.fnExactQuatNormRow.domain false) (Rows.fnExactQuatNormSpec.post enc Try.prog Try.f13 false true false false) := by
  refine returnsInHanded_of_change (C := Try.checked) own started (by kernel_rfl) Try.func13
    (ChangeSpec.witness6 (enc := enc) (C := Try.checked) false ⟨#[], #[.slice none 0 0], []⟩ 8 (by kernel_rfl) (by kernel_rfl) (by kernel_rfl) (by kernel_rfl)) ?_
  intro W base args ds gs before hval0 hW hcnd _
  have hval : ∀ (j : Nat) t v, Try.f13.params[j]? = some t → args[j]? = some v → Value.okWide Try.prog W .any base t v := hval0
  have hW' := hW
  obtain ⟨p, q, hA0, hV, rfl, hfz, hnd⟩ := hW
  have hA : DataW.TrodAll enc Try.prog W 0 (fun _ => true) true Try.f13.params.toList args.toList ds p := hA0
  rw [Try.params13] at hA hval
  obtain ⟨v0, vs0, d0, ds0, p0, q0, hargs, rfl, rfl, h0, r0⟩ := trodAll_cons hA
  obtain ⟨rfl, rfl, rfl⟩ := trodAll_nil r0
  obtain rfl : args = #[v0] := by cases args; simp_all
  obtain ⟨rfl, rfl⟩ := trodVars_none hV
  obtain ⟨a0, len0, cap0, rfl⟩ := okWide_slice Try.underlying26 (hval 0 26 v0 rfl rfl)
  have k0 := h0
  have lt0 : ∀ x ∈ p0, x.block < W.heap.size := by obtain ⟨m, hm⟩ := k0; exact DataW.trod_lt m _ _ _ hm
  obtain ⟨z0, w0⟩ : ∃ zs, IsRow .i64 W a0 len0 cap0 zs := by
    obtain ⟨fuel, hf⟩ := h0
    rcases open_ints Try.underlying26 Try.underlying3 (by kernel_rfl) hf with ⟨hcs, _⟩ | ⟨x, l, c, zs, hcs, _, hl, hm, hz, _, hcell, hwz⟩
    · simp [Value.cells] at hcs
      obtain ⟨rfl, rfl, rfl⟩ := hcs
      exact ⟨[], .inl ⟨rfl, rfl, rfl, rfl⟩⟩
    · simp [Value.cells] at hcs
      obtain ⟨rfl, rfl, rfl⟩ := hcs
      exact ⟨zs, .inr ⟨_, rfl, hl, hm, by simpa using hz, hcell, hwz⟩⟩
  clear hA0 hval0
  refine (walk a0 len0 cap0 z0 W w0).mono fun e W' ⟨he, bel⟩ => ?_
  subst he
  exact ⟨_, rfl, _, _, _, [], _, [], hW', trodAll_mk1 (shut_bool Try.underlying4 _), (trodAll_cons_mk (Below.trod laidOut (by kernel_rfl) (of_decide_eq_true (by kernel_rfl)) k0 bel lt0) trodAll_mk0), rfl, bel.frame _, fun h => by cases h⟩
theorem over : Rows.fnExactQuatNormRow.holds Try.pinned (OpenSpec.ofChange Rows.fnExactQuatNormSpec) :=
  OpenClaim.holds_of_wide 13 Try.f13 rfl rfl rfl rfl rfl rfl rfl ⟨rfl, rfl, rfl, rfl, rfl⟩ rfl rfl rfl rfl rfl (by kernel_rfl) Try.func13 (by kernel_rfl)
    (of_decide_eq_true (by kernel_rfl)) (by unfold Func.isWrapper; first | (rw [if_pos (by decide +kernel)]; kernel_rfl) | (rw [if_neg (by decide +kernel)]; exact ⟨rfl, rfl⟩))
    (fun os started H enc _ => lifted os started H enc)
theorem proved : Rows.FnExactQuatNormSaid := over
end Go.Proofs.Ytdclmjmefkgbbaa.fnExactQuatNorm
