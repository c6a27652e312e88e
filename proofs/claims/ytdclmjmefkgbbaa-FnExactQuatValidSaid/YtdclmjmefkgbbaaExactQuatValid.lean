/-
  Proves: for every list the program's QuatValid answers as the model's.
  Conditions: none beyond the given statement's own.
-/
import Derived.Test.YtdclmjmefkgbbaaRows
import Derived.Test.YtdclmjmefkgbbaaQBun14
import Derived.Test.YtdclmjmefkgbbaaQuB
import Derived.Test.YtdclmjmefkgbbaaQuC
import Derived.ProofKit
import Derived.OpenShut
import Derived.ShutString
import Derived.ChangeOld
namespace Go.Proofs.Ytdclmjmefkgbbaa.fnExactQuatValid
open Go.ChangeShapes Go.WideShapes Go.ChangeAt Go.RowKit
open Go.ChangeMaps (open_string shut_string)
set_option linter.unusedVariables false
set_option maxRecDepth 100000 in
set_option maxHeartbeats 2000000 in
theorem walk  (a0 : Option Addr) (len0 cap0 : Nat) (z0 : List Int) (w : World) (w0 : IsRow .i64 w a0 len0 cap0 z0) :
    Calls Try.prog 12 #[.slice a0 len0 cap0] w fun e w' => e = .returned (.bool true) ∧ Below w.heap.size w w' := by
  obtain ⟨xs0, hxl0, hrd0⟩ := rd_row w0
  have RA0 := hid hrd0
  have HXL0 := hid hxl0
  clear hrd0 hxl0 w0
  by_cases hl0a : (1048576 : Int) < (len0 : Int)
  · go_enter Try.func12, Try.ntmps12
    go_wp2
    go_ret
    exact ⟨rfl, Below.refl _ _⟩
  have hl0 : xs0.length ≤ 1048576 := by have := HXL0.out; omega
  have HD0 : decide (xs0 = xs0) = true := by simp
  have B0 := hid (Below.refl w.heap.size w)
  obtain ⟨x, hx⟩ : ∃ x : Bool, x = quatB xs0 := ⟨_, rfl⟩
  have P : Hid (quatB xs0 = x) := hid hx.symm
  clear hx
  go_enter Try.func12, Try.ntmps12
  go_wp2_with fail
  refine (toIntS_any _ xs0 _ (RA0.out.keep2 B0.out) hl0).mono ?_
  rintro e W1 ⟨u0, rfl, o1, b1, f1⟩
  have E1 := hid b1
  have Q1 := hid o1
  have Fu0 : Hid (Firm u0) := hid (.inr f1)
  clear b1 o1 f1
  have B1 := hid (B0.out.trans (E1.out.mono B0.out.size))
  have Ru0_1 := hid Q1.out.rd
  go_wp2_with fail
  refine (quatValidS_any _ xs0  _ Ru0_1.out).mono ?_
  rw [P.out]
  rintro e w' ⟨rfl, rfl⟩
  go_wp2_with fail
  refine (toIntS_any _ xs0 _ (RA0.out.keep2 B1.out) hl0).mono ?_
  rintro e W2 ⟨y0, rfl, o2, b2, f2⟩
  have E2 := hid b2
  have Q2 := hid o2
  have Fy0 : Hid (Firm y0) := hid (.inr f2)
  clear b2 o2 f2
  have B2 := hid (B1.out.trans (E2.out.mono B1.out.size))
  have Ry0_2 := hid Q2.out.rd
  go_wp2_with fail
  refine (quatValid_any _ xs0  _ Ry0_2.out).mono ?_
  rw [P.out]
  rintro e W3 ⟨rfl, b3⟩
  have E3 := hid b3
  clear b3
  have B3 := hid (B2.out.trans (E3.out.mono B2.out.size))
  have Ry0_3 := hid (Ry0_2.out.keep2 E3.out)
  go_wp2_with fail
  refine (toIntS_any _ xs0 _ (RA0.out.keep2 B3.out) hl0).mono ?_
  rintro e W4 ⟨t0, rfl, o4, b4, f4⟩
  have E4 := hid b4
  have Q4 := hid o4
  have Ft0 : Hid (Firm t0) := hid (.inr f4)
  clear b4 o4 f4
  have B4 := hid (B3.out.trans (E4.out.mono B3.out.size))
  have Ry0_4 := hid (Ry0_3.out.keep2 E4.out)
  have Rt0_4 := hid Q4.out.rd
  go_wp2_with fail
  refine (eqIntS_any _ _ xs0 xs0 _ Ry0_4.out Rt0_4.out).mono ?_
  rintro e W5 ⟨rfl, k5, hk5⟩
  have E5 : Hid (Below W4.heap.size W4 W5) := hid (by rw [hk5]; exact below_drewN (Below.refl _ _) k5)
  clear hk5
  have B5 := hid (B4.out.trans (E5.out.mono B4.out.size))
  have Ry0_5 := hid (Ry0_4.out.keep2 E5.out)
  have Rt0_5 := hid (Rt0_4.out.keep2 E5.out)
  go_wp2
  go_ret
  exact ⟨rfl, B5.out⟩
theorem own : ownKnob Try.prog.godebug = none := by kernel_rfl
theorem laidOut : laidOutB Try.prog = true := by kernel_rfl
set_option maxRecDepth 100000 in
theorem lifted (os : Os) (started : os.Started) (H : Type) (enc : TypeId × Value → H) :
    ReturnsInHanded {} Try.checked os 12 .any (Rows.fnExactQuatValidSpec.pre6 enc Try.prog Try.f12 Rows.fnExactQuatValidRow.domain false) (Rows.fnExactQuatValidSpec.post enc Try.prog Try.f12 false true false false) := by
  refine returnsInHanded_of_change (C := Try.checked) own started (by kernel_rfl) Try.func12
    (ChangeSpec.witness6 (enc := enc) (C := Try.checked) false ⟨#[], #[.slice none 0 0], []⟩ 8 (by kernel_rfl) (by kernel_rfl) (by kernel_rfl) (by kernel_rfl)) ?_
  intro W base args ds gs before hval0 hW hcnd _
  have hval : ∀ (j : Nat) t v, Try.f12.params[j]? = some t → args[j]? = some v → Value.okWide Try.prog W .any base t v := hval0
  have hW' := hW
  obtain ⟨p, q, hA0, hV, rfl, hfz, hnd⟩ := hW
  have hA : DataW.TrodAll enc Try.prog W 0 (fun _ => true) true Try.f12.params.toList args.toList ds p := hA0
  rw [Try.params12] at hA hval
  obtain ⟨v0, vs0, d0, ds0, p0, q0, hargs, rfl, rfl, h0, r0⟩ := trodAll_cons hA
  obtain ⟨rfl, rfl, rfl⟩ := trodAll_nil r0
  obtain rfl : args = #[v0] := by cases args; simp_all
  obtain ⟨rfl, rfl⟩ := trodVars_none hV
  obtain ⟨a0, len0, cap0, rfl⟩ := okWide_slice Try.underlying26 (hval 0 26 v0 rfl rfl)
  have k0 := h0
  have lt0 : ∀ x ∈ p0, x.block < W.heap.size := by obtain ⟨m, hm⟩ := k0; exact DataW.trod_lt m _ _ _ hm
  obtain ⟨z0, w0⟩ : ∃ zs, IsRow .i64 W a0 len0 cap0 zs := by
    obtain ⟨fuel, hf⟩ := h0
    rcases open_ints Try.underlying26 Try.underlying3 (by kernel_rfl) hf with ⟨hcs, _⟩ | ⟨x, l, c, zs, hcs, _, hl, hm, hz, _, hcell, hwz⟩
    · simp [Value.cells] at hcs
      obtain ⟨rfl, rfl, rfl⟩ := hcs
      exact ⟨[], .inl ⟨rfl, rfl, rfl, rfl⟩⟩
    · simp [Value.cells] at hcs
      obtain ⟨rfl, rfl, rfl⟩ := hcs
      exact ⟨zs, .inr ⟨_, rfl, hl, hm, by simpa using hz, hcell, hwz⟩⟩
  clear hA0 hval0
  refine (walk a0 len0 cap0 z0 W w0).mono fun e W' ⟨he, bel⟩ => ?_
  subst he
  exact ⟨_, rfl, _, _, _, [], _, [], hW', trodAll_mk1 (shut_bool Try.underlying4 _), (trodAll_cons_mk (Below.trod laidOut (by kernel_rfl) (of_decide_eq_true (by kernel_rfl)) k0 bel lt0) trodAll_mk0), rfl, bel.frame _, fun h => by cases h⟩
theorem over : Rows.fnExactQuatValidRow.holds Try.pinned (OpenSpec.ofChange Rows.fnExactQuatValidSpec) :=
  OpenClaim.holds_of_wide 12 Try.f12 rfl rfl rfl rfl rfl rfl rfl ⟨rfl, rfl, rfl, rfl, rfl⟩ rfl rfl rfl rfl rfl (by kernel_rfl) Try.func12 (by kernel_rfl)
    (of_decide_eq_true (by kernel_rfl)) (by unfold Func.isWrapper; first | (rw [if_pos (by decide +kernel)]; kernel_rfl) | (rw [if_neg (by decide +kernel)]; exact ⟨rfl, rfl⟩))
    (fun os started H enc _ => lifted os started H enc)
theorem proved : Rows.FnExactQuatValidSaid := over
end Go.Proofs.Ytdclmjmefkgbbaa.fnExactQuatValid
