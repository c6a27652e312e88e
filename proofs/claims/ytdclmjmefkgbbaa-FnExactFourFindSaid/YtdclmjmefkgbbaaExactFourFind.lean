/-
  Proves: for every integer the program's FourFind answers as the model's, in memory of its own.
  Conditions: none beyond the given statement's own.
-/
import Derived.Test.YtdclmjmefkgbbaaRows
import Derived.Test.YtdclmjmefkgbbaaSuF
import Derived.Test.YtdclmjmefkgbbaaSuB
import Derived.Test.YtdclmjmefkgbbaaQBun14
import Derived.ProofKit
import Derived.OpenShut
import Derived.ShutString
import Derived.ChangeOld
namespace Go.Proofs.Ytdclmjmefkgbbaa.fnExactFourFind
open Go.ChangeShapes Go.WideShapes Go.ChangeAt Go.RowKit
open Go.ChangeMaps (open_string shut_string)
set_option linter.unusedVariables false
theorem walk (a0 : Int) (w : World) (w0 : (Lit.int .i64 a0).wf = true) :
    Calls Try.prog 11 #[.int .i64 a0] w fun e w' => e = .returned (.bool true) ∧ Below w.heap.size w w' := by
  have S : ∀ w : World, Calls Try.prog 36 #[.int .i64 a0] w fun e w' => ∃ v, e = .returned (.tuple #[v, .bool (manyO 4 a0).isSome]) ∧ Owns w' w.heap.size v ((manyO 4 a0).getD []) ∧ Below w.heap.size w w' := fun w => fourFindS_any a0 w
  have I : ∀ w : World, Calls Try.prog 37 #[.int .i64 a0] w fun e w' => ∃ v, e = .returned (.tuple #[v, .bool (manyO 4 a0).isSome]) ∧ Owns w' w.heap.size v ((manyO 4 a0).getD []) ∧ Below w.heap.size w w' := fun w => fourFind_any a0 w
  have hlen : ((manyO 4 a0).getD []).length ≤ 1000000 := many_len 4 a0
  obtain ⟨L, hL⟩ : ∃ L, L = ((manyO 4 a0).getD []) := ⟨_, rfl⟩
  rw [← hL] at S I hlen
  obtain ⟨bb, hbb⟩ : ∃ bb, bb = (manyO 4 a0).isSome := ⟨_, rfl⟩
  rw [← hbb] at S I
  have TB : (bb != bb) = false := by simp
  clear hbb
  have S' := hid S
  have I' := hid I
  have HD : decide (L = L) = true := by simp
  clear S I hL
  go_enter Try.func11, Try.ntmps11
  go_wp2_with fail
  refine (S'.out _).mono ?_
  rintro e w1 ⟨v0, rfl, o0, b0⟩
  have O0 := hid o0
  clear o0
  go_wp2_with fail
  refine (I'.out _).mono ?_
  rintro e w2 ⟨v1, rfl, o1, b1⟩
  have O1 := hid o1
  have O0b := hid (O0.out.keep O0.out.lt b1)
  clear o1
  go_wp2_with fail
  refine (eqIntS_any _ _ _ _ _ O1.out.rd O0b.out.rd).mono ?_
  rintro e w3 ⟨rfl, k3, rfl⟩
  go_wp2_with fail
  refine (markIntS_any _ _ w1.heap.size 1 (by omega) (by omega) hlen _ (O1.out.drewN k3)).mono ?_
  rintro e w4 ⟨rfl, o4, b4⟩
  have O4 := hid o4
  have s4 := b4.size
  simp only [World.heap_drewN] at s4
  have B4 := hid b4
  clear o4 b4
  go_wp2_with fail
  refine (heldIntS_any _ L.length 1 (by omega) (by omega) hlen _ (by have := O4.out.rd; exact this)).mono ?_
  rintro e w5 ⟨rfl, rfl⟩
  have T1 : ((1 + (L.length : Int)) != 1 + L.length) = false := by simp
  go_wp2_with fail
  refine (I'.out _).mono ?_
  rintro e w6 ⟨v2, rfl, o6, b6⟩
  have O6 := hid o6
  have B6 := hid b6
  have S6 := hid b6.size
  clear o6 b6
  have O0c : Hid (Owns w6 w.heap.size v0 L) := by
    have h1 : Below w1.heap.size w2 w4 := ((below_drewN (Below.refl _ _) k3).trans B4.out)
    exact (O0b.out.keep O0.out.lt h1).keep (fun g hg => Nat.lt_of_lt_of_le (O0.out.lt g hg) (Nat.le_trans b1.size s4)) B6.out
  have O4c := hid (O4.out.keep O4.out.lt B6.out)
  go_wp2_with fail
  refine (eqIntS_any _ _ _ _ _ O6.out.rd O0c.out.rd).mono ?_
  rintro e w7 ⟨rfl, k7, rfl⟩
  go_wp2_with fail
  refine (heldIntS_any _ L.length 1 (by omega) (by omega) hlen _ (by have := (O4c.out.drewN k7).rd; exact this)).mono ?_
  rintro e w8 ⟨rfl, rfl⟩
  go_wp2
  go_ret
  refine ⟨rfl, below_drewN (b0.trans ((b1.trans (((below_drewN (Below.refl _ _) k3).trans B4.out).trans (B6.out.mono ?_))).mono b0.size)) k7⟩
  have := b1.size
  omega
theorem own : ownKnob Try.prog.godebug = none := by kernel_rfl
theorem laidOut : laidOutB Try.prog = true := by kernel_rfl
set_option maxRecDepth 100000 in
theorem lifted (os : Os) (started : os.Started) (H : Type) (enc : TypeId × Value → H) :
    ReturnsInHanded {} Try.checked os 11 .any (Rows.fnExactFourFindSpec.pre6 enc Try.prog Try.f11 Rows.fnExactFourFindRow.domain false) (Rows.fnExactFourFindSpec.post enc Try.prog Try.f11 false true false false) := by
  refine returnsInHanded_of_change (C := Try.checked) own started (by kernel_rfl) Try.func11
    (ChangeSpec.witness6 (enc := enc) (C := Try.checked) false ⟨#[], #[.int .i64 0], []⟩ 8 (by kernel_rfl) (by kernel_rfl) (by kernel_rfl) (by kernel_rfl)) ?_
  intro W base args ds gs before hval0 hW hcnd _
  have hval : ∀ (j : Nat) t v, Try.f11.params[j]? = some t → args[j]? = some v → Value.okWide Try.prog W .any base t v := hval0
  have hW' := hW
  obtain ⟨p, q, hA0, hV, rfl, hfz, hnd⟩ := hW
  have hA : DataW.TrodAll enc Try.prog W 0 (fun _ => true) true Try.f11.params.toList args.toList ds p := hA0
  rw [Try.params11] at hA hval
  obtain ⟨v0, vs0, d0, ds0, p0, q0, hargs, rfl, rfl, h0, r0⟩ := trodAll_cons hA
  obtain ⟨rfl, rfl, rfl⟩ := trodAll_nil r0
  obtain rfl : args = #[v0] := by cases args; simp_all
  obtain ⟨rfl, rfl⟩ := trodVars_none hV
  obtain ⟨a0, rfl, rfl, rfl, w0⟩ := open_int Try.underlying3 (hval 0 3 v0 rfl rfl) h0
  clear hA0 hval0
  refine (walk a0 W w0).mono fun e W' ⟨he, bel⟩ => ?_
  subst he
  exact ⟨_, rfl, _, _, _, [], _, [], hW', trodAll_mk1 (shut_bool Try.underlying4 _), (trodAll_cons_mk (shut_int Try.underlying3 w0) trodAll_mk0), rfl, bel.frame _, fun h => by cases h⟩
theorem over : Rows.fnExactFourFindRow.holds Try.pinned (OpenSpec.ofChange Rows.fnExactFourFindSpec) :=
  OpenClaim.holds_of_wide 11 Try.f11 rfl rfl rfl rfl rfl rfl rfl ⟨rfl, rfl, rfl, rfl, rfl⟩ rfl rfl rfl rfl rfl (by kernel_rfl) Try.func11 (by kernel_rfl)
    (of_decide_eq_true (by kernel_rfl)) (by unfold Func.isWrapper; first | (rw [if_pos (by decide +kernel)]; kernel_rfl) | (rw [if_neg (by decide +kernel)]; exact ⟨rfl, rfl⟩))
    (fun os started H enc _ => lifted os started H enc)
theorem proved : Rows.FnExactFourFindSaid := over
end Go.Proofs.Ytdclmjmefkgbbaa.fnExactFourFind
