/-
  Proves: for every code: two numbers of one class have one name, their product has the name 1, and the order does not matter.
  Conditions: none beyond the given statement's own.
-/
import Derived.Test.YtamdjgcnjgiflaaRows
import Derived.Test.YtamdjgcnjgiflaaImpC
import Derived.Test.YtamdjgcnjgiflaaLawCls
import Derived.Test.YtamdjgcnjgiflaaLists
import Derived.Test.YtamdjgcnjgiflaaSame
import Derived.Test.YtamdjgcnjgiflaaRowWord
import Derived.ProofKit
import Derived.OpenShut
import Derived.ShutString
import Derived.ChangeOld
namespace Go.Proofs.Ytamdjgcnjgiflaa.fnLocalSame
open Go.ChangeShapes Go.WideShapes Go.ChangeAt Go.RowKit
open Go.ChangeMaps (open_string shut_string)
set_option linter.unusedVariables false
theorem lsame_facts {a b q : Int} (h : lsameV a b q = true) : lnameV a q = .tuple #[.int .i64 (nameOf a q), .bool true] ∧ lnameV b q = .tuple #[.int .i64 (nameOf a q), .bool true] ∧
    lmulV a b q = .tuple #[.int .i64 1, .bool true] ∧ lsameV b a q = true := by
  unfold lsameV at h
  rw [Bool.and_eq_true, Bool.and_eq_true] at h
  obtain ⟨h1, h2, h3⟩ := h
  have hc := of_decide_eq_true h3
  obtain ⟨_, _, a0, hq⟩ := okAt_split h1
  obtain ⟨_, _, b0, _⟩ := okAt_split h2
  refine ⟨lnameV_yes h1, by rw [lnameV_yes h2, name_congr hc.symm], ?_, ?_⟩
  · rw [lmulV_yes h1 h2, name_sq hq (by rw [sq_mul a0 b0 hq]; exact h3)]
  · unfold lsameV; rw [h1, h2, hc]; simp

set_option maxRecDepth 100000 in
set_option maxHeartbeats 2000000 in
theorem walk  (a0 : Option Addr) (len0 cap0 : Nat) (z0 : List Int) (w : World) (w0 : IsRow .u8 w a0 len0 cap0 z0) :
    Calls Try.prog 6 #[.slice a0 len0 cap0] w fun e w' => e = .returned (.bool true) ∧ Below w.heap.size w w' := by
  have HC := hid (codeIn_of w0)
  clear w0
  by_cases hl : (1048576 : Int) < (len0 : Int)
  · go_enter Try.func6, Try.ntmps6
    go_wp2
    go_ret
    exact ⟨rfl, Below.refl _ _⟩
  · go_enter Try.func6, Try.ntmps6
    go_wp2_with fail
    refine (drawLocalSame_any _ len0 _ HC.out).mono ?_
    rintro e w1 ⟨a, b, q, rfl, _, hb⟩
    cases hV : lsameV a b q with
    | false =>
      have P := hid hV
      clear hV
      go_wp2_with fail
      refine (localSame_any a b q _).mono ?_
      rw [P.out]
      rintro e w' ⟨rfl, hb1⟩
      go_wp2_with fail
      refine (localSameS_any a b q _).mono ?_
      rw [P.out]
      rintro e w' ⟨rfl, rfl⟩
      go_wp2
      go_ret
      exact ⟨rfl, hb.trans (hb1.mono hb.size)⟩
    | true =>
      have P := hid hV
      obtain ⟨f1, f2, f3, f4⟩ := lsame_facts hV
      have F1 := hid f1
      have F2 := hid f2
      have F3 := hid f3
      have F4 := hid f4
      clear hV f1 f2 f3 f4
      go_wp2_with fail
      refine (localSame_any a b q _).mono ?_
      rw [P.out]
      rintro e w' ⟨rfl, hb1⟩
      have hB1 := hb.trans (hb1.mono hb.size)
      go_wp2_with fail
      refine (localSameS_any a b q _).mono ?_
      rw [P.out]
      rintro e w' ⟨rfl, rfl⟩
      go_wp2_with fail
      refine (localName_any a q _).mono ?_
      rw [F1.out]
      rintro e w' ⟨rfl, hb2⟩
      have hB2 := hB1.trans (hb2.mono hB1.size)
      go_wp2_with fail
      refine (localName_any b q _).mono ?_
      rw [F2.out]
      rintro e w' ⟨rfl, hb3⟩
      have hB3 := hB2.trans (hb3.mono hB2.size)
      go_wp2_with fail
      refine (localMul_any a b q _).mono ?_
      rw [F3.out]
      rintro e w' ⟨rfl, hb4⟩
      have hB4 := hB3.trans (hb4.mono hB3.size)
      go_wp2_with fail
      refine (localSame_any b a q _).mono ?_
      rw [F4.out]
      rintro e w' ⟨rfl, hb5⟩
      have hB5 := hB4.trans (hb5.mono hB4.size)
      go_wp2
      go_ret
      exact ⟨rfl, hB5⟩
theorem own : ownKnob Try.prog.godebug = none := by kernel_rfl
theorem laidOut : laidOutB Try.prog = true := by kernel_rfl
set_option maxRecDepth 100000 in
theorem lifted (os : Os) (started : os.Started) (H : Type) (enc : TypeId × Value → H) :
    ReturnsInHanded {} Try.checked os 6 .any (Rows.fnLocalSameSpec.pre6 enc Try.prog Try.f6 Rows.fnLocalSameRow.domain false) (Rows.fnLocalSameSpec.post enc Try.prog Try.f6 false true false false) := by
  refine returnsInHanded_of_change (C := Try.checked) own started (by kernel_rfl) Try.func6
    (ChangeSpec.witness6 (enc := enc) (C := Try.checked) false ⟨#[], #[.slice none 0 0], []⟩ 8 (by kernel_rfl) (by kernel_rfl) (by kernel_rfl) (by kernel_rfl)) ?_
  intro W base args ds gs before hval0 hW hcnd _
  have hval : ∀ (j : Nat) t v, Try.f6.params[j]? = some t → args[j]? = some v → Value.okWide Try.prog W .any base t v := hval0
  have hW' := hW
  obtain ⟨p, q, hA0, hV, rfl, hfz, hnd⟩ := hW
  have hA : DataW.TrodAll enc Try.prog W 0 (fun _ => true) true Try.f6.params.toList args.toList ds p := hA0
  rw [Try.params6] at hA hval
  obtain ⟨v0, vs0, d0, ds0, p0, q0, hargs, rfl, rfl, h0, r0⟩ := trodAll_cons hA
  obtain ⟨rfl, rfl, rfl⟩ := trodAll_nil r0
  obtain rfl : args = #[v0] := by cases args; simp_all
  obtain ⟨rfl, rfl⟩ := trodVars_none hV
  obtain ⟨a0, len0, cap0, rfl⟩ := okWide_slice Try.underlying22 (hval 0 22 v0 rfl rfl)
  have k0 := h0
  have lt0 : ∀ x ∈ p0, x.block < W.heap.size := by obtain ⟨m, hm⟩ := k0; exact DataW.trod_lt m _ _ _ hm
  obtain ⟨z0, w0⟩ : ∃ zs, IsRow .u8 W a0 len0 cap0 zs := by
    obtain ⟨fuel, hf⟩ := h0
    rcases open_ints Try.underlying22 Try.underlying5 (by kernel_rfl) hf with ⟨hcs, _⟩ | ⟨x, l, c, zs, hcs, _, hl, hm, hz, _, hcell, hwz⟩
    · simp [Value.cells] at hcs
      obtain ⟨rfl, rfl, rfl⟩ := hcs
      exact ⟨[], .inl ⟨rfl, rfl, rfl, rfl⟩⟩
    · simp [Value.cells] at hcs
      obtain ⟨rfl, rfl, rfl⟩ := hcs
      exact ⟨zs, .inr ⟨_, rfl, hl, hm, by simpa using hz, hcell, hwz⟩⟩
  clear hA0 hval0
  refine (walk a0 len0 cap0 z0 W w0).mono fun e W' ⟨he, bel⟩ => ?_
  subst he
  exact ⟨_, rfl, _, _, _, [], _, [], hW', trodAll_mk1 (shut_bool Try.underlying4 _), (trodAll_cons_mk (Below.trod laidOut (by kernel_rfl) (of_decide_eq_true (by kernel_rfl)) k0 bel lt0) trodAll_mk0), rfl, bel.frame _, fun h => by cases h⟩
theorem over : Rows.fnLocalSameRow.holds Try.pinned (OpenSpec.ofChange Rows.fnLocalSameSpec) :=
  OpenClaim.holds_of_wide 6 Try.f6 rfl rfl rfl rfl rfl rfl rfl ⟨rfl, rfl, rfl, rfl, rfl⟩ rfl rfl rfl rfl rfl (by kernel_rfl) Try.func6 (by kernel_rfl)
    (of_decide_eq_true (by kernel_rfl)) (by unfold Func.isWrapper; first | (rw [if_pos (by decide +kernel)]; kernel_rfl) | (rw [if_neg (by decide +kernel)]; exact ⟨rfl, rfl⟩))
    (fun os started H enc _ => lifted os started H enc)
theorem proved : Rows.FnLocalSameSaid := over
end Go.Proofs.Ytamdjgcnjgiflaa.fnLocalSame
