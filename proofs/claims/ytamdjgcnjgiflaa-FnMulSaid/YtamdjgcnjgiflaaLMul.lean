/-
  Proves: for every code: names multiply as their numbers, in either order, and multiplying twice by one number leads back.
  Conditions: none beyond the given statement's own.
-/
import Derived.Test.YtamdjgcnjgiflaaRows
import Derived.Test.YtamdjgcnjgiflaaImpC
import Derived.Test.YtamdjgcnjgiflaaLawCls
import Derived.Test.YtamdjgcnjgiflaaLists
import Derived.Test.YtamdjgcnjgiflaaSame
import Derived.Test.YtamdjgcnjgiflaaRowWord
import Derived.ProofKit
import Derived.OpenShut
import Derived.ShutString
import Derived.ChangeOld
namespace Go.Proofs.Ytamdjgcnjgiflaa.fnMul
open Go.ChangeShapes Go.WideShapes Go.ChangeAt Go.RowKit
open Go.ChangeMaps (open_string shut_string)
set_option linter.unusedVariables false
theorem lmul_facts {a b q : Int} (hp : prOk q) (h1 : okAt a q = true) (h2 : okAt b q = true) :
    lmulV (nameOf a q) (nameOf b q) q = .tuple #[.int .i64 (nameOf (a * b) q), .bool true] ∧ lmulV b a q = .tuple #[.int .i64 (nameOf (a * b) q), .bool true] ∧
    lmulV (nameOf (a * b) q) b q = .tuple #[.int .i64 (nameOf a q), .bool true] := by
  obtain ⟨_, _, a0, hq⟩ := okAt_split h1
  obtain ⟨_, _, b0, _⟩ := okAt_split h2
  have ab0 := Int.mul_ne_zero a0 b0
  refine ⟨?_, ?_, ?_⟩
  · rw [lmulV_yes (okAt_name hp a0 hq) (okAt_name hp b0 hq)]
    rw [name_congr (show cls (nameOf a q * nameOf b q) q = cls (a * b) q by rw [cls_mul (name_ne a0 hq) (name_ne b0 hq) hq, cls_name a0 hq, cls_name b0 hq, cls_mul a0 b0 hq])]
  · rw [lmulV_yes h2 h1, Int.mul_comm]
  · rw [lmulV_yes (okAt_name hp ab0 hq) h2]
    rw [name_congr (show cls (nameOf (a * b) q * b) q = cls a q by
      rw [cls_mul (name_ne ab0 hq) b0 hq, cls_name ab0 hq, ← cls_mul ab0 b0 hq, Int.mul_assoc, cls_mul a0 (Int.mul_ne_zero b0 b0) hq, cls_mul b0 b0 hq, comb_self hq (cls_mem b0 hq), comb_unit hq (cls_mem a0 hq)])]

set_option maxRecDepth 100000 in
set_option maxHeartbeats 2000000 in
theorem walk  (a0 : Option Addr) (len0 cap0 : Nat) (z0 : List Int) (w : World) (w0 : IsRow .u8 w a0 len0 cap0 z0) :
    Calls Try.prog 7 #[.slice a0 len0 cap0] w fun e w' => e = .returned (.bool true) ∧ Below w.heap.size w w' := by
  have HC := hid (codeIn_of w0)
  clear w0
  by_cases hl : (1048576 : Int) < (len0 : Int)
  · go_enter Try.func7, Try.ntmps7
    go_wp2
    go_ret
    exact ⟨rfl, Below.refl _ _⟩
  · go_enter Try.func7, Try.ntmps7
    go_wp2_with fail
    refine (drawLocalMul_any _ len0 _ HC.out).mono ?_
    rintro e w1 ⟨a, b, q, rfl, ⟨_, _, hp⟩, hb⟩
    cases hV : (okAt a q && okAt b q) with
    | false =>
      have P := hid (lmulV_no hV)
      clear hV hp
      go_wp2_with fail
      refine (localMul_any a b q _).mono ?_
      rw [P.out]
      rintro e w' ⟨rfl, hb1⟩
      have hB1 := hb.trans (hb1.mono hb.size)
      go_wp2_with fail
      refine (localMulS_any a b q _).mono ?_
      rw [P.out]
      rintro e w' ⟨rfl, hb2⟩
      have hB2 := hB1.trans (hb2.mono hB1.size)
      go_wp2
      go_ret
      exact ⟨rfl, hB2⟩
    | true =>
      rw [Bool.and_eq_true] at hV
      have P := hid (lmulV_yes hV.1 hV.2)
      have F1 := hid (lnameV_yes hV.1)
      have F2 := hid (lnameV_yes hV.2)
      obtain ⟨f3, f4, f5⟩ := lmul_facts hp hV.1 hV.2
      obtain ⟨X, hX⟩ : ∃ X, X = nameOf a q := ⟨_, rfl⟩
      obtain ⟨Y, hY⟩ : ∃ Y, Y = nameOf b q := ⟨_, rfl⟩
      obtain ⟨Z, hZ⟩ : ∃ Z, Z = nameOf (a * b) q := ⟨_, rfl⟩
      rw [← hX, ← hY, ← hZ] at f3
      rw [← hZ] at f4 P
      rw [← hX, ← hZ] at f5
      rw [← hX] at F1
      rw [← hY] at F2
      have F3 := hid f3
      have F4 := hid f4
      have F5 := hid f5
      clear hV f3 f4 f5 hX hY hZ hp
      go_wp2_with fail
      refine (localMul_any a b q _).mono ?_
      rw [P.out]
      rintro e w' ⟨rfl, hb1⟩
      have hB1 := hb.trans (hb1.mono hb.size)
      go_wp2_with fail
      refine (localMulS_any a b q _).mono ?_
      rw [P.out]
      rintro e w' ⟨rfl, hb2⟩
      have hB2 := hB1.trans (hb2.mono hB1.size)
      go_wp2_with fail
      refine (localName_any a q _).mono ?_
      rw [F1.out]
      rintro e w' ⟨rfl, hb3⟩
      have hB3 := hB2.trans (hb3.mono hB2.size)
      go_wp2_with fail
      refine (localName_any b q _).mono ?_
      rw [F2.out]
      rintro e w' ⟨rfl, hb4⟩
      have hB4 := hB3.trans (hb4.mono hB3.size)
      go_wp2_with fail
      refine (localMul_any X Y q _).mono ?_
      rw [F3.out]
      rintro e w' ⟨rfl, hb5⟩
      have hB5 := hB4.trans (hb5.mono hB4.size)
      go_wp2_with fail
      refine (localMul_any b a q _).mono ?_
      rw [F4.out]
      rintro e w' ⟨rfl, hb6⟩
      have hB6 := hB5.trans (hb6.mono hB5.size)
      go_wp2_with fail
      refine (localMul_any Z b q _).mono ?_
      rw [F5.out]
      rintro e w' ⟨rfl, hb7⟩
      have hB7 := hB6.trans (hb7.mono hB6.size)
      go_wp2
      go_ret
      exact ⟨rfl, hB7⟩
theorem own : ownKnob Try.prog.godebug = none := by kernel_rfl
theorem laidOut : laidOutB Try.prog = true := by kernel_rfl
set_option maxRecDepth 100000 in
theorem lifted (os : Os) (started : os.Started) (H : Type) (enc : TypeId × Value → H) :
    ReturnsInHanded {} Try.checked os 7 .any (Rows.fnMulSpec.pre6 enc Try.prog Try.f7 Rows.fnMulRow.domain false) (Rows.fnMulSpec.post enc Try.prog Try.f7 false true false false) := by
  refine returnsInHanded_of_change (C := Try.checked) own started (by kernel_rfl) Try.func7
    (ChangeSpec.witness6 (enc := enc) (C := Try.checked) false ⟨#[], #[.slice none 0 0], []⟩ 8 (by kernel_rfl) (by kernel_rfl) (by kernel_rfl) (by kernel_rfl)) ?_
  intro W base args ds gs before hval0 hW hcnd _
  have hval : ∀ (j : Nat) t v, Try.f7.params[j]? = some t → args[j]? = some v → Value.okWide Try.prog W .any base t v := hval0
  have hW' := hW
  obtain ⟨p, q, hA0, hV, rfl, hfz, hnd⟩ := hW
  have hA : DataW.TrodAll enc Try.prog W 0 (fun _ => true) true Try.f7.params.toList args.toList ds p := hA0
  rw [Try.params7] at hA hval
  obtain ⟨v0, vs0, d0, ds0, p0, q0, hargs, rfl, rfl, h0, r0⟩ := trodAll_cons hA
  obtain ⟨rfl, rfl, rfl⟩ := trodAll_nil r0
  obtain rfl : args = #[v0] := by cases args; simp_all
  obtain ⟨rfl, rfl⟩ := trodVars_none hV
  obtain ⟨a0, len0, cap0, rfl⟩ := okWide_slice Try.underlying22 (hval 0 22 v0 rfl rfl)
  have k0 := h0
  have lt0 : ∀ x ∈ p0, x.block < W.heap.size := by obtain ⟨m, hm⟩ := k0; exact DataW.trod_lt m _ _ _ hm
  obtain ⟨z0, w0⟩ : ∃ zs, IsRow .u8 W a0 len0 cap0 zs := by
    obtain ⟨fuel, hf⟩ := h0
    rcases open_ints Try.underlying22 Try.underlying5 (by kernel_rfl) hf with ⟨hcs, _⟩ | ⟨x, l, c, zs, hcs, _, hl, hm, hz, _, hcell, hwz⟩
    · simp [Value.cells] at hcs
      obtain ⟨rfl, rfl, rfl⟩ := hcs
      exact ⟨[], .inl ⟨rfl, rfl, rfl, rfl⟩⟩
    · simp [Value.cells] at hcs
      obtain ⟨rfl, rfl, rfl⟩ := hcs
      exact ⟨zs, .inr ⟨_, rfl, hl, hm, by simpa using hz, hcell, hwz⟩⟩
  clear hA0 hval0
  refine (walk a0 len0 cap0 z0 W w0).mono fun e W' ⟨he, bel⟩ => ?_
  subst he
  exact ⟨_, rfl, _, _, _, [], _, [], hW', trodAll_mk1 (shut_bool Try.underlying4 _), (trodAll_cons_mk (Below.trod laidOut (by kernel_rfl) (of_decide_eq_true (by kernel_rfl)) k0 bel lt0) trodAll_mk0), rfl, bel.frame _, fun h => by cases h⟩
theorem over : Rows.fnMulRow.holds Try.pinned (OpenSpec.ofChange Rows.fnMulSpec) :=
  OpenClaim.holds_of_wide 7 Try.f7 rfl rfl rfl rfl rfl rfl rfl ⟨rfl, rfl, rfl, rfl, rfl⟩ rfl rfl rfl rfl rfl (by kernel_rfl) Try.func7 (by kernel_rfl)
    (of_decide_eq_true (by kernel_rfl)) (by unfold Func.isWrapper; first | (rw [if_pos (by decide +kernel)]; kernel_rfl) | (rw [if_neg (by decide +kernel)]; exact ⟨rfl, rfl⟩))
    (fun os started H enc _ => lifted os started H enc)
theorem proved : Rows.FnMulSaid := over
end Go.Proofs.Ytamdjgcnjgiflaa.fnMul
