/-
  Proves: for every code: powers are rests, and each power times the number is the next one.
  Conditions: none beyond the given statement's own.
-/
import Derived.Test.YtehjiejijlboeaaRows
import Derived.Test.YtehjiejijlboeaaLawMath
import Derived.Test.YtehjiejijlboeaaDraws1
import Derived.Test.YtehjiejijlboeaaRowWord
import Derived.ProofKit
import Derived.OpenShut
import Derived.ShutString
import Derived.ChangeOld
namespace Go.Proofs.Ytehjiejijlboeaa.fnPowerMod
open Go.ChangeShapes Go.WideShapes Go.ChangeAt Go.RowKit
open Go.ChangeMaps (open_string shut_string)
set_option linter.unusedVariables false
set_option maxRecDepth 100000 in
set_option maxHeartbeats 2000000 in
theorem walk (a0 : Option Addr) (len0 cap0 : Nat) (z0 : List Int) (w : World) (w0 : IsRow .u8 w a0 len0 cap0 z0) :
    Calls Try.prog 8 #[.slice a0 len0 cap0] w fun e w' => e = .returned (.bool true) ∧ Below w.heap.size w w' := by
  have HC := hid (codeIn_of w0)
  clear w0
  by_cases hl : (1048576 : Int) < (len0 : Int)
  · go_enter Try.func8, Try.ntmps8
    go_wp2
    go_ret
    exact ⟨rfl, Below.refl _ _⟩
  · go_enter Try.func8, Try.ntmps8
    go_wp2_with fail
    refine (drawPowerMod_any _ len0 _ HC.out).mono ?_
    rintro e w1 ⟨n, ex, m, rfl, ⟨⟨n1, n2⟩, ⟨e1, e2⟩, m1, m2⟩, hb⟩
    cases hV : pmB n ex m with
    | false =>
      have P := hid (pmV_no hV)
      clear hV
      go_wp2_with (first | (go_at_call 18; refine (powerMod_any _ _ _ _).mono ?_; rw [P.out]; rintro e w' ⟨rfl, rfl⟩) | (go_at_call 36; refine (powerModS_any _ _ _ _).mono ?_; rw [P.out]; rintro e w' ⟨rfl, rfl⟩))
      go_ret
      exact ⟨rfl, hb⟩
    | true =>
      have P := hid (pmV_yes hV)
      have hx : (okN n = true ∧ 0 ≤ ex ∧ ex ≤ 5000 ∧ 1 ≤ m ∧ m ≤ 5000) := by
        simp [pmB, inR] at hV; exact ⟨hV.1, by omega, by omega, by omega, by omega⟩
      obtain ⟨ok, x1, x2, x3, x4⟩ := hx
      obtain ⟨E, rfl⟩ := Int.eq_ofNat_of_zero_le x1
      obtain ⟨M, rfl⟩ := Int.eq_ofNat_of_zero_le (show 0 ≤ m by omega)
      obtain ⟨B, hB⟩ := Int.eq_ofNat_of_zero_le (Int.emod_nonneg n (show (M : Int) ≠ 0 by omega))
      have hBM : B < M := by have := Int.emod_lt_of_pos n (show (0 : Int) < M by omega); omega
      obtain ⟨y, hy⟩ : ∃ y, y = pw B E M := ⟨_, rfl⟩
      have hyM : y < M := by rw [hy]; exact pw_lt B E (by omega)
      have P2 : Hid (pmV n E M = .tuple #[.int .i64 y, .bool true]) := by
        show _ = _
        rw [P.out, hB, hy]; rfl
      have HB := hid hB
      have HY := hid hy
      have hyb := mul_bd (show y ≤ 5000 by omega) (show B ≤ 5000 by omega)
      have HS : Hid (E < 5000 → pmV n ((E : Int) + 1) M = .tuple #[.int .i64 ((y : Int) * B % M), .bool true]) := by
        intro hE
        have h1 : pmB n ((E : Int) + 1) M = true := by
          simp [pmB, inR, ok]; omega
        rw [pmV_yes h1, HB.out]
        have e : ((E : Int) + 1).toNat = E + 1 := by omega
        rw [e]
        simp only [Int.toNat_natCast]
        rw [pw_succ, ← HY.out]
        push_cast
        rfl
      clear hV hB hy P
      have a1 : (0 : Int) ≤ y := by omega
      have a2 : (y : Int) < M := by omega
      have e0 : (0 : Int) ≤ (E : Int) + 1 := by omega
      by_cases hE : E < 5000
      · have HS2 := hid (HS.out hE)
        have T1 : ((E : Int) == 5000) = false := by rw [beq_eq_false_iff_ne]; omega
        have hq := Int.emod_nonneg ((y : Int) * B) (show (M : Int) ≠ 0 by omega)
        by_cases hE0 : 0 < E
        · have hE5 : (0 : Int) < (E : Int) := by omega
          go_wp2_with fail
          refine (powerMod_any n E M _).mono ?_
          rw [P2.out]
          rintro e w' ⟨rfl, rfl⟩
          go_wp2_with fail
          refine (powerModS_any n E M _).mono ?_
          rw [P2.out]
          rintro e w' ⟨rfl, rfl⟩
          go_wp2_with fail
          refine (powerMod_any n ((E : Int) + 1) M _).mono ?_
          rw [HS2.out]
          rintro e w' ⟨rfl, rfl⟩
          go_wp2_with fail
          refine (restOf_any n M (by omega) (by omega) (by omega) (by omega) _).mono ?_
          rw [HB.out]
          rintro e w' ⟨rfl, rfl⟩
          go_wp2_with fail
          refine (restOf_any _ M (by omega) (by omega) (by omega) (by omega) _).mono ?_
          rintro e w' ⟨rfl, rfl⟩
          go_wp2
          go_ret
          exact ⟨retB (by simp), hb⟩
        · obtain rfl : E = 0 := by omega
          have T3 : ((y : Int) == 1 % M) = true := by
            rw [beq_iff_eq, HY.out, pw_zero]; push_cast; rfl
          go_wp2_with fail
          refine (powerMod_any n 0 M _).mono ?_
          rw [show pmV n 0 M = _ from P2.out]
          rintro e w' ⟨rfl, rfl⟩
          go_wp2_with fail
          refine (powerModS_any n 0 M _).mono ?_
          rw [show pmV n 0 M = _ from P2.out]
          rintro e w' ⟨rfl, rfl⟩
          go_wp2_with fail
          refine (powerMod_any n 1 M _).mono ?_
          rw [show pmV n 1 M = _ from HS2.out]
          rintro e w' ⟨rfl, rfl⟩
          go_wp2_with fail
          refine (restOf_any n M (by omega) (by omega) (by omega) (by omega) _).mono ?_
          rw [HB.out]
          rintro e w' ⟨rfl, rfl⟩
          go_wp2_with fail
          refine (restOf_any _ M (by omega) (by omega) (by omega) (by omega) _).mono ?_
          rintro e w' ⟨rfl, rfl⟩
          go_wp2
          go_ret
          exact ⟨retB (by simp), hb⟩
      · obtain rfl : E = 5000 := by omega
        have hno : pmB n 5001 M = false := by simp [pmB, inR]
        have HN := hid (pmV_no hno)
        clear hno
        go_wp2_with fail
        refine (powerMod_any n 5000 M _).mono ?_
        rw [show pmV n 5000 M = _ from P2.out]
        rintro e w' ⟨rfl, rfl⟩
        go_wp2_with fail
        refine (powerModS_any n 5000 M _).mono ?_
        rw [show pmV n 5000 M = _ from P2.out]
        rintro e w' ⟨rfl, rfl⟩
        go_wp2_with fail
        refine (powerMod_any n 5001 M _).mono ?_
        rw [HN.out]
        rintro e w' ⟨rfl, rfl⟩
        go_wp2
        go_ret
        exact ⟨retB (by simp), hb⟩
theorem own : ownKnob Try.prog.godebug = none := by kernel_rfl
theorem laidOut : laidOutB Try.prog = true := by kernel_rfl
set_option maxRecDepth 100000 in
theorem lifted (os : Os) (started : os.Started) (H : Type) (enc : TypeId × Value → H) :
    ReturnsInHanded {} Try.checked os 8 .any (Rows.fnPowerModSpec.pre6 enc Try.prog Try.f8 Rows.fnPowerModRow.domain false) (Rows.fnPowerModSpec.post enc Try.prog Try.f8 false true false false) := by
  refine returnsInHanded_of_change (C := Try.checked) own started (by kernel_rfl) Try.func8
    (ChangeSpec.witness6 (enc := enc) (C := Try.checked) false ⟨#[], #[.slice none 0 0], []⟩ 8 (by kernel_rfl) (by kernel_rfl) (by kernel_rfl) (by kernel_rfl)) ?_
  intro W base args ds gs before hval0 hW hcnd _
  have hval : ∀ (j : Nat) t v, Try.f8.params[j]? = some t → args[j]? = some v → Value.okWide Try.prog W .any base t v := hval0
  have hW' := hW
  obtain ⟨p, q, hA0, hV, rfl, hfz, hnd⟩ := hW
  have hA : DataW.TrodAll enc Try.prog W 0 (fun _ => true) true Try.f8.params.toList args.toList ds p := hA0
  rw [Try.params8] at hA hval
  obtain ⟨v0, vs0, d0, ds0, p0, q0, hargs, rfl, rfl, h0, r0⟩ := trodAll_cons hA
  obtain ⟨rfl, rfl, rfl⟩ := trodAll_nil r0
  obtain rfl : args = #[v0] := by cases args; simp_all
  obtain ⟨rfl, rfl⟩ := trodVars_none hV
  obtain ⟨a0, len0, cap0, rfl⟩ := okWide_slice Try.underlying22 (hval 0 22 v0 rfl rfl)
  have k0 := h0
  have lt0 : ∀ x ∈ p0, x.block < W.heap.size := by obtain ⟨m, hm⟩ := k0; exact DataW.trod_lt m _ _ _ hm
  obtain ⟨z0, w0⟩ : ∃ zs, IsRow .u8 W a0 len0 cap0 zs := by
    obtain ⟨fuel, hf⟩ := h0
    rcases open_ints Try.underlying22 Try.underlying5 (by kernel_rfl) hf with ⟨hcs, _⟩ | ⟨x, l, c, zs, hcs, _, hl, hm, hz, _, hcell, hwz⟩
    · simp [Value.cells] at hcs
      obtain ⟨rfl, rfl, rfl⟩ := hcs
      exact ⟨[], .inl ⟨rfl, rfl, rfl, rfl⟩⟩
    · simp [Value.cells] at hcs
      obtain ⟨rfl, rfl, rfl⟩ := hcs
      exact ⟨zs, .inr ⟨_, rfl, hl, hm, by simpa using hz, hcell, hwz⟩⟩
  clear hA0 hval0
  refine (walk a0 len0 cap0 z0 W w0).mono fun e W' ⟨he, bel⟩ => ?_
  subst he
  exact ⟨_, rfl, _, _, _, [], _, [], hW', trodAll_mk1 (shut_bool Try.underlying4 _), (trodAll_cons_mk (Below.trod laidOut (by kernel_rfl) (of_decide_eq_true (by kernel_rfl)) k0 bel lt0) trodAll_mk0), rfl, bel.frame _, fun h => by cases h⟩
theorem over : Rows.fnPowerModRow.holds Try.pinned (OpenSpec.ofChange Rows.fnPowerModSpec) :=
  OpenClaim.holds_of_wide 8 Try.f8 rfl rfl rfl rfl rfl rfl rfl ⟨rfl, rfl, rfl, rfl, rfl⟩ rfl rfl rfl rfl rfl (by kernel_rfl) Try.func8 (by kernel_rfl)
    (of_decide_eq_true (by kernel_rfl)) (by unfold Func.isWrapper; first | (rw [if_pos (by decide +kernel)]; kernel_rfl) | (rw [if_neg (by decide +kernel)]; exact ⟨rfl, rfl⟩))
    (fun os started H enc _ => lifted os started H enc)
theorem proved : Rows.FnPowerModSaid := over
end Go.Proofs.Ytehjiejijlboeaa.fnPowerMod
