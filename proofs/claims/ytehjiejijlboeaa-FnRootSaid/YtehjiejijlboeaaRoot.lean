/-
  Proves: for every code: the root that RootMod finds is the least one, and at most half of the modulus.
  Conditions: none beyond the given statement's own.
-/
import Derived.Test.YtehjiejijlboeaaRows
import Derived.Test.YtehjiejijlboeaaLawMath
import Derived.Test.YtehjiejijlboeaaDraws1
import Derived.Test.YtehjiejijlboeaaRowWord
import Derived.ProofKit
import Derived.OpenShut
import Derived.ShutString
import Derived.ChangeOld
namespace Go.Proofs.Ytehjiejijlboeaa.fnRoot
open Go.ChangeShapes Go.WideShapes Go.ChangeAt Go.RowKit
open Go.ChangeMaps (open_string shut_string)
set_option linter.unusedVariables false
theorem least_half {B M x : Nat} (hx : x < M) (h : x * x % M = B) (hl : ∀ j, j < x → j * j % M ≠ B) : 2 * x ≤ M := by
  by_cases h2 : 2 * x ≤ M
  · exact h2
  · exact absurd (rootF_half hx h) (hl (M - x) (by omega))

set_option maxRecDepth 100000 in
set_option maxHeartbeats 2000000 in
theorem walk (a0 : Option Addr) (len0 cap0 : Nat) (z0 : List Int) (w : World) (w0 : IsRow .u8 w a0 len0 cap0 z0) :
    Calls Try.prog 13 #[.slice a0 len0 cap0] w fun e w' => e = .returned (.bool true) ∧ Below w.heap.size w w' := by
  have HC := hid (codeIn_of w0)
  clear w0
  by_cases hl : (1048576 : Int) < (len0 : Int)
  · go_enter Try.func13, Try.ntmps13
    go_wp2
    go_ret
    exact ⟨rfl, Below.refl _ _⟩
  · go_enter Try.func13, Try.ntmps13
    go_wp2_with fail
    refine (drawRootMod_any _ len0 _ HC.out).mono ?_
    rintro e w1 ⟨n, m, rfl, ⟨⟨n1, n2⟩, m1, m2⟩, hb⟩
    cases hV : (okN n && inR m 1 5000) with
    | false =>
      have P := hid (rootV_no hV)
      clear hV
      go_wp2_with (first | (go_at_call 34; refine (rootMod_any _ _ _).mono ?_; rw [P.out]; rintro e w' ⟨rfl, rfl⟩) | (go_at_call 48; refine (rootModS_any _ _ _).mono ?_; rw [P.out]; rintro e w' ⟨rfl, rfl⟩))
      go_ret
      exact ⟨rfl, hb⟩
    | true =>
      have hm : 1 ≤ m ∧ m ≤ 5000 := by simp [inR] at hV; omega
      obtain ⟨M, rfl⟩ := Int.eq_ofNat_of_zero_le (show 0 ≤ m by omega)
      obtain ⟨B, hB⟩ := Int.eq_ofNat_of_zero_le (Int.emod_nonneg n (show (M : Int) ≠ 0 by omega))
      have P := rootV_yes hV
      have HB := hid hB
      rw [hB] at P
      simp only [Int.toNat_natCast] at P
      clear hV hB
      cases hF : rootF B M with
      | none =>
        rw [hF] at P
        have P2 : Hid (rootV n M = .tuple #[.int .i64 0, .bool false]) := P
        clear P hF
        go_wp2_with (first | (go_at_call 34; refine (rootMod_any _ _ _).mono ?_; rw [P2.out]; rintro e w' ⟨rfl, rfl⟩) | (go_at_call 48; refine (rootModS_any _ _ _).mono ?_; rw [P2.out]; rintro e w' ⟨rfl, rfl⟩))
        go_ret
        exact ⟨rfl, hb⟩
      | some x =>
        rw [hF] at P
        have P2 : Hid (rootV n M = .tuple #[.int .i64 x, .bool true]) := P
        have hs := List.find?_range_eq_some.1 hF
        have hxM : x < M := List.mem_range.1 hs.2.1
        have hxr : x * x % M = B := by simpa using hs.1
        have hxl : ∀ j, j < x → j * j % M ≠ B := fun j hj e => by simpa [e] using hs.2.2 j hj
        have hhalf := least_half hxM hxr hxl
        have HL := hid hxl
        have HX := hid hxr
        have hxx := mul_bd (show x ≤ 5000 by omega) (show x ≤ 5000 by omega)
        have T1 : (((x : Int) * x - n) % M == 0) = true := by
          rw [emod_sub_eqz, HB.out, beq_iff_eq]; exact_mod_cast hxr
        have hh : (2 : Int) * x ≤ M := by omega
        clear P hF hs hxl hxr
        go_wp2_with (first | (go_at_call 34; refine (rootMod_any _ _ _).mono ?_; rw [P2.out]; rintro e w' ⟨rfl, rfl⟩) | (go_at_call 48; refine (rootModS_any _ _ _).mono ?_; rw [P2.out]; rintro e w' ⟨rfl, rfl⟩))
        go_loop [9] (fun k => ∃ K : Nat, k = .int .i64 K ∧ K ≤ x) (fun k => x - (intOf k).toNat)
        case atStart => exact ⟨0, rfl, by omega⟩
        case round =>
          obtain ⟨K, rfl, hK⟩ := hrel
          have hKK := mul_bd (show K ≤ 5000 by omega) (show K ≤ 5000 by omega)
          by_cases hlt : K < x
          · have T2 : (((K : Int) * K - n) % M == 0) = false := by
              rw [emod_sub_eqz, HB.out, beq_eq_false_iff_ne]
              have := HL.out K hlt
              exact_mod_cast this
            go_wp2_with (go_at_call 37; refine (restOf_any _ _ (by omega) (by omega) (by omega) (by omega) _).mono ?_; rintro e w' ⟨rfl, rfl⟩)
            go_round
            case rel => exact ⟨K + 1, by go_num, by omega⟩
            case measure => simp only [intOf]; omega
          · go_wp2_with (go_at_call 37; refine (restOf_any _ _ (by omega) (by omega) (by omega) (by omega) _).mono ?_; rintro e w' ⟨rfl, rfl⟩)
            go_ret
            exact ⟨rfl, hb⟩
theorem own : ownKnob Try.prog.godebug = none := by kernel_rfl
theorem laidOut : laidOutB Try.prog = true := by kernel_rfl
set_option maxRecDepth 100000 in
theorem lifted (os : Os) (started : os.Started) (H : Type) (enc : TypeId × Value → H) :
    ReturnsInHanded {} Try.checked os 13 .any (Rows.fnRootSpec.pre6 enc Try.prog Try.f13 Rows.fnRootRow.domain false) (Rows.fnRootSpec.post enc Try.prog Try.f13 false true false false) := by
  refine returnsInHanded_of_change (C := Try.checked) own started (by kernel_rfl) Try.func13
    (ChangeSpec.witness6 (enc := enc) (C := Try.checked) false ⟨#[], #[.slice none 0 0], []⟩ 8 (by kernel_rfl) (by kernel_rfl) (by kernel_rfl) (by kernel_rfl)) ?_
  intro W base args ds gs before hval0 hW hcnd _
  have hval : ∀ (j : Nat) t v, Try.f13.params[j]? = some t → args[j]? = some v → Value.okWide Try.prog W .any base t v := hval0
  have hW' := hW
  obtain ⟨p, q, hA0, hV, rfl, hfz, hnd⟩ := hW
  have hA : DataW.TrodAll enc Try.prog W 0 (fun _ => true) true Try.f13.params.toList args.toList ds p := hA0
  rw [Try.params13] at hA hval
  obtain ⟨v0, vs0, d0, ds0, p0, q0, hargs, rfl, rfl, h0, r0⟩ := trodAll_cons hA
  obtain ⟨rfl, rfl, rfl⟩ := trodAll_nil r0
  obtain rfl : args = #[v0] := by cases args; simp_all
  obtain ⟨rfl, rfl⟩ := trodVars_none hV
  obtain ⟨a0, len0, cap0, rfl⟩ := okWide_slice Try.underlying22 (hval 0 22 v0 rfl rfl)
  have k0 := h0
  have lt0 : ∀ x ∈ p0, x.block < W.heap.size := by obtain ⟨m, hm⟩ := k0; exact DataW.trod_lt m _ _ _ hm
  obtain ⟨z0, w0⟩ : ∃ zs, IsRow .u8 W a0 len0 cap0 zs := by
    obtain ⟨fuel, hf⟩ := h0
    rcases open_ints Try.underlying22 Try.underlying5 (by kernel_rfl) hf with ⟨hcs, _⟩ | ⟨x, l, c, zs, hcs, _, hl, hm, hz, _, hcell, hwz⟩
    · simp [Value.cells] at hcs
      obtain ⟨rfl, rfl, rfl⟩ := hcs
      exact ⟨[], .inl ⟨rfl, rfl, rfl, rfl⟩⟩
    · simp [Value.cells] at hcs
      obtain ⟨rfl, rfl, rfl⟩ := hcs
      exact ⟨zs, .inr ⟨_, rfl, hl, hm, by simpa using hz, hcell, hwz⟩⟩
  clear hA0 hval0
  refine (walk a0 len0 cap0 z0 W w0).mono fun e W' ⟨he, bel⟩ => ?_
  subst he
  exact ⟨_, rfl, _, _, _, [], _, [], hW', trodAll_mk1 (shut_bool Try.underlying4 _), (trodAll_cons_mk (Below.trod laidOut (by kernel_rfl) (of_decide_eq_true (by kernel_rfl)) k0 bel lt0) trodAll_mk0), rfl, bel.frame _, fun h => by cases h⟩
theorem over : Rows.fnRootRow.holds Try.pinned (OpenSpec.ofChange Rows.fnRootSpec) :=
  OpenClaim.holds_of_wide 13 Try.f13 rfl rfl rfl rfl rfl rfl rfl ⟨rfl, rfl, rfl, rfl, rfl⟩ rfl rfl rfl rfl rfl (by kernel_rfl) Try.func13 (by kernel_rfl)
    (of_decide_eq_true (by kernel_rfl)) (by unfold Func.isWrapper; first | (rw [if_pos (by decide +kernel)]; kernel_rfl) | (rw [if_neg (by decide +kernel)]; exact ⟨rfl, rfl⟩))
    (fun os started H enc _ => lifted os started H enc)
theorem proved : Rows.FnRootSaid := over
end Go.Proofs.Ytehjiejijlboeaa.fnRoot
