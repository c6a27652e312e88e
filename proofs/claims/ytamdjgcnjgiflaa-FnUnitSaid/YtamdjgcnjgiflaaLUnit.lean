/-
  Proves: for every code: what is left behind dividing is divided no more, and times the powers it is the number.
  Conditions: none beyond the given statement's own.
-/
import Derived.Test.YtamdjgcnjgiflaaRows
import Derived.Test.YtamdjgcnjgiflaaImpC
import Derived.Test.YtamdjgcnjgiflaaLawCls
import Derived.Test.YtamdjgcnjgiflaaLists
import Derived.Test.YtamdjgcnjgiflaaSame
import Derived.Test.YtamdjgcnjgiflaaRowWord
import Derived.ProofKit
import Derived.OpenShut
import Derived.ShutString
import Derived.ChangeOld
namespace Go.Proofs.Ytamdjgcnjgiflaa.fnUnit
open Go.ChangeShapes Go.WideShapes Go.ChangeAt Go.RowKit
open Go.ChangeMaps (open_string shut_string)
set_option linter.unusedVariables false
theorem lunit_split (n p : Int) : (∃ x : Int, lunitV n p = .tuple #[.int .i64 x, .bool false]) ∨ ∃ P : Nat, p = (P : Int) ∧ primeN P = true ∧ 2 ≤ P ∧ P ≤ 5000 ∧ -5000 ≤ n ∧ n ≤ 5000 ∧ n ≠ 0 ∧ factB n = true ∧
    lunitV n p = .tuple #[.int .i64 (unitI n p), .bool true] := by
  unfold lunitV
  by_cases h : (factB n && primeI p) = true
  · rw [if_pos h]
    rw [Bool.and_eq_true] at h
    have hpb := primeI_bd h.2
    obtain ⟨P, rfl⟩ := Int.eq_ofNat_of_zero_le (show 0 ≤ p by omega)
    rcases factB_cases n with ⟨h1, h2, h0, _, hF⟩ | ⟨_, hF⟩ | ⟨_, _, hF⟩
    · exact .inr ⟨P, rfl, h.2, by omega, by omega, h1, h2, h0, hF, rfl⟩
    · rw [h.1] at hF; cases hF
    · rw [h.1] at hF; cases hF
  · rw [if_neg h]
    exact .inl ⟨0, rfl⟩

set_option maxRecDepth 100000 in
set_option maxHeartbeats 2000000 in
theorem walk  (a0 : Option Addr) (len0 cap0 : Nat) (z0 : List Int) (w : World) (w0 : IsRow .u8 w a0 len0 cap0 z0) :
    Calls Try.prog 11 #[.slice a0 len0 cap0] w fun e w' => e = .returned (.bool true) ∧ Below w.heap.size w w' := by
  have HC := hid (codeIn_of w0)
  clear w0
  by_cases hl : (1048576 : Int) < (len0 : Int)
  · go_enter Try.func11, Try.ntmps11
    go_wp2
    go_ret
    exact ⟨rfl, Below.refl _ _⟩
  · go_enter Try.func11, Try.ntmps11
    go_wp2_with fail
    refine (drawLocalUnit_any _ len0 _ HC.out).mono ?_
    rintro e w1 ⟨n, p, rfl, _, hb⟩
    rcases lunit_split n p with ⟨x, hV⟩ | ⟨P, rfl, hP, hP2, hP5, h1, h2, h0, hF, hV⟩
    · have P0 := hid hV
      clear hV
      go_wp2_with fail
      refine (localUnit_any n p _).mono ?_
      rw [P0.out]
      rintro e w' ⟨rfl, hb1⟩
      go_wp2_with fail
      refine (localUnitS_any n p _).mono ?_
      rw [P0.out]
      rintro e w' ⟨rfl, rfl⟩
      go_wp2
      go_ret
      exact ⟨rfl, hb.trans (hb1.mono hb.size)⟩
    · have hu0 := unit_ne hP h0
      have hub := unit_bd n (P : Int)
      have hue := unit_eq hP h0
      have hud := unit_dvd hP h0
      have hv := valV_yes hF (show primeI (P : Int) = true from hP)
      rw [Int.toNat_natCast] at hv
      obtain ⟨U, hU⟩ : ∃ U, U = unitI n (P : Int) := ⟨_, rfl⟩
      obtain ⟨V, hVv⟩ : ∃ V, V = val n.natAbs P := ⟨_, rfl⟩
      rw [← hU] at hu0 hub hue hud hV
      rw [← hVv] at hue hv
      obtain ⟨_, us⟩ := unit_self hP hud hu0
      have hVU : lunitV U (P : Int) = .tuple #[.int .i64 U, .bool true] := by
        unfold lunitV
        rw [factB_yes (by omega) (by omega) hu0, show primeI (P : Int) = true from hP, us]; rfl
      have hvl := val_le P hP2 _ n.natAbs (Nat.le_refl _)
      rw [← hVv] at hvl
      have hrest : (U.tmod (P : Int) == 0) = false := by
        rw [tmod_eqz (by omega), Int.toNat_natCast]
        rw [decide_eq_false (fun h => hud (Nat.dvd_of_mod_eq_zero h))]
      have hrest2 : ¬ (U.tmod (P : Int) = 0) := by rw [beq_eq_false_iff_ne] at hrest; exact hrest
      have hrest3 : (U.tmod (P : Int) != 0) = true := by rw [bne_iff_ne]; exact hrest2
      have P0 := hid hV
      have P1 := hid hVU
      have P2 := hid hv
      have HE := hid hue
      have HBD : Hid (∀ i, i ≤ V → (U * (P : Int) ^ i).natAbs ≤ 5000) := hid (fun i hi => by
        have : (U * (P : Int) ^ i).natAbs ≤ (U * (P : Int) ^ V).natAbs := by
          rw [Int.natAbs_mul, Int.natAbs_mul, Int.natAbs_pow, Int.natAbs_pow]
          exact Nat.mul_le_mul_left _ (Nat.pow_le_pow_right (by simp; omega) hi)
        rw [hue] at this
        omega)
      clear hV hVU hv hue hud hU hVv us hF hP hrest hrest2 hu0
      go_wp2_with fail
      refine (localUnit_any n P _).mono ?_
      rw [P0.out]
      rintro e w' ⟨rfl, hb1⟩
      have hB1 := hb.trans (hb1.mono hb.size)
      go_wp2_with fail
      refine (localUnitS_any n P _).mono ?_
      rw [P0.out]
      rintro e w' ⟨rfl, rfl⟩
      go_wp2_with fail
      refine (localUnit_any U P _).mono ?_
      rw [P1.out]
      rintro e w' ⟨rfl, hb2⟩
      have hB2 := hB1.trans (hb2.mono hB1.size)
      go_wp2_with fail
      refine (valuationOf_any n P _).mono ?_
      rw [P2.out]
      rintro e w' ⟨rfl, hb3⟩
      have HB3 := hid (hB2.trans (hb3.mono hB2.size))
      clear hb hb1 hb2 hb3 hB1 hB2
      rename World => w3
      go_wp2_with fail
      go_loopw [12, 13] (fun sm si wr => ∃ (i : Nat) (m : Int), si = .int .i64 i ∧ i ≤ V ∧ sm = .int .i64 m ∧ Hid (m = U * (P : Int) ^ i) ∧ wr = w3) (fun _ si _ => V - (intOf si).toNat)
      case atStart => exact ⟨0, U, rfl, by omega, rfl, hid (by simp), rfl⟩
      case round =>
        obtain ⟨i, m, rfl, hi, rfl, HM, rfl⟩ := hrel
        by_cases hlt : i < V
        · have hm2 := HBD.out (i + 1) hlt
          rw [Int.pow_succ, ← Int.mul_assoc, ← HM.out] at hm2
          have m1 : -5000 ≤ m * (P : Int) := by omega
          have m2 : m * (P : Int) ≤ 5000 := by omega
          have hi0 : (i : Int) < (V : Int) := by omega
          clear hm2
          go_wp2_with fail
          go_round
          case measure => simp only [intOf]; omega
          case rel => exact ⟨i + 1, m * (P : Int), by go_num, by omega, by go_num, hid (by rw [HM.out, Int.pow_succ, Int.mul_assoc]), by first | rfl | trivial⟩
        · obtain rfl : i = V := by omega
          have hmn : m = n := by rw [HM.out, HE.out]
          subst hmn
          clear hlt
          go_wp2
          go_ret
          exact ⟨rfl, HB3.out⟩
theorem own : ownKnob Try.prog.godebug = none := by kernel_rfl
theorem laidOut : laidOutB Try.prog = true := by kernel_rfl
set_option maxRecDepth 100000 in
theorem lifted (os : Os) (started : os.Started) (H : Type) (enc : TypeId × Value → H) :
    ReturnsInHanded {} Try.checked os 11 .any (Rows.fnUnitSpec.pre6 enc Try.prog Try.f11 Rows.fnUnitRow.domain false) (Rows.fnUnitSpec.post enc Try.prog Try.f11 false true false false) := by
  refine returnsInHanded_of_change (C := Try.checked) own started (by kernel_rfl) Try.func11
    (ChangeSpec.witness6 (enc := enc) (C := Try.checked) false ⟨#[], #[.slice none 0 0], []⟩ 8 (by kernel_rfl) (by kernel_rfl) (by kernel_rfl) (by kernel_rfl)) ?_
  intro W base args ds gs before hval0 hW hcnd _
  have hval : ∀ (j : Nat) t v, Try.f11.params[j]? = some t → args[j]? = some v → Value.okWide Try.prog W .any base t v := hval0
  have hW' := hW
  obtain ⟨p, q, hA0, hV, rfl, hfz, hnd⟩ := hW
  have hA : DataW.TrodAll enc Try.prog W 0 (fun _ => true) true Try.f11.params.toList args.toList ds p := hA0
  rw [Try.params11] at hA hval
  obtain ⟨v0, vs0, d0, ds0, p0, q0, hargs, rfl, rfl, h0, r0⟩ := trodAll_cons hA
  obtain ⟨rfl, rfl, rfl⟩ := trodAll_nil r0
  obtain rfl : args = #[v0] := by cases args; simp_all
  obtain ⟨rfl, rfl⟩ := trodVars_none hV
  obtain ⟨a0, len0, cap0, rfl⟩ := okWide_slice Try.underlying22 (hval 0 22 v0 rfl rfl)
  have k0 := h0
  have lt0 : ∀ x ∈ p0, x.block < W.heap.size := by obtain ⟨m, hm⟩ := k0; exact DataW.trod_lt m _ _ _ hm
  obtain ⟨z0, w0⟩ : ∃ zs, IsRow .u8 W a0 len0 cap0 zs := by
    obtain ⟨fuel, hf⟩ := h0
    rcases open_ints Try.underlying22 Try.underlying5 (by kernel_rfl) hf with ⟨hcs, _⟩ | ⟨x, l, c, zs, hcs, _, hl, hm, hz, _, hcell, hwz⟩
    · simp [Value.cells] at hcs
      obtain ⟨rfl, rfl, rfl⟩ := hcs
      exact ⟨[], .inl ⟨rfl, rfl, rfl, rfl⟩⟩
    · simp [Value.cells] at hcs
      obtain ⟨rfl, rfl, rfl⟩ := hcs
      exact ⟨zs, .inr ⟨_, rfl, hl, hm, by simpa using hz, hcell, hwz⟩⟩
  clear hA0 hval0
  refine (walk a0 len0 cap0 z0 W w0).mono fun e W' ⟨he, bel⟩ => ?_
  subst he
  exact ⟨_, rfl, _, _, _, [], _, [], hW', trodAll_mk1 (shut_bool Try.underlying4 _), (trodAll_cons_mk (Below.trod laidOut (by kernel_rfl) (of_decide_eq_true (by kernel_rfl)) k0 bel lt0) trodAll_mk0), rfl, bel.frame _, fun h => by cases h⟩
theorem over : Rows.fnUnitRow.holds Try.pinned (OpenSpec.ofChange Rows.fnUnitSpec) :=
  OpenClaim.holds_of_wide 11 Try.f11 rfl rfl rfl rfl rfl rfl rfl ⟨rfl, rfl, rfl, rfl, rfl⟩ rfl rfl rfl rfl rfl (by kernel_rfl) Try.func11 (by kernel_rfl)
    (of_decide_eq_true (by kernel_rfl)) (by unfold Func.isWrapper; first | (rw [if_pos (by decide +kernel)]; kernel_rfl) | (rw [if_neg (by decide +kernel)]; exact ⟨rfl, rfl⟩))
    (fun os started H enc _ => lifted os started H enc)
theorem proved : Rows.FnUnitSaid := over
end Go.Proofs.Ytamdjgcnjgiflaa.fnUnit
