/-
  Proves: for every code: an inverse is there only for what has no divisor in common with the modulus, and it is mutual.
  Conditions: none beyond the given statement's own.
-/
import Derived.Test.YtehjiejijlboeaaRows
import Derived.Test.YtehjiejijlboeaaLawMath
import Derived.Test.YtehjiejijlboeaaArith3
import Derived.Test.YtehjiejijlboeaaDraws1
import Derived.Test.YtehjiejijlboeaaRowWord
import Derived.ProofKit
import Derived.OpenShut
import Derived.ShutString
import Derived.ChangeOld
namespace Go.Proofs.Ytehjiejijlboeaa.fnInverse
open Go.ChangeShapes Go.WideShapes Go.ChangeAt Go.RowKit
open Go.ChangeMaps (open_string shut_string)
set_option linter.unusedVariables false
theorem inv_gcd {r m x : Nat} (h : r * x % m = 1) : Nat.gcd r m = 1 := by
  have hd : Nat.gcd r m ∣ r * x % m := (Nat.dvd_mod_iff (Nat.gcd_dvd_right r m)).2 (Nat.dvd_trans (Nat.gcd_dvd_left r m) (Nat.dvd_mul_right r x))
  rw [h] at hd
  exact Nat.dvd_one.1 hd
theorem gcd_rest {n : Int} {M B : Nat} (hM : 0 < M) (hB : n % (M : Int) = (B : Int)) : Nat.gcd n.natAbs M = Nat.gcd B M := by
  have h1 : Nat.gcd n.natAbs M ∣ B := by
    have hn : ((Nat.gcd n.natAbs M : Nat) : Int) ∣ n := by rw [← Int.natAbs_dvd_natAbs, Int.natAbs_natCast]; exact Nat.gcd_dvd_left _ _
    have hm : ((Nat.gcd n.natAbs M : Nat) : Int) ∣ (M : Int) := Int.natCast_dvd_natCast.2 (Nat.gcd_dvd_right _ _)
    have : ((Nat.gcd n.natAbs M : Nat) : Int) ∣ n % (M : Int) := by
      rw [Int.emod_def]; exact Int.dvd_sub hn (Int.dvd_mul_of_dvd_left hm)
    rw [hB] at this
    exact Int.natCast_dvd_natCast.1 this
  have h2 : Nat.gcd B M ∣ n.natAbs := by
    have hb : ((Nat.gcd B M : Nat) : Int) ∣ n % (M : Int) := by rw [hB]; exact Int.natCast_dvd_natCast.2 (Nat.gcd_dvd_left _ _)
    have hm : ((Nat.gcd B M : Nat) : Int) ∣ (M : Int) := Int.natCast_dvd_natCast.2 (Nat.gcd_dvd_right _ _)
    have : ((Nat.gcd B M : Nat) : Int) ∣ n := by
      have e := Int.mul_ediv_add_emod n (M : Int)
      rw [← e]; exact Int.dvd_add (Int.dvd_mul_of_dvd_left hm) hb
    rw [← Int.natAbs_dvd_natAbs, Int.natAbs_natCast] at this
    exact this
  exact Nat.dvd_antisymm (Nat.dvd_gcd h1 (Nat.gcd_dvd_right _ _)) (Nat.dvd_gcd h2 (Nat.gcd_dvd_right _ _))

set_option maxRecDepth 100000 in
set_option maxHeartbeats 2000000 in
theorem walk (a0 : Option Addr) (len0 cap0 : Nat) (z0 : List Int) (w : World) (w0 : IsRow .u8 w a0 len0 cap0 z0) :
    Calls Try.prog 9 #[.slice a0 len0 cap0] w fun e w' => e = .returned (.bool true) ∧ Below w.heap.size w w' := by
  have HC := hid (codeIn_of w0)
  clear w0
  by_cases hl : (1048576 : Int) < (len0 : Int)
  · go_enter Try.func9, Try.ntmps9
    go_wp2
    go_ret
    exact ⟨rfl, Below.refl _ _⟩
  · go_enter Try.func9, Try.ntmps9
    go_wp2_with fail
    refine (drawInverseMod_any _ len0 _ HC.out).mono ?_
    rintro e w1 ⟨n, m, rfl, ⟨⟨n1, n2⟩, m1, m2⟩, hb⟩
    cases hV : (okN n && inR m 2 5000) with
    | false =>
      have P := hid (invV_no hV)
      clear hV
      go_wp2_with fail
      refine (inverseMod_any n m _).mono ?_
      rw [P.out]
      rintro e w' ⟨rfl, rfl⟩
      go_wp2_with fail
      refine (inverseModS_any n m _).mono ?_
      rw [P.out]
      rintro e w' ⟨rfl, rfl⟩
      go_wp2
      go_ret
      exact ⟨rfl, hb⟩
    | true =>
      have P := invV_yes hV
      have hx : okN n = true ∧ 2 ≤ m ∧ m ≤ 5000 := by
        simp [inR] at hV; exact ⟨hV.1, by omega, by omega⟩
      obtain ⟨hO, x1, x2⟩ := hx
      obtain ⟨M, rfl⟩ := Int.eq_ofNat_of_zero_le (show 0 ≤ m by omega)
      obtain ⟨B, hB⟩ := Int.eq_ofNat_of_zero_le (Int.emod_nonneg n (show (M : Int) ≠ 0 by omega))
      have hBM : B < M := by have := Int.emod_lt_of_pos n (show (0 : Int) < M by omega); omega
      rw [hB] at P
      simp only [Int.toNat_natCast] at P
      cases hF : invF B M with
      | none =>
        rw [hF] at P
        have P2 : Hid (invV n M = .tuple #[.int .i64 0, .bool false]) := P
        clear P hF hB hV hO
        go_wp2_with fail
        refine (inverseMod_any n M _).mono ?_
        rw [P2.out]
        rintro e w' ⟨rfl, rfl⟩
        go_wp2_with fail
        refine (inverseModS_any n M _).mono ?_
        rw [P2.out]
        rintro e w' ⟨rfl, rfl⟩
        go_wp2
        go_ret
        exact ⟨rfl, hb⟩
      | some x =>
        rw [hF] at P
        have P2 : Hid (invV n M = .tuple #[.int .i64 x, .bool true]) := P
        have hs := List.find?_range_eq_some.1 hF
        have hxM : x < M := List.mem_range.1 hs.2.1
        have hxr : B * x % M = 1 := by simpa using hs.1
        have hxI : (x : Int) % (M : Int) = (x : Int) := Int.emod_eq_of_lt (by omega) (by omega)
        have PI : Hid (invV x M = .tuple #[.int .i64 B, .bool true]) := by
          show _ = _
          have hok : (okN (x : Int) && inR (M : Int) 2 5000) = true := by
            rw [okN_iff.2 ⟨by omega, by omega⟩]; simp [inR]; omega
          rw [invV_yes hok, hxI]
          simp only [Int.toNat_natCast]
          rw [invF_of hBM (by rw [Nat.mul_comm]; exact hxr)]
          rfl
        have PG : Hid (gcdV n M = 1) := by
          show _ = _
          rw [gcdV_yes (by rw [hO, okN_iff.2 ⟨by omega, by omega⟩]; rfl), Int.natAbs_natCast, gcd_rest (by omega) hB, inv_gcd hxr]
          rfl
        have HB := hid hB
        have T1 : Hid (n * (x : Int) % (M : Int) = 1) := by
          show _ = _
          rw [Int.mul_emod, hB, hxI]
          have e : ((B : Int) * (x : Int)) % (M : Int) = ((B * x % M : Nat) : Int) := by push_cast; rfl
          rw [e, hxr]; rfl
        have hnx : -40000000 ≤ n * (x : Int) ∧ n * (x : Int) ≤ 40000000 := by
          have h1 : (n * (x : Int)).natAbs ≤ 6000 * 5000 := by rw [Int.natAbs_mul]; exact Nat.mul_le_mul (by omega) (by omega)
          omega
        have h1 := hnx.1
        have h2 := hnx.2
        clear P hF hB hV hO hs hxr hxI hnx
        go_wp2_with fail
        refine (inverseMod_any n M _).mono ?_
        rw [P2.out]
        rintro e w' ⟨rfl, rfl⟩
        go_wp2_with fail
        refine (inverseModS_any n M _).mono ?_
        rw [P2.out]
        rintro e w' ⟨rfl, rfl⟩
        go_wp2_with fail
        refine (inverseMod_any x M _).mono ?_
        rw [PI.out]
        rintro e w' ⟨rfl, rfl⟩
        go_wp2_with fail
        refine (gcd_any n M _).mono ?_
        rw [PG.out]
        rintro e w' ⟨rfl, k, rfl⟩
        go_wp2_with fail
        refine (restOf_any n M (by omega) (by omega) (by omega) (by omega) _).mono ?_
        rw [HB.out]
        rintro e w' ⟨rfl, rfl⟩
        go_wp2_with fail
        refine (restOf_any _ M (by omega) (by omega) (by omega) (by omega) _).mono ?_
        rw [T1.out]
        rintro e w' ⟨rfl, rfl⟩
        go_wp2
        go_ret
        exact ⟨retB (by simp), below_drewN hb _⟩
theorem own : ownKnob Try.prog.godebug = none := by kernel_rfl
theorem laidOut : laidOutB Try.prog = true := by kernel_rfl
set_option maxRecDepth 100000 in
theorem lifted (os : Os) (started : os.Started) (H : Type) (enc : TypeId × Value → H) :
    ReturnsInHanded {} Try.checked os 9 .any (Rows.fnInverseSpec.pre6 enc Try.prog Try.f9 Rows.fnInverseRow.domain false) (Rows.fnInverseSpec.post enc Try.prog Try.f9 false true false false) := by
  refine returnsInHanded_of_change (C := Try.checked) own started (by kernel_rfl) Try.func9
    (ChangeSpec.witness6 (enc := enc) (C := Try.checked) false ⟨#[], #[.slice none 0 0], []⟩ 8 (by kernel_rfl) (by kernel_rfl) (by kernel_rfl) (by kernel_rfl)) ?_
  intro W base args ds gs before hval0 hW hcnd _
  have hval : ∀ (j : Nat) t v, Try.f9.params[j]? = some t → args[j]? = some v → Value.okWide Try.prog W .any base t v := hval0
  have hW' := hW
  obtain ⟨p, q, hA0, hV, rfl, hfz, hnd⟩ := hW
  have hA : DataW.TrodAll enc Try.prog W 0 (fun _ => true) true Try.f9.params.toList args.toList ds p := hA0
  rw [Try.params9] at hA hval
  obtain ⟨v0, vs0, d0, ds0, p0, q0, hargs, rfl, rfl, h0, r0⟩ := trodAll_cons hA
  obtain ⟨rfl, rfl, rfl⟩ := trodAll_nil r0
  obtain rfl : args = #[v0] := by cases args; simp_all
  obtain ⟨rfl, rfl⟩ := trodVars_none hV
  obtain ⟨a0, len0, cap0, rfl⟩ := okWide_slice Try.underlying22 (hval 0 22 v0 rfl rfl)
  have k0 := h0
  have lt0 : ∀ x ∈ p0, x.block < W.heap.size := by obtain ⟨m, hm⟩ := k0; exact DataW.trod_lt m _ _ _ hm
  obtain ⟨z0, w0⟩ : ∃ zs, IsRow .u8 W a0 len0 cap0 zs := by
    obtain ⟨fuel, hf⟩ := h0
    rcases open_ints Try.underlying22 Try.underlying5 (by kernel_rfl) hf with ⟨hcs, _⟩ | ⟨x, l, c, zs, hcs, _, hl, hm, hz, _, hcell, hwz⟩
    · simp [Value.cells] at hcs
      obtain ⟨rfl, rfl, rfl⟩ := hcs
      exact ⟨[], .inl ⟨rfl, rfl, rfl, rfl⟩⟩
    · simp [Value.cells] at hcs
      obtain ⟨rfl, rfl, rfl⟩ := hcs
      exact ⟨zs, .inr ⟨_, rfl, hl, hm, by simpa using hz, hcell, hwz⟩⟩
  clear hA0 hval0
  refine (walk a0 len0 cap0 z0 W w0).mono fun e W' ⟨he, bel⟩ => ?_
  subst he
  exact ⟨_, rfl, _, _, _, [], _, [], hW', trodAll_mk1 (shut_bool Try.underlying4 _), (trodAll_cons_mk (Below.trod laidOut (by kernel_rfl) (of_decide_eq_true (by kernel_rfl)) k0 bel lt0) trodAll_mk0), rfl, bel.frame _, fun h => by cases h⟩
theorem over : Rows.fnInverseRow.holds Try.pinned (OpenSpec.ofChange Rows.fnInverseSpec) :=
  OpenClaim.holds_of_wide 9 Try.f9 rfl rfl rfl rfl rfl rfl rfl ⟨rfl, rfl, rfl, rfl, rfl⟩ rfl rfl rfl rfl rfl (by kernel_rfl) Try.func9 (by kernel_rfl)
    (of_decide_eq_true (by kernel_rfl)) (by unfold Func.isWrapper; first | (rw [if_pos (by decide +kernel)]; kernel_rfl) | (rw [if_neg (by decide +kernel)]; exact ⟨rfl, rfl⟩))
    (fun os started H enc _ => lifted os started H enc)
theorem proved : Rows.FnInverseSaid := over
end Go.Proofs.Ytehjiejijlboeaa.fnInverse
