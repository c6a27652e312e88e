/-
  Proves: for every code: a prime passes Fermat's test, has no divisor in common with lesser numbers, and is its only prime.
  Conditions: none beyond the given statement's own.
-/
import Derived.Test.YtehjiejijlboeaaRows
import Derived.Test.YtehjiejijlboeaaLawMath
import Derived.Test.YtehjiejijlboeaaArith3
import Derived.Test.YtehjiejijlboeaaLists
import Derived.Test.YtehjiejijlboeaaSame
import Derived.Test.YtehjiejijlboeaaDraws1
import Derived.Test.YtehjiejijlboeaaRowWord
import Derived.ProofKit
import Derived.OpenShut
import Derived.ShutString
import Derived.ChangeOld
namespace Go.Proofs.Ytehjiejijlboeaa.fnPrime
open Go.ChangeShapes Go.WideShapes Go.ChangeAt Go.RowKit
open Go.ChangeMaps (open_string shut_string)
set_option linter.unusedVariables false
theorem gcd_prime {p k : Nat} (h : primeN p = true) (hk : ¬ p ∣ k) : Nat.gcd k p = 1 := by
  have h2 := (primeN_bd h).1
  obtain ⟨c, hc⟩ := Nat.gcd_dvd_right k p
  rcases prime_mul h (show p ∣ Nat.gcd k p * c from ⟨1, by omega⟩) with h3 | h3
  · exact absurd (Nat.dvd_trans h3 (Nat.gcd_dvd_left k p)) hk
  · obtain ⟨d, hd⟩ := h3
    have e : p * 1 = p * (Nat.gcd k p * d) := by
      rw [Nat.mul_one, Nat.mul_left_comm, ← hd]; exact hc
    have e2 := Nat.eq_of_mul_eq_mul_left (by omega) e
    exact Nat.dvd_one.1 ⟨d, e2⟩

set_option maxRecDepth 100000 in
set_option maxHeartbeats 2000000 in
theorem walk (a0 : Option Addr) (len0 cap0 : Nat) (z0 : List Int) (w : World) (w0 : IsRow .u8 w a0 len0 cap0 z0) :
    Calls Try.prog 3 #[.slice a0 len0 cap0] w fun e w' => e = .returned (.bool true) ∧ Below w.heap.size w w' := by
  have HC := hid (codeIn_of w0)
  clear w0
  by_cases hl : (1048576 : Int) < (len0 : Int)
  · go_enter Try.func3, Try.ntmps3
    go_wp2
    go_ret
    exact ⟨rfl, Below.refl _ _⟩
  · go_enter Try.func3, Try.ntmps3
    go_wp2_with fail
    refine (drawPrimeIs_any _ len0 _ HC.out).mono ?_
    rintro e w1 ⟨p, rfl, ⟨p1, p2⟩, hb⟩
    cases hV : primeI p with
    | false =>
      have P := hid hV
      clear hV
      go_wp2_with fail
      refine (primeIs_any p _).mono ?_
      rw [P.out]
      rintro e w' ⟨rfl, hb1⟩
      go_wp2_with fail
      refine (primeIsS_any p _).mono ?_
      rw [P.out]
      rintro e w' ⟨rfl, rfl⟩
      go_wp2
      go_ret
      exact ⟨rfl, hb.trans (hb1.mono hb.size)⟩
    | true =>
      have P := hid hV
      have hpp := primeI_bd hV
      have hpN : primeN p.toNat = true := hV
      obtain ⟨N, rfl⟩ := Int.eq_ofNat_of_zero_le (show 0 ≤ p by omega)
      rw [Int.toNat_natCast] at hpN
      have q2 : 2 ≤ N := by omega
      have q5 : N ≤ 5000 := by omega
      have hnd : ∀ K : Nat, 1 ≤ K → K < N → ¬ N ∣ K := fun K k1 k2 hd => by have := Nat.le_of_dvd (by omega) hd; omega
      have HP : Hid (∀ K : Nat, 1 ≤ K → K < N → pmV (K : Int) ((N : Int) - 1) (N : Int) = .tuple #[.int .i64 1, .bool true]) := by
        intro K k1 k2
        rw [pmV_yes (by simp [pmB, inR, okN_iff.2 ⟨show -5000 ≤ (K : Int) by omega, by omega⟩]; omega)]
        have e1 : ((N : Int) - 1).toNat = N - 1 := by omega
        have e2 : ((K : Int) % (N : Int)).toNat = K := by rw [Int.emod_eq_of_lt (by omega) (by omega), Int.toNat_natCast]
        rw [e1, e2, Int.toNat_natCast, fermat_one hpN (hnd K k1 k2)]
        rfl
      have HG : Hid (∀ K : Nat, 1 ≤ K → K < N → gcdV (K : Int) (N : Int) = 1) := by
        intro K k1 k2
        rw [gcdV_yes (by rw [okN_iff.2 ⟨by omega, by omega⟩, okN_iff.2 ⟨by omega, by omega⟩]; rfl), Int.natAbs_natCast, Int.natAbs_natCast, gcd_prime hpN (hnd K k1 k2)]
        rfl
      have HL : Hid (natsI (if factB (N : Int) then plist (N : Int).natAbs else []) = [(N : Int)]) := by
        show _ = _
        rw [factB_yes (by omega) (by omega) (by omega), if_pos rfl, Int.natAbs_natCast, plist_prime hpN]
        rfl
      clear hV hpp hpN hnd
      go_wp2_with fail
      refine (primeIs_any N _).mono ?_
      rw [P.out]
      rintro e w' ⟨rfl, hb1⟩
      go_wp2_with fail
      refine (primeIsS_any N _).mono ?_
      rw [P.out]
      rintro e w' ⟨rfl, rfl⟩
      have hB := hb.trans (hb1.mono hb.size)
      clear hb hb1
      go_wp2_with fail
      go_loopw [6] (fun k wr => ∃ K : Nat, k = .int .i64 K ∧ 1 ≤ K ∧ K ≤ 51 ∧ Below w.heap.size w wr) (fun k _ => 60 - (intOf k).toNat)
      case atStart => exact ⟨1, rfl, by omega, by omega, hB⟩
      case round =>
        obtain ⟨K, rfl, k1, k5, hBr⟩ := hrel
        by_cases hlt : K < N ∧ K ≤ 50
        · have hk := hid (HP.out K k1 hlt.1)
          have hg := hid (HG.out K k1 hlt.1)
          have h1 := hlt.1
          have h2 := hlt.2
          clear hlt
          go_wp2_with fail
          refine (powerMod_any K ((N : Int) - 1) N _).mono ?_
          rw [hk.out]
          rintro e w' ⟨rfl, rfl⟩
          go_wp2_with fail
          refine (gcd_any K N _).mono ?_
          rw [hg.out]
          rintro e w' ⟨rfl, k, rfl⟩
          go_wp2
          go_roundw
          case rel => exact ⟨K + 1, by go_num, by omega, by omega, below_drewN hBr k⟩
          case measure => simp only [intOf]; omega
        · by_cases h1 : K < N
          · have h2 : ¬ K ≤ 50 := fun h => hlt ⟨h1, h⟩
            clear hlt
            go_wp2_with fail
            refine (primesOf_any (N : Int) _).mono ?_
            rw [HL.out]
            rintro e w4 ⟨v1, rfl, o1, b1⟩
            have O1 := hid o1
            have B4 := hid (hBr.trans (b1.mono hBr.size))
            clear o1 b1
            go_wp2_with fail
            refine (sameInts_any _ _ [(N : Int)] [(N : Int)] _ (O1.out.keep O1.out.lt ((Below.refl _ _).alloc (Nat.le_refl _) _)).rd (rd_one _ (cell_one_new _ _ _ 0 _ rfl))).mono ?_
            rintro e w5 ⟨rfl, k, rfl⟩
            go_wp2
            go_ret
            exact ⟨retB (by simp), below_drewN (B4.out.alloc B4.out.size _) k⟩
          · clear hlt
            go_wp2_with fail
            refine (primesOf_any (N : Int) _).mono ?_
            rw [HL.out]
            rintro e w4 ⟨v1, rfl, o1, b1⟩
            have O1 := hid o1
            have B4 := hid (hBr.trans (b1.mono hBr.size))
            clear o1 b1
            go_wp2_with fail
            refine (sameInts_any _ _ [(N : Int)] [(N : Int)] _ (O1.out.keep O1.out.lt ((Below.refl _ _).alloc (Nat.le_refl _) _)).rd (rd_one _ (cell_one_new _ _ _ 0 _ rfl))).mono ?_
            rintro e w5 ⟨rfl, k, rfl⟩
            go_wp2
            go_ret
            exact ⟨retB (by simp), below_drewN (B4.out.alloc B4.out.size _) k⟩
theorem own : ownKnob Try.prog.godebug = none := by kernel_rfl
theorem laidOut : laidOutB Try.prog = true := by kernel_rfl
set_option maxRecDepth 100000 in
theorem lifted (os : Os) (started : os.Started) (H : Type) (enc : TypeId × Value → H) :
    ReturnsInHanded {} Try.checked os 3 .any (Rows.fnPrimeSpec.pre6 enc Try.prog Try.f3 Rows.fnPrimeRow.domain false) (Rows.fnPrimeSpec.post enc Try.prog Try.f3 false true false false) := by
  refine returnsInHanded_of_change (C := Try.checked) own started (by kernel_rfl) Try.func3
    (ChangeSpec.witness6 (enc := enc) (C := Try.checked) false ⟨#[], #[.slice none 0 0], []⟩ 8 (by kernel_rfl) (by kernel_rfl) (by kernel_rfl) (by kernel_rfl)) ?_
  intro W base args ds gs before hval0 hW hcnd _
  have hval : ∀ (j : Nat) t v, Try.f3.params[j]? = some t → args[j]? = some v → Value.okWide Try.prog W .any base t v := hval0
  have hW' := hW
  obtain ⟨p, q, hA0, hV, rfl, hfz, hnd⟩ := hW
  have hA : DataW.TrodAll enc Try.prog W 0 (fun _ => true) true Try.f3.params.toList args.toList ds p := hA0
  rw [Try.params3] at hA hval
  obtain ⟨v0, vs0, d0, ds0, p0, q0, hargs, rfl, rfl, h0, r0⟩ := trodAll_cons hA
  obtain ⟨rfl, rfl, rfl⟩ := trodAll_nil r0
  obtain rfl : args = #[v0] := by cases args; simp_all
  obtain ⟨rfl, rfl⟩ := trodVars_none hV
  obtain ⟨a0, len0, cap0, rfl⟩ := okWide_slice Try.underlying22 (hval 0 22 v0 rfl rfl)
  have k0 := h0
  have lt0 : ∀ x ∈ p0, x.block < W.heap.size := by obtain ⟨m, hm⟩ := k0; exact DataW.trod_lt m _ _ _ hm
  obtain ⟨z0, w0⟩ : ∃ zs, IsRow .u8 W a0 len0 cap0 zs := by
    obtain ⟨fuel, hf⟩ := h0
    rcases open_ints Try.underlying22 Try.underlying5 (by kernel_rfl) hf with ⟨hcs, _⟩ | ⟨x, l, c, zs, hcs, _, hl, hm, hz, _, hcell, hwz⟩
    · simp [Value.cells] at hcs
      obtain ⟨rfl, rfl, rfl⟩ := hcs
      exact ⟨[], .inl ⟨rfl, rfl, rfl, rfl⟩⟩
    · simp [Value.cells] at hcs
      obtain ⟨rfl, rfl, rfl⟩ := hcs
      exact ⟨zs, .inr ⟨_, rfl, hl, hm, by simpa using hz, hcell, hwz⟩⟩
  clear hA0 hval0
  refine (walk a0 len0 cap0 z0 W w0).mono fun e W' ⟨he, bel⟩ => ?_
  subst he
  exact ⟨_, rfl, _, _, _, [], _, [], hW', trodAll_mk1 (shut_bool Try.underlying4 _), (trodAll_cons_mk (Below.trod laidOut (by kernel_rfl) (of_decide_eq_true (by kernel_rfl)) k0 bel lt0) trodAll_mk0), rfl, bel.frame _, fun h => by cases h⟩
theorem over : Rows.fnPrimeRow.holds Try.pinned (OpenSpec.ofChange Rows.fnPrimeSpec) :=
  OpenClaim.holds_of_wide 3 Try.f3 rfl rfl rfl rfl rfl rfl rfl ⟨rfl, rfl, rfl, rfl, rfl⟩ rfl rfl rfl rfl rfl (by kernel_rfl) Try.func3 (by kernel_rfl)
    (of_decide_eq_true (by kernel_rfl)) (by unfold Func.isWrapper; first | (rw [if_pos (by decide +kernel)]; kernel_rfl) | (rw [if_neg (by decide +kernel)]; exact ⟨rfl, rfl⟩))
    (fun os started H enc _ => lifted os started H enc)
theorem proved : Rows.FnPrimeSaid := over
end Go.Proofs.Ytehjiejijlboeaa.fnPrime
