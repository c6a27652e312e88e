/-
  Proves: for every two codes: a number has a root up to an odd prime exactly where ResidueIs is not -1, and ResidueIs multiplies.
  Conditions: none beyond the given statement's own.
-/
import Derived.Test.YtehjiejijlboeaaRows
import Derived.Test.YtehjiejijlboeaaLawMath2
import Derived.Test.YtehjiejijlboeaaDraws1
import Derived.Test.YtehjiejijlboeaaRowWord
import Derived.ProofKit
import Derived.OpenShut
import Derived.ShutString
import Derived.ChangeOld
namespace Go.Proofs.Ytehjiejijlboeaa.fnResidue
open Go.ChangeShapes Go.WideShapes Go.ChangeAt Go.RowKit
open Go.ChangeMaps (open_string shut_string)
set_option linter.unusedVariables false
set_option maxRecDepth 100000 in
set_option maxHeartbeats 1000000 in
theorem walk (a0 : Option Addr) (len0 cap0 : Nat) (z0 : List Int) (a1 : Option Addr) (len1 cap1 : Nat) (z1 : List Int) (w : World) (w0 : IsRow .u8 w a0 len0 cap0 z0) (w1 : IsRow .u8 w a1 len1 cap1 z1) :
    Calls Try.prog 10 #[.slice a0 len0 cap0, .slice a1 len1 cap1] w fun e w' => e = .returned (.bool true) ∧ Below w.heap.size w w' := by
  have HC := hid (codeIn_of w0)
  clear w0 w1
  by_cases hl : (1048576 : Int) < (len0 : Int)
  · go_enter Try.func10, Try.ntmps10
    go_wp2
    go_ret
    exact ⟨rfl, Below.refl _ _⟩
  by_cases hl1 : (1048576 : Int) < (len1 : Int)
  · go_enter Try.func10, Try.ntmps10
    go_wp2
    go_ret
    exact ⟨rfl, Below.refl _ _⟩
  · go_enter Try.func10, Try.ntmps10
    go_wp2_with fail
    refine (drawResidueIs_any _ len0 _ HC.out).mono ?_
    rintro e w1 ⟨n, p, rfl, ⟨hn, hp⟩, hb⟩
    have hn2 := numOk_small hn
    have hp2 := prOk_small hp
    have n1 := hn2.1
    have n2 := hn2.2
    have p1 := hp2.1
    have p2 := hp2.2
    have HP := hid hp
    clear hn hp hn2 hp2
    cases hV : (okN n && oddP p) with
    | false =>
      have P : Hid (resV n p = -2) := hid (resV_no (by rw [Bool.and_eq_false_iff] at hV; exact hV))
      clear hV
      go_wp2_with fail
      refine (residueIs_any n p _).mono ?_
      rw [P.out]
      rintro e w' ⟨rfl, hb1⟩
      go_wp2_with fail
      refine (residueIsS_any n p _).mono ?_
      rw [P.out]
      rintro e w' ⟨rfl, rfl⟩
      go_wp2
      go_ret
      exact ⟨rfl, hb.trans (hb1.mono hb.size)⟩
    | true =>
      rw [Bool.and_eq_true] at hV
      obtain ⟨hO, hQ⟩ := hV
      have hcs := odd_drawn HP.out hQ
      have hpN : primeN p.toNat = true := by
        rcases oddP_cases p with ⟨_, _, _, h, _⟩ | ⟨_, h⟩ | ⟨_, _, h⟩
        · exact h
        · rw [hQ] at h; cases h
        · rw [hQ] at h; cases h
      obtain ⟨Q, rfl⟩ := Int.eq_ofNat_of_zero_le (show 0 ≤ p by omega)
      have hQ3 : 3 ≤ Q := by omega
      rw [Int.toNat_natCast] at hpN
      have hres : ∀ x : Int, okN x = true → resV x (Q : Int) = resN (x % (Q : Int)).toNat Q := fun x hx => by rw [resV_yes hx hQ, Int.toNat_natCast]
      obtain ⟨K, hK⟩ : ∃ K : Int, K = 1 + (len1 : Int) % 9 := ⟨_, rfl⟩
      have hK1 : 1 ≤ K ∧ K ≤ 9 := by omega
      have k1 := hK1.1
      have k2 := hK1.2
      obtain ⟨o, ho⟩ : ∃ o, o = resN (n % (Q : Int)).toNat Q := ⟨_, rfl⟩
      obtain ⟨x, hx⟩ : ∃ x, x = resN (K % (Q : Int)).toNat Q := ⟨_, rfl⟩
      have so := resN_small hpN hQ3 (n % (Q : Int)).toNat
      have sx := resN_small hpN hQ3 (K % (Q : Int)).toNat
      rw [← ho] at so
      rw [← hx] at sx
      have so1 := so.1
      have so2 := so.2
      have sm := small_mul so.1 so.2 sx.1 sx.2
      have P : Hid (resV n (Q : Int) = o) := by show _ = _; rw [hres n hO, ho]
      have PX : Hid (resV K (Q : Int) = x) := by show _ = _; rw [hres K (okN_iff.2 ⟨by omega, by omega⟩), hx]
      obtain ⟨y, hy⟩ : ∃ y, y = resV (n * K) (Q : Int) := ⟨_, rfl⟩
      have HY := hid hy
      have M : y = -2 ∨ y = o * x := by
        cases hf : okN (n * K) with
        | false => left; rw [hy]; exact resV_no (.inl hf)
        | true => right; rw [hy, hres _ hf, resN_mulI hpN hQ3, ← ho, ← hx]
      have hnK : -60000 ≤ n * K ∧ n * K ≤ 60000 := by
        have h1 : (n * K).natAbs ≤ 5001 * 9 := by rw [Int.natAbs_mul]; exact Nat.mul_le_mul (by omega) (by omega)
        omega
      have nK1 := hnK.1
      have nK2 := hnK.2
      have hB0 := Int.emod_nonneg n (show (Q : Int) ≠ 0 by omega)
      have hB1 := Int.emod_lt_of_pos n (show (0 : Int) < (Q : Int) by omega)
      have hes := euler_small (p := Q) (r := (n % (Q : Int)).toNat) (by omega) (by omega)
      rw [← ho] at hes
      have hrt : rootV n (Q : Int) = optV (rootF (n % (Q : Int)).toNat Q) := by
        rw [rootV_yes (by rw [hO]; simp [inR]; omega), Int.toNat_natCast]
      obtain ⟨rt, hrt2⟩ : ∃ rt, rt = rootF (n % (Q : Int)).toNat Q := ⟨_, rfl⟩
      rw [← hrt2] at hrt hes
      have hform : ∃ z : Int, rootV n (Q : Int) = .tuple #[.int .i64 z, .bool (o != -1)] := by
        rw [hrt, ← hes.1]
        cases rt with
        | none => exact ⟨0, rfl⟩
        | some z => exact ⟨z, rfl⟩
      obtain ⟨z, hz⟩ := hform
      have HZ := hid hz
      have T := tmod_eqz (L := n) (p := (Q : Int)) (by omega)
      have hT : (n.tmod (Q : Int) == 0) = (o == 0) := by
        rw [hes.2, T]
        have e1 : n.natAbs % Q = 0 ↔ (n % (Q : Int)).toNat = 0 := by
          rw [← Nat.dvd_iff_mod_eq_zero]
          constructor
          · intro h
            have h2 : (Q : Int) ∣ n := by rw [← Int.natAbs_dvd_natAbs, Int.natAbs_natCast]; exact h
            rw [Int.emod_eq_zero_of_dvd h2]; rfl
          · intro h
            have h2 : n % (Q : Int) = 0 := by omega
            have h3 := Int.dvd_of_emod_eq_zero h2
            rw [← Int.natAbs_dvd_natAbs, Int.natAbs_natCast] at h3
            exact h3
        rw [Int.toNat_natCast]
        exact decide_eq_decide.2 e1
      have To : (o == -2) = false := by rw [beq_eq_false_iff_ne]; omega
      have Tm : ((o * x) == -2) = false := by rw [beq_eq_false_iff_ne]; omega
      have hKe : 1 + (len1 : Int) % 9 = K := hK.symm
      have hcase : o = -1 ∨ o = 0 ∨ o = 1 := by omega
      clear hK hy ho hx hrt hrt2 hes hz T hpN hres so sx hnK hK1 hB0 hB1 hcs hO hQ
      have HT := hid hT
      clear hT
      go_wp2_with fail
      refine (residueIs_any n Q _).mono ?_
      rw [P.out]
      rintro e w' ⟨rfl, hb1⟩
      go_wp2_with fail
      refine (residueIsS_any n Q _).mono ?_
      rw [P.out]
      rintro e w' ⟨rfl, rfl⟩
      go_wp2_with fail
      refine (rootMod_any n Q _).mono ?_
      rw [HZ.out]
      rintro e w' ⟨rfl, rfl⟩
      go_wp2_with fail
      refine (residueIs_any K Q _).mono ?_
      rw [PX.out]
      rintro e w' ⟨rfl, hb2⟩
      go_wp2_with fail
      refine (residueIs_any (n * K) Q _).mono ?_
      rw [← HY.out]
      rintro e w' ⟨rfl, hb3⟩
      have hB := (hb.trans (hb1.mono hb.size)).trans (hb2.mono (Nat.le_trans hb.size hb1.size)) |>.trans (hb3.mono (Nat.le_trans (Nat.le_trans hb.size hb1.size) hb2.size))
      rcases hcase with rfl | rfl | rfl <;> rcases M with rfl | rfl
      all_goals
        have hT := HT.out
        simp at hT
        go_wp2
        go_ret
        exact ⟨retB (by simp [hT]), hB⟩
theorem own : ownKnob Try.prog.godebug = none := by kernel_rfl
theorem laidOut : laidOutB Try.prog = true := by kernel_rfl
set_option maxRecDepth 100000 in
theorem lifted (os : Os) (started : os.Started) (H : Type) (enc : TypeId × Value → H) :
    ReturnsInHanded {} Try.checked os 10 .any (Rows.fnResidueSpec.pre6 enc Try.prog Try.f10 Rows.fnResidueRow.domain false) (Rows.fnResidueSpec.post enc Try.prog Try.f10 false true false false) := by
  refine returnsInHanded_of_change (C := Try.checked) own started (by kernel_rfl) Try.func10
    (ChangeSpec.witness6 (enc := enc) (C := Try.checked) false ⟨#[], #[.slice none 0 0, .slice none 0 0], []⟩ 8 (by kernel_rfl) (by kernel_rfl) (by kernel_rfl) (by kernel_rfl)) ?_
  intro W base args ds gs before hval0 hW hcnd _
  have hval : ∀ (j : Nat) t v, Try.f10.params[j]? = some t → args[j]? = some v → Value.okWide Try.prog W .any base t v := hval0
  have hW' := hW
  obtain ⟨p, q, hA0, hV, rfl, hfz, hnd⟩ := hW
  have hA : DataW.TrodAll enc Try.prog W 0 (fun _ => true) true Try.f10.params.toList args.toList ds p := hA0
  rw [Try.params10] at hA hval
  obtain ⟨v0, vs0, d0, ds0, p0, q0, hargs, rfl, rfl, h0, r0⟩ := trodAll_cons hA
  obtain ⟨v1, vs1, d1, ds1, p1, q1, rfl, rfl, rfl, h1, r1⟩ := trodAll_cons r0
  obtain ⟨rfl, rfl, rfl⟩ := trodAll_nil r1
  obtain rfl : args = #[v0, v1] := by cases args; simp_all
  obtain ⟨rfl, rfl⟩ := trodVars_none hV
  obtain ⟨a0, len0, cap0, rfl⟩ := okWide_slice Try.underlying22 (hval 0 22 v0 rfl rfl)
  have k0 := h0
  have lt0 : ∀ x ∈ p0, x.block < W.heap.size := by obtain ⟨m, hm⟩ := k0; exact DataW.trod_lt m _ _ _ hm
  obtain ⟨z0, w0⟩ : ∃ zs, IsRow .u8 W a0 len0 cap0 zs := by
    obtain ⟨fuel, hf⟩ := h0
    rcases open_ints Try.underlying22 Try.underlying5 (by kernel_rfl) hf with ⟨hcs, _⟩ | ⟨x, l, c, zs, hcs, _, hl, hm, hz, _, hcell, hwz⟩
    · simp [Value.cells] at hcs
      obtain ⟨rfl, rfl, rfl⟩ := hcs
      exact ⟨[], .inl ⟨rfl, rfl, rfl, rfl⟩⟩
    · simp [Value.cells] at hcs
      obtain ⟨rfl, rfl, rfl⟩ := hcs
      exact ⟨zs, .inr ⟨_, rfl, hl, hm, by simpa using hz, hcell, hwz⟩⟩
  obtain ⟨a1, len1, cap1, rfl⟩ := okWide_slice Try.underlying22 (hval 1 22 v1 rfl rfl)
  have k1 := h1
  have lt1 : ∀ x ∈ p1, x.block < W.heap.size := by obtain ⟨m, hm⟩ := k1; exact DataW.trod_lt m _ _ _ hm
  obtain ⟨z1, w1⟩ : ∃ zs, IsRow .u8 W a1 len1 cap1 zs := by
    obtain ⟨fuel, hf⟩ := h1
    rcases open_ints Try.underlying22 Try.underlying5 (by kernel_rfl) hf with ⟨hcs, _⟩ | ⟨x, l, c, zs, hcs, _, hl, hm, hz, _, hcell, hwz⟩
    · simp [Value.cells] at hcs
      obtain ⟨rfl, rfl, rfl⟩ := hcs
      exact ⟨[], .inl ⟨rfl, rfl, rfl, rfl⟩⟩
    · simp [Value.cells] at hcs
      obtain ⟨rfl, rfl, rfl⟩ := hcs
      exact ⟨zs, .inr ⟨_, rfl, hl, hm, by simpa using hz, hcell, hwz⟩⟩
  clear hA0 hval0
  refine (walk a0 len0 cap0 z0 a1 len1 cap1 z1 W w0 w1).mono fun e W' ⟨he, bel⟩ => ?_
  subst he
  exact ⟨_, rfl, _, _, _, [], _, [], hW', trodAll_mk1 (shut_bool Try.underlying4 _), (trodAll_cons_mk (Below.trod laidOut (by kernel_rfl) (of_decide_eq_true (by kernel_rfl)) k0 bel lt0) (trodAll_cons_mk (Below.trod laidOut (by kernel_rfl) (of_decide_eq_true (by kernel_rfl)) k1 bel lt1) trodAll_mk0)), rfl, bel.frame _, fun h => by cases h⟩
theorem over : Rows.fnResidueRow.holds Try.pinned (OpenSpec.ofChange Rows.fnResidueSpec) :=
  OpenClaim.holds_of_wide 10 Try.f10 rfl rfl rfl rfl rfl rfl rfl ⟨rfl, rfl, rfl, rfl, rfl⟩ rfl rfl rfl rfl rfl (by kernel_rfl) Try.func10 (by kernel_rfl)
    (of_decide_eq_true (by kernel_rfl)) (by unfold Func.isWrapper; first | (rw [if_pos (by decide +kernel)]; kernel_rfl) | (rw [if_neg (by decide +kernel)]; exact ⟨rfl, rfl⟩))
    (fun os started H enc _ => lifted os started H enc)
theorem proved : Rows.FnResidueSaid := over
end Go.Proofs.Ytehjiejijlboeaa.fnResidue
