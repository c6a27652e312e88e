/-
  Proves: for every two codes: Jacobi's symbol is the same for the number plus the odd one, multiplies, and is told for -1 by the rest by 4 and for 2 by that by 8.
  Conditions: none beyond the given statement's own.
-/
import Derived.Test.YtehjiejijlboeaaRows
import Derived.Test.YtehjiejijlboeaaLawMath2
import Derived.Test.YtehjiejijlboeaaJac2
import Derived.Test.YtehjiejijlboeaaDraws1
import Derived.Test.YtehjiejijlboeaaRowWord
import Derived.ProofKit
import Derived.OpenShut
import Derived.ShutString
import Derived.ChangeOld
namespace Go.Proofs.Ytehjiejijlboeaa.fnJacobi
open Go.ChangeShapes Go.WideShapes Go.ChangeAt Go.RowKit
open Go.ChangeMaps (open_string shut_string)
set_option linter.unusedVariables false
set_option maxRecDepth 100000 in
set_option maxHeartbeats 2000000 in
theorem walk (a0 : Option Addr) (len0 cap0 : Nat) (z0 : List Int) (a1 : Option Addr) (len1 cap1 : Nat) (z1 : List Int) (w : World) (w0 : IsRow .u8 w a0 len0 cap0 z0) (w1 : IsRow .u8 w a1 len1 cap1 z1) :
    Calls Try.prog 12 #[.slice a0 len0 cap0, .slice a1 len1 cap1] w fun e w' => e = .returned (.bool true) ∧ Below w.heap.size w w' := by
  have HC := hid (codeIn_of w0)
  clear w0 w1
  by_cases hl : (1048576 : Int) < (len0 : Int)
  · go_enter Try.func12, Try.ntmps12
    go_wp2
    go_ret
    exact ⟨rfl, Below.refl _ _⟩
  by_cases hl1 : (1048576 : Int) < (len1 : Int)
  · go_enter Try.func12, Try.ntmps12
    go_wp2
    go_ret
    exact ⟨rfl, Below.refl _ _⟩
  · go_enter Try.func12, Try.ntmps12
    go_wp2_with fail
    refine (drawJacobiOf_any _ len0 _ HC.out).mono ?_
    rintro e w1 ⟨n, m, rfl, ⟨hn, m1, m2⟩, hb⟩
    have hn2 := numOk_small hn
    have n1 := hn2.1
    have n2 := hn2.2
    clear hn hn2
    cases hV : jacOk n m with
    | false =>
      have P := hid (jacV_no hV)
      clear hV
      go_wp2_with fail
      refine (jacobi_any n m _).mono ?_
      rw [P.out]
      rintro e w' ⟨rfl, hb1⟩
      go_wp2_with fail
      refine (jacobiS_any n m _).mono ?_
      rw [P.out]
      rintro e w' ⟨rfl, hb2⟩
      go_wp2
      go_ret
      exact ⟨rfl, (hb.trans (hb1.mono hb.size)).trans (hb2.mono (Nat.le_trans hb.size hb1.size))⟩
    | true =>
      have hx : okN n = true ∧ 1 ≤ m ∧ m % 2 = 1 := by
        simp [jacOk, inR] at hV; exact ⟨hV.1, by omega, by omega⟩
      obtain ⟨hO, mm1, modd⟩ := hx
      obtain ⟨M, rfl⟩ := Int.eq_ofNat_of_zero_le m1
      have hM1 : 1 ≤ M := by omega
      have hM2 : M ≤ 5000 := by omega
      have hMo : M % 2 = 1 := by omega
      have hjac : ∀ x : Int, okN x = true → jacV x (M : Int) = jacF x (ppow M) := fun x hx => by
        rw [jacV_yes (by unfold jacOk; rw [hx]; simp [inR]; omega), Int.toNat_natCast]
      have hno : ∀ x : Int, okN x = false → jacV x (M : Int) = -2 := fun x hx => jacV_no (by simp [jacOk, hx])
      have hsm : ∀ x : Int, okN x = true → -1 ≤ jacF x (ppow M) ∧ jacF x (ppow M) ≤ 1 := fun x hx => jacF_small hx hM1 hM2 hMo (List.prefix_refl _)
      obtain ⟨K, hK⟩ : ∃ K : Int, K = 1 + (len1 : Int) % 12 := ⟨_, rfl⟩
      have hK1 : 1 ≤ K ∧ K ≤ 12 := by omega
      have k1 := hK1.1
      have k2 := hK1.2
      have okK : okN K = true := okN_iff.2 ⟨by omega, by omega⟩
      obtain ⟨o, ho⟩ : ∃ o, o = jacF n (ppow M) := ⟨_, rfl⟩
      obtain ⟨x, hx⟩ : ∃ x, x = jacF K (ppow M) := ⟨_, rfl⟩
      have so := hsm n hO
      have sx := hsm K okK
      rw [← ho] at so
      rw [← hx] at sx
      have so1 := so.1
      have so2 := so.2
      have sm := small_mul so.1 so.2 sx.1 sx.2
      have sm1 := sm.1
      have sm2 := sm.2
      have P : Hid (jacV n (M : Int) = o) := by show _ = _; rw [hjac n hO, ho]
      have PX : Hid (jacV K (M : Int) = x) := by show _ = _; rw [hjac K okK, hx]
      obtain ⟨a, ha⟩ : ∃ a, a = jacV (n + (M : Int)) (M : Int) := ⟨_, rfl⟩
      obtain ⟨c, hc⟩ : ∃ c, c = jacV (n * K) (M : Int) := ⟨_, rfl⟩
      have MA : a = -2 ∨ a = o := by
        cases hf : okN (n + (M : Int)) with
        | false => left; rw [ha]; exact hno _ hf
        | true => right; rw [ha, hjac _ hf, jac_period hM1 hM2, ← ho]
      have MC : c = -2 ∨ c = o * x := by
        cases hf : okN (n * K) with
        | false => left; rw [hc]; exact hno _ hf
        | true => right; rw [hc, hjac _ hf, jac_mul hM1 hM2 hMo, ← ho, ← hx]
      have hs := supp (m := M) (by omega) hMo
      obtain ⟨j1, hj1⟩ : ∃ j1, j1 = jacV (-1) (M : Int) := ⟨_, rfl⟩
      obtain ⟨j2, hj2⟩ : ∃ j2, j2 = jacV 2 (M : Int) := ⟨_, rfl⟩
      have S1 : (j1 == 1) = decide (M % 4 = 1) := by rw [hj1, hjac _ rfl]; exact hs.1
      have S2 : (j2 == 1) = (decide (M % 8 = 1) || decide (M % 8 = 7)) := by rw [hj2, hjac _ rfl]; exact hs.2
      have HA := hid ha
      have HCC := hid hc
      have H1 := hid hj1
      have H2 := hid hj2
      have hnK : -70000 ≤ n * K ∧ n * K ≤ 70000 := by
        have h1 : (n * K).natAbs ≤ 5001 * 12 := by rw [Int.natAbs_mul]; exact Nat.mul_le_mul (by omega) (by omega)
        omega
      have nK1 := hnK.1
      have nK2 := hnK.2
      have To : (o == -2) = false := by rw [beq_eq_false_iff_ne]; omega
      have Tm : ((o * x) == -2) = false := by rw [beq_eq_false_iff_ne]; omega
      have hKe : 1 + (len1 : Int) % 12 = K := hK.symm
      have G1 := hid S1
      have G2 := hid S2
      clear hK ho hx ha hc hj1 hj2 hs hsm hno hjac so sx sm hnK hK1 hV modd okK hO S1 S2
      go_wp2_with fail
      refine (jacobi_any n M _).mono ?_
      rw [P.out]
      rintro e w' ⟨rfl, hb1⟩
      go_wp2_with fail
      refine (jacobiS_any n M _).mono ?_
      rw [P.out]
      rintro e w' ⟨rfl, hb2⟩
      go_wp2_with fail
      refine (jacobi_any (n + (M : Int)) M _).mono ?_
      rw [← HA.out]
      rintro e w' ⟨rfl, hb3⟩
      go_wp2_with fail
      refine (jacobi_any K M _).mono ?_
      rw [PX.out]
      rintro e w' ⟨rfl, hb4⟩
      go_wp2_with fail
      refine (jacobi_any (n * K) M _).mono ?_
      rw [← HCC.out]
      rintro e w' ⟨rfl, hb5⟩
      go_wp2_with fail
      refine (jacobi_any (-1) M _).mono ?_
      rw [← H1.out]
      rintro e w' ⟨rfl, hb6⟩
      go_wp2_with fail
      refine (jacobi_any 2 M _).mono ?_
      rw [← H2.out]
      rintro e w' ⟨rfl, hb7⟩
      have s1 := Nat.le_trans hb.size hb1.size
      have s2 := Nat.le_trans s1 hb2.size
      have s3 := Nat.le_trans s2 hb3.size
      have s4 := Nat.le_trans s3 hb4.size
      have s5 := Nat.le_trans s4 hb5.size
      have s6 := Nat.le_trans s5 hb6.size
      have hB := hid (((((((hb.trans (hb1.mono hb.size)).trans (hb2.mono s1)).trans (hb3.mono s2)).trans (hb4.mono s3)).trans (hb5.mono s4)).trans (hb6.mono s5)).trans (hb7.mono s6))
      clear s1 s2 s3 s4 s5 s6 hb hb1 hb2 hb3 hb4 hb5 hb6 hb7
      have h8 : M % 8 = 1 ∨ M % 8 = 3 ∨ M % 8 = 5 ∨ M % 8 = 7 := by omega
      rcases h8 with h8 | h8 | h8 | h8
      all_goals
        have e4 : (M : Int) % 4 = ((M % 8 % 4 : Nat) : Int) := by omega
        have e8 : (M : Int) % 8 = ((M % 8 : Nat) : Int) := by omega
        have g1 := G1.out
        have g2 := G2.out
        rw [show M % 4 = M % 8 % 4 by omega] at g1
        rw [h8] at e4 e8 g1 g2
        simp at e4 e8 g1 g2
        clear h8
        rcases MA with rfl | rfl <;> rcases MC with rfl | rfl
        all_goals
          go_wp2
          go_ret
          exact ⟨retB (by simp [g1, g2]), hB.out⟩
theorem own : ownKnob Try.prog.godebug = none := by kernel_rfl
theorem laidOut : laidOutB Try.prog = true := by kernel_rfl
set_option maxRecDepth 100000 in
theorem lifted (os : Os) (started : os.Started) (H : Type) (enc : TypeId × Value → H) :
    ReturnsInHanded {} Try.checked os 12 .any (Rows.fnJacobiSpec.pre6 enc Try.prog Try.f12 Rows.fnJacobiRow.domain false) (Rows.fnJacobiSpec.post enc Try.prog Try.f12 false true false false) := by
  refine returnsInHanded_of_change (C := Try.checked) own started (by kernel_rfl) Try.func12
    (ChangeSpec.witness6 (enc := enc) (C := Try.checked) false ⟨#[], #[.slice none 0 0, .slice none 0 0], []⟩ 8 (by kernel_rfl) (by kernel_rfl) (by kernel_rfl) (by kernel_rfl)) ?_
  intro W base args ds gs before hval0 hW hcnd _
  have hval : ∀ (j : Nat) t v, Try.f12.params[j]? = some t → args[j]? = some v → Value.okWide Try.prog W .any base t v := hval0
  have hW' := hW
  obtain ⟨p, q, hA0, hV, rfl, hfz, hnd⟩ := hW
  have hA : DataW.TrodAll enc Try.prog W 0 (fun _ => true) true Try.f12.params.toList args.toList ds p := hA0
  rw [Try.params12] at hA hval
  obtain ⟨v0, vs0, d0, ds0, p0, q0, hargs, rfl, rfl, h0, r0⟩ := trodAll_cons hA
  obtain ⟨v1, vs1, d1, ds1, p1, q1, rfl, rfl, rfl, h1, r1⟩ := trodAll_cons r0
  obtain ⟨rfl, rfl, rfl⟩ := trodAll_nil r1
  obtain rfl : args = #[v0, v1] := by cases args; simp_all
  obtain ⟨rfl, rfl⟩ := trodVars_none hV
  obtain ⟨a0, len0, cap0, rfl⟩ := okWide_slice Try.underlying22 (hval 0 22 v0 rfl rfl)
  have k0 := h0
  have lt0 : ∀ x ∈ p0, x.block < W.heap.size := by obtain ⟨m, hm⟩ := k0; exact DataW.trod_lt m _ _ _ hm
  obtain ⟨z0, w0⟩ : ∃ zs, IsRow .u8 W a0 len0 cap0 zs := by
    obtain ⟨fuel, hf⟩ := h0
    rcases open_ints Try.underlying22 Try.underlying5 (by kernel_rfl) hf with ⟨hcs, _⟩ | ⟨x, l, c, zs, hcs, _, hl, hm, hz, _, hcell, hwz⟩
    · simp [Value.cells] at hcs
      obtain ⟨rfl, rfl, rfl⟩ := hcs
      exact ⟨[], .inl ⟨rfl, rfl, rfl, rfl⟩⟩
    · simp [Value.cells] at hcs
      obtain ⟨rfl, rfl, rfl⟩ := hcs
      exact ⟨zs, .inr ⟨_, rfl, hl, hm, by simpa using hz, hcell, hwz⟩⟩
  obtain ⟨a1, len1, cap1, rfl⟩ := okWide_slice Try.underlying22 (hval 1 22 v1 rfl rfl)
  have k1 := h1
  have lt1 : ∀ x ∈ p1, x.block < W.heap.size := by obtain ⟨m, hm⟩ := k1; exact DataW.trod_lt m _ _ _ hm
  obtain ⟨z1, w1⟩ : ∃ zs, IsRow .u8 W a1 len1 cap1 zs := by
    obtain ⟨fuel, hf⟩ := h1
    rcases open_ints Try.underlying22 Try.underlying5 (by kernel_rfl) hf with ⟨hcs, _⟩ | ⟨x, l, c, zs, hcs, _, hl, hm, hz, _, hcell, hwz⟩
    · simp [Value.cells] at hcs
      obtain ⟨rfl, rfl, rfl⟩ := hcs
      exact ⟨[], .inl ⟨rfl, rfl, rfl, rfl⟩⟩
    · simp [Value.cells] at hcs
      obtain ⟨rfl, rfl, rfl⟩ := hcs
      exact ⟨zs, .inr ⟨_, rfl, hl, hm, by simpa using hz, hcell, hwz⟩⟩
  clear hA0 hval0
  refine (walk a0 len0 cap0 z0 a1 len1 cap1 z1 W w0 w1).mono fun e W' ⟨he, bel⟩ => ?_
  subst he
  exact ⟨_, rfl, _, _, _, [], _, [], hW', trodAll_mk1 (shut_bool Try.underlying4 _), (trodAll_cons_mk (Below.trod laidOut (by kernel_rfl) (of_decide_eq_true (by kernel_rfl)) k0 bel lt0) (trodAll_cons_mk (Below.trod laidOut (by kernel_rfl) (of_decide_eq_true (by kernel_rfl)) k1 bel lt1) trodAll_mk0)), rfl, bel.frame _, fun h => by cases h⟩
theorem over : Rows.fnJacobiRow.holds Try.pinned (OpenSpec.ofChange Rows.fnJacobiSpec) :=
  OpenClaim.holds_of_wide 12 Try.f12 rfl rfl rfl rfl rfl rfl rfl ⟨rfl, rfl, rfl, rfl, rfl⟩ rfl rfl rfl rfl rfl (by kernel_rfl) Try.func12 (by kernel_rfl)
    (of_decide_eq_true (by kernel_rfl)) (by unfold Func.isWrapper; first | (rw [if_pos (by decide +kernel)]; kernel_rfl) | (rw [if_neg (by decide +kernel)]; exact ⟨rfl, rfl⟩))
    (fun os started H enc _ => lifted os started H enc)
theorem proved : Rows.FnJacobiSaid := over
end Go.Proofs.Ytehjiejijlboeaa.fnJacobi
