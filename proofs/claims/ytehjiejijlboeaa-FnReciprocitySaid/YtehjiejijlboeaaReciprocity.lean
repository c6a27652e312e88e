/-
  Proves: for every code: two odd numbers know of each other; the symbol is 0 exactly where a divisor is in common.
  Conditions: none beyond the given statement's own.
-/
import Derived.Test.YtehjiejijlboeaaRows
import Derived.Test.YtehjiejijlboeaaLawMath2
import Derived.Test.YtehjiejijlboeaaJac2
import Derived.Test.YtehjiejijlboeaaArith3
import Derived.Test.YtehjiejijlboeaaDraws1
import Derived.Test.YtehjiejijlboeaaRowWord
import Derived.ProofKit
import Derived.OpenShut
import Derived.ShutString
import Derived.ChangeOld
namespace Go.Proofs.Ytehjiejijlboeaa.fnReciprocity
open Go.ChangeShapes Go.WideShapes Go.ChangeAt Go.RowKit
open Go.ChangeMaps (open_string shut_string)
set_option linter.unusedVariables false
theorem jac_fold_same (n k : Int) : ∀ l : List (Nat × Nat), (∀ x ∈ l, n % (x.1 : Int) = k % (x.1 : Int)) → ∀ a : Int,
    l.foldl (fun a x => jm a (resN (n % (x.1 : Int)).toNat x.1) x.2) a = l.foldl (fun a x => jm a (resN (k % (x.1 : Int)).toNat x.1) x.2) a
  | [], _, a => rfl
  | x :: l, hl, a => by
    simp only [List.foldl_cons]
    rw [hl x (by simp)]
    exact jac_fold_same n k l (fun y hy => hl y (by simp [hy])) _
theorem jac_rest {m : Nat} (h1 : 1 ≤ m) (h2 : m ≤ 5000) (n : Int) : jacF n (ppow m) = jacF (n % (m : Int)) (ppow m) :=
  jac_fold_same _ _ _ (fun x hx => by
    have := (pp_mem h1 h2 hx).2.2.2
    exact (Int.emod_emod_of_dvd n (Int.natCast_dvd_natCast.2 (Nat.dvd_of_mod_eq_zero this))).symm) 1
theorem gcd_rest {n : Int} {M B : Nat} (hM : 0 < M) (hB : n % (M : Int) = (B : Int)) : Nat.gcd n.natAbs M = Nat.gcd B M := by
  have h1 : Nat.gcd n.natAbs M ∣ B := by
    have hn : ((Nat.gcd n.natAbs M : Nat) : Int) ∣ n := by rw [← Int.natAbs_dvd_natAbs, Int.natAbs_natCast]; exact Nat.gcd_dvd_left _ _
    have hm : ((Nat.gcd n.natAbs M : Nat) : Int) ∣ (M : Int) := Int.natCast_dvd_natCast.2 (Nat.gcd_dvd_right _ _)
    have : ((Nat.gcd n.natAbs M : Nat) : Int) ∣ n % (M : Int) := by
      rw [Int.emod_def]; exact Int.dvd_sub hn (Int.dvd_mul_of_dvd_left hm)
    rw [hB] at this
    exact Int.natCast_dvd_natCast.1 this
  have h2 : Nat.gcd B M ∣ n.natAbs := by
    have hb : ((Nat.gcd B M : Nat) : Int) ∣ n % (M : Int) := by rw [hB]; exact Int.natCast_dvd_natCast.2 (Nat.gcd_dvd_left _ _)
    have hm : ((Nat.gcd B M : Nat) : Int) ∣ (M : Int) := Int.natCast_dvd_natCast.2 (Nat.gcd_dvd_right _ _)
    have : ((Nat.gcd B M : Nat) : Int) ∣ n := by
      have e := Int.mul_ediv_add_emod n (M : Int)
      rw [← e]; exact Int.dvd_add (Int.dvd_mul_of_dvd_left hm) hb
    rw [← Int.natAbs_dvd_natAbs, Int.natAbs_natCast] at this
    exact this
  exact Nat.dvd_antisymm (Nat.dvd_gcd h1 (Nat.gcd_dvd_right _ _)) (Nat.dvd_gcd h2 (Nat.gcd_dvd_right _ _))

def zeroOk (m : Nat) : Bool := decide (m % 2 = 0) || (List.range m).all (fun (r : Nat) => (jacF (r : Int) (ppow m) == 0) == decide (1 < Nat.gcd r m))
theorem zeroOk_all : (List.range 120).all zeroOk = true := by decide +kernel
theorem jac_zero {m r : Nat} (h : m ≤ 119) (ho : m % 2 = 1) (hr : r < m) : (jacF (r : Int) (ppow m) == 0) = decide (1 < Nat.gcd r m) := by
  have := List.all_eq_true.1 zeroOk_all m (List.mem_range.2 (by omega))
  unfold zeroOk at this
  rw [decide_eq_false (by omega)] at this
  simp only [Bool.false_or] at this
  have := List.all_eq_true.1 this r (List.mem_range.2 hr)
  simpa using this
def recOk (m n : Nat) : Bool := decide (m % 2 = 0) || decide (n % 2 = 0) || (jacF (m : Int) (ppow n) == (if n % 4 = 3 && m % 4 = 3 then -1 else 1) * jacF (n : Int) (ppow m))
theorem recOk_all : (List.range 120).all (fun m => (List.range 119).all (recOk m) && recOk m 3969) = true := by decide +kernel
theorem rec_law {m n : Nat} (h : m ≤ 119) (ho : m % 2 = 1) (hn : n ≤ 118 ∨ n = 3969) (hno : n % 2 = 1) : jacF (m : Int) (ppow n) = (if n % 4 = 3 && m % 4 = 3 then -1 else 1) * jacF (n : Int) (ppow m) := by
  have := List.all_eq_true.1 recOk_all m (List.mem_range.2 (by omega))
  rw [Bool.and_eq_true] at this
  have h2 : recOk m n = true := by
    rcases hn with hn | rfl
    · exact List.all_eq_true.1 this.1 n (List.mem_range.2 (by omega))
    · exact this.2
  unfold recOk at h2
  rw [decide_eq_false (by omega), decide_eq_false (by omega)] at h2
  simpa only [Bool.false_or, beq_iff_eq] using h2

set_option maxRecDepth 100000 in
set_option maxHeartbeats 2000000 in
theorem walk (a0 : Option Addr) (len0 cap0 : Nat) (z0 : List Int) (w : World) (w0 : IsRow .u8 w a0 len0 cap0 z0) :
    Calls Try.prog 11 #[.slice a0 len0 cap0] w fun e w' => e = .returned (.bool true) ∧ Below w.heap.size w w' := by
  have HC := hid (codeIn_of w0)
  clear w0
  by_cases hl : (1048576 : Int) < (len0 : Int)
  · go_enter Try.func11, Try.ntmps11
    go_wp2
    go_ret
    exact ⟨rfl, Below.refl _ _⟩
  · go_enter Try.func11, Try.ntmps11
    go_wp2_with fail
    refine (drawJacobiOf_any _ len0 _ HC.out).mono ?_
    rintro e w1 ⟨n, m, rfl, ⟨hn, m1, m2⟩, hb⟩
    have hn2 := numOk_small hn
    have n1 := hn2.1
    have n2 := hn2.2
    have HNum := hid hn
    clear hn hn2
    cases hV : jacOk n m with
    | false =>
      have P := hid (jacV_no hV)
      clear hV
      go_wp2_with fail
      refine (jacobi_any n m _).mono ?_
      rw [P.out]
      rintro e w' ⟨rfl, hb1⟩
      go_wp2_with fail
      refine (jacobiS_any n m _).mono ?_
      rw [P.out]
      rintro e w' ⟨rfl, hb2⟩
      go_wp2
      go_ret
      exact ⟨rfl, (hb.trans (hb1.mono hb.size)).trans (hb2.mono (Nat.le_trans hb.size hb1.size))⟩
    | true =>
      have hx : okN n = true ∧ 1 ≤ m ∧ m % 2 = 1 := by
        simp [jacOk, inR] at hV; exact ⟨hV.1, by omega, by omega⟩
      obtain ⟨hO, mm1, modd⟩ := hx
      have hO2 := okN_iff.1 hO
      obtain ⟨M, rfl⟩ := Int.eq_ofNat_of_zero_le m1
      have hM1 : 1 ≤ M := by omega
      have hM2 : M ≤ 5000 := by omega
      have hMo : M % 2 = 1 := by omega
      obtain ⟨o, ho⟩ : ∃ o, o = jacF n (ppow M) := ⟨_, rfl⟩
      have P : Hid (jacV n (M : Int) = o) := by show _ = _; rw [jacV_yes hV, Int.toNat_natCast, ho]
      have so := jacF_small hO hM1 hM2 hMo (List.prefix_refl (ppow M))
      rw [← ho] at so
      have so1 := so.1
      have so2 := so.2
      have To : (o == -2) = false := by rw [beq_eq_false_iff_ne]; omega
      obtain ⟨B, hB⟩ := Int.eq_ofNat_of_zero_le (Int.emod_nonneg n (show (M : Int) ≠ 0 by omega))
      have hBM : B < M := by have := Int.emod_lt_of_pos n (show (0 : Int) < M by omega); omega
      obtain ⟨g, hg⟩ : ∃ g, g = Nat.gcd B M := ⟨_, rfl⟩
      have PG : Hid (gcdV n M = (g : Nat)) := by
        show _ = _
        rw [gcdV_yes (by rw [hO, okN_iff.2 ⟨by omega, by omega⟩]; rfl), Int.natAbs_natCast, gcd_rest (by omega) hB, hg]
      have Z : (o == 0) = decide (1 < g) := by
        rw [ho, jac_rest hM1 hM2, hB, hg]; exact jac_zero (by omega) hMo hBM
      have ZZ : ((o == 0) == decide ((1 : Int) < (g : Int))) = true := by
        have e : decide ((1 : Int) < (g : Int)) = decide (1 < g) := by apply decide_eq_decide.2; omega
        rw [Z, e]; simp
      have Z2 : (o = 0 ∧ (1 : Int) < (g : Int)) ∨ (((o == 0) = false) ∧ ¬ (1 : Int) < (g : Int)) := by
        by_cases hgg : 1 < g
        · rw [decide_eq_true hgg] at Z; exact .inl ⟨by simpa using Z, by omega⟩
        · rw [decide_eq_false hgg] at Z; exact .inr ⟨Z, by omega⟩
      have HO := hid ho
      clear hB hg Z ZZ ho so hV hBM
      go_wp2_with fail
      refine (jacobi_any n M _).mono ?_
      rw [P.out]
      rintro e w' ⟨rfl, hb1⟩
      go_wp2_with fail
      refine (jacobiS_any n M _).mono ?_
      rw [P.out]
      rintro e w' ⟨rfl, hb2⟩
      go_wp2_with fail
      refine (gcd_any n M _).mono ?_
      rw [PG.out]
      rintro e w' ⟨rfl, k, rfl⟩
      have s1 := Nat.le_trans hb.size hb1.size
      have hBB := hid (below_drewN ((hb.trans (hb1.mono hb.size)).trans (hb2.mono s1)) k)
      by_cases c1 : n < 1
      · clear hb hb1 hb2 s1
        rcases Z2 with ⟨rfl, z⟩ | ⟨z0, z⟩
        all_goals
          go_wp2
          go_ret
          exact ⟨retB (by first | (simp; done) | (simp; omega)), hBB.out⟩
      · obtain ⟨N, rfl⟩ := Int.eq_ofNat_of_zero_le (show 0 ≤ n by omega)
        by_cases c2 : N % 2 = 0
        · have T2 : ((N : Int) % 2 == 0) = true := by rw [beq_iff_eq]; omega
          clear hb hb1 hb2 s1 c2
          rcases Z2 with ⟨rfl, z⟩ | ⟨z0, z⟩
          all_goals
            go_wp2
            go_ret
            exact ⟨retB (by first | (simp; done) | (simp; omega)), hBB.out⟩
        · have T2 : ((N : Int) % 2 == 0) = false := by rw [beq_eq_false_iff_ne]; omega
          have hN5 : N ≤ 118 ∨ N = 3969 := by have := HNum.out; unfold numOk at this; omega
          have hR := rec_law (m := M) (n := N) (by omega) hMo hN5 (by omega)
          rw [← HO.out] at hR
          have hJ : jacOk (M : Int) (N : Int) = true := by
            unfold jacOk; rw [okN_iff.2 ⟨by omega, by omega⟩]; simp [inR]; omega
          have PJ : jacV (M : Int) (N : Int) = jacF (M : Int) (ppow N) := by rw [jacV_yes hJ, Int.toNat_natCast]
          rw [hR] at PJ
          have hN4 : N % 4 = 1 ∨ N % 4 = 3 := by omega
          have hM4 : M % 4 = 1 ∨ M % 4 = 3 := by omega
          rcases hN4 with h4 | h4 <;> rcases hM4 with h5 | h5
          all_goals
            rw [h4, h5] at PJ
            simp at PJ
            have PK := hid PJ
            have e4 : (N : Int) % 4 = ((N % 4 : Nat) : Int) := by omega
            have e5 : (M : Int) % 4 = ((M % 4 : Nat) : Int) := by omega
            rw [h4] at e4
            rw [h5] at e5
            simp at e4 e5
            clear hR PJ h4 h5 c2 hN5 hb hb1 hb2 s1
            go_wp2_with fail
            refine (jacobi_any M N _).mono ?_
            rw [PK.out]
            rintro e w' ⟨rfl, hb3⟩
            have hBF := hid (hBB.out.trans (hb3.mono hBB.out.size))
            clear hb3
            rcases Z2 with ⟨rfl, z⟩ | ⟨z0, z⟩
            all_goals
              go_wp2
              go_ret
              exact ⟨retB (by first | (simp; done) | (simp; omega)), hBF.out⟩
theorem own : ownKnob Try.prog.godebug = none := by kernel_rfl
theorem laidOut : laidOutB Try.prog = true := by kernel_rfl
set_option maxRecDepth 100000 in
theorem lifted (os : Os) (started : os.Started) (H : Type) (enc : TypeId × Value → H) :
    ReturnsInHanded {} Try.checked os 11 .any (Rows.fnReciprocitySpec.pre6 enc Try.prog Try.f11 Rows.fnReciprocityRow.domain false) (Rows.fnReciprocitySpec.post enc Try.prog Try.f11 false true false false) := by
  refine returnsInHanded_of_change (C := Try.checked) own started (by kernel_rfl) Try.func11
    (ChangeSpec.witness6 (enc := enc) (C := Try.checked) false ⟨#[], #[.slice none 0 0], []⟩ 8 (by kernel_rfl) (by kernel_rfl) (by kernel_rfl) (by kernel_rfl)) ?_
  intro W base args ds gs before hval0 hW hcnd _
  have hval : ∀ (j : Nat) t v, Try.f11.params[j]? = some t → args[j]? = some v → Value.okWide Try.prog W .any base t v := hval0
  have hW' := hW
  obtain ⟨p, q, hA0, hV, rfl, hfz, hnd⟩ := hW
  have hA : DataW.TrodAll enc Try.prog W 0 (fun _ => true) true Try.f11.params.toList args.toList ds p := hA0
  rw [Try.params11] at hA hval
  obtain ⟨v0, vs0, d0, ds0, p0, q0, hargs, rfl, rfl, h0, r0⟩ := trodAll_cons hA
  obtain ⟨rfl, rfl, rfl⟩ := trodAll_nil r0
  obtain rfl : args = #[v0] := by cases args; simp_all
  obtain ⟨rfl, rfl⟩ := trodVars_none hV
  obtain ⟨a0, len0, cap0, rfl⟩ := okWide_slice Try.underlying22 (hval 0 22 v0 rfl rfl)
  have k0 := h0
  have lt0 : ∀ x ∈ p0, x.block < W.heap.size := by obtain ⟨m, hm⟩ := k0; exact DataW.trod_lt m _ _ _ hm
  obtain ⟨z0, w0⟩ : ∃ zs, IsRow .u8 W a0 len0 cap0 zs := by
    obtain ⟨fuel, hf⟩ := h0
    rcases open_ints Try.underlying22 Try.underlying5 (by kernel_rfl) hf with ⟨hcs, _⟩ | ⟨x, l, c, zs, hcs, _, hl, hm, hz, _, hcell, hwz⟩
    · simp [Value.cells] at hcs
      obtain ⟨rfl, rfl, rfl⟩ := hcs
      exact ⟨[], .inl ⟨rfl, rfl, rfl, rfl⟩⟩
    · simp [Value.cells] at hcs
      obtain ⟨rfl, rfl, rfl⟩ := hcs
      exact ⟨zs, .inr ⟨_, rfl, hl, hm, by simpa using hz, hcell, hwz⟩⟩
  clear hA0 hval0
  refine (walk a0 len0 cap0 z0 W w0).mono fun e W' ⟨he, bel⟩ => ?_
  subst he
  exact ⟨_, rfl, _, _, _, [], _, [], hW', trodAll_mk1 (shut_bool Try.underlying4 _), (trodAll_cons_mk (Below.trod laidOut (by kernel_rfl) (of_decide_eq_true (by kernel_rfl)) k0 bel lt0) trodAll_mk0), rfl, bel.frame _, fun h => by cases h⟩
theorem over : Rows.fnReciprocityRow.holds Try.pinned (OpenSpec.ofChange Rows.fnReciprocitySpec) :=
  OpenClaim.holds_of_wide 11 Try.f11 rfl rfl rfl rfl rfl rfl rfl ⟨rfl, rfl, rfl, rfl, rfl⟩ rfl rfl rfl rfl rfl (by kernel_rfl) Try.func11 (by kernel_rfl)
    (of_decide_eq_true (by kernel_rfl)) (by unfold Func.isWrapper; first | (rw [if_pos (by decide +kernel)]; kernel_rfl) | (rw [if_neg (by decide +kernel)]; exact ⟨rfl, rfl⟩))
    (fun os started H enc _ => lifted os started H enc)
theorem proved : Rows.FnReciprocitySaid := over
end Go.Proofs.Ytehjiejijlboeaa.fnReciprocity
