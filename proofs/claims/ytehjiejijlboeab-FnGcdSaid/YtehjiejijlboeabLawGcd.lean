/-
  Proves: for every code: the greatest common divisor divides both, is the same both ways and with the sum, and what it leaves of both has no divisor in common.
  Conditions: none beyond the given statement's own.
-/
import Derived.Test.YtehjiejijlboeabRows
import Derived.Test.YtehjiejijlboeabArith3
import Derived.Test.YtehjiejijlboeabDraws1
import Derived.Test.YtehjiejijlboeabRowWord
import Derived.ProofKit
import Derived.OpenShut
import Derived.ShutString
import Derived.ChangeOld
namespace Go.Proofs.Ytehjiejijlboeab.fnGcd
open Go.ChangeShapes Go.WideShapes Go.ChangeAt Go.RowKit
open Go.ChangeMaps (open_string shut_string)
set_option linter.unusedVariables false
theorem ncd {m : Nat} {n : Int} : (m : Int) ∣ n ↔ m ∣ n.natAbs := by rw [← Int.natAbs_dvd_natAbs, Int.natAbs_natCast]
def gN (a b : Int) : Nat := Nat.gcd a.natAbs b.natAbs
theorem gN_add (a b : Int) : gN a (a + b) = gN a b := by
  have t1 : (gN a b : Int) ∣ a := ncd.2 (Nat.gcd_dvd_left _ _)
  have t2 : (gN a b : Int) ∣ b := ncd.2 (Nat.gcd_dvd_right _ _)
  have s1 : (gN a (a + b) : Int) ∣ a := ncd.2 (Nat.gcd_dvd_left _ _)
  have s2 : (gN a (a + b) : Int) ∣ a + b := ncd.2 (Nat.gcd_dvd_right _ _)
  have s3 : (gN a (a + b) : Int) ∣ b := by
    have := Int.dvd_sub s2 s1
    rwa [show a + b - a = b by omega] at this
  exact Nat.dvd_antisymm (Nat.dvd_gcd (ncd.1 s1) (ncd.1 s3)) (Nat.dvd_gcd (ncd.1 t1) (ncd.1 (Int.dvd_add t1 t2)))
theorem gN_div {a b : Int} (h : 0 < gN a b) : gN (a.tdiv (gN a b : Nat)) (b.tdiv (gN a b : Nat)) = 1 := by
  unfold gN at h ⊢
  rw [tdiv_natAbs, tdiv_natAbs, Int.natAbs_natCast]
  rw [Nat.gcd_div (Nat.gcd_dvd_left _ _) (Nat.gcd_dvd_right _ _)]
  exact Nat.div_self h
theorem tdiv_in {n m : Int} (h1 : -5000 ≤ n) (h2 : n ≤ 5000) : -5000 ≤ n.tdiv m ∧ n.tdiv m ≤ 5000 := by
  have h := Nat.div_le_self n.natAbs m.natAbs
  rw [← tdiv_natAbs] at h
  omega
theorem tmod_zero {a : Int} {g : Nat} (h : g ∣ a.natAbs) : (a.tmod (g : Int) == 0) = true := by
  rw [beq_iff_eq, ← Int.dvd_iff_tmod_eq_zero]
  exact ncd.2 h

set_option maxRecDepth 100000 in
set_option maxHeartbeats 2000000 in
theorem walk (a0 : Option Addr) (len0 cap0 : Nat) (z0 : List Int) (w : World) (w0 : IsRow .u8 w a0 len0 cap0 z0) :
    Calls Try.prog 3 #[.slice a0 len0 cap0] w fun e w' => e = .returned (.bool true) ∧ Below w.heap.size w w' := by
  have HC := hid (codeIn_of w0)
  clear w0
  by_cases hl : (1048576 : Int) < (len0 : Int)
  · go_enter Try.func3, Try.ntmps3
    go_wp2
    go_ret
    exact ⟨rfl, Below.refl _ _⟩
  · go_enter Try.func3, Try.ntmps3
    go_wp2_with fail
    refine (drawGcdOf_any _ len0 _ HC.out).mono ?_
    rintro e w1 ⟨a, b, rfl, ⟨ha, hc⟩, hb⟩
    have ha2 := numOk_small ha
    have hc2 := numOk_small hc
    clear ha hc
    cases hV : (okN a && okN b) with
    | false =>
      have P := hid (gcdV_no hV)
      clear hV
      go_wp2_with fail
      refine (gcd_any a b _).mono ?_
      rw [P.out]
      rintro e w' ⟨rfl, k, rfl⟩
      go_wp2_with fail
      refine (gcdS_any a b _).mono ?_
      rw [P.out]
      rintro e w' ⟨rfl, rfl⟩
      go_wp2
      go_ret
      exact ⟨rfl, below_drewN hb k⟩
    | true =>
      have hx : okN a = true ∧ okN b = true := by simpa using hV
      have oa := okN_iff.1 hx.1
      have ob := okN_iff.1 hx.2
      have a1 := oa.1
      have a2 := oa.2
      have b1 := ob.1
      have b2 := ob.2
      obtain ⟨g, hg⟩ : ∃ g, g = gN a b := ⟨_, rfl⟩
      have P : Hid (gcdV a b = (g : Nat)) := by show _ = _; rw [gcdV_yes hV, hg]; rfl
      by_cases h0 : g = 0
      · subst h0
        have hz := Nat.gcd_eq_zero_iff.1 hg.symm
        have e1 : a = 0 := Int.natAbs_eq_zero.1 hz.1
        have e2 : b = 0 := Int.natAbs_eq_zero.1 hz.2
        subst e1 e2
        clear hg hz hV hx oa ob ha2 hc2
        go_wp2_with fail
        refine (gcd_any 0 0 _).mono ?_
        rw [P.out]
        rintro e w' ⟨rfl, k, rfl⟩
        go_wp2_with fail
        refine (gcdS_any 0 0 _).mono ?_
        rw [P.out]
        rintro e w' ⟨rfl, rfl⟩
        go_wp2
        go_ret
        exact ⟨retB (by simp), below_drewN hb k⟩
      · have g1 : 0 < g := by omega
        have T0 : ((g : Int) == 0) = false := by rw [beq_eq_false_iff_ne]; omega
        have T1 : (a.tmod (g : Int) == 0) = true := tmod_zero (by rw [hg]; exact Nat.gcd_dvd_left _ _)
        have T2 : (b.tmod (g : Int) == 0) = true := tmod_zero (by rw [hg]; exact Nat.gcd_dvd_right _ _)
        have PB : Hid (gcdV b a = (g : Nat)) := by
          show _ = _
          rw [gcdV_yes (by rw [hx.1, hx.2]; rfl), hg, Nat.gcd_comm]; rfl
        have hd1 := tdiv_in (n := a) (m := (g : Int)) a1 a2
        have hd2 := tdiv_in (n := b) (m := (g : Int)) b1 b2
        have PD : Hid (gcdV (a.tdiv (g : Int)) (b.tdiv (g : Int)) = 1) := by
          show _ = _
          rw [gcdV_yes (by rw [okN_iff.2 hd1, okN_iff.2 hd2]; rfl)]
          have := gN_div (a := a) (b := b) (by omega)
          rw [← hg] at this
          exact congrArg Int.ofNat this
        obtain ⟨c, hcc⟩ : ∃ c, c = gcdV a (a + b) := ⟨_, rfl⟩
        have PC := hid hcc
        have M : Hid (c = -1 ∨ c = (g : Nat)) := by
          cases hf : (okN a && okN (a + b)) with
          | false => exact .inl (by rw [hcc, gcdV_no hf])
          | true => exact .inr (by rw [hcc, gcdV_yes hf, hg, ← gN_add]; rfl)
        have d1 := hd1.1
        have d2 := hd1.2
        have d3 := hd2.1
        have d4 := hd2.2
        have Tm : ((g : Int) == -1) = false := by rw [beq_eq_false_iff_ne]; omega
        have hne : (g : Int) ≠ 0 := by omega
        clear hg hx oa ob ha2 hc2 hV hd1 hd2 hcc
        go_wp2_with fail
        refine (gcd_any a b _).mono ?_
        rw [P.out]
        rintro e w' ⟨rfl, k, rfl⟩
        go_wp2_with fail
        refine (gcdS_any a b _).mono ?_
        rw [P.out]
        rintro e w' ⟨rfl, rfl⟩
        go_wp2_with fail
        refine (gcd_any a (a + b) _).mono ?_
        rw [← PC.out]
        rintro e w5 ⟨rfl, k5, hw5⟩
        have HW := hid hw5
        have HB : Hid (Below w.heap.size w w5) := by show Below _ _ _; rw [hw5]; exact below_drewN (below_drewN hb k) k5
        clear hw5 hb
        have PB2 := PB.out
        have PD2 := PD.out
        rcases M.out with rfl | rfl
        all_goals
          go_wp2
          go_quiet ((go_at_call 16; exact Calls.quiet_of (gcd_any _ _ _)))
          go_wp2
          go_ret
          exact ⟨retB (by simp), below_drewN HB.out _⟩
theorem own : ownKnob Try.prog.godebug = none := by kernel_rfl
theorem laidOut : laidOutB Try.prog = true := by kernel_rfl
set_option maxRecDepth 100000 in
theorem lifted (os : Os) (started : os.Started) (H : Type) (enc : TypeId × Value → H) :
    ReturnsInHanded {} Try.checked os 3 .any (Rows.fnGcdSpec.pre6 enc Try.prog Try.f3 Rows.fnGcdRow.domain false) (Rows.fnGcdSpec.post enc Try.prog Try.f3 false true false false) := by
  refine returnsInHanded_of_change (C := Try.checked) own started (by kernel_rfl) Try.func3
    (ChangeSpec.witness6 (enc := enc) (C := Try.checked) false ⟨#[], #[.slice none 0 0], []⟩ 8 (by kernel_rfl) (by kernel_rfl) (by kernel_rfl) (by kernel_rfl)) ?_
  intro W base args ds gs before hval0 hW hcnd _
  have hval : ∀ (j : Nat) t v, Try.f3.params[j]? = some t → args[j]? = some v → Value.okWide Try.prog W .any base t v := hval0
  have hW' := hW
  obtain ⟨p, q, hA0, hV, rfl, hfz, hnd⟩ := hW
  have hA : DataW.TrodAll enc Try.prog W 0 (fun _ => true) true Try.f3.params.toList args.toList ds p := hA0
  rw [Try.params3] at hA hval
  obtain ⟨v0, vs0, d0, ds0, p0, q0, hargs, rfl, rfl, h0, r0⟩ := trodAll_cons hA
  obtain ⟨rfl, rfl, rfl⟩ := trodAll_nil r0
  obtain rfl : args = #[v0] := by cases args; simp_all
  obtain ⟨rfl, rfl⟩ := trodVars_none hV
  obtain ⟨a0, len0, cap0, rfl⟩ := okWide_slice Try.underlying22 (hval 0 22 v0 rfl rfl)
  have k0 := h0
  have lt0 : ∀ x ∈ p0, x.block < W.heap.size := by obtain ⟨m, hm⟩ := k0; exact DataW.trod_lt m _ _ _ hm
  obtain ⟨z0, w0⟩ : ∃ zs, IsRow .u8 W a0 len0 cap0 zs := by
    obtain ⟨fuel, hf⟩ := h0
    rcases open_ints Try.underlying22 Try.underlying5 (by kernel_rfl) hf with ⟨hcs, _⟩ | ⟨x, l, c, zs, hcs, _, hl, hm, hz, _, hcell, hwz⟩
    · simp [Value.cells] at hcs
      obtain ⟨rfl, rfl, rfl⟩ := hcs
      exact ⟨[], .inl ⟨rfl, rfl, rfl, rfl⟩⟩
    · simp [Value.cells] at hcs
      obtain ⟨rfl, rfl, rfl⟩ := hcs
      exact ⟨zs, .inr ⟨_, rfl, hl, hm, by simpa using hz, hcell, hwz⟩⟩
  clear hA0 hval0
  refine (walk a0 len0 cap0 z0 W w0).mono fun e W' ⟨he, bel⟩ => ?_
  subst he
  exact ⟨_, rfl, _, _, _, [], _, [], hW', trodAll_mk1 (shut_bool Try.underlying4 _), (trodAll_cons_mk (Below.trod laidOut (by kernel_rfl) (of_decide_eq_true (by kernel_rfl)) k0 bel lt0) trodAll_mk0), rfl, bel.frame _, fun h => by cases h⟩
theorem over : Rows.fnGcdRow.holds Try.pinned (OpenSpec.ofChange Rows.fnGcdSpec) :=
  OpenClaim.holds_of_wide 3 Try.f3 rfl rfl rfl rfl rfl rfl rfl ⟨rfl, rfl, rfl, rfl, rfl⟩ rfl rfl rfl rfl rfl (by kernel_rfl) Try.func3 (by kernel_rfl)
    (of_decide_eq_true (by kernel_rfl)) (by unfold Func.isWrapper; first | (rw [if_pos (by decide +kernel)]; kernel_rfl) | (rw [if_neg (by decide +kernel)]; exact ⟨rfl, rfl⟩))
    (fun os started H enc _ => lifted os started H enc)
theorem proved : Rows.FnGcdSaid := over
end Go.Proofs.Ytehjiejijlboeab.fnGcd
