/-
  Contracts of the model's chapter 4: values at a vector; invariants.
-/
import Derived.Test.YtciajpimpjpnfaaBun9
import Derived.Test.YtciajpimpjpnfaaSym3
import Derived.Deep.QuietTactic
set_option linter.unusedVariables false
namespace Go.Proofs.Ytciajpimpjpnfaa
open Go.RowKit

set_option maxRecDepth 100000 in
set_option maxHeartbeats 1000000 in
theorem l4Value_any (vf vv : Value) (xs vs : List Int) (w : World) (hx : Rd w vf xs) (hv : Rd w vv vs) (hf : fvB xs = true) (hb : ∀ v ∈ vs, -1000 ≤ v ∧ v ≤ 1000) (hl : vs.length = xs.length) :
    Calls Try.prog 71 #[vf, vv] w fun e w' => e = .returned (.int .i64 (valI xs vs xs.length)) ∧ ∃ k, w' = w.drewN k := by
  obtain ⟨a, cap, rfl, hform⟩ := hx.form
  obtain ⟨a', cap', rfl, hform'⟩ := hv.form
  have HFM := hid hform
  have HFV := hid hform'
  have HF := hid hf
  have HVB := hid hb
  have HL := hid hl
  have hl4 := (fvB_iff.1 hf).2.2
  clear hform hform' hx hv hf hb hl
  go_enter Try.func71, Try.ntmps71
  go_wp2_with fail
  go_loopw [5, 6] (fun so si wr => ∃ K k : Nat, si = .int .i64 K ∧ K ≤ xs.length ∧ so = .int .i64 (valI xs vs K) ∧ wr = w.drewN k) (fun _ si _ => xs.length - (intOf si).toNat)
  case atStart => exact ⟨0, 0, rfl, by omega, rfl, rfl⟩
  case round =>
    obtain ⟨K, k, rfl, hK, rfl, rfl⟩ := hrel
    by_cases hlt : K < xs.length
    · obtain ⟨b, o, rfl, hml, hc⟩ := HFM.out (by omega)
      obtain ⟨b', o', rfl, hml', hc'⟩ := HFV.out (by have := HL.out; omega)
      have hcell := hc K hlt
      have hcell' := hc' K (by have := HL.out; omega)
      have ht := fv_at HF.out hlt
      have hv1 := HVB.out (vs.getD K 0) (by rw [getD_at _ _ (by have := HL.out; omega)]; exact List.getElem_mem _)
      have hbd := term_bd ht.2.1 ht.2.2 hv1.1 hv1.2
      have hvb := valI_bd HF.out HVB.out HL.out K (by omega)
      have hst : valI xs vs (K + 1) = valI xs vs K + xs.getD K 0 * vs.getD K 0 * vs.getD K 0 := rfl
      obtain ⟨x, hx⟩ : ∃ x, x = xs.getD K 0 := ⟨_, rfl⟩
      obtain ⟨y, hy⟩ : ∃ y, y = vs.getD K 0 := ⟨_, rfl⟩
      obtain ⟨s, hs⟩ : ∃ s, s = valI xs vs K := ⟨_, rfl⟩
      rw [← hx] at hcell hst hbd
      rw [← hy] at hcell' hst hbd
      rw [← hs] at hst hvb ⊢
      have hKi : (K : Int) < (xs.length : Int) := by omega
      have hKj : (K : Int) < (vs.length : Int) := by have := HL.out; omega
      have HLT := hid hlt
      have HST := hid hst
      have b1 := hbd.1
      have b2 := hbd.2.1
      have b3 := hbd.2.2.1
      have b4 := hbd.2.2.2
      have s1 := hvb.1
      have s2 := hvb.2
      clear hx hy hs hc hc' hml hml' hlt hbd hvb hst ht hv1
      go_wp2_with fail
      go_quiet (fail)
      go_wp2_with fail
      go_roundw
      case measure => simp only [intOf]; have := HLT.out; omega
      case rel => exact ⟨K + 1, _, by go_num, by have := HLT.out; omega, vI HST.out.symm, by first | rfl | exact World.drewN_drewN ..⟩
    · obtain rfl : K = xs.length := by omega
      clear hlt
      go_wp2_with fail
      go_ret
      exact ⟨rfl, k, rfl⟩

set_option maxRecDepth 100000 in
set_option maxHeartbeats 1000000 in
theorem l4Vector_any (vf vv : Value) (xs vs : List Int) (m : Int) (hm1 : 0 ≤ m) (hm2 : m ≤ 1000000) (w : World) (hx : Rd w vf xs) (hv : Rd w vv vs) :
    Calls Try.prog 70 #[vf, vv, .int .i64 m] w fun e w' => e = .returned (.bool (vecB xs vs m)) ∧ w = w' := by
  have HX := hid hx
  obtain ⟨a0, cap0, rfl, _⟩ := hx.form
  obtain ⟨a, cap, rfl, hform⟩ := hv.form
  have HFM := hid hform
  have hmx : vs.length ≤ maxLen := by
    rcases Nat.eq_zero_or_pos vs.length with e | e
    · rw [e]; exact Nat.zero_le _
    · obtain ⟨_, _, _, hm, _⟩ := hform e; exact hm
  unfold maxLen at hmx
  clear hform hx hv
  go_enter Try.func70, Try.ntmps70
  go_wp2_with fail
  go_loop [7] (fun si => ∃ K : Nat, si = .int .i64 K ∧ K ≤ vs.length ∧ Hid (∀ i, i < K → inR (vs.getD i 0) (-m) m = true)) (fun si => vs.length - (intOf si).toNat)
  case atStart => exact ⟨0, rfl, by omega, hid (fun i hi => by omega)⟩
  case round =>
    obtain ⟨K, rfl, hK, HE⟩ := hrel
    by_cases hlt : K < vs.length
    · obtain ⟨b, o, rfl, hml, hc⟩ := HFM.out (by omega)
      have hcell := hc K hlt
      obtain ⟨x, hx⟩ : ∃ x, x = vs.getD K 0 := ⟨_, rfl⟩
      rw [← hx] at hcell
      have HXE := hid hx
      have HLT := hid hlt
      have hKi : (K : Int) < (vs.length : Int) := by omega
      have HNO : Hid (inR x (-m) m = false → vecB xs vs m = false) := hid (fun e => by
        unfold vecB
        rw [show vs.all (fun v => inR v (-m) m) = false from ?_, Bool.false_and]
        rw [List.all_eq_false]
        exact ⟨x, by rw [hx, getD_at _ _ hlt]; exact List.getElem_mem _, by rw [e]; decide⟩)
      clear hx hc hml hlt
      cases hr : inR x (-m) m with
      | false =>
        have HR := hid (HNO.out hr)
        have HIN := hid hr
        clear hr
        go_wp2_with (go_at_call 99; refine (l6In_any _ _ _ _).mono ?_; rw [HIN.out]; rintro e w' ⟨rfl, rfl⟩)
        go_ret
        exact ⟨retB HR.out.symm, rfl⟩
      | true =>
        have HIN := hid hr
        clear hr
        go_wp2_with (go_at_call 99; refine (l6In_any _ _ _ _).mono ?_; rw [HIN.out]; rintro e w' ⟨rfl, rfl⟩)
        go_round
        case measure => simp only [intOf]; have := HLT.out; omega
        case rel => exact ⟨K + 1, by go_num, by have := HLT.out; omega, hid (fun i hi => by
          by_cases e : i = K
          · rw [e, ← HXE.out]; exact HIN.out
          · exact HE.out i (by omega))⟩
    · obtain rfl : K = vs.length := by omega
      have HR : Hid (vecB xs vs m = (fvB xs && (vs.length == xs.length))) := hid (by
        unfold vecB
        rw [show vs.all (fun v => inR v (-m) m) = true from List.all_eq_true.2 fun x hx => by
          obtain ⟨i, hi, rfl⟩ := List.getElem_of_mem hx
          have := HE.out i hi
          rwa [getD_at _ _ hi] at this, Bool.true_and])
      clear hlt
      cases hf : fvB xs with
      | false =>
        have HF := hid hf
        clear hf
        go_wp2_with (go_at_call 73; refine (formValidS_any _ _ _ HX.out).mono ?_; rw [HF.out]; rintro e w' ⟨rfl, rfl⟩)
        go_ret
        exact ⟨retB (by rw [HR.out, HF.out]; rfl), rfl⟩
      | true =>
        have HF := hid hf
        clear hf
        go_wp2_with (go_at_call 73; refine (formValidS_any _ _ _ HX.out).mono ?_; rw [HF.out]; rintro e w' ⟨rfl, rfl⟩)
        go_ret
        exact ⟨retB (by rw [HR.out, HF.out, Bool.true_and, Bool.eq_iff_iff]; simp; omega), rfl⟩

theorem formValueS_any (vf vv : Value) (xs vs : List Int) (w : World) (hx : Rd w vf xs) (hv : Rd w vv vs) : Calls Try.prog 22 #[vf, vv] w fun e w' => e = .returned (fvalV xs vs) ∧ ∃ k, w' = w.drewN k := by
  have HX := hid hx
  have HV := hid hv
  cases hvec : vecB xs vs 1000 with
  | false =>
    have HR : Hid (fvalV xs vs = .tuple #[.int .i64 0, .bool false]) := hid (by unfold fvalV; rw [hvec]; rfl)
    have HF := hid hvec
    clear hvec hx hv
    go_enter Try.func22, Try.ntmps22
    go_wp2_with (go_at_call 70; refine (l4Vector_any _ _ _ _ 1000 (by decide) (by decide) _ HX.out HV.out).mono ?_; rw [HF.out]; rintro e w' ⟨rfl, rfl⟩)
    go_ret2
    exact ⟨retV HR.out.symm, 0, rfl⟩
  | true =>
    have HR : Hid (fvalV xs vs = .tuple #[.int .i64 (valI xs vs xs.length), .bool true]) := hid (by unfold fvalV; rw [hvec]; rfl)
    have HF := hid hvec
    have hh := hvec
    unfold vecB inR at hh
    rw [Bool.and_eq_true, Bool.and_eq_true, beq_iff_eq, List.all_eq_true] at hh
    obtain ⟨h1, h2, h3⟩ := hh
    have HVB : Hid (∀ v ∈ vs, -1000 ≤ v ∧ v ≤ 1000) := hid (fun v hm => by
      have := h1 v hm
      rw [Bool.and_eq_true, decide_eq_true_eq, decide_eq_true_eq] at this
      exact this)
    have HFV := hid h2
    have HLN := hid h3
    clear hvec hx hv h1 h2 h3
    go_enter Try.func22, Try.ntmps22
    go_wp2_with (first | (go_at_call 70; refine (l4Vector_any _ _ _ _ 1000 (by decide) (by decide) _ HX.out HV.out).mono ?_; rw [HF.out]; rintro e w' ⟨rfl, rfl⟩) | (go_at_call 71; refine (l4Value_any _ _ _ _ _ HX.out HV.out HFV.out HVB.out HLN.out).mono ?_; rintro e w' ⟨rfl, k, rfl⟩))
    go_ret2
    exact ⟨retV HR.out.symm, k, rfl⟩

set_option maxRecDepth 100000 in
set_option maxHeartbeats 2000000 in
theorem l4Invariant_any (v : Value) (xs : List Int) (q : Int) (w : World) (h : Rd w v xs) (hf : fvB xs = true) (hq : plI q = true) :
    Calls Try.prog 81 #[v, .int .i64 q] w fun e w' => e = .returned (.int .i64 (hasF xs q)) ∧ ∃ k, w' = w.drewN k := by
  obtain ⟨a, cap, rfl, hform⟩ := h.form
  have HFM := hid hform
  have HF := hid hf
  have HQ := hid hq
  have hnz : ∀ x ∈ xs, x ≠ 0 := fun x hx => ((fvB_iff.1 hf).1 x hx).1
  have HNZ := hid hnz
  have hl4 := (fvB_iff.1 hf).2.2
  clear hform h hf hq hnz
  go_enter Try.func81, Try.ntmps81
  go_wp2_with fail
  go_loopw [5, 6] (fun so si wr => ∃ I : Nat, si = .int .i64 I ∧ I ≤ xs.length ∧ so = .int .i64 (hasP xs q I) ∧ Hid (∃ k, wr = w.drewN k)) (fun _ si _ => xs.length - (intOf si).toNat)
  case atStart => exact ⟨0, rfl, by omega, rfl, hid ⟨0, rfl⟩⟩
  case round =>
    obtain ⟨I, rfl, hI, rfl, HW0⟩ := hrel
    rename World => wA
    by_cases hlt : I < xs.length
    · obtain ⟨b, o, rfl, hml, hc⟩ := HFM.out (by omega)
      have HC := hid hc
      have HPM := hid (hasP_pm HQ.out HNZ.out I (by omega))
      have hIi : (I : Int) < (xs.length : Int) := by omega
      have HLT := hid hlt
      have HSTEP : Hid (hasP xs q (I + 1) = hasP xs q I * hasR xs q I I) := rfl
      obtain ⟨p, hp⟩ : ∃ p, p = hasP xs q I := ⟨_, rfl⟩
      rw [← hp] at HPM HSTEP ⊢
      clear hc hml hlt hp
      go_wp2_with fail
      go_loopw [5, 7] (fun so sk wr => ∃ K : Nat, sk = .int .i64 K ∧ K ≤ I ∧ so = .int .i64 (p * hasR xs q I K) ∧ Hid (∃ k, wr = w.drewN k)) (fun _ sk _ => I - (intOf sk).toNat)
      case atStart => exact ⟨0, rfl, by omega, by rw [show hasR xs q I 0 = 1 from rfl, Int.mul_one], HW0⟩
      case round =>
        obtain ⟨K, rfl, hK, rfl, HW⟩ := hrel
        rename World => wB
        by_cases hlt2 : K < I
        · have hlt := HLT.out
          have c1 : wB.cell? ⟨b, o + K, none⟩ = some (.int .i64 (xs.getD K 0)) := by obtain ⟨k, rfl⟩ := HW.out; exact HC.out K (by omega)
          have c2 : wB.cell? ⟨b, o + I, none⟩ = some (.int .i64 (xs.getD I 0)) := by obtain ⟨k, rfl⟩ := HW.out; exact HC.out I hlt
          have tk := fv_at HF.out (show K < xs.length by omega)
          have ti := fv_at HF.out hlt
          have hr := hasR_pm HQ.out HNZ.out hlt K (by omega)
          have hs := symV_val tk.1 ti.1 HQ.out
          have hst : hasR xs q I (K + 1) = hasR xs q I K * symV (xs.getD K 0) (xs.getD I 0) q := rfl
          obtain ⟨x, hx⟩ : ∃ x, x = xs.getD K 0 := ⟨_, rfl⟩
          obtain ⟨y, hy⟩ : ∃ y, y = xs.getD I 0 := ⟨_, rfl⟩
          rw [← hx] at c1 tk hs hst
          rw [← hy] at c2 ti hs hst
          have pm1 := pm_mul HPM.out hr
          have pm2 := pm_mul pm1 hs
          obtain ⟨r, hre⟩ : ∃ r, r = p * hasR xs q I K := ⟨_, rfl⟩
          have HST : Hid (p * hasR xs q I (K + 1) = r * symV x y q) := hid (by rw [hst, hre, Int.mul_assoc])
          rw [← hre] at pm1 pm2 ⊢
          have HSY := hid (l3Symbol_any x y q tk.1 ti.1 (by omega) (by omega) (by omega) (by omega) HQ.out)
          obtain ⟨s, hse⟩ : ∃ s, s = symV x y q := ⟨_, rfl⟩
          rw [← hse] at HST HSY pm2
          have HQT : Hid (∀ (w : World) (n : Nat), Calls Try.prog 105 #[.int .i64 x, .int .i64 y, .int .i64 q] (w.drewN n) fun e w'' => e = .returned (.int .i64 s) ∧ ∃ m, w'' = w.drewN m) := hid (fun w n => Calls.quiet_of_same ((HSY.out _).mono fun _ _ h => ⟨h.1, h.2.symm⟩))
          have r1 : -1 ≤ r * s := by omega
          have r2 : r * s ≤ 1 := by omega
          have hKi : (K : Int) < (I : Int) := by omega
          have hKj : (K : Int) < (xs.length : Int) := by omega
          clear hx hy hr hs hst tk ti pm1 pm2 hre hse hlt
          go_wp2_with fail
          go_quiet ((go_at_call 105; exact HQT.out _ _))
          go_wp2_with fail
          go_roundw
          case measure => simp only [intOf]; omega
          case rel => exact ⟨K + 1, by go_num, by omega, vI HST.out.symm, hid (by obtain ⟨k, hk⟩ := HW.out; exact ⟨k + nq, by rw [hk, World.drewN_drewN]⟩)⟩
        · obtain rfl : K = I := by omega
          clear hlt2
          go_wp2_with fail
          go_roundw
          case measure => simp only [intOf]; have := HLT.out; omega
          case rel => exact ⟨K + 1, by go_num, by have := HLT.out; omega, vI HSTEP.out.symm, HW⟩
    · obtain rfl : I = xs.length := by omega
      clear hlt
      go_wp2_with fail
      go_ret
      exact ⟨rfl, HW0.out⟩

end Go.Proofs.Ytciajpimpjpnfaa
