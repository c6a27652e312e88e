/-
  Contracts of the model's chapter 4: values at a vector; invariants.
-/
import Derived.Test.YtciajpimpjpnfacBun14
import Derived.Deep.QuietTactic
set_option linter.unusedVariables false
namespace Go.Proofs.Ytciajpimpjpnfac
open Go.RowKit




set_option maxRecDepth 100000 in
set_option maxHeartbeats 2000000 in
theorem l4Invariant_any (v : Value) (xs : List Int) (q : Int) (w : World) (h : Rd w v xs) (hf : fvB xs = true) (hq : plI q = true) :
    Calls Try.prog 66 #[v, .int .i64 q] w fun e w' => e = .returned (.int .i64 (hasF xs q)) ∧ ∃ k, w' = w.drewN k := by
  obtain ⟨a, cap, rfl, hform⟩ := h.form
  have HFM := hid hform
  have HF := hid hf
  have HQ := hid hq
  have hnz : ∀ x ∈ xs, x ≠ 0 := fun x hx => ((fvB_iff.1 hf).1 x hx).1
  have HNZ := hid hnz
  have hl4 := (fvB_iff.1 hf).2.2
  clear hform h hf hq hnz
  go_enter Try.func66, Try.ntmps66
  go_wp2_with fail
  go_loopw [5, 6] (fun so si wr => ∃ I : Nat, si = .int .i64 I ∧ I ≤ xs.length ∧ so = .int .i64 (hasP xs q I) ∧ Hid (∃ k, wr = w.drewN k)) (fun _ si _ => xs.length - (intOf si).toNat)
  case atStart => exact ⟨0, rfl, by omega, rfl, hid ⟨0, rfl⟩⟩
  case round =>
    obtain ⟨I, rfl, hI, rfl, HW0⟩ := hrel
    rename World => wA
    by_cases hlt : I < xs.length
    · obtain ⟨b, o, rfl, hml, hc⟩ := HFM.out (by omega)
      have HC := hid hc
      have HPM := hid (hasP_pm HQ.out HNZ.out I (by omega))
      have hIi : (I : Int) < (xs.length : Int) := by omega
      have HLT := hid hlt
      have HSTEP : Hid (hasP xs q (I + 1) = hasP xs q I * hasR xs q I I) := rfl
      obtain ⟨p, hp⟩ : ∃ p, p = hasP xs q I := ⟨_, rfl⟩
      rw [← hp] at HPM HSTEP ⊢
      clear hc hml hlt hp
      go_wp2_with fail
      go_loopw [5, 7] (fun so sk wr => ∃ K : Nat, sk = .int .i64 K ∧ K ≤ I ∧ so = .int .i64 (p * hasR xs q I K) ∧ Hid (∃ k, wr = w.drewN k)) (fun _ sk _ => I - (intOf sk).toNat)
      case atStart => exact ⟨0, rfl, by omega, by rw [show hasR xs q I 0 = 1 from rfl, Int.mul_one], HW0⟩
      case round =>
        obtain ⟨K, rfl, hK, rfl, HW⟩ := hrel
        rename World => wB
        by_cases hlt2 : K < I
        · have hlt := HLT.out
          have c1 : wB.cell? ⟨b, o + K, none⟩ = some (.int .i64 (xs.getD K 0)) := by obtain ⟨k, rfl⟩ := HW.out; exact HC.out K (by omega)
          have c2 : wB.cell? ⟨b, o + I, none⟩ = some (.int .i64 (xs.getD I 0)) := by obtain ⟨k, rfl⟩ := HW.out; exact HC.out I hlt
          have tk := fv_at HF.out (show K < xs.length by omega)
          have ti := fv_at HF.out hlt
          have hr := hasR_pm HQ.out HNZ.out hlt K (by omega)
          have hs := symV_val tk.1 ti.1 HQ.out
          have hst : hasR xs q I (K + 1) = hasR xs q I K * symV (xs.getD K 0) (xs.getD I 0) q := rfl
          obtain ⟨x, hx⟩ : ∃ x, x = xs.getD K 0 := ⟨_, rfl⟩
          obtain ⟨y, hy⟩ : ∃ y, y = xs.getD I 0 := ⟨_, rfl⟩
          rw [← hx] at c1 tk hs hst
          rw [← hy] at c2 ti hs hst
          have pm1 := pm_mul HPM.out hr
          have pm2 := pm_mul pm1 hs
          obtain ⟨r, hre⟩ : ∃ r, r = p * hasR xs q I K := ⟨_, rfl⟩
          have HST : Hid (p * hasR xs q I (K + 1) = r * symV x y q) := hid (by rw [hst, hre, Int.mul_assoc])
          rw [← hre] at pm1 pm2 ⊢
          have HSY := hid (l3Symbol_any x y q tk.1 ti.1 (by omega) (by omega) (by omega) (by omega) HQ.out)
          obtain ⟨s, hse⟩ : ∃ s, s = symV x y q := ⟨_, rfl⟩
          rw [← hse] at HST HSY pm2
          have HQT : Hid (∀ (w : World) (n : Nat), Calls Try.prog 82 #[.int .i64 x, .int .i64 y, .int .i64 q] (w.drewN n) fun e w'' => e = .returned (.int .i64 s) ∧ ∃ m, w'' = w.drewN m) := hid (fun w n => Calls.quiet_of_same ((HSY.out _).mono fun _ _ h => ⟨h.1, h.2.symm⟩))
          have r1 : -1 ≤ r * s := by omega
          have r2 : r * s ≤ 1 := by omega
          have hKi : (K : Int) < (I : Int) := by omega
          have hKj : (K : Int) < (xs.length : Int) := by omega
          clear hx hy hr hs hst tk ti pm1 pm2 hre hse hlt
          go_wp2_with fail
          go_quiet ((go_at_call 82; exact HQT.out _ _))
          go_wp2_with fail
          go_roundw
          case measure => simp only [intOf]; omega
          case rel => exact ⟨K + 1, by go_num, by omega, vI HST.out.symm, hid (by obtain ⟨k, hk⟩ := HW.out; exact ⟨k + nq, by rw [hk, World.drewN_drewN]⟩)⟩
        · obtain rfl : K = I := by omega
          clear hlt2
          go_wp2_with fail
          go_roundw
          case measure => simp only [intOf]; have := HLT.out; omega
          case rel => exact ⟨K + 1, by go_num, by have := HLT.out; omega, vI HSTEP.out.symm, HW⟩
    · obtain rfl : I = xs.length := by omega
      clear hlt
      go_wp2_with fail
      go_ret
      exact ⟨rfl, HW0.out⟩

end Go.Proofs.Ytciajpimpjpnfac
