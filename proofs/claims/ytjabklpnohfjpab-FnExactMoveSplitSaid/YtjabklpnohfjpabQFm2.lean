/-
  Contracts of the model's chapter 4: values at a vector; invariants.
-/
import Derived.Test.YtjabklpnohfjpabQBun9
import Derived.Test.YtjabklpnohfjpabQSym3
import Derived.Deep.QuietTactic
set_option linter.unusedVariables false
namespace Go.Proofs.Ytjabklpnohfjpab
open Go.RowKit

set_option maxRecDepth 100000 in
set_option maxHeartbeats 1000000 in
theorem l4Value_any (vf vv : Value) (xs vs : List Int) (w : World) (hx : Rd w vf xs) (hv : Rd w vv vs) (hf : fvB xs = true) (hb : ∀ v ∈ vs, -1000 ≤ v ∧ v ≤ 1000) (hl : vs.length = xs.length) :
    Calls Try.prog 55 #[vf, vv] w fun e w' => e = .returned (.int .i64 (valI xs vs xs.length)) ∧ ∃ k, w' = w.drewN k := by
  obtain ⟨a, cap, rfl, hform⟩ := hx.form
  obtain ⟨a', cap', rfl, hform'⟩ := hv.form
  have HFM := hid hform
  have HFV := hid hform'
  have HF := hid hf
  have HVB := hid hb
  have HL := hid hl
  have hl4 := (fvB_iff.1 hf).2.2
  clear hform hform' hx hv hf hb hl
  go_enter Try.func55, Try.ntmps55
  go_wp2_with fail
  go_loopw [5, 6] (fun so si wr => ∃ K k : Nat, si = .int .i64 K ∧ K ≤ xs.length ∧ so = .int .i64 (valI xs vs K) ∧ wr = w.drewN k) (fun _ si _ => xs.length - (intOf si).toNat)
  case atStart => exact ⟨0, 0, rfl, by omega, rfl, rfl⟩
  case round =>
    obtain ⟨K, k, rfl, hK, rfl, rfl⟩ := hrel
    by_cases hlt : K < xs.length
    · obtain ⟨b, o, rfl, hml, hc⟩ := HFM.out (by omega)
      obtain ⟨b', o', rfl, hml', hc'⟩ := HFV.out (by have := HL.out; omega)
      have hcell := hc K hlt
      have hcell' := hc' K (by have := HL.out; omega)
      have ht := fv_at HF.out hlt
      have hv1 := HVB.out (vs.getD K 0) (by rw [getD_at _ _ (by have := HL.out; omega)]; exact List.getElem_mem _)
      have hbd := term_bd ht.2.1 ht.2.2 hv1.1 hv1.2
      have hvb := valI_bd HF.out HVB.out HL.out K (by omega)
      have hst : valI xs vs (K + 1) = valI xs vs K + xs.getD K 0 * vs.getD K 0 * vs.getD K 0 := rfl
      obtain ⟨x, hx⟩ : ∃ x, x = xs.getD K 0 := ⟨_, rfl⟩
      obtain ⟨y, hy⟩ : ∃ y, y = vs.getD K 0 := ⟨_, rfl⟩
      obtain ⟨s, hs⟩ : ∃ s, s = valI xs vs K := ⟨_, rfl⟩
      rw [← hx] at hcell hst hbd
      rw [← hy] at hcell' hst hbd
      rw [← hs] at hst hvb ⊢
      have hKi : (K : Int) < (xs.length : Int) := by omega
      have hKj : (K : Int) < (vs.length : Int) := by have := HL.out; omega
      have HLT := hid hlt
      have HST := hid hst
      have b1 := hbd.1
      have b2 := hbd.2.1
      have b3 := hbd.2.2.1
      have b4 := hbd.2.2.2
      have s1 := hvb.1
      have s2 := hvb.2
      clear hx hy hs hc hc' hml hml' hlt hbd hvb hst ht hv1
      go_wp2_with fail
      go_quiet (fail)
      go_wp2_with fail
      go_roundw
      case measure => simp only [intOf]; have := HLT.out; omega
      case rel => exact ⟨K + 1, _, by go_num, by have := HLT.out; omega, vI HST.out.symm, by first | rfl | exact World.drewN_drewN ..⟩
    · obtain rfl : K = xs.length := by omega
      clear hlt
      go_wp2_with fail
      go_ret
      exact ⟨rfl, k, rfl⟩

set_option maxRecDepth 100000 in
set_option maxHeartbeats 1000000 in
theorem l4Vector_any (vf vv : Value) (xs vs : List Int) (m : Int) (hm1 : 0 ≤ m) (hm2 : m ≤ 1000000) (w : World) (hx : Rd w vf xs) (hv : Rd w vv vs) :
    Calls Try.prog 54 #[vf, vv, .int .i64 m] w fun e w' => e = .returned (.bool (vecB xs vs m)) ∧ w = w' := by
  have HX := hid hx
  obtain ⟨a0, cap0, rfl, _⟩ := hx.form
  obtain ⟨a, cap, rfl, hform⟩ := hv.form
  have HFM := hid hform
  have hmx : vs.length ≤ maxLen := by
    rcases Nat.eq_zero_or_pos vs.length with e | e
    · rw [e]; exact Nat.zero_le _
    · obtain ⟨_, _, _, hm, _⟩ := hform e; exact hm
  unfold maxLen at hmx
  clear hform hx hv
  go_enter Try.func54, Try.ntmps54
  go_wp2_with fail
  go_loop [7] (fun si => ∃ K : Nat, si = .int .i64 K ∧ K ≤ vs.length ∧ Hid (∀ i, i < K → inR (vs.getD i 0) (-m) m = true)) (fun si => vs.length - (intOf si).toNat)
  case atStart => exact ⟨0, rfl, by omega, hid (fun i hi => by omega)⟩
  case round =>
    obtain ⟨K, rfl, hK, HE⟩ := hrel
    by_cases hlt : K < vs.length
    · obtain ⟨b, o, rfl, hml, hc⟩ := HFM.out (by omega)
      have hcell := hc K hlt
      obtain ⟨x, hx⟩ : ∃ x, x = vs.getD K 0 := ⟨_, rfl⟩
      rw [← hx] at hcell
      have HXE := hid hx
      have HLT := hid hlt
      have hKi : (K : Int) < (vs.length : Int) := by omega
      have HNO : Hid (inR x (-m) m = false → vecB xs vs m = false) := hid (fun e => by
        unfold vecB
        rw [show vs.all (fun v => inR v (-m) m) = false from ?_, Bool.false_and]
        rw [List.all_eq_false]
        exact ⟨x, by rw [hx, getD_at _ _ hlt]; exact List.getElem_mem _, by rw [e]; decide⟩)
      clear hx hc hml hlt
      cases hr : inR x (-m) m with
      | false =>
        have HR := hid (HNO.out hr)
        have HIN := hid hr
        clear hr
        go_wp2_with (go_at_call 82; refine (l6In_any _ _ _ _).mono ?_; rw [HIN.out]; rintro e w' ⟨rfl, rfl⟩)
        go_ret
        exact ⟨retB HR.out.symm, rfl⟩
      | true =>
        have HIN := hid hr
        clear hr
        go_wp2_with (go_at_call 82; refine (l6In_any _ _ _ _).mono ?_; rw [HIN.out]; rintro e w' ⟨rfl, rfl⟩)
        go_round
        case measure => simp only [intOf]; have := HLT.out; omega
        case rel => exact ⟨K + 1, by go_num, by have := HLT.out; omega, hid (fun i hi => by
          by_cases e : i = K
          · rw [e, ← HXE.out]; exact HIN.out
          · exact HE.out i (by omega))⟩
    · obtain rfl : K = vs.length := by omega
      have HR : Hid (vecB xs vs m = (fvB xs && (vs.length == xs.length))) := hid (by
        unfold vecB
        rw [show vs.all (fun v => inR v (-m) m) = true from List.all_eq_true.2 fun x hx => by
          obtain ⟨i, hi, rfl⟩ := List.getElem_of_mem hx
          have := HE.out i hi
          rwa [getD_at _ _ hi] at this, Bool.true_and])
      clear hlt
      cases hf : fvB xs with
      | false =>
        have HF := hid hf
        clear hf
        go_wp2_with (go_at_call 87; refine (formValidS_any _ _ _ HX.out).mono ?_; rw [HF.out]; rintro e w' ⟨rfl, rfl⟩)
        go_ret
        exact ⟨retB (by rw [HR.out, HF.out]; rfl), rfl⟩
      | true =>
        have HF := hid hf
        clear hf
        go_wp2_with (go_at_call 87; refine (formValidS_any _ _ _ HX.out).mono ?_; rw [HF.out]; rintro e w' ⟨rfl, rfl⟩)
        go_ret
        exact ⟨retB (by rw [HR.out, HF.out, Bool.true_and, Bool.eq_iff_iff]; simp; omega), rfl⟩



end Go.Proofs.Ytjabklpnohfjpab
