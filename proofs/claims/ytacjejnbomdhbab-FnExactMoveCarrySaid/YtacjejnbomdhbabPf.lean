/-
  Contracts of the program's chapter 4: is it a form.
-/
import Derived.Test.YtacjejnbomdhbabQFm2
import Derived.Handy
set_option linter.unusedVariables false
namespace Go.Proofs.Ytacjejnbomdhbab
open Go.RowKit

set_option maxRecDepth 100000 in
set_option maxHeartbeats 1000000 in
theorem formValidP_any (v : Value) (xs : List Int) (w : World) (h : Rd w v xs) : Calls Try.prog 88 #[v] w fun e w' => e = .returned (.bool (fvB xs)) ∧ w = w' := by
  obtain ⟨a, cap, rfl, hform⟩ := h.form
  have HFM := hid hform
  have hmx : xs.length ≤ maxLen := by
    rcases Nat.eq_zero_or_pos xs.length with e | e
    · rw [e]; exact Nat.zero_le _
    · obtain ⟨_, _, _, hm, _⟩ := hform e; exact hm
  unfold maxLen at hmx
  clear hform h
  go_enter Try.func88, Try.ntmps88
  go_wp2_with fail
  go_loop [7] (fun si => ∃ K : Nat, si = .int .i64 K ∧ K ≤ xs.length ∧ Hid (∀ i, i < K → termB (xs.getD i 0) = true)) (fun si => xs.length - (intOf si).toNat)
  case atStart => exact ⟨0, rfl, by omega, hid (fun i hi => by omega)⟩
  case round =>
    obtain ⟨K, rfl, hK, HE⟩ := hrel
    by_cases hlt : K < xs.length
    · obtain ⟨b, o, rfl, hml, hc⟩ := HFM.out (by omega)
      have hcell := hc K hlt
      obtain ⟨x, hx⟩ : ∃ x, x = xs.getD K 0 := ⟨_, rfl⟩
      rw [← hx] at hcell
      have HX := hid hx
      have HLT := hid hlt
      have hKi : (K : Int) < (xs.length : Int) := by omega
      have HNO : Hid (termB x = false → fvB xs = false) := hid (fun e => by
        cases hf : fvB xs with
        | false => rfl
        | true =>
          have := termB_iff.2 (fv_at hf hlt)
          rw [← hx, e] at this
          cases this)
      have HTB : Hid (termB x = true ↔ x ≠ 0 ∧ -30 ≤ x ∧ x ≤ 30) := hid termB_iff
      clear hx hc hml hlt
      by_cases x0 : x = 0
      · have T : (x == 0) = true := by rw [beq_iff_eq]; exact x0
        have HR := hid (HNO.out (by rw [x0]; rfl))
        clear x0
        go_wp2_with fail
        go_ret
        exact ⟨retB HR.out.symm, rfl⟩
      · have T : (x == 0) = false := by rw [beq_eq_false_iff_ne]; exact x0
        by_cases x1 : x < -30
        · have HR := hid (HNO.out (by
            cases ht : termB x with
            | false => rfl
            | true => have := HTB.out.1 ht; omega))
          clear x0
          go_wp2_with fail
          go_ret
          exact ⟨retB HR.out.symm, rfl⟩
        · by_cases x2 : x > 30
          · have HR := hid (HNO.out (by
              cases ht : termB x with
              | false => rfl
              | true => have := HTB.out.1 ht; omega))
            clear x0
            go_wp2_with fail
            go_ret
            exact ⟨retB HR.out.symm, rfl⟩
          · have HT : Hid (termB x = true) := hid (HTB.out.2 ⟨x0, by omega, by omega⟩)
            clear x0
            go_wp2_with fail
            go_round
            case measure => simp only [intOf]; have := HLT.out; omega
            case rel => exact ⟨K + 1, by go_num, by have := HLT.out; omega, hid (fun i hi => by
              by_cases e : i = K
              · rw [e, ← HX.out]; exact HT.out
              · exact HE.out i (by omega))⟩
    · obtain rfl : K = xs.length := by omega
      have HR : Hid (fvB xs = inR (xs.length : Nat) 1 4) := hid (by
        unfold fvB
        rw [show xs.all termB = true from List.all_eq_true.2 fun x hx => by
          obtain ⟨i, hi, rfl⟩ := List.getElem_of_mem hx
          have := HE.out i hi
          rwa [getD_at _ _ hi] at this, Bool.true_and])
      clear hlt
      by_cases l1 : (1 : Int) ≤ (xs.length : Int)
      · by_cases l2 : (xs.length : Int) ≤ 4
        · have HV : Hid (fvB xs = true) := hid (by rw [HR.out]; unfold inR; rw [decide_eq_true l1, decide_eq_true l2]; rfl)
          go_wp2_with fail
          go_ret
          exact ⟨retB HV.out.symm, rfl⟩
        · have HV : Hid (fvB xs = false) := hid (by rw [HR.out]; unfold inR; rw [decide_eq_true l1, decide_eq_false l2]; rfl)
          go_wp2_with fail
          go_ret
          exact ⟨retB HV.out.symm, rfl⟩
      · have HV : Hid (fvB xs = false) := hid (by rw [HR.out]; unfold inR; rw [decide_eq_false l1]; rfl)
        go_wp2_with fail
        go_ret
        exact ⟨retB HV.out.symm, rfl⟩

end Go.Proofs.Ytacjejnbomdhbab
