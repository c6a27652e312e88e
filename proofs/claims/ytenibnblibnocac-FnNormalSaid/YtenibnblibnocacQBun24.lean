/-
  Some texts in one file: Imp3B Imp4A.
-/
import Derived.Test.YtenibnblibnocacQBun21
import Derived.Test.YtenibnblibnocacQBun22
import Derived.Test.YtenibnblibnocacQIterG
import Derived.Test.YtenibnblibnocacQBun10
import Derived.Test.YtenibnblibnocacQBun13
import Derived.Handy
/-! Imp3B -/
set_option linter.unusedVariables false
namespace Go.Proofs.Ytenibnblibnocac
open Go.RowKit

theorem okAB_parts {a b : Int} (h : okAB a b = true) : factB a = true ∧ factB b = true := by
  unfold okAB at h
  rw [Bool.and_eq_true] at h
  exact h

end Go.Proofs.Ytenibnblibnocac

/-! Imp4A -/
set_option linter.unusedVariables false
namespace Go.Proofs.Ytenibnblibnocac
open Go.RowKit

set_option maxRecDepth 100000 in
set_option maxHeartbeats 1000000 in
theorem formValidP_any (v : Value) (xs : List Int) (w : World) (h : Rd w v xs) : Calls Try.prog 19 #[v] w fun e w' => e = .returned (.bool (fvB xs)) ∧ w = w' := by
  obtain ⟨a, cap, rfl, hform⟩ := h.form
  have HFM := hid hform
  have hmx : xs.length ≤ maxLen := by
    rcases Nat.eq_zero_or_pos xs.length with e | e
    · rw [e]; exact Nat.zero_le _
    · obtain ⟨_, _, _, hm, _⟩ := hform e; exact hm
  unfold maxLen at hmx
  clear hform h
  go_enter Try.func19, Try.ntmps19
  go_wp2_with fail
  go_loop [7] (fun si => ∃ K : Nat, si = .int .i64 K ∧ K ≤ xs.length ∧ Hid (∀ i, i < K → termB (xs.getD i 0) = true)) (fun si => xs.length - (intOf si).toNat)
  case atStart => exact ⟨0, rfl, by omega, hid (fun i hi => by omega)⟩
  case round =>
    obtain ⟨K, rfl, hK, HE⟩ := hrel
    by_cases hlt : K < xs.length
    · obtain ⟨b, o, rfl, hml, hc⟩ := HFM.out (by omega)
      have hcell := hc K hlt
      obtain ⟨x, hx⟩ : ∃ x, x = xs.getD K 0 := ⟨_, rfl⟩
      rw [← hx] at hcell
      have HX := hid hx
      have HLT := hid hlt
      have hKi : (K : Int) < (xs.length : Int) := by omega
      have HNO : Hid (termB x = false → fvB xs = false) := hid (fun e => by
        cases hf : fvB xs with
        | false => rfl
        | true =>
          have := termB_iff.2 (fv_at hf hlt)
          rw [← hx, e] at this
          cases this)
      have HTB : Hid (termB x = true ↔ x ≠ 0 ∧ -30 ≤ x ∧ x ≤ 30) := hid termB_iff
      clear hx hc hml hlt
      by_cases x0 : x = 0
      · have T : (x == 0) = true := by rw [beq_iff_eq]; exact x0
        have HR := hid (HNO.out (by rw [x0]; rfl))
        clear x0
        go_wp2_with fail
        go_ret
        exact ⟨retB HR.out.symm, rfl⟩
      · have T : (x == 0) = false := by rw [beq_eq_false_iff_ne]; exact x0
        by_cases x1 : x < -30
        · have HR := hid (HNO.out (by
            cases ht : termB x with
            | false => rfl
            | true => have := HTB.out.1 ht; omega))
          clear x0
          go_wp2_with fail
          go_ret
          exact ⟨retB HR.out.symm, rfl⟩
        · by_cases x2 : x > 30
          · have HR := hid (HNO.out (by
              cases ht : termB x with
              | false => rfl
              | true => have := HTB.out.1 ht; omega))
            clear x0
            go_wp2_with fail
            go_ret
            exact ⟨retB HR.out.symm, rfl⟩
          · have HT : Hid (termB x = true) := hid (HTB.out.2 ⟨x0, by omega, by omega⟩)
            clear x0
            go_wp2_with fail
            go_round
            case measure => simp only [intOf]; have := HLT.out; omega
            case rel => exact ⟨K + 1, by go_num, by have := HLT.out; omega, hid (fun i hi => by
              by_cases e : i = K
              · rw [e, ← HX.out]; exact HT.out
              · exact HE.out i (by omega))⟩
    · obtain rfl : K = xs.length := by omega
      have HR : Hid (fvB xs = inR (xs.length : Nat) 1 4) := hid (by
        unfold fvB
        rw [show xs.all termB = true from List.all_eq_true.2 fun x hx => by
          obtain ⟨i, hi, rfl⟩ := List.getElem_of_mem hx
          have := HE.out i hi
          rwa [getD_at _ _ hi] at this, Bool.true_and])
      clear hlt
      by_cases l1 : (1 : Int) ≤ (xs.length : Int)
      · by_cases l2 : (xs.length : Int) ≤ 4
        · have HV : Hid (fvB xs = true) := hid (by rw [HR.out]; unfold inR; rw [decide_eq_true l1, decide_eq_true l2]; rfl)
          go_wp2_with fail
          go_ret
          exact ⟨retB HV.out.symm, rfl⟩
        · have HV : Hid (fvB xs = false) := hid (by rw [HR.out]; unfold inR; rw [decide_eq_true l1, decide_eq_false l2]; rfl)
          go_wp2_with fail
          go_ret
          exact ⟨retB HV.out.symm, rfl⟩
      · have HV : Hid (fvB xs = false) := hid (by rw [HR.out]; unfold inR; rw [decide_eq_false l1]; rfl)
        go_wp2_with fail
        go_ret
        exact ⟨retB HV.out.symm, rfl⟩

theorem formValid_any (v : Value) (xs : List Int) (w : World) (h : Rd w v xs) (hl : xs.length ≤ 1048576) : Calls Try.prog 19 #[v] w fun e w' => e = .returned (.bool (fvB xs)) ∧ Below w.heap.size w w' := by
  refine (formValidP_any v xs w h).mono ?_
  rintro e w' ⟨he, rfl⟩
  exact ⟨he, Below.refl _ _⟩

/-- a form as the program has it: its terms and the map of its invariants -/
def diaV (v : Value) (m : Nat) : Value := .agg #[v, .map (some m)]
def quadV (v : Value) (m : Nat) : Value := .iface 85 (diaV v m)
theorem rd_alloc {w : World} {v : Value} {xs : List Int} (h : Rd w v xs) (o : Obj) : Rd (w.alloc o) v xs := h.keep ((Below.refl _ _).alloc (Nat.le_refl _) _)

set_option maxRecDepth 100000 in
set_option maxHeartbeats 1000000 in
theorem diaCount_any (v : Value) (xs : List Int) (m : Nat) (w : World) (h : Rd w v xs) : Calls Try.prog 110 #[diaV v m] w fun e w' => e = .returned (.int .i64 (xs.length : Nat)) ∧ Below w.heap.size w w' := by
  obtain ⟨a, cap, rfl, _⟩ := h.form
  clear h
  unfold diaV
  go_enter Try.func110, Try.ntmps110
  go_wp2_with fail
  go_ret
  exact ⟨rfl, (Below.refl _ _).alloc (Nat.le_refl _) _⟩

set_option maxRecDepth 100000 in
set_option maxHeartbeats 1000000 in
theorem diaProduct_any (v : Value) (xs : List Int) (m : Nat) (w : World) (h : Rd w v xs) (hf : fvB xs = true) : Calls Try.prog 113 #[diaV v m] w fun e w' => e = .returned (.int .i64 (prodI xs)) ∧ Below w.heap.size w w' := by
  have h' := rd_alloc h (.cells #[v, .map (some m)] 85)
  obtain ⟨a, cap, rfl, hform⟩ := h'.form
  have HFM := hid hform
  have HF := hid hf
  have hl4 := (fvB_iff.1 hf).2.2
  clear hform h' h hf
  unfold diaV
  go_enter Try.func113, Try.ntmps113
  go_wp2_with fail
  go_loop [3, 9] (fun so si => ∃ K : Nat, si = .int .i64 K ∧ K ≤ xs.length ∧ so = .int .i64 (prodI (xs.take K))) (fun _ si => xs.length - (intOf si).toNat)
  case atStart => exact ⟨0, rfl, by omega, by simp [prodI]⟩
  case round =>
    obtain ⟨K, rfl, hK, rfl⟩ := hrel
    by_cases hlt : K < xs.length
    · obtain ⟨b, o, rfl, hml, hc⟩ := HFM.out (by omega)
      have hcell := hc K hlt
      have ht := fv_at HF.out hlt
      have hpr := prod_fv HF.out K
      have hst := prodI_take hlt
      have hpr2 := prod_fv HF.out (K + 1)
      rw [hst] at hpr2
      obtain ⟨x, hx⟩ : ∃ x, x = xs.getD K 0 := ⟨_, rfl⟩
      obtain ⟨p, hp⟩ : ∃ p, p = prodI (xs.take K) := ⟨_, rfl⟩
      rw [← hx] at hcell hst hpr2
      rw [← hp] at hst hpr2 hpr ⊢
      have hKi : (K : Int) < (xs.length : Int) := by omega
      have HLT := hid hlt
      have HST := hid hst
      have p1 := hpr.2.1
      have p2 := hpr.2.2
      have q1 := hpr2.2.1
      have q2 := hpr2.2.2
      clear hx hp hc hml hlt hpr hpr2 hst ht
      go_wp2_with fail
      go_round
      case measure => simp only [intOf]; have := HLT.out; omega
      case rel => exact ⟨K + 1, by go_num, by have := HLT.out; omega, vI HST.out.symm⟩
    · obtain rfl : K = xs.length := by omega
      have HR : Hid (prodI (xs.take xs.length) = prodI xs) := hid (by rw [List.take_length])
      clear hlt
      go_wp2_with fail
      go_ret
      exact ⟨by first | rfl | exact retI HR.out, (Below.refl _ _).alloc (Nat.le_refl _) _⟩

set_option maxRecDepth 100000 in
set_option maxHeartbeats 1000000 in
theorem diaLess_any (v : Value) (xs : List Int) (m : Nat) (w : World) (h : Rd w v xs) (hf : fvB xs = true) : Calls Try.prog 112 #[diaV v m] w fun e w' => e = .returned (.int .i64 (lessN xs : Nat)) ∧ Below w.heap.size w w' := by
  have h' := rd_alloc h (.cells #[v, .map (some m)] 85)
  obtain ⟨a, cap, rfl, hform⟩ := h'.form
  have HFM := hid hform
  have hl4 := (fvB_iff.1 hf).2.2
  clear hform h' h hf
  unfold diaV
  go_enter Try.func112, Try.ntmps112
  go_wp2_with fail
  go_loop [3, 9] (fun so si => ∃ K N : Nat, si = .int .i64 K ∧ K ≤ xs.length ∧ so = .int .i64 N ∧ N ≤ K ∧ Hid (N = lessN (xs.take K))) (fun _ si => xs.length - (intOf si).toNat)
  case atStart => exact ⟨0, 0, rfl, by omega, rfl, by omega, hid (by simp [lessN])⟩
  case round =>
    obtain ⟨K, N, rfl, hK, rfl, hN, HN⟩ := hrel
    by_cases hlt : K < xs.length
    · obtain ⟨b, o, rfl, hml, hc⟩ := HFM.out (by omega)
      have hcell := hc K hlt
      have hst := less_take hlt
      obtain ⟨x, hx⟩ : ∃ x, x = xs.getD K 0 := ⟨_, rfl⟩
      rw [← hx] at hcell hst
      have hKi : (K : Int) < (xs.length : Int) := by omega
      have HLT := hid hlt
      have HST := hid hst
      clear hx hc hml hlt hst
      by_cases x0 : x < 0
      · have HS : Hid (lessN (xs.take (K + 1)) = N + 1) := hid (by rw [HST.out, if_pos x0, ← HN.out])
        go_wp2_with fail
        go_round
        case measure => simp only [intOf]; have := HLT.out; omega
        case rel => exact ⟨K + 1, N + 1, by go_num, by have := HLT.out; omega, by go_num, by omega, hid HS.out.symm⟩
      · have HS : Hid (lessN (xs.take (K + 1)) = N) := hid (by rw [HST.out, if_neg x0, ← HN.out]; rfl)
        go_wp2_with fail
        go_round
        case measure => simp only [intOf]; have := HLT.out; omega
        case rel => exact ⟨K + 1, N, by go_num, by have := HLT.out; omega, rfl, by omega, hid HS.out.symm⟩
    · obtain rfl : K = xs.length := by omega
      have HR : Hid (N = lessN xs) := hid (by rw [HN.out, List.take_length])
      clear hlt
      go_wp2_with fail
      go_ret
      exact ⟨retI (by rw [HR.out]), (Below.refl _ _).alloc (Nat.le_refl _) _⟩

end Go.Proofs.Ytenibnblibnocac
