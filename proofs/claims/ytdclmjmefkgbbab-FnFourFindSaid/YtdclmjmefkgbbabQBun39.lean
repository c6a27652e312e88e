/-
  Some texts in one file: Imp3B Imp4A.
-/
import Derived.Test.YtdclmjmefkgbbabQImp3A
import Derived.Test.YtdclmjmefkgbbabQImpC
import Derived.Test.YtdclmjmefkgbbabQIterG
import Derived.Test.YtdclmjmefkgbbabQBun8
import Derived.Test.YtdclmjmefkgbbabQBun35
import Derived.Test.YtdclmjmefkgbbabQBun14
import Derived.Handy
/-! Imp3B -/
set_option linter.unusedVariables false
namespace Go.Proofs.Ytdclmjmefkgbbab
open Go.RowKit

theorem okAB_parts {a b : Int} (h : okAB a b = true) : factB a = true ∧ factB b = true := by
  unfold okAB at h
  rw [Bool.and_eq_true] at h
  exact h

end Go.Proofs.Ytdclmjmefkgbbab

/-! Imp4A -/
set_option linter.unusedVariables false
namespace Go.Proofs.Ytdclmjmefkgbbab
open Go.RowKit

theorem formValid_any (v : Value) (xs : List Int) (w : World) (h : Rd w v xs) (hl : xs.length ≤ 1048576) : Calls Try.prog 21 #[v] w fun e w' => e = .returned (.bool (fvB xs)) ∧ Below w.heap.size w w' := by
  refine (formValidP_any v xs w h).mono ?_
  rintro e w' ⟨he, rfl⟩
  exact ⟨he, Below.refl _ _⟩

/-- a form as the program has it: its terms and the map of its invariants -/
def diaV (v : Value) (m : Nat) : Value := .agg #[v, .map (some m)]
def quadV (v : Value) (m : Nat) : Value := .iface 81 (diaV v m)
theorem rd_alloc {w : World} {v : Value} {xs : List Int} (h : Rd w v xs) (o : Obj) : Rd (w.alloc o) v xs := h.keep ((Below.refl _ _).alloc (Nat.le_refl _) _)

set_option maxRecDepth 100000 in
set_option maxHeartbeats 1000000 in
theorem diaCount_any (v : Value) (xs : List Int) (m : Nat) (w : World) (h : Rd w v xs) : Calls Try.prog 127 #[diaV v m] w fun e w' => e = .returned (.int .i64 (xs.length : Nat)) ∧ Below w.heap.size w w' := by
  obtain ⟨a, cap, rfl, _⟩ := h.form
  clear h
  unfold diaV
  go_enter Try.func127, Try.ntmps127
  go_wp2_with fail
  go_ret
  exact ⟨rfl, (Below.refl _ _).alloc (Nat.le_refl _) _⟩

set_option maxRecDepth 100000 in
set_option maxHeartbeats 1000000 in
theorem diaProduct_any (v : Value) (xs : List Int) (m : Nat) (w : World) (h : Rd w v xs) (hf : fvB xs = true) : Calls Try.prog 130 #[diaV v m] w fun e w' => e = .returned (.int .i64 (prodI xs)) ∧ Below w.heap.size w w' := by
  have h' := rd_alloc h (.cells #[v, .map (some m)] 81)
  obtain ⟨a, cap, rfl, hform⟩ := h'.form
  have HFM := hid hform
  have HF := hid hf
  have hl4 := (fvB_iff.1 hf).2.2
  clear hform h' h hf
  unfold diaV
  go_enter Try.func130, Try.ntmps130
  go_wp2_with fail
  go_loop [3, 9] (fun so si => ∃ K : Nat, si = .int .i64 K ∧ K ≤ xs.length ∧ so = .int .i64 (prodI (xs.take K))) (fun _ si => xs.length - (intOf si).toNat)
  case atStart => exact ⟨0, rfl, by omega, by simp [prodI]⟩
  case round =>
    obtain ⟨K, rfl, hK, rfl⟩ := hrel
    by_cases hlt : K < xs.length
    · obtain ⟨b, o, rfl, hml, hc⟩ := HFM.out (by omega)
      have hcell := hc K hlt
      have ht := fv_at HF.out hlt
      have hpr := prod_fv HF.out K
      have hst := prodI_take hlt
      have hpr2 := prod_fv HF.out (K + 1)
      rw [hst] at hpr2
      obtain ⟨x, hx⟩ : ∃ x, x = xs.getD K 0 := ⟨_, rfl⟩
      obtain ⟨p, hp⟩ : ∃ p, p = prodI (xs.take K) := ⟨_, rfl⟩
      rw [← hx] at hcell hst hpr2
      rw [← hp] at hst hpr2 hpr ⊢
      have hKi : (K : Int) < (xs.length : Int) := by omega
      have HLT := hid hlt
      have HST := hid hst
      have p1 := hpr.2.1
      have p2 := hpr.2.2
      have q1 := hpr2.2.1
      have q2 := hpr2.2.2
      clear hx hp hc hml hlt hpr hpr2 hst ht
      go_wp2_with fail
      go_round
      case measure => simp only [intOf]; have := HLT.out; omega
      case rel => exact ⟨K + 1, by go_num, by have := HLT.out; omega, vI HST.out.symm⟩
    · obtain rfl : K = xs.length := by omega
      have HR : Hid (prodI (xs.take xs.length) = prodI xs) := hid (by rw [List.take_length])
      clear hlt
      go_wp2_with fail
      go_ret
      exact ⟨by first | rfl | exact retI HR.out, (Below.refl _ _).alloc (Nat.le_refl _) _⟩

set_option maxRecDepth 100000 in
set_option maxHeartbeats 1000000 in
theorem diaLess_any (v : Value) (xs : List Int) (m : Nat) (w : World) (h : Rd w v xs) (hf : fvB xs = true) : Calls Try.prog 129 #[diaV v m] w fun e w' => e = .returned (.int .i64 (lessN xs : Nat)) ∧ Below w.heap.size w w' := by
  have h' := rd_alloc h (.cells #[v, .map (some m)] 81)
  obtain ⟨a, cap, rfl, hform⟩ := h'.form
  have HFM := hid hform
  have hl4 := (fvB_iff.1 hf).2.2
  clear hform h' h hf
  unfold diaV
  go_enter Try.func129, Try.ntmps129
  go_wp2_with fail
  go_loop [3, 9] (fun so si => ∃ K N : Nat, si = .int .i64 K ∧ K ≤ xs.length ∧ so = .int .i64 N ∧ N ≤ K ∧ Hid (N = lessN (xs.take K))) (fun _ si => xs.length - (intOf si).toNat)
  case atStart => exact ⟨0, 0, rfl, by omega, rfl, by omega, hid (by simp [lessN])⟩
  case round =>
    obtain ⟨K, N, rfl, hK, rfl, hN, HN⟩ := hrel
    by_cases hlt : K < xs.length
    · obtain ⟨b, o, rfl, hml, hc⟩ := HFM.out (by omega)
      have hcell := hc K hlt
      have hst := less_take hlt
      obtain ⟨x, hx⟩ : ∃ x, x = xs.getD K 0 := ⟨_, rfl⟩
      rw [← hx] at hcell hst
      have hKi : (K : Int) < (xs.length : Int) := by omega
      have HLT := hid hlt
      have HST := hid hst
      clear hx hc hml hlt hst
      by_cases x0 : x < 0
      · have HS : Hid (lessN (xs.take (K + 1)) = N + 1) := hid (by rw [HST.out, if_pos x0, ← HN.out])
        go_wp2_with fail
        go_round
        case measure => simp only [intOf]; have := HLT.out; omega
        case rel => exact ⟨K + 1, N + 1, by go_num, by have := HLT.out; omega, by go_num, by omega, hid HS.out.symm⟩
      · have HS : Hid (lessN (xs.take (K + 1)) = N) := hid (by rw [HST.out, if_neg x0, ← HN.out]; rfl)
        go_wp2_with fail
        go_round
        case measure => simp only [intOf]; have := HLT.out; omega
        case rel => exact ⟨K + 1, N, by go_num, by have := HLT.out; omega, rfl, by omega, hid HS.out.symm⟩
    · obtain rfl : K = xs.length := by omega
      have HR : Hid (N = lessN xs) := hid (by rw [HN.out, List.take_length])
      clear hlt
      go_wp2_with fail
      go_ret
      exact ⟨retI (by rw [HR.out]), (Below.refl _ _).alloc (Nat.le_refl _) _⟩

end Go.Proofs.Ytdclmjmefkgbbab
