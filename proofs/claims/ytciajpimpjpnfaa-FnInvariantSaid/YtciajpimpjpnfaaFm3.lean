/-
  Contracts of the model's chapter 4: forms at a place; forms that are alike.
-/
import Derived.Test.YtciajpimpjpnfaaFm2
set_option linter.unusedVariables false
namespace Go.Proofs.Ytciajpimpjpnfaa
open Go.RowKit

theorem Rd.drewN {w : World} {v : Value} {xs : List Int} (h : Rd w v xs) (k : Nat) : Rd (w.drewN k) v xs := h
theorem Rd.keep {w w' : World} {v : Value} {xs : List Int} (h : Rd w v xs) (hb : Below w.heap.size w w') : Rd w' v xs := by
  rcases h with h | ⟨b, o, cap, hv, h0, hm, hc⟩
  · exact .inl h
  · refine .inr ⟨b, o, cap, hv, h0, hm, fun i hi => ?_⟩
    have hci := hc i hi
    obtain ⟨ob, ho, _⟩ := cells_of_cell hci
    have hlt : b < w.heap.size := (Array.getElem?_eq_some_iff.1 ho).1
    rw [hb.cell (p := ⟨b, o + i, none⟩) hlt]
    exact hci
theorem neg_bd {n : Int} (h : -810000 ≤ n ∧ n ≤ 810000) : -810000 ≤ -n ∧ -n ≤ 810000 := by omega

theorem formInvariantS_any (v : Value) (xs : List Int) (q : Int) (w : World) (h : Rd w v xs) : Calls Try.prog 37 #[v, .int .i64 q] w fun e w' => e = .returned (.int .i64 (finvV xs q)) ∧ ∃ k, w' = w.drewN k := by
  have HH := hid h
  cases hf : fvB xs with
  | false =>
    have HR : Hid (finvV xs q = 0) := hid (by unfold finvV; rw [hf]; rfl)
    have HF := hid hf
    clear hf h
    go_enter Try.func37, Try.ntmps37
    go_wp2_with (go_at_call 73; refine (formValidS_any _ _ _ HH.out).mono ?_; rw [HF.out]; rintro e w' ⟨rfl, rfl⟩)
    go_ret
    exact ⟨retI HR.out.symm, 0, rfl⟩
  | true =>
    cases hq : plI q with
    | false =>
      have HR : Hid (finvV xs q = 0) := hid (by unfold finvV; rw [hf, hq]; rfl)
      have HF := hid hf
      have HQ := hid hq
      clear hf h hq
      go_enter Try.func37, Try.ntmps37
      go_wp2_with (first | (go_at_call 73; refine (formValidS_any _ _ _ HH.out).mono ?_; rw [HF.out]; rintro e w' ⟨rfl, rfl⟩) | (go_at_call 63; refine (placeValidS_any _ _).mono ?_; rw [HQ.out]; rintro e w' ⟨rfl, rfl⟩))
      go_ret
      exact ⟨retI HR.out.symm, 0, rfl⟩
    | true =>
      have HR : Hid (finvV xs q = hasF xs q) := hid (by unfold finvV; rw [hf, hq]; rfl)
      have HF := hid hf
      have HQ := hid hq
      clear hf h hq
      go_enter Try.func37, Try.ntmps37
      go_wp2_with (first | (go_at_call 73; refine (formValidS_any _ _ _ HH.out).mono ?_; rw [HF.out]; rintro e w' ⟨rfl, rfl⟩) | (go_at_call 63; refine (placeValidS_any _ _).mono ?_; rw [HQ.out]; rintro e w' ⟨rfl, rfl⟩) | (go_at_call 81; refine (l4Invariant_any _ _ _ _ HH.out HF.out HQ.out).mono ?_; rintro e w' ⟨rfl, k, rfl⟩))
      go_ret
      exact ⟨retI HR.out.symm, k, rfl⟩

theorem formPlacesS_any (v : Value) (xs : List Int) (w : World) (h : Rd w v xs) : Calls Try.prog 42 #[v] w fun e w' => ∃ u, e = .returned u ∧ Owns w' w.heap.size u (fplL xs) ∧ Below w.heap.size w w' := by
  have HH := hid h
  cases hf : fvB xs with
  | false =>
    have HR : Hid (fplL xs = []) := hid (by unfold fplL; rw [hf]; rfl)
    have HF := hid hf
    clear hf h
    go_enter Try.func42, Try.ntmps42
    go_wp2_with (go_at_call 73; refine (formValidS_any _ _ _ HH.out).mono ?_; rw [HF.out]; rintro e w' ⟨rfl, rfl⟩)
    go_ret
    exact ⟨_, rfl, by rw [HR.out]; exact World.ownsRow_made (size := 1) w #[] 0 (Nat.le_refl _) (by unfold maxLen; omega) rfl, (Below.refl _ _).alloc (Nat.le_refl _) _⟩
  | true =>
    have HR : Hid (fplL xs = placesG (prodI xs)) := hid (by unfold fplL; rw [hf]; rfl)
    have HF := hid hf
    have hp := prod_full hf
    have HP0 := hid hp.1
    have p1 := hp.2.1
    have p2 := hp.2.2
    clear hf h hp
    go_enter Try.func42, Try.ntmps42
    go_wp2_with (first | (go_at_call 73; refine (formValidS_any _ _ _ HH.out).mono ?_; rw [HF.out]; rintro e w' ⟨rfl, rfl⟩) | (go_at_call 75; refine (l4Product_any _ _ _ HH.out HF.out).mono ?_; rintro e w' ⟨rfl, rfl⟩) | (go_at_call 85; refine (l2PlacesG_any _ HP0.out (by omega) (by omega) _).mono ?_; rintro e w2 ⟨u, rfl, ho, hb⟩))
    go_ret
    exact ⟨u, rfl, by rw [HR.out]; exact ho, hb⟩

set_option maxRecDepth 100000 in
set_option maxHeartbeats 2000000 in
theorem l4Vanishes_any (v : Value) (xs : List Int) (q : Int) (w : World) (h : Rd w v xs) (hf : fvB xs = true) (hq : plI q = true) :
    Calls Try.prog 87 #[v, .int .i64 q] w fun e w' => e = .returned (.bool (vanB xs q)) ∧ ∃ k, w' = w.drewN k := by
  have HH := hid h
  have HF := hid hf
  have HQ := hid hq
  obtain ⟨_, hl1, hl4⟩ := fvB_iff.1 hf
  have hle := less_le xs
  obtain ⟨a, cap, rfl, _⟩ := h.form
  by_cases hq0 : q = 0
  · subst hq0
    have HR : Hid (vanB xs 0 = (decide (0 < lessN xs) && decide (lessN xs < xs.length))) := hid rfl
    clear h hf hq
    go_enter Try.func87, Try.ntmps87
    by_cases h0 : 0 < lessN xs
    · have h0i : (0 : Int) < (lessN xs : Int) := by omega
      have HR2 : Hid (vanB xs 0 = decide (lessN xs < xs.length)) := hid (by rw [HR.out, decide_eq_true h0, Bool.true_and])
      by_cases h1 : lessN xs < xs.length
      · have h1i : (lessN xs : Int) < (xs.length : Int) := by omega
        have HR3 : Hid (vanB xs 0 = true) := hid (by rw [HR2.out, decide_eq_true h1])
        clear h0 h1
        go_wp2_with fail
        refine (l4Less_any _ _ _ HH.out HF.out).mono ?_
        rintro e w' ⟨rfl, rfl⟩
        go_wp2_with fail
        refine (l4Less_any _ _ _ HH.out HF.out).mono ?_
        rintro e w' ⟨rfl, rfl⟩
        go_wp2
        go_ret
        exact ⟨retB HR3.out.symm, 0, rfl⟩
      · have h1i : ¬ (lessN xs : Int) < (xs.length : Int) := by omega
        have HR3 : Hid (vanB xs 0 = false) := hid (by rw [HR2.out, decide_eq_false h1])
        clear h0 h1
        go_wp2_with fail
        refine (l4Less_any _ _ _ HH.out HF.out).mono ?_
        rintro e w' ⟨rfl, rfl⟩
        go_wp2_with fail
        refine (l4Less_any _ _ _ HH.out HF.out).mono ?_
        rintro e w' ⟨rfl, rfl⟩
        go_wp2
        go_ret
        exact ⟨retB (by rw [HR3.out]; simp; omega), 0, rfl⟩
    · have h0i : ¬ (0 : Int) < (lessN xs : Int) := by omega
      have HR2 : Hid (vanB xs 0 = false) := hid (by rw [HR.out, decide_eq_false h0, Bool.false_and])
      clear h0
      go_wp2_with fail
      refine (l4Less_any _ _ _ HH.out HF.out).mono ?_
      rintro e w' ⟨rfl, rfl⟩
      go_wp2
      go_ret
      exact ⟨retB HR2.out.symm, 0, rfl⟩
  · have T0 : (q == 0) = false := by rw [beq_eq_false_iff_ne]; exact hq0
    have hp := prod_full hf
    have HP0 := hid hp.1
    have HPN := hid (show -(prodI xs) ≠ 0 by have := hp.1; omega)
    have p1 := hp.2.1
    have p2 := hp.2.2
    have hlc : xs.length = 1 ∨ xs.length = 2 ∨ xs.length = 3 ∨ xs.length = 4 := by omega
    rcases hlc with hl | hl | hl | hl
    · have HV := hid (van_one hq0 hl)
      rw [hl]
      rw [hl] at HH
      clear h hf hq hp hq0 hl
      go_enter Try.func87, Try.ntmps87
      go_wp2_with (go_at_call 75; refine (l4Product_any _ _ _ HH.out HF.out).mono ?_; rintro e w' ⟨rfl, rfl⟩)
      go_ret
      exact ⟨retB HV.out.symm, 0, rfl⟩
    · have HV := hid (van_two hq0 hl)
      rw [hl]
      rw [hl] at HH
      clear h hf hq hp hq0 hl
      go_enter Try.func87, Try.ntmps87
      go_wp2_with (first | (go_at_call 75; refine (l4Product_any _ _ _ HH.out HF.out).mono ?_; rintro e w' ⟨rfl, rfl⟩) | (go_at_call 112; refine (l2Square_any _ _ HPN.out (by omega) (by omega) HQ.out _).mono ?_; rintro e w' ⟨rfl, rfl⟩))
      go_ret
      exact ⟨retB HV.out.symm, 0, rfl⟩
    · have HV := hid (van_three hq0 hl)
      rw [hl]
      rw [hl] at HH
      clear h hf hq hp hq0 hl
      go_enter Try.func87, Try.ntmps87
      go_wp2_with (first | (go_at_call 75; refine (l4Product_any _ _ _ HH.out HF.out).mono ?_; rintro e w' ⟨rfl, rfl⟩) | (go_at_call 81; refine (l4Invariant_any _ _ _ _ HH.out HF.out HQ.out).mono ?_; rintro e w' ⟨rfl, k, rfl⟩) | (go_at_call 105; refine (l3Symbol_any _ _ _ (by decide) HPN.out (by omega) (by omega) (by omega) (by omega) HQ.out _).mono ?_; rintro e w' ⟨rfl, rfl⟩))
      go_ret
      exact ⟨retB HV.out.symm, k, rfl⟩
    · have HV := hid (van_four hq0 hl)
      rw [hl]
      rw [hl] at HH
      clear h hf hq hp hq0 hl
      cases hs : sqAt (prodI xs) q with
      | false =>
        have HS := hid hs
        have HV2 : Hid (vanB xs q = true) := hid (by rw [HV.out, HS.out]; rfl)
        clear hs
        go_enter Try.func87, Try.ntmps87
        go_wp2_with (first | (go_at_call 75; refine (l4Product_any _ _ _ HH.out HF.out).mono ?_; rintro e w' ⟨rfl, rfl⟩) | (go_at_call 112; refine (l2Square_any _ _ HP0.out (by omega) (by omega) HQ.out _).mono ?_; rw [HS.out]; rintro e w' ⟨rfl, rfl⟩))
        go_ret
        exact ⟨retB HV2.out.symm, 0, rfl⟩
      | true =>
        have HS := hid hs
        have HV2 : Hid (vanB xs q = (hasF xs q == symV (-1) (-1) q)) := hid (by rw [HV.out, HS.out]; rfl)
        clear hs
        go_enter Try.func87, Try.ntmps87
        go_wp2_with (first | (go_at_call 75; refine (l4Product_any _ _ _ HH.out HF.out).mono ?_; rintro e w' ⟨rfl, rfl⟩) | (go_at_call 112; refine (l2Square_any _ _ HP0.out (by omega) (by omega) HQ.out _).mono ?_; rw [HS.out]; rintro e w' ⟨rfl, rfl⟩) | (go_at_call 81; refine (l4Invariant_any _ _ _ _ HH.out HF.out HQ.out).mono ?_; rintro e w' ⟨rfl, k, rfl⟩) | (go_at_call 105; refine (l3Symbol_any _ _ _ (by decide) (by decide) (by omega) (by omega) (by omega) (by omega) HQ.out _).mono ?_; rintro e w' ⟨rfl, rfl⟩))
        go_ret
        exact ⟨retB HV2.out.symm, k, rfl⟩

theorem formVanishesS_any (v : Value) (xs : List Int) (q : Int) (w : World) (h : Rd w v xs) : Calls Try.prog 47 #[v, .int .i64 q] w fun e w' => e = .returned (.bool (fvanV xs q)) ∧ ∃ k, w' = w.drewN k := by
  have HH := hid h
  cases hf : fvB xs with
  | false =>
    have HR : Hid (fvanV xs q = false) := hid (by unfold fvanV; rw [hf]; rfl)
    have HF := hid hf
    clear hf h
    go_enter Try.func47, Try.ntmps47
    go_wp2_with (go_at_call 73; refine (formValidS_any _ _ _ HH.out).mono ?_; rw [HF.out]; rintro e w' ⟨rfl, rfl⟩)
    go_ret
    exact ⟨retB HR.out.symm, 0, rfl⟩
  | true =>
    cases hq : plI q with
    | false =>
      have HR : Hid (fvanV xs q = false) := hid (by unfold fvanV; rw [hf, hq]; rfl)
      have HF := hid hf
      have HQ := hid hq
      clear hf h hq
      go_enter Try.func47, Try.ntmps47
      go_wp2_with (first | (go_at_call 73; refine (formValidS_any _ _ _ HH.out).mono ?_; rw [HF.out]; rintro e w' ⟨rfl, rfl⟩) | (go_at_call 63; refine (placeValidS_any _ _).mono ?_; rw [HQ.out]; rintro e w' ⟨rfl, rfl⟩))
      go_ret
      exact ⟨retB HR.out.symm, 0, rfl⟩
    | true =>
      have HR : Hid (fvanV xs q = vanB xs q) := hid (by unfold fvanV; rw [hf, hq]; rfl)
      have HF := hid hf
      have HQ := hid hq
      clear hf h hq
      go_enter Try.func47, Try.ntmps47
      go_wp2_with (first | (go_at_call 73; refine (formValidS_any _ _ _ HH.out).mono ?_; rw [HF.out]; rintro e w' ⟨rfl, rfl⟩) | (go_at_call 63; refine (placeValidS_any _ _).mono ?_; rw [HQ.out]; rintro e w' ⟨rfl, rfl⟩) | (go_at_call 87; refine (l4Vanishes_any _ _ _ _ HH.out HF.out HQ.out).mono ?_; rintro e w' ⟨rfl, k, rfl⟩))
      go_ret
      exact ⟨retB HR.out.symm, k, rfl⟩

end Go.Proofs.Ytciajpimpjpnfaa
