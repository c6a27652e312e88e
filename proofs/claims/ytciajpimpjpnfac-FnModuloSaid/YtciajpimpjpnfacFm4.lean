/-
  Contracts of the model's chapter 4: bad places; forms that are alike, everywhere or at a place.
-/
import Derived.Test.YtciajpimpjpnfacFm3
set_option linter.unusedVariables false
namespace Go.Proofs.Ytciajpimpjpnfac
open Go.RowKit

theorem prG_prod : ∀ {xs : List Int} {x : Nat}, PrG x → x ∣ (prodI xs).natAbs → ∃ t ∈ xs, x ∣ t.natAbs
  | [], x, hp, hd => by
    have h1 := Nat.le_of_dvd (by decide) hd
    have := hp.1
    have e : (prodI []).natAbs = 1 := rfl
    omega
  | t :: xs, x, hp, hd => by
    rw [show prodI (t :: xs) = t * prodI xs from rfl, Int.natAbs_mul] at hd
    rcases prG_mul hp hd with h | h
    · exact ⟨t, List.mem_cons_self .., h⟩
    · obtain ⟨u, hu, hx⟩ := prG_prod hp h
      exact ⟨u, List.mem_cons_of_mem _ hu, hx⟩
/-- a prime that divides a product of small terms is small -/
theorem small_prime {xs : List Int} (h : ∀ x ∈ xs, x ≠ 0 ∧ -30 ≤ x ∧ x ≤ 30) {x : Nat} (hp : PrG x) (hd : x ∣ (prodI xs).natAbs) : x ≤ 30 ∧ primeN x = true := by
  obtain ⟨t, ht, hx⟩ := prG_prod hp hd
  have hb := h t ht
  have := Nat.le_of_dvd (by omega) hx
  exact ⟨by omega, prG_primeN hp (by omega)⟩
theorem places_small {xs : List Int} (h : ∀ x ∈ xs, x ≠ 0 ∧ -30 ≤ x ∧ x ≤ 30) (hn : prodI xs ≠ 0) : ∀ q ∈ placesG (prodI xs), plI q = true := by
  intro q hq
  unfold placesG at hq
  simp only [List.cons_append, List.nil_append, List.mem_cons] at hq
  rcases hq with rfl | rfl | hq
  · rfl
  · rfl
  · have hm := (List.mem_filter.1 hq).1
    unfold natsI at hm
    rw [List.mem_map] at hm
    obtain ⟨x, hx, rfl⟩ := hm
    have hs := (plistG_spec (show 0 < (prodI xs).natAbs by omega)).1 x hx
    have := (small_prime h hs.1 hs.2).2
    unfold plI
    rw [show primeI (x : Int) = true from this, Bool.or_true]
theorem places_fv {xs : List Int} (hf : fvB xs = true) : ∀ q ∈ placesG (prodI xs), plI q = true :=
  places_small (fvB_iff.1 hf).1 (prod_full hf).1
theorem fpl_all {xs : List Int} : (fplL xs).length ≤ 1000000000002 ∧ ∀ q ∈ fplL xs, fvB xs = true ∧ plI q = true := by
  unfold fplL
  cases hf : fvB xs with
  | false => exact ⟨by simp, fun q hq => by simp at hq⟩
  | true =>
    have hp := prod_full hf
    rw [if_pos rfl]
    exact ⟨placesG_len hp.1 (by omega) (by omega), fun q hq => ⟨rfl, places_fv hf q hq⟩⟩


theorem l4Both_any (va vb : Value) (xs ys : List Int) (w : World) (hx : Rd w va xs) (hy : Rd w vb ys) : Calls Try.prog 30 #[va, vb] w fun e w' => e = .returned (.bool (bothB xs ys)) ∧ w = w' := by
  have HX := hid hx
  have HY := hid hy
  obtain ⟨a, cap, rfl, _⟩ := hx.form
  obtain ⟨a', cap', rfl, _⟩ := hy.form
  clear hx hy
  cases hf : fvB xs with
  | false =>
    have HR : Hid (bothB xs ys = false) := hid (by unfold bothB; rw [hf]; rfl)
    have HF := hid hf
    clear hf
    go_enter Try.func30, Try.ntmps30
    go_wp2_with fail
    refine (formValidS_any _ _ _ HX.out).mono ?_
    rw [HF.out]
    rintro e w' ⟨rfl, rfl⟩
    go_wp2
    go_ret
    exact ⟨retB HR.out.symm, rfl⟩
  | true =>
    cases hg : fvB ys with
    | false =>
      have HR : Hid (bothB xs ys = false) := hid (by unfold bothB; rw [hf, hg]; rfl)
      have HF := hid hf
      have HG := hid hg
      clear hf hg
      go_enter Try.func30, Try.ntmps30
      go_wp2_with fail
      refine (formValidS_any _ _ _ HX.out).mono ?_
      rw [HF.out]
      rintro e w' ⟨rfl, rfl⟩
      go_wp2_with fail
      refine (formValidS_any _ _ _ HY.out).mono ?_
      rw [HG.out]
      rintro e w' ⟨rfl, rfl⟩
      go_wp2
      go_ret
      exact ⟨retB HR.out.symm, rfl⟩
    | true =>
      have HR : Hid (bothB xs ys = (xs.length == ys.length)) := hid (by unfold bothB; rw [hf, hg]; rfl)
      have HF := hid hf
      have HG := hid hg
      clear hf hg
      go_enter Try.func30, Try.ntmps30
      go_wp2_with fail
      refine (formValidS_any _ _ _ HX.out).mono ?_
      rw [HF.out]
      rintro e w' ⟨rfl, rfl⟩
      go_wp2_with fail
      refine (formValidS_any _ _ _ HY.out).mono ?_
      rw [HG.out]
      rintro e w' ⟨rfl, rfl⟩
      go_wp2
      go_ret
      exact ⟨retB (by rw [HR.out, Bool.eq_iff_iff]; simp; omega), rfl⟩

set_option maxRecDepth 100000 in
set_option maxHeartbeats 1000000 in
theorem l4Alike_any (va vb : Value) (xs ys : List Int) (q : Int) (w : World) (hx : Rd w va xs) (hy : Rd w vb ys) (hf : fvB xs = true) (hg : fvB ys = true) (hq : plI q = true) :
    Calls Try.prog 34 #[va, vb, .int .i64 q] w fun e w' => e = .returned (.bool (alikeB xs ys q)) ∧ ∃ k, w' = w.drewN k := by
  have HX := hid hx
  have HY := hid hy
  have HF := hid hf
  have HG := hid hg
  have HQ := hid hq
  by_cases hq0 : q = 0
  · subst hq0
    have HR : Hid (alikeB xs ys 0 = (lessN xs == lessN ys)) := rfl
    clear hx hy hf hg hq
    go_enter Try.func34, Try.ntmps34
    go_wp2_with fail
    refine (l4Less_any _ _ _ HX.out HF.out).mono ?_
    rintro e w' ⟨rfl, rfl⟩
    go_wp2_with fail
    refine (l4Less_any _ _ _ HY.out HG.out).mono ?_
    rintro e w' ⟨rfl, rfl⟩
    go_wp2
    go_ret
    exact ⟨retB (by rw [HR.out, Bool.eq_iff_iff]; simp; omega), 0, rfl⟩
  · have T0 : (q == 0) = false := by rw [beq_eq_false_iff_ne]; exact hq0
    have hp := prod_full hf
    have hr := prod_full hg
    have HN := hid (Int.mul_ne_zero hp.1 hr.1)
    have hm : (prodI xs * prodI ys).natAbs ≤ 810000 * 810000 := by rw [Int.natAbs_mul]; exact Nat.mul_le_mul (by omega) (by omega)
    have m1 : -656100000000 ≤ prodI xs * prodI ys := by omega
    have m2 : prodI xs * prodI ys ≤ 656100000000 := by omega
    have HV : Hid (alikeB xs ys q = (sqAt (prodI xs * prodI ys) q && (hasF xs q == hasF ys q))) := hid (by unfold alikeB; rw [if_neg hq0])
    cases hs : sqAt (prodI xs * prodI ys) q with
    | false =>
      have HS := hid hs
      have HR : Hid (alikeB xs ys q = false) := hid (by rw [HV.out, HS.out]; rfl)
      clear hx hy hf hg hq hp hr hm hs hq0
      go_enter Try.func34, Try.ntmps34
      go_wp2_with fail
      refine (l4Product_any _ _ _ HX.out HF.out).mono ?_
      rintro e w' ⟨rfl, rfl⟩
      go_wp2_with fail
      refine (l4Product_any _ _ _ HY.out HG.out).mono ?_
      rintro e w' ⟨rfl, rfl⟩
      go_wp2_with (go_at_call 65; refine (l2Square_any _ _ HN.out (by omega) (by omega) HQ.out _).mono ?_; rw [HS.out]; rintro e w' ⟨rfl, rfl⟩)
      go_ret
      exact ⟨retB HR.out.symm, 0, rfl⟩
    | true =>
      have HS := hid hs
      have HR : Hid (alikeB xs ys q = (hasF xs q == hasF ys q)) := hid (by rw [HV.out, HS.out]; rfl)
      clear hx hy hf hg hq hp hr hm hs hq0
      go_enter Try.func34, Try.ntmps34
      go_wp2_with fail
      refine (l4Product_any _ _ _ HX.out HF.out).mono ?_
      rintro e w' ⟨rfl, rfl⟩
      go_wp2_with fail
      refine (l4Product_any _ _ _ HY.out HG.out).mono ?_
      rintro e w' ⟨rfl, rfl⟩
      go_wp2_with (go_at_call 65; refine (l2Square_any _ _ HN.out (by omega) (by omega) HQ.out _).mono ?_; rw [HS.out]; rintro e w' ⟨rfl, rfl⟩)
      refine (l4Invariant_any _ _ _ _ HX.out HF.out HQ.out).mono ?_
      rintro e wq ⟨rfl, k1, rfl⟩
      go_wp2_with fail
      refine (l4Invariant_any _ _ _ _ (HY.out.drewN k1) HG.out HQ.out).mono ?_
      rintro e wr ⟨rfl, k2, rfl⟩
      go_wp2
      go_ret
      exact ⟨retB HR.out.symm, k1 + k2, by first | rfl | exact World.drewN_drewN ..⟩


end Go.Proofs.Ytciajpimpjpnfac
