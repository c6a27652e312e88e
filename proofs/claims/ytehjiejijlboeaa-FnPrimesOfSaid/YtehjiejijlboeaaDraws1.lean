/-
  What the drawing functions of chapter 1 hand out: numbers, primes, moduli, in their ranges.
-/
import Derived.Test.YtehjiejijlboeaaDraws
set_option linter.unusedVariables false
namespace Go.Proofs.Ytehjiejijlboeaa
open Go.RowKit

def Drew1 (P : Int → Prop) (w : World) (e : Ending) (w' : World) : Prop := ∃ x : Int, e = .returned (.int .i64 x) ∧ P x ∧ Below w.heap.size w w'
def Drew2 (P : Int → Int → Prop) (w : World) (e : Ending) (w' : World) : Prop := ∃ x y : Int, e = .returned (.tuple #[.int .i64 x, .int .i64 y]) ∧ P x y ∧ Below w.heap.size w w'
def Drew3 (P : Int → Int → Int → Prop) (w : World) (e : Ending) (w' : World) : Prop := ∃ x y z : Int, e = .returned (.tuple #[.int .i64 x, .int .i64 y, .int .i64 z]) ∧ P x y z ∧ Below w.heap.size w w'
theorem Drew1.mk {P : Int → Prop} {w w' : World} {x : Int} (h : P x) (hb : Below w.heap.size w w') : Drew1 P w (.returned (.int .i64 x)) w' := ⟨x, rfl, h, hb⟩
theorem Drew2.mk {P : Int → Int → Prop} {w w' : World} {x y : Int} (h : P x y) (hb : Below w.heap.size w w') : Drew2 P w (.returned (.tuple #[.int .i64 x, .int .i64 y])) w' := ⟨x, y, rfl, h, hb⟩
theorem Drew3.mk {P : Int → Int → Int → Prop} {w w' : World} {x y z : Int} (h : P x y z) (hb : Below w.heap.size w w') : Drew3 P w (.returned (.tuple #[.int .i64 x, .int .i64 y, .int .i64 z])) w' := ⟨x, y, z, rfl, h, hb⟩
theorem only_below {w w1 w2 : World} (hb : Below w.heap.size w w1) (ho : Only w.heap.size w1 w2) : Below w.heap.size w w2 := hb.trans (ho.below (Nat.le_refl _) hb.size)

/-- ranges -/
def smallI (x : Int) : Prop := -6000 ≤ x ∧ x ≤ 6000
theorem numOk_small {x : Int} (h : numOk x) : -5001 ≤ x ∧ x ≤ 5001 := by unfold numOk at h; omega
theorem prOk_small {x : Int} (h : prOk x) : -3 ≤ x ∧ x ≤ 97 := by unfold prOk at h; omega

set_option maxRecDepth 100000 in
set_option maxHeartbeats 2000000 in
theorem drawPrimeIs_any (v : Value) (n : Nat) (w : World) (h : CodeIn w v n) : Calls Try.prog 15 #[v] w (Drew1 smallI w) := by
  go_enter Try.func15, Try.ntmps15
  go_wp2_with fail
  refine (open_any v n _ h).mono ?_
  rintro e w1 ⟨v1, n1, rfl, HR, HB⟩
  have hsz := HB.size
  have hlt := HR.out.lt
  go_wp2_with fail
  refine (pick_any _ _ _ _ 0 12 (by omega) (by omega) (by omega) _ (HR.out)).mono ?_
  rintro e wHA ⟨x, q, rfl, hx0, hx1, _, hq, HA, HO⟩
  replace hx1 := hx1 (by omega)
  have hs := HO.out.size
  have hR := HA.out.lt
  by_cases h0 : x = 0
  · have T : (x == 0) = true := by rw [beq_iff_eq]; exact h0
    clear h0
    go_wp2_with fail
    refine (pick_any _ _ _ _ q 6 (by omega) (by omega) (by omega) _ (HA.out.alloc (by omega) _)).mono ?_
    rintro e wHC ⟨y, r, rfl, hy0, hy1, _, hr, HC, HP⟩
    replace hy1 := hy1 (by omega)
    have hyc : y = 0 ∨ y = 1 ∨ y = 2 ∨ y = 3 ∨ y = 4 ∨ y = 5 := by omega
    rcases hyc with rfl | rfl | rfl | rfl | rfl | rfl
    · have c := lit_cell (fr := (0, 0)) HP.out hR 0
      simp at c
      go_wp2
      go_ret
      exact Drew1.mk (by unfold smallI; omega) (only_below HB ((HO.out.alloc _).trans HP.out))
    · have c := lit_cell (fr := (0, 0)) HP.out hR 1
      simp at c
      go_wp2
      go_ret
      exact Drew1.mk (by unfold smallI; omega) (only_below HB ((HO.out.alloc _).trans HP.out))
    · have c := lit_cell (fr := (0, 0)) HP.out hR 2
      simp at c
      go_wp2
      go_ret
      exact Drew1.mk (by unfold smallI; omega) (only_below HB ((HO.out.alloc _).trans HP.out))
    · have c := lit_cell (fr := (0, 0)) HP.out hR 3
      simp at c
      go_wp2
      go_ret
      exact Drew1.mk (by unfold smallI; omega) (only_below HB ((HO.out.alloc _).trans HP.out))
    · have c := lit_cell (fr := (0, 0)) HP.out hR 4
      simp at c
      go_wp2
      go_ret
      exact Drew1.mk (by unfold smallI; omega) (only_below HB ((HO.out.alloc _).trans HP.out))
    · have c := lit_cell (fr := (0, 0)) HP.out hR 5
      simp at c
      go_wp2
      go_ret
      exact Drew1.mk (by unfold smallI; omega) (only_below HB ((HO.out.alloc _).trans HP.out))
  · have T : (x == 0) = false := by rw [beq_eq_false_iff_ne]; exact h0
    clear h0
    go_wp2_with fail
    refine (pick_any _ _ _ _ q 200 (by omega) (by omega) (by omega) _ (HA.out)).mono ?_
    rintro e wHC ⟨y, r, rfl, hy0, hy1, _, hr, HC, HP⟩
    replace hy1 := hy1 (by omega)
    go_wp2_with fail
    refine (pick_any _ _ _ _ r 10 (by omega) (by omega) (by omega) _ (HC.out)).mono ?_
    rintro e wHD ⟨z, s, rfl, hz0, hz1, _, hs, HD, HQ⟩
    replace hz1 := hz1 (by omega)
    go_wp2_with fail
    refine (pick_any _ _ _ _ s 200 (by omega) (by omega) (by omega) _ (HD.out)).mono ?_
    rintro e wHE ⟨t, u, rfl, ht0, ht1, _, hu, HE, HU⟩
    replace ht1 := ht1 (by omega)
    have h5 : 0 ≤ z * t := Int.mul_nonneg (by omega) (by omega)
    have h6 : z * t ≤ 9 * 199 := Int.le_trans (Int.mul_le_mul_of_nonneg_right (show z ≤ 9 by omega) (by omega)) (Int.mul_le_mul_of_nonneg_left (by omega) (by omega))
    go_wp2
    go_ret
    exact Drew1.mk (by unfold smallI; omega) (only_below HB (((HO.out.trans HP.out).trans HQ.out).trans HU.out))

set_option maxRecDepth 100000 in
set_option maxHeartbeats 2000000 in
theorem drawPrimesOf_any (v : Value) (n : Nat) (w : World) (h : CodeIn w v n) : Calls Try.prog 22 #[v] w (Drew1 numOk w) := by
  go_enter Try.func22, Try.ntmps22
  go_wp2_with fail
  refine (open_any v n _ h).mono ?_
  rintro e w1 ⟨v1, n1, rfl, HR, HB⟩
  have hsz := HB.size
  go_wp2_with fail
  refine (number_any _ _ _ _ 0 (by omega) _ HR (by omega)).mono ?_
  rintro e w2 ⟨x, q, rfl, hx, hq, HA, HO⟩
  have HX := hid hx
  clear hx
  go_wp2
  go_ret
  exact Drew1.mk HX.out (only_below HB HO.out)

set_option maxRecDepth 100000 in
set_option maxHeartbeats 2000000 in
theorem drawCoreOf_any (v : Value) (n : Nat) (w : World) (h : CodeIn w v n) : Calls Try.prog 28 #[v] w (Drew1 numOk w) := by
  go_enter Try.func28, Try.ntmps28
  go_wp2_with fail
  refine (open_any v n _ h).mono ?_
  rintro e w1 ⟨v1, n1, rfl, HR, HB⟩
  have hsz := HB.size
  go_wp2_with fail
  refine (number_any _ _ _ _ 0 (by omega) _ HR (by omega)).mono ?_
  rintro e w2 ⟨x, q, rfl, hx, hq, HA, HO⟩
  have HX := hid hx
  clear hx
  go_wp2
  go_ret
  exact Drew1.mk HX.out (only_below HB HO.out)

set_option maxRecDepth 100000 in
set_option maxHeartbeats 2000000 in
theorem drawValuationOf_any (v : Value) (n : Nat) (w : World) (h : CodeIn w v n) : Calls Try.prog 26 #[v] w (Drew2 (fun x p => numOk x ∧ prOk p) w) := by
  go_enter Try.func26, Try.ntmps26
  go_wp2_with fail
  refine (open_any v n _ h).mono ?_
  rintro e w1 ⟨v1, n1, rfl, HR, HB⟩
  have hsz := HB.size
  go_wp2_with fail
  refine (number_any _ _ _ _ 0 (by omega) _ HR (by omega)).mono ?_
  rintro e w2 ⟨x, q, rfl, hx, hq, HA, HO⟩
  have hs2 := HO.out.size
  have HX := hid hx
  clear hx
  go_wp2_with fail
  refine (drawnPrime_any _ _ _ _ q (by omega) _ HA (by omega)).mono ?_
  rintro e w3 ⟨y, r, rfl, hy, hr, HC, HP⟩
  have HY := hid hy
  clear hy
  go_wp2
  go_ret2
  exact Drew2.mk ⟨HX.out, HY.out⟩ (only_below HB (HO.out.trans HP.out))

set_option maxRecDepth 100000 in
set_option maxHeartbeats 2000000 in
theorem drawResidueIs_any (v : Value) (n : Nat) (w : World) (h : CodeIn w v n) : Calls Try.prog 41 #[v] w (Drew2 (fun x p => numOk x ∧ prOk p) w) := by
  go_enter Try.func41, Try.ntmps41
  go_wp2_with fail
  refine (open_any v n _ h).mono ?_
  rintro e w1 ⟨v1, n1, rfl, HR, HB⟩
  have hsz := HB.size
  go_wp2_with fail
  refine (number_any _ _ _ _ 0 (by omega) _ HR (by omega)).mono ?_
  rintro e w2 ⟨x, q, rfl, hx, hq, HA, HO⟩
  have hs2 := HO.out.size
  have HX := hid hx
  clear hx
  go_wp2_with fail
  refine (drawnPrime_any _ _ _ _ q (by omega) _ HA (by omega)).mono ?_
  rintro e w3 ⟨y, r, rfl, hy, hr, HC, HP⟩
  have HY := hid hy
  clear hy
  go_wp2
  go_ret2
  exact Drew2.mk ⟨HX.out, HY.out⟩ (only_below HB (HO.out.trans HP.out))

set_option maxRecDepth 100000 in
set_option maxHeartbeats 2000000 in
theorem drawSquareIs_any (v : Value) (n : Nat) (w : World) (h : CodeIn w v n) : Calls Try.prog 32 #[v] w (Drew1 smallI w) := by
  go_enter Try.func32, Try.ntmps32
  go_wp2_with fail
  refine (open_any v n _ h).mono ?_
  rintro e w1 ⟨v1, n1, rfl, HR, HB⟩
  have hsz := HB.size
  go_wp2_with fail
  refine (pick_any _ _ _ _ 0 2 (by omega) (by omega) (by omega) _ (HR.out)).mono ?_
  rintro e wHA ⟨x, q, rfl, hx0, hx1, _, hq, HA, HO⟩
  replace hx1 := hx1 (by omega)
  have hs := HO.out.size
  by_cases h0 : x = 0
  · have T : (x == 0) = true := by rw [beq_iff_eq]; exact h0
    clear h0
    go_wp2_with fail
    refine (pick_any _ _ _ _ q 71 (by omega) (by omega) (by omega) _ (HA.out)).mono ?_
    rintro e wHC ⟨y, r, rfl, hy0, hy1, _, hr, HC, HP⟩
    replace hy1 := hy1 (by omega)
    have h5 : 0 ≤ y * y := Int.mul_nonneg (by omega) (by omega)
    have h6 : y * y ≤ 70 * 70 := Int.le_trans (Int.mul_le_mul_of_nonneg_right (show y ≤ 70 by omega) (by omega)) (Int.mul_le_mul_of_nonneg_left (by omega) (by omega))
    go_wp2
    go_ret
    exact Drew1.mk (by unfold smallI; omega) (only_below HB (HO.out.trans HP.out))
  · have T : (x == 0) = false := by rw [beq_eq_false_iff_ne]; exact h0
    clear h0
    go_wp2_with fail
    refine (number_any _ _ _ _ q (by omega) _ HA (by omega)).mono ?_
    rintro e w3 ⟨y, r, rfl, hy, hr, HC, HP⟩
    have HY := hid hy
    clear hy
    go_wp2
    go_ret
    exact Drew1.mk (by have := numOk_small HY.out; unfold smallI; omega) (only_below HB (HO.out.trans HP.out))

set_option maxRecDepth 100000 in
set_option maxHeartbeats 2000000 in
theorem drawPowerMod_any (v : Value) (n : Nat) (w : World) (h : CodeIn w v n) : Calls Try.prog 35 #[v] w (Drew3 (fun x y z => smallI x ∧ smallI y ∧ smallI z) w) := by
  go_enter Try.func35, Try.ntmps35
  go_wp2_with fail
  refine (open_any v n _ h).mono ?_
  rintro e w1 ⟨v1, n1, rfl, HR, HB⟩
  have hsz := HB.size
  go_wp2_with fail
  refine (number_any _ _ _ _ 0 (by omega) _ HR (by omega)).mono ?_
  rintro e w2 ⟨x, q, rfl, hx, hq, HA, HO⟩
  have hs2 := HO.out.size
  have HX := hid hx
  clear hx
  go_wp2_with fail
  refine (pick_any _ _ _ _ q 40 (by omega) (by omega) (by omega) _ (HA.out)).mono ?_
  rintro e wHC ⟨y, r, rfl, hy0, hy1, _, hr, HC, HP⟩
  replace hy1 := hy1 (by omega)
  go_wp2_with fail
  refine (pick_any _ _ _ _ r 20 (by omega) (by omega) (by omega) _ (HC.out)).mono ?_
  rintro e wHD ⟨z, s, rfl, hz0, hz1, _, hs, HD, HQ⟩
  replace hz1 := hz1 (by omega)
  go_wp2_with fail
  refine (pick_any _ _ _ _ s 60 (by omega) (by omega) (by omega) _ (HD.out)).mono ?_
  rintro e wHE ⟨t, u, rfl, ht0, ht1, _, hu, HE, HU⟩
  replace ht1 := ht1 (by omega)
  go_wp2_with fail
  refine (pick_any _ _ _ _ u 20 (by omega) (by omega) (by omega) _ (HE.out)).mono ?_
  rintro e wHF ⟨t2, u2, rfl, ht20, ht21, _, hu2, HF, HV⟩
  replace ht21 := ht21 (by omega)
  go_wp2_with fail
  refine (pick_any _ _ _ _ u2 20 (by omega) (by omega) (by omega) _ (HF.out)).mono ?_
  rintro e wHG ⟨t3, u3, rfl, ht30, ht31, _, hu3, HG, HW⟩
  replace ht31 := ht31 (by omega)
  go_wp2
  go_ret3
  exact Drew3.mk ⟨by have := numOk_small HX.out; unfold smallI; omega, by unfold smallI; omega, by unfold smallI; omega⟩ (only_below HB (((((HO.out.trans HP.out).trans HQ.out).trans HU.out).trans HV.out).trans HW.out))

set_option maxRecDepth 100000 in
set_option maxHeartbeats 2000000 in
theorem drawInverseMod_any (v : Value) (n : Nat) (w : World) (h : CodeIn w v n) : Calls Try.prog 38 #[v] w (Drew2 (fun x y => smallI x ∧ smallI y) w) := by
  go_enter Try.func38, Try.ntmps38
  go_wp2_with fail
  refine (open_any v n _ h).mono ?_
  rintro e w1 ⟨v1, n1, rfl, HR, HB⟩
  have hsz := HB.size
  go_wp2_with fail
  refine (number_any _ _ _ _ 0 (by omega) _ HR (by omega)).mono ?_
  rintro e w2 ⟨x, q, rfl, hx, hq, HA, HO⟩
  have hs2 := HO.out.size
  have HX := hid hx
  clear hx
  go_wp2_with fail
  refine (pick_any _ _ _ _ q 60 (by omega) (by omega) (by omega) _ (HA.out)).mono ?_
  rintro e wHC ⟨y, r, rfl, hy0, hy1, _, hr, HC, HP⟩
  replace hy1 := hy1 (by omega)
  go_wp2_with fail
  refine (pick_any _ _ _ _ r 20 (by omega) (by omega) (by omega) _ (HC.out)).mono ?_
  rintro e wHD ⟨z, s, rfl, hz0, hz1, _, hs, HD, HQ⟩
  replace hz1 := hz1 (by omega)
  go_wp2
  go_ret2
  exact Drew2.mk ⟨by have := numOk_small HX.out; unfold smallI; omega, by unfold smallI; omega⟩ (only_below HB ((HO.out.trans HP.out).trans HQ.out))

set_option maxRecDepth 100000 in
set_option maxHeartbeats 2000000 in
theorem drawJacobiOf_any (v : Value) (n : Nat) (w : World) (h : CodeIn w v n) : Calls Try.prog 44 #[v] w (Drew2 (fun x y => numOk x ∧ 0 ≤ y ∧ y ≤ 119) w) := by
  go_enter Try.func44, Try.ntmps44
  go_wp2_with fail
  refine (open_any v n _ h).mono ?_
  rintro e w1 ⟨v1, n1, rfl, HR, HB⟩
  have hsz := HB.size
  go_wp2_with fail
  refine (number_any _ _ _ _ 0 (by omega) _ HR (by omega)).mono ?_
  rintro e w2 ⟨x, q, rfl, hx, hq, HA, HO⟩
  have hs2 := HO.out.size
  have HX := hid hx
  clear hx
  go_wp2_with fail
  refine (pick_any _ _ _ _ q 60 (by omega) (by omega) (by omega) _ (HA.out)).mono ?_
  rintro e wHC ⟨y, r, rfl, hy0, hy1, _, hr, HC, HP⟩
  replace hy1 := hy1 (by omega)
  go_wp2_with fail
  refine (pick_any _ _ _ _ r 16 (by omega) (by omega) (by omega) _ (HC.out)).mono ?_
  rintro e wHD ⟨z, s, rfl, hz0, hz1, _, hs, HD, HQ⟩
  replace hz1 := hz1 (by omega)
  go_wp2
  go_ret2
  exact Drew2.mk ⟨HX.out, by omega, by omega⟩ (only_below HB ((HO.out.trans HP.out).trans HQ.out))

set_option maxRecDepth 100000 in
set_option maxHeartbeats 2000000 in
theorem drawRootMod_any (v : Value) (n : Nat) (w : World) (h : CodeIn w v n) : Calls Try.prog 47 #[v] w (Drew2 (fun x y => smallI x ∧ smallI y) w) := by
  go_enter Try.func47, Try.ntmps47
  go_wp2_with fail
  refine (open_any v n _ h).mono ?_
  rintro e w1 ⟨v1, n1, rfl, HR, HB⟩
  have hsz := HB.size
  go_wp2_with fail
  refine (number_any _ _ _ _ 0 (by omega) _ HR (by omega)).mono ?_
  rintro e w2 ⟨x, q, rfl, hx, hq, HA, HO⟩
  have hs2 := HO.out.size
  have HX := hid hx
  clear hx
  go_wp2_with fail
  refine (pick_any _ _ _ _ q 2 (by omega) (by omega) (by omega) _ (HA.out)).mono ?_
  rintro e wHC ⟨y, r, rfl, hy0, hy1, _, hr, HC, HP⟩
  replace hy1 := hy1 (by omega)
  by_cases h0 : y = 0
  · have T : (y == 0) = true := by rw [beq_iff_eq]; exact h0
    clear h0
    go_wp2_with fail
    refine (pick_any _ _ _ _ r 60 (by omega) (by omega) (by omega) _ (HC.out)).mono ?_
    rintro e wHD ⟨z, s, rfl, hz0, hz1, _, hs, HD, HQ⟩
    replace hz1 := hz1 (by omega)
    have h5 : 0 ≤ z * z := Int.mul_nonneg (by omega) (by omega)
    have h6 : z * z ≤ 59 * 59 := Int.le_trans (Int.mul_le_mul_of_nonneg_right (show z ≤ 59 by omega) (by omega)) (Int.mul_le_mul_of_nonneg_left (by omega) (by omega))
    go_wp2_with fail
    refine (pick_any _ _ _ _ s 90 (by omega) (by omega) (by omega) _ (HD.out)).mono ?_
    rintro e wHE ⟨t, u, rfl, ht0, ht1, _, hu, HE, HU⟩
    replace ht1 := ht1 (by omega)
    go_wp2
    go_ret2
    exact Drew2.mk ⟨by unfold smallI; omega, by unfold smallI; omega⟩ (only_below HB (((HO.out.trans HP.out).trans HQ.out).trans HU.out))
  · have T : (y == 0) = false := by rw [beq_eq_false_iff_ne]; exact h0
    clear h0
    go_wp2_with fail
    refine (pick_any _ _ _ _ r 90 (by omega) (by omega) (by omega) _ (HC.out)).mono ?_
    rintro e wHD ⟨z, s, rfl, hz0, hz1, _, hs, HD, HQ⟩
    replace hz1 := hz1 (by omega)
    go_wp2_with fail
    refine (pick_any _ _ _ _ s 20 (by omega) (by omega) (by omega) _ (HD.out)).mono ?_
    rintro e wHE ⟨t, u, rfl, ht0, ht1, _, hu, HE, HU⟩
    replace ht1 := ht1 (by omega)
    go_wp2
    go_ret2
    exact Drew2.mk ⟨by have := numOk_small HX.out; unfold smallI; omega, by unfold smallI; omega⟩ (only_below HB (((HO.out.trans HP.out).trans HQ.out).trans HU.out))

set_option maxRecDepth 100000 in
set_option maxHeartbeats 2000000 in
theorem drawNonResidue_any (v : Value) (n : Nat) (w : World) (h : CodeIn w v n) : Calls Try.prog 49 #[v] w (Drew1 smallI w) := by
  go_enter Try.func49, Try.ntmps49
  go_wp2_with fail
  refine (open_any v n _ h).mono ?_
  rintro e w1 ⟨v1, n1, rfl, HR, HB⟩
  have hsz := HB.size
  have hR := HR.out.lt
  go_wp2_with fail
  refine (pick_any _ _ _ _ 0 12 (by omega) (by omega) (by omega) _ (HR.out.alloc (by omega) _)).mono ?_
  rintro e wHC ⟨y, r, rfl, hy0, hy1, _, hr, HC, HP⟩
  replace hy1 := hy1 (by omega)
  have hyc : y = 0 ∨ y = 1 ∨ y = 2 ∨ y = 3 ∨ y = 4 ∨ y = 5 ∨ y = 6 ∨ y = 7 ∨ y = 8 ∨ y = 9 ∨ y = 10 ∨ y = 11 := by omega
  rcases hyc with rfl | rfl | rfl | rfl | rfl | rfl | rfl | rfl | rfl | rfl | rfl | rfl
  · have c := lit_cell (fr := (0, 0)) HP.out hR 0
    simp at c
    go_wp2
    go_ret
    exact Drew1.mk (by unfold smallI; omega) (only_below HB (((Only.refl _ _).alloc _).trans HP.out))
  · have c := lit_cell (fr := (0, 0)) HP.out hR 1
    simp at c
    go_wp2
    go_ret
    exact Drew1.mk (by unfold smallI; omega) (only_below HB (((Only.refl _ _).alloc _).trans HP.out))
  · have c := lit_cell (fr := (0, 0)) HP.out hR 2
    simp at c
    go_wp2
    go_ret
    exact Drew1.mk (by unfold smallI; omega) (only_below HB (((Only.refl _ _).alloc _).trans HP.out))
  · have c := lit_cell (fr := (0, 0)) HP.out hR 3
    simp at c
    go_wp2
    go_ret
    exact Drew1.mk (by unfold smallI; omega) (only_below HB (((Only.refl _ _).alloc _).trans HP.out))
  · have c := lit_cell (fr := (0, 0)) HP.out hR 4
    simp at c
    go_wp2
    go_ret
    exact Drew1.mk (by unfold smallI; omega) (only_below HB (((Only.refl _ _).alloc _).trans HP.out))
  · have c := lit_cell (fr := (0, 0)) HP.out hR 5
    simp at c
    go_wp2
    go_ret
    exact Drew1.mk (by unfold smallI; omega) (only_below HB (((Only.refl _ _).alloc _).trans HP.out))
  · have c := lit_cell (fr := (0, 0)) HP.out hR 6
    simp at c
    go_wp2
    go_ret
    exact Drew1.mk (by unfold smallI; omega) (only_below HB (((Only.refl _ _).alloc _).trans HP.out))
  · have c := lit_cell (fr := (0, 0)) HP.out hR 7
    simp at c
    go_wp2
    go_ret
    exact Drew1.mk (by unfold smallI; omega) (only_below HB (((Only.refl _ _).alloc _).trans HP.out))
  · have c := lit_cell (fr := (0, 0)) HP.out hR 8
    simp at c
    go_wp2
    go_ret
    exact Drew1.mk (by unfold smallI; omega) (only_below HB (((Only.refl _ _).alloc _).trans HP.out))
  · have c := lit_cell (fr := (0, 0)) HP.out hR 9
    simp at c
    go_wp2
    go_ret
    exact Drew1.mk (by unfold smallI; omega) (only_below HB (((Only.refl _ _).alloc _).trans HP.out))
  · have c := lit_cell (fr := (0, 0)) HP.out hR 10
    simp at c
    go_wp2
    go_ret
    exact Drew1.mk (by unfold smallI; omega) (only_below HB (((Only.refl _ _).alloc _).trans HP.out))
  · have c := lit_cell (fr := (0, 0)) HP.out hR 11
    simp at c
    go_wp2
    go_ret
    exact Drew1.mk (by unfold smallI; omega) (only_below HB (((Only.refl _ _).alloc _).trans HP.out))

end Go.Proofs.Ytehjiejijlboeaa
