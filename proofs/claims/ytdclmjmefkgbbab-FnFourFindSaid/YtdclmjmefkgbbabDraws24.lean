/-
  What the drawing functions of chapter 8 hand out: sums.
-/
import Derived.Test.YtdclmjmefkgbbabQBun21
import Derived.Test.YtdclmjmefkgbbabSuK
set_option linter.unusedVariables false
namespace Go.Proofs.Ytdclmjmefkgbbab
open Go.RowKit

theorem prod_bd8 {a b m k : Int} (a0 : 0 ≤ a) (a1 : a ≤ m) (b0 : 0 ≤ b) (b1 : b ≤ k) (hk : 0 ≤ k) : 0 ≤ a * b ∧ a * b ≤ m * k :=
  ⟨Int.mul_nonneg a0 b0, Int.mul_le_mul a1 b1 b0 (by omega)⟩

set_option maxRecDepth 100000 in
set_option maxHeartbeats 2000000 in
theorem sum_any (B R : Nat) (v : Value) (n p : Nat) (hp : p ≤ 900000000000000) (w : World) (HR : Hid (Rdr w B R v n p)) (hB : B ≤ w.heap.size) :
    Calls Try.prog 58 #[.pointer (some ⟨R, 0, none⟩)] w (NumPost DrawnS 4 w B R v n p) := by
  go_enter Try.func58, Try.ntmps58
  go_wp2_with fail
  refine (pick_any _ _ _ _ p 20 (by omega) (by omega) (by omega) _ (HR.out)).mono ?_
  rintro e wHA ⟨x, q, rfl, hx0, hx1, _, hq, HA, HO⟩
  replace hx1 := hx1 (by omega)
  by_cases h0 : x = 0
  · have T : (x == 0) = true := by rw [beq_iff_eq]; exact h0
    have hR := HA.out.lt
    have hs := HO.out.size
    clear h0
    go_wp2_with fail
    refine (pick_any _ _ _ _ q 4 (by omega) (by omega) (by omega) _ (HA.out.alloc (by omega) _)).mono ?_
    rintro e wHC ⟨y, r, rfl, hy0, hy1, _, hr, HC, HP⟩
    replace hy1 := hy1 (by omega)
    have hyc : y = 0 ∨ y = 1 ∨ y = 2 ∨ y = 3 := by omega
    rcases hyc with rfl | rfl | rfl | rfl
    · have c := lit_cell (fr := (0, 0)) HP.out hR 0
      simp at c
      go_wp2
      go_ret
      exact NumPost.mk rfl (by unfold DrawnS; omega) (by omega) HC ((HO.out.alloc _).trans HP.out)
    · have c := lit_cell (fr := (0, 0)) HP.out hR 1
      simp at c
      go_wp2
      go_ret
      exact NumPost.mk rfl (by unfold DrawnS; omega) (by omega) HC ((HO.out.alloc _).trans HP.out)
    · have c := lit_cell (fr := (0, 0)) HP.out hR 2
      simp at c
      go_wp2
      go_ret
      exact NumPost.mk rfl (by unfold DrawnS; omega) (by omega) HC ((HO.out.alloc _).trans HP.out)
    · have c := lit_cell (fr := (0, 0)) HP.out hR 3
      simp at c
      go_wp2
      go_ret
      exact NumPost.mk rfl (by unfold DrawnS; omega) (by omega) HC ((HO.out.alloc _).trans HP.out)
  · have T : (x == 0) = false := by rw [beq_eq_false_iff_ne]; exact h0
    clear h0
    go_wp2_with fail
    refine (pick_any _ _ _ _ q 100 (by omega) (by omega) (by omega) _ (HA.out)).mono ?_
    rintro e wHC ⟨y, r, rfl, hy0, hy1, _, hr, HC, HP⟩
    replace hy1 := hy1 (by omega)
    go_wp2_with fail
    refine (pick_any _ _ _ _ r 6 (by omega) (by omega) (by omega) _ (HC.out)).mono ?_
    rintro e wHD ⟨z, s, rfl, hz0, hz1, _, hs, HD, HQ⟩
    replace hz1 := hz1 (by omega)
    go_wp2_with fail
    refine (pick_any _ _ _ _ s 80 (by omega) (by omega) (by omega) _ (HD.out)).mono ?_
    rintro e wHE ⟨t, u, rfl, ht0, ht1, _, hu, HE, HU⟩
    replace ht1 := ht1 (by omega)
    have hb := prod_bd8 (a := z) (b := t) (m := 5) (k := 79) (by omega) (by omega) (by omega) (by omega) (by omega)
    go_wp2
    go_ret
    exact NumPost.mk rfl (by unfold DrawnS; omega) (by omega) HE (((HO.out.trans HP.out).trans HQ.out).trans HU.out)

set_option maxRecDepth 100000 in
set_option maxHeartbeats 2000000 in
theorem drawTwoIs_any (v : Value) (n : Nat) (w : World) (h : CodeIn w v n) : Calls Try.prog 15 #[v] w (Drew1 DrawnS w) := by
  go_enter Try.func15, Try.ntmps15
  go_wp2_with fail
  refine (open_any v n _ h).mono ?_
  rintro e w1 ⟨v1, n1, rfl, HR, HB⟩
  have hsz := HB.size
  go_wp2_with fail
  refine (sum_any _ _ _ _ 0 (by omega) _ HR (by omega)).mono ?_
  rintro e w2 ⟨x, q, rfl, hx, hq, HA, HO⟩
  have HX := hid hx
  clear hx
  go_wp2
  go_ret
  exact Drew1.mk HX.out (only_below HB HO.out)

set_option maxRecDepth 100000 in
set_option maxHeartbeats 2000000 in
theorem drawTwoMany_any (v : Value) (n : Nat) (w : World) (h : CodeIn w v n) : Calls Try.prog 25 #[v] w (Drew1 DrawnS w) := by
  go_enter Try.func25, Try.ntmps25
  go_wp2_with fail
  refine (open_any v n _ h).mono ?_
  rintro e w1 ⟨v1, n1, rfl, HR, HB⟩
  have hsz := HB.size
  go_wp2_with fail
  refine (sum_any _ _ _ _ 0 (by omega) _ HR (by omega)).mono ?_
  rintro e w2 ⟨x, q, rfl, hx, hq, HA, HO⟩
  have HX := hid hx
  clear hx
  go_wp2
  go_ret
  exact Drew1.mk HX.out (only_below HB HO.out)

set_option maxRecDepth 100000 in
set_option maxHeartbeats 2000000 in
theorem drawThreeIs_any (v : Value) (n : Nat) (w : World) (h : CodeIn w v n) : Calls Try.prog 28 #[v] w (Drew1 DrawnS w) := by
  go_enter Try.func28, Try.ntmps28
  go_wp2_with fail
  refine (open_any v n _ h).mono ?_
  rintro e w1 ⟨v1, n1, rfl, HR, HB⟩
  have hsz := HB.size
  go_wp2_with fail
  refine (sum_any _ _ _ _ 0 (by omega) _ HR (by omega)).mono ?_
  rintro e w2 ⟨x, q, rfl, hx, hq, HA, HO⟩
  have HX := hid hx
  clear hx
  go_wp2
  go_ret
  exact Drew1.mk HX.out (only_below HB HO.out)

set_option maxRecDepth 100000 in
set_option maxHeartbeats 2000000 in
theorem drawThreeFind_any (v : Value) (n : Nat) (w : World) (h : CodeIn w v n) : Calls Try.prog 33 #[v] w (Drew1 DrawnS w) := by
  go_enter Try.func33, Try.ntmps33
  go_wp2_with fail
  refine (open_any v n _ h).mono ?_
  rintro e w1 ⟨v1, n1, rfl, HR, HB⟩
  have hsz := HB.size
  go_wp2_with fail
  refine (sum_any _ _ _ _ 0 (by omega) _ HR (by omega)).mono ?_
  rintro e w2 ⟨x, q, rfl, hx, hq, HA, HO⟩
  have HX := hid hx
  clear hx
  go_wp2
  go_ret
  exact Drew1.mk HX.out (only_below HB HO.out)

set_option maxRecDepth 100000 in
set_option maxHeartbeats 2000000 in
theorem drawFourMany_any (v : Value) (n : Nat) (w : World) (h : CodeIn w v n) : Calls Try.prog 36 #[v] w (Drew1 DrawnS w) := by
  go_enter Try.func36, Try.ntmps36
  go_wp2_with fail
  refine (open_any v n _ h).mono ?_
  rintro e w1 ⟨v1, n1, rfl, HR, HB⟩
  have hsz := HB.size
  go_wp2_with fail
  refine (sum_any _ _ _ _ 0 (by omega) _ HR (by omega)).mono ?_
  rintro e w2 ⟨x, q, rfl, hx, hq, HA, HO⟩
  have HX := hid hx
  clear hx
  go_wp2
  go_ret
  exact Drew1.mk HX.out (only_below HB HO.out)

set_option maxRecDepth 100000 in
set_option maxHeartbeats 2000000 in
theorem drawFourFind_any (v : Value) (n : Nat) (w : World) (h : CodeIn w v n) : Calls Try.prog 42 #[v] w (Drew1 DrawnS w) := by
  go_enter Try.func42, Try.ntmps42
  go_wp2_with fail
  refine (open_any v n _ h).mono ?_
  rintro e w1 ⟨v1, n1, rfl, HR, HB⟩
  have hsz := HB.size
  go_wp2_with fail
  refine (sum_any _ _ _ _ 0 (by omega) _ HR (by omega)).mono ?_
  rintro e w2 ⟨x, q, rfl, hx, hq, HA, HO⟩
  have HX := hid hx
  clear hx
  go_wp2
  go_ret
  exact Drew1.mk HX.out (only_below HB HO.out)


set_option maxRecDepth 100000 in
set_option maxHeartbeats 2000000 in
theorem drawTwoFind_any (v : Value) (n : Nat) (w : World) (h : CodeIn w v n) : Calls Try.prog 23 #[v] w (Drew1 DrawnT w) := by
  go_enter Try.func23, Try.ntmps23
  go_wp2_with fail
  refine (open_any v n _ h).mono ?_
  rintro e w1 ⟨v1, n1, rfl, HR, HB⟩
  have hsz := HB.size
  go_wp2_with fail
  refine (pick_any _ _ _ _ 0 2 (by omega) (by omega) (by omega) _ (HR.out)).mono ?_
  rintro e wHA ⟨x, q, rfl, hx0, hx1, _, hq, HA, HO⟩
  replace hx1 := hx1 (by omega)
  by_cases h0 : x = 0
  · have T : (x == 0) = true := by rw [beq_iff_eq]; exact h0
    clear h0
    go_wp2_with fail
    refine (pick_any _ _ _ _ q 20 (by omega) (by omega) (by omega) _ (HA.out)).mono ?_
    rintro e wHC ⟨y, r, rfl, hy0, hy1, _, hr, HC, HP⟩
    replace hy1 := hy1 (by omega)
    go_wp2_with fail
    refine (pick_any _ _ _ _ r 20 (by omega) (by omega) (by omega) _ (HC.out)).mono ?_
    rintro e wHD ⟨z, s, rfl, hz0, hz1, _, hs, HD, HQ⟩
    replace hz1 := hz1 (by omega)
    have hb := prod_bd8 (a := y) (b := y) (m := 19) (k := 19) (by omega) (by omega) (by omega) (by omega) (by omega)
    have hb2 := prod_bd8 (a := z) (b := z) (m := 19) (k := 19) (by omega) (by omega) (by omega) (by omega) (by omega)
    go_wp2
    go_ret
    exact Drew1.mk (by unfold DrawnT; omega) (only_below HB ((HO.out.trans HP.out).trans HQ.out))
  · have T : (x == 0) = false := by rw [beq_eq_false_iff_ne]; exact h0
    clear h0
    have hs := HO.out.size
    go_wp2_with fail
    refine (sum_any _ _ _ _ q (by omega) _ HA (by omega)).mono ?_
    rintro e w2 ⟨x, r, rfl, hx, hq, HC, HP⟩
    have HX := hid hx
    clear hx
    go_wp2
    go_ret
    exact Drew1.mk (by have := HX.out; unfold DrawnS at this; unfold DrawnT; omega) (only_below HB (HO.out.trans HP.out))

set_option maxRecDepth 100000 in
set_option maxHeartbeats 2000000 in
theorem drawFourEach_any (v : Value) (n : Nat) (w : World) (h : CodeIn w v n) : Calls Try.prog 40 #[v] w (Drew1 (fun x => -1 ≤ x ∧ x ≤ 301) w) := by
  go_enter Try.func40, Try.ntmps40
  go_wp2_with fail
  refine (open_any v n _ h).mono ?_
  rintro e w1 ⟨v1, n1, rfl, HR, HB⟩
  have hsz := HB.size
  go_wp2_with fail
  refine (pick_any _ _ _ _ 0 100 (by omega) (by omega) (by omega) _ (HR.out)).mono ?_
  rintro e wHA ⟨x, q, rfl, hx0, hx1, _, hq, HA, HO⟩
  replace hx1 := hx1 (by omega)
  go_wp2_with fail
  refine (pick_any _ _ _ _ q 20 (by omega) (by omega) (by omega) _ (HA.out)).mono ?_
  rintro e wHC ⟨y, r, rfl, hy0, hy1, _, hr, HC, HP⟩
  replace hy1 := hy1 (by omega)
  go_wp2_with fail
  refine (pick_any _ _ _ _ r 20 (by omega) (by omega) (by omega) _ (HC.out)).mono ?_
  rintro e wHD ⟨z, s, rfl, hz0, hz1, _, hs, HD, HQ⟩
  replace hz1 := hz1 (by omega)
  have e1 : y.tdiv 19 = 0 ∨ y.tdiv 19 = 1 := by rw [Int.tdiv_eq_ediv_of_nonneg (by omega)]; omega
  have e2 : z.tdiv 19 = 0 ∨ z.tdiv 19 = 1 := by rw [Int.tdiv_eq_ediv_of_nonneg (by omega)]; omega
  go_wp2
  go_ret
  exact Drew1.mk (by omega) (only_below HB ((HO.out.trans HP.out).trans HQ.out))

end Go.Proofs.Ytdclmjmefkgbbab
