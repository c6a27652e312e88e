/-
  What the drawing functions of chapter 2 hand out.
-/
import Derived.Test.YtdidmblkknnglaaDraws1
set_option linter.unusedVariables false
namespace Go.Proofs.Ytdidmblkknnglaa
open Go.RowKit

/-- the numbers of l91Local -/
def locOk (x : Int) : Prop := numOk x ∨ ∃ a k : Int, 1 ≤ a ∧ a ≤ 9 ∧ 0 ≤ k ∧ k ≤ 2 ∧ x = a * a * (1 + k * 8)
theorem locOk_small {x : Int} (h : locOk x) : -5001 ≤ x ∧ x ≤ 5001 := by
  rcases h with h | ⟨a, k, a1, a9, k0, k2, rfl⟩
  · exact numOk_small h
  · have h1 : a = 1 ∨ a = 2 ∨ a = 3 ∨ a = 4 ∨ a = 5 ∨ a = 6 ∨ a = 7 ∨ a = 8 ∨ a = 9 := by omega
    rcases h1 with rfl | rfl | rfl | rfl | rfl | rfl | rfl | rfl | rfl <;> omega
/-- the second number of l91Pair -/
def parOk (a b : Int) : Prop := numOk b ∨ ∃ x : Int, 1 ≤ x ∧ x ≤ 8 ∧ b = a * x * x
theorem parOk_small {a b : Int} (ha : numOk a) (h : parOk a b) : -320064 ≤ b ∧ b ≤ 320064 := by
  rcases h with h | ⟨x, x1, x8, rfl⟩
  · have := numOk_small h; omega
  · have := numOk_small ha
    have h1 : x = 1 ∨ x = 2 ∨ x = 3 ∨ x = 4 ∨ x = 5 ∨ x = 6 ∨ x = 7 ∨ x = 8 := by omega
    rcases h1 with rfl | rfl | rfl | rfl | rfl | rfl | rfl | rfl <;> omega

set_option maxRecDepth 100000 in
set_option maxHeartbeats 2000000 in
theorem place_any (B R : Nat) (v : Value) (n p : Nat) (hp : p ≤ 89000) (w : World) (HR : Hid (Rdr w B R v n p)) (hB : B ≤ w.heap.size) :
    Calls Try.prog 85 #[.pointer (some ⟨R, 0, none⟩)] w (NumPost prOk 5 w B R v n p) := by
  go_enter Try.func85, Try.ntmps85
  go_wp2_with fail
  refine (pick_any _ _ _ _ p 5 (by omega) (by omega) (by omega) _ (HR.out)).mono ?_
  rintro e wHA ⟨x, q, rfl, hx0, hx1, _, hq, HA, HO⟩
  replace hx1 := hx1 (by omega)
  have hs := HO.out.size
  by_cases h0 : x = 0
  · have T : (x == 0) = true := by rw [beq_iff_eq]; exact h0
    clear h0
    go_wp2
    go_ret
    exact NumPost.mk rfl (by unfold prOk; omega) (by omega) HA HO.out
  · have T : (x == 0) = false := by rw [beq_eq_false_iff_ne]; exact h0
    clear h0
    go_wp2_with fail
    refine (drawnPrime_any _ _ _ _ q (by omega) _ HA (by omega)).mono ?_
    rintro e w3 ⟨y, r, rfl, hy, hr, HC, HP⟩
    have HY := hid hy
    clear hy
    go_wp2
    go_ret
    exact NumPost.mk rfl HY.out (by omega) HC (HO.out.trans HP.out)

def LocPost (P : Int → Int → Prop) (c : Nat) (w : World) (B R : Nat) (v : Value) (n p : Nat) (e : Ending) (w' : World) : Prop :=
  ∃ (x y : Int) (q : Nat), e = .returned (.tuple #[.int .i64 x, .int .i64 y]) ∧ P x y ∧ q ≤ p + c ∧ Hid (Rdr w' B R v n q) ∧ Hid (Only R w w')
theorem LocPost.mk {P : Int → Int → Prop} {c : Nat} {w : World} {B R : Nat} {v : Value} {n p q : Nat} {w' : World} {x y : Int} (h : P x y) (hq : q ≤ p + c) (hr : Hid (Rdr w' B R v n q)) (ho : Only R w w') : LocPost P c w B R v n p (.returned (.tuple #[.int .i64 x, .int .i64 y])) w' :=
  ⟨x, y, q, rfl, h, hq, hr, ho⟩
set_option maxRecDepth 100000 in
set_option maxHeartbeats 2000000 in
theorem local_any (B R : Nat) (v : Value) (n p : Nat) (hp : p ≤ 80000) (w : World) (HR : Hid (Rdr w B R v n p)) (hB : B ≤ w.heap.size) :
    Calls Try.prog 80 #[.pointer (some ⟨R, 0, none⟩)] w (LocPost (fun x y => locOk x ∧ prOk y) 12 w B R v n p) := by
  go_enter Try.func80, Try.ntmps80
  go_wp2_with fail
  refine (number_any _ _ _ _ p (by omega) _ HR hB).mono ?_
  rintro e w2 ⟨x, q, rfl, hx, hq, HA, HO⟩
  have hs2 := HO.out.size
  have HX := hid hx
  clear hx
  go_wp2_with fail
  refine (pick_any _ _ _ _ q 3 (by omega) (by omega) (by omega) _ (HA.out)).mono ?_
  rintro e wHC ⟨t, r, rfl, ht0, ht1, _, hr, HC, HP⟩
  replace ht1 := ht1 (by omega)
  have hs3 := HP.out.size
  by_cases h0 : t = 0
  · have T : (t == 0) = true := by rw [beq_iff_eq]; exact h0
    clear h0
    go_wp2_with fail
    refine (pick_any _ _ _ _ r 9 (by omega) (by omega) (by omega) _ (HC.out)).mono ?_
    rintro e wHD ⟨a, s, rfl, ha0, ha1, _, hs, HD, HQ⟩
    replace ha1 := ha1 (by omega)
    have hs4 := HQ.out.size
    have aa1 : 0 ≤ (1 + a) * (1 + a) := Int.mul_nonneg (by omega) (by omega)
    have aa2 : (1 + a) * (1 + a) ≤ 9 * 9 := Int.le_trans (Int.mul_le_mul_of_nonneg_right (show 1 + a ≤ 9 by omega) (by omega)) (Int.mul_le_mul_of_nonneg_left (by omega) (by omega))
    go_wp2_with fail
    refine (pick_any _ _ _ _ s 3 (by omega) (by omega) (by omega) _ (HD.out)).mono ?_
    rintro e wHE ⟨k, u, rfl, hk0, hk1, _, hu, HE, HU⟩
    replace hk1 := hk1 (by omega)
    have hs5 := HU.out.size
    have hab1 : 0 ≤ (1 + a) * (1 + a) * (1 + k * 8) := Int.mul_nonneg aa1 (by omega)
    have hab2 : (1 + a) * (1 + a) * (1 + k * 8) ≤ 9 * 9 * 17 := Int.le_trans (Int.mul_le_mul_of_nonneg_right aa2 (by omega)) (Int.mul_le_mul_of_nonneg_left (by omega) (by omega))
    have HXX : Hid (locOk ((1 + a) * (1 + a) * (1 + k * 8))) := hid (.inr ⟨1 + a, k, by omega, by omega, by omega, by omega, rfl⟩)
    go_wp2_with fail
    refine (place_any _ _ _ _ u (by omega) _ HE (by omega)).mono ?_
    rintro e w3 ⟨y, r2, rfl, hy, hr2, HF, HV⟩
    have HY := hid hy
    clear hy
    go_wp2
    go_ret2
    exact LocPost.mk ⟨HXX.out, HY.out⟩ (by omega) HF ((((HO.out.trans HP.out).trans HQ.out).trans HU.out).trans HV.out)
  · have T : (t == 0) = false := by rw [beq_eq_false_iff_ne]; exact h0
    clear h0
    go_wp2_with fail
    refine (place_any _ _ _ _ r (by omega) _ HC (by omega)).mono ?_
    rintro e w3 ⟨y, r2, rfl, hy, hr2, HF, HV⟩
    have HY := hid hy
    clear hy
    go_wp2
    go_ret2
    exact LocPost.mk ⟨.inl HX.out, HY.out⟩ (by omega) HF ((HO.out.trans HP.out).trans HV.out)

def ParPost (P : Int → Int → Int → Prop) (c : Nat) (w : World) (B R : Nat) (v : Value) (n p : Nat) (e : Ending) (w' : World) : Prop :=
  ∃ (x y z : Int) (q : Nat), e = .returned (.tuple #[.int .i64 x, .int .i64 y, .int .i64 z]) ∧ P x y z ∧ q ≤ p + c ∧ Hid (Rdr w' B R v n q) ∧ Hid (Only R w w')
theorem ParPost.mk {P : Int → Int → Int → Prop} {c : Nat} {w : World} {B R : Nat} {v : Value} {n p q : Nat} {w' : World} {x y z : Int} (h : P x y z) (hq : q ≤ p + c) (hr : Hid (Rdr w' B R v n q)) (ho : Only R w w') : ParPost P c w B R v n p (.returned (.tuple #[.int .i64 x, .int .i64 y, .int .i64 z])) w' :=
  ⟨x, y, z, q, rfl, h, hq, hr, ho⟩
set_option maxRecDepth 100000 in
set_option maxHeartbeats 2000000 in
theorem pair_any (B R : Nat) (v : Value) (n p : Nat) (hp : p ≤ 80000) (w : World) (HR : Hid (Rdr w B R v n p)) (hB : B ≤ w.heap.size) :
    Calls Try.prog 53 #[.pointer (some ⟨R, 0, none⟩)] w (ParPost (fun a b y => numOk a ∧ parOk a b ∧ prOk y) 15 w B R v n p) := by
  go_enter Try.func53, Try.ntmps53
  go_wp2_with fail
  refine (number_any _ _ _ _ p (by omega) _ HR hB).mono ?_
  rintro e w2 ⟨x, q, rfl, hx, hq, HA, HO⟩
  have hs2 := HO.out.size
  have hxs := numOk_small hx
  have HX := hid hx
  clear hx
  go_wp2_with fail
  refine (number_any _ _ _ _ q (by omega) _ HA (by omega)).mono ?_
  rintro e w2b ⟨x2, q2, rfl, hx2, hq2, HA2, HO2⟩
  have hs2b := HO2.out.size
  have HX2 := hid hx2
  clear hx2
  go_wp2_with fail
  refine (pick_any _ _ _ _ q2 4 (by omega) (by omega) (by omega) _ (HA2.out)).mono ?_
  rintro e wHC ⟨t, r, rfl, ht0, ht1, _, hr, HC, HP⟩
  replace ht1 := ht1 (by omega)
  have hs3 := HP.out.size
  by_cases h0 : t = 0
  · have T : (t == 0) = true := by rw [beq_iff_eq]; exact h0
    clear h0
    go_wp2_with fail
    refine (pick_any _ _ _ _ r 8 (by omega) (by omega) (by omega) _ (HC.out)).mono ?_
    rintro e wHD ⟨a, s, rfl, ha0, ha1, _, hs, HD, HQ⟩
    replace ha1 := ha1 (by omega)
    have hs4 := HQ.out.size
    have hb : (x * (1 + a)).natAbs ≤ 5001 * 8 := by rw [Int.natAbs_mul]; exact Nat.mul_le_mul (by omega) (by omega)
    have hb1 : -40008 ≤ x * (1 + a) := by omega
    have hb2 : x * (1 + a) ≤ 40008 := by omega
    have hc : (x * (1 + a) * (1 + a)).natAbs ≤ 40008 * 8 := by rw [Int.natAbs_mul]; exact Nat.mul_le_mul (by omega) (by omega)
    have hc1 : -320064 ≤ x * (1 + a) * (1 + a) := by omega
    have hc2 : x * (1 + a) * (1 + a) ≤ 320064 := by omega
    have HXX : Hid (parOk x (x * (1 + a) * (1 + a))) := hid (.inr ⟨1 + a, by omega, by omega, rfl⟩)
    clear hb hc
    go_wp2_with fail
    refine (place_any _ _ _ _ s (by omega) _ HD (by omega)).mono ?_
    rintro e w3 ⟨y, r2, rfl, hy, hr2, HF, HV⟩
    have HY := hid hy
    clear hy
    go_wp2
    go_ret3
    exact ParPost.mk ⟨HX.out, HXX.out, HY.out⟩ (by omega) HF ((((HO.out.trans HO2.out).trans HP.out).trans HQ.out).trans HV.out)
  · have T : (t == 0) = false := by rw [beq_eq_false_iff_ne]; exact h0
    clear h0
    go_wp2_with fail
    refine (place_any _ _ _ _ r (by omega) _ HC (by omega)).mono ?_
    rintro e w3 ⟨y, r2, rfl, hy, hr2, HF, HV⟩
    have HY := hid hy
    clear hy
    go_wp2
    go_ret3
    exact ParPost.mk ⟨HX.out, .inl HX2.out, HY.out⟩ (by omega) HF (((HO.out.trans HO2.out).trans HP.out).trans HV.out)

end Go.Proofs.Ytdidmblkknnglaa
