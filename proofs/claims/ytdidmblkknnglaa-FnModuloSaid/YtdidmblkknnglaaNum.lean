/-
  Contracts of the small functions of chapter 1 (program and model): no loop, no memory.
-/
import Derived.Test.YtdidmblkknnglaaProg
import Derived.WalkKit
import Derived.WalkSpells
import Derived.WalkLawsBesides
set_option linter.unusedVariables false
namespace Go.Proofs.Ytdidmblkknnglaa
open Go.RowKit

theorem hid {p : Prop} (h : p) : Hid p := h
theorem retB {a b : Bool} (h : a = b) : Ending.returned (.bool a) = .returned (.bool b) := by rw [h]
theorem vI {a b : Int} (h : a = b) : Value.int .i64 a = .int .i64 b := by rw [h]
theorem retI {a b : Int} (h : a = b) : Ending.returned (.int .i64 a) = .returned (.int .i64 b) := by rw [h]

/-- Is it a number of the document? -/
def okN (n : Int) : Bool := decide (-5000 ≤ n) && decide (n ≤ 5000)
theorem okN_iff {n : Int} : okN n = true ↔ -5000 ≤ n ∧ n ≤ 5000 := by simp [okN]
theorem okN_no {n : Int} : okN n = false ↔ n < -5000 ∨ 5000 < n := by
  rw [← Bool.not_eq_true, okN_iff]; omega
theorem okN_cases (n : Int) : (-5000 ≤ n ∧ n ≤ 5000 ∧ okN n = true) ∨ (n < -5000 ∧ okN n = false) ∨ (-5000 ≤ n ∧ 5000 < n ∧ okN n = false) := by
  by_cases h1 : -5000 ≤ n
  · by_cases h2 : n ≤ 5000
    · exact .inl ⟨h1, h2, okN_iff.2 ⟨h1, h2⟩⟩
    · exact .inr (.inr ⟨h1, by omega, okN_no.2 (by omega)⟩)
  · exact .inr (.inl ⟨by omega, okN_no.2 (by omega)⟩)

def inR (n a b : Int) : Bool := decide (a ≤ n) && decide (n ≤ b)
theorem inR_cases (n a b : Int) : (a ≤ n ∧ n ≤ b ∧ inR n a b = true) ∨ (n < a ∧ inR n a b = false) ∨ (a ≤ n ∧ b < n ∧ inR n a b = false) := by
  unfold inR
  by_cases h1 : a ≤ n
  · by_cases h2 : n ≤ b
    · exact .inl ⟨h1, h2, by simp [h1, h2]⟩
    · exact .inr (.inr ⟨h1, by omega, by simp [h2]⟩)
  · exact .inr (.inl ⟨by omega, by simp [h1]⟩)

theorem valid_any (n : Int) (w : World) : Calls Try.prog 69 #[.int .i64 n] w fun e w' => e = .returned (.bool (okN n)) ∧ w = w' := by
  rcases okN_cases n with ⟨h1, h2, H⟩ | ⟨h1, H⟩ | ⟨h1, h2, H⟩
  all_goals
    go_enter Try.func69, Try.ntmps69
    go_wp2
    go_ret
    exact ⟨retB (by first | rfl | exact H.symm | (rw [H]; simp; omega)), rfl⟩

theorem l6In_any (n a b : Int) (w : World) : Calls Try.prog 76 #[.int .i64 n, .int .i64 a, .int .i64 b] w fun e w' => e = .returned (.bool (inR n a b)) ∧ w = w' := by
  rcases inR_cases n a b with ⟨h1, h2, H⟩ | ⟨h1, H⟩ | ⟨h1, h2, H⟩
  all_goals
    go_enter Try.func76, Try.ntmps76
    go_wp2
    go_ret
    exact ⟨retB (by first | rfl | exact H.symm | (rw [H]; simp; omega)), rfl⟩

theorem l1Number_any (n : Int) (w : World) : Calls Try.prog 70 #[.int .i64 n] w fun e w' => e = .returned (.bool (okN n)) ∧ w = w' := by
  have hr : inR n (-5000) 5000 = okN n := rfl
  have HR := hid hr; clear hr
  go_enter Try.func70, Try.ntmps70
  go_wp2_with (go_at_call 76; refine (l6In_any _ _ _ _).mono ?_; rintro e w' ⟨rfl, rfl⟩)
  go_ret
  exact ⟨retB (by first | rfl | exact HR.out), rfl⟩

def factB (n : Int) : Bool := okN n && decide (n ≠ 0)
theorem factB_yes {n : Int} (h1 : -5000 ≤ n) (h2 : n ≤ 5000) (h : n ≠ 0) : factB n = true := by simp [factB, okN, h1, h2, h]
theorem factB_no {n : Int} (h : n < -5000 ∨ 5000 < n ∨ n = 0) : factB n = false := by
  unfold factB okN
  rcases h with h | h | h
  · simp [show ¬ -5000 ≤ n by omega]
  · simp [show ¬ n ≤ 5000 by omega]
  · simp [h]

theorem factored_any (n : Int) (w : World) : Calls Try.prog 55 #[.int .i64 n] w fun e w' => e = .returned (.bool (factB n)) ∧ w = w' := by
  rcases okN_cases n with ⟨h1, h2, H⟩ | ⟨h1, H⟩ | ⟨h1, h2, H⟩
  · by_cases h0 : n = 0
    · have K := factB_no (n := n) (by omega)
      have e0 : (n != 0) = false := by simp [h0]
      clear h0
      go_enter Try.func55, Try.ntmps55
      go_wp2_with (go_at_call 69; refine (valid_any _ _).mono ?_; rintro e w' ⟨rfl, rfl⟩)
      go_ret
      exact ⟨retB (by first | rfl | exact K.symm | (rw [K]; simp; omega)), rfl⟩
    · have K := factB_yes h1 h2 h0
      have e0 : (n != 0) = true := by simp [h0]
      clear h0
      go_enter Try.func55, Try.ntmps55
      go_wp2_with (go_at_call 69; refine (valid_any _ _).mono ?_; rintro e w' ⟨rfl, rfl⟩)
      go_ret
      exact ⟨retB (by first | rfl | exact K.symm | (rw [K]; simp; omega)), rfl⟩
  all_goals
    have K := factB_no (n := n) (by omega)
    go_enter Try.func55, Try.ntmps55
    go_wp2_with (go_at_call 69; refine (valid_any _ _).mono ?_; rintro e w' ⟨rfl, rfl⟩)
    go_ret
    exact ⟨retB (by first | rfl | exact K.symm | (rw [K]; simp; omega)), rfl⟩

theorem size_any (n : Int) (h1 : -4611686018427387904 ≤ n) (h2 : n ≤ 4611686018427387904) (w : World) : Calls Try.prog 100 #[.int .i64 n] w fun e w' => e = .returned (.int .i64 n.natAbs) ∧ w = w' := by
  by_cases h : n < 0
  · have hn : (n.natAbs : Int) = -n := by omega
    have HN := hid hn; clear hn
    go_enter Try.func100, Try.ntmps100
    go_wp2
    go_ret
    exact ⟨retI HN.out.symm, rfl⟩
  · have hn : (n.natAbs : Int) = n := by omega
    have HN := hid hn; clear hn
    go_enter Try.func100, Try.ntmps100
    go_wp2
    go_ret
    exact ⟨retI HN.out.symm, rfl⟩

theorem rest_any (n m : Int) (h1 : -4611686018427387904 ≤ n) (h2 : n ≤ 4611686018427387904) (hm : 1 ≤ m) (hm2 : m ≤ 4611686018427387904) (w : World) : Calls Try.prog 94 #[.int .i64 n, .int .i64 m] w fun e w' => e = .returned (.int .i64 (n % m)) ∧ w = w' := by
  by_cases h : 0 ≤ n
  · have hb := Int.emod_nonneg n (show m ≠ 0 by omega)
    go_enter Try.func94, Try.ntmps94
    go_wp2
    go_ret
    exact ⟨rfl, rfl⟩
  · have ht := Int.tmod_eq_emod (a := n) (b := m)
    by_cases hd : m ∣ n
    · have h0 : n.tmod m = 0 := (Int.dvd_iff_tmod_eq_zero).1 hd
      have h3 : n % m = 0 := Int.emod_eq_zero_of_dvd hd
      clear ht
      have T := hid h3; clear h3
      go_enter Try.func94, Try.ntmps94
      go_wp2
      go_ret
      exact ⟨retI (by first | exact T.out | exact T.out.symm), rfl⟩
    · have h3 : n.tmod m = n % m - m := by rw [ht, if_neg (by omega)]; omega
      have hb := Int.emod_lt_of_pos n (show 0 < m by omega)
      have hb2 := Int.emod_nonneg n (show m ≠ 0 by omega)
      have hneg : n.tmod m < 0 := by omega
      have hlo : -m < n.tmod m := by
        have : n % m ≠ 0 := fun e => hd (Int.dvd_of_emod_eq_zero e)
        omega
      have T : Hid (n.tmod m + m = n % m) := by show _ = _; omega
      clear h3 ht
      go_enter Try.func94, Try.ntmps94
      go_wp2
      go_ret
      exact ⟨retI (by first | exact T.out | exact T.out.symm), rfl⟩

theorem tmod_lt_abs (n m : Int) (hm : 1 ≤ m) : -m < n.tmod m ∧ n.tmod m < m := by
  have ht := Int.tmod_eq_emod (a := n) (b := m)
  have hb := Int.emod_lt_of_pos n (show 0 < m by omega)
  have hb2 := Int.emod_nonneg n (show m ≠ 0 by omega)
  rw [ht]
  by_cases hd : m ∣ n
  · rw [if_pos (.inr hd), Int.emod_eq_zero_of_dvd hd]; omega
  · have : n % m ≠ 0 := fun e => hd (Int.dvd_of_emod_eq_zero e)
    split <;> omega

theorem tmod_add_emod (n m : Int) (hm : 1 ≤ m) : (n.tmod m + m).tmod m = n % m := by
  have hb := tmod_lt_abs n m hm
  rw [Int.tmod_eq_emod_of_nonneg (by omega), Int.tmod_eq_emod]
  split
  · simp
  · rw [show n % m - ↑m.natAbs + m = n % m by omega]; simp

end Go.Proofs.Ytdidmblkknnglaa
