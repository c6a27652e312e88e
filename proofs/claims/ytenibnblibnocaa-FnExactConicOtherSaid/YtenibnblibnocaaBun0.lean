/-
  Some texts in one file: RowWord Num.
-/
import Derived.Below
import Derived.Test.YtenibnblibnocaaProg
import Derived.WalkKit
import Derived.WalkSpells
import Derived.WalkLawsBesides
/-! RowWord -/
namespace Go.Proofs.Ytenibnblibnocaa
open Go.RowKit
/-- it is nil; or it leads to a row of 'cap' cells, the numbers 'zs' (the first 'len' are its elements), each fitting its kind -/
def IsRow (k : IntKind) (w : World) (a : Option Addr) (len cap : Nat) (zs : List Int) : Prop :=
  (a = none ∧ len = 0 ∧ cap = 0 ∧ zs = []) ∨
  ∃ x, a = some x ∧ len ≤ cap ∧ cap ≤ maxLen ∧ zs.length = cap ∧ (∀ i, i < zs.length → w.cell? (x.add i) = some (.int k (zs.getD i 0))) ∧ ∀ n ∈ zs, (Lit.int k n).wf = true
end Go.Proofs.Ytenibnblibnocaa

/-! Num -/
set_option linter.unusedVariables false
namespace Go.Proofs.Ytenibnblibnocaa
open Go.RowKit

theorem hid {p : Prop} (h : p) : Hid p := h
theorem retB {a b : Bool} (h : a = b) : Ending.returned (.bool a) = .returned (.bool b) := by rw [h]
theorem vI {a b : Int} (h : a = b) : Value.int .i64 a = .int .i64 b := by rw [h]
theorem retI {a b : Int} (h : a = b) : Ending.returned (.int .i64 a) = .returned (.int .i64 b) := by rw [h]

/-- Is it a number of the document? -/
def okN (n : Int) : Bool := decide (-5000 ≤ n) && decide (n ≤ 5000)
theorem okN_iff {n : Int} : okN n = true ↔ -5000 ≤ n ∧ n ≤ 5000 := by simp [okN]
theorem okN_no {n : Int} : okN n = false ↔ n < -5000 ∨ 5000 < n := by
  rw [← Bool.not_eq_true, okN_iff]; omega
theorem okN_cases (n : Int) : (-5000 ≤ n ∧ n ≤ 5000 ∧ okN n = true) ∨ (n < -5000 ∧ okN n = false) ∨ (-5000 ≤ n ∧ 5000 < n ∧ okN n = false) := by
  by_cases h1 : -5000 ≤ n
  · by_cases h2 : n ≤ 5000
    · exact .inl ⟨h1, h2, okN_iff.2 ⟨h1, h2⟩⟩
    · exact .inr (.inr ⟨h1, by omega, okN_no.2 (by omega)⟩)
  · exact .inr (.inl ⟨by omega, okN_no.2 (by omega)⟩)

def inR (n a b : Int) : Bool := decide (a ≤ n) && decide (n ≤ b)
theorem inR_cases (n a b : Int) : (a ≤ n ∧ n ≤ b ∧ inR n a b = true) ∨ (n < a ∧ inR n a b = false) ∨ (a ≤ n ∧ b < n ∧ inR n a b = false) := by
  unfold inR
  by_cases h1 : a ≤ n
  · by_cases h2 : n ≤ b
    · exact .inl ⟨h1, h2, by simp [h1, h2]⟩
    · exact .inr (.inr ⟨h1, by omega, by simp [h2]⟩)
  · exact .inr (.inl ⟨by omega, by simp [h1]⟩)

theorem l6In_any (n a b : Int) (w : World) : Calls Try.prog 56 #[.int .i64 n, .int .i64 a, .int .i64 b] w fun e w' => e = .returned (.bool (inR n a b)) ∧ w = w' := by
  rcases inR_cases n a b with ⟨h1, h2, H⟩ | ⟨h1, H⟩ | ⟨h1, h2, H⟩
  all_goals
    go_enter Try.func56, Try.ntmps56
    go_wp2
    go_ret
    exact ⟨retB (by first | rfl | exact H.symm | (rw [H]; simp; omega)), rfl⟩

def factB (n : Int) : Bool := okN n && decide (n ≠ 0)
theorem factB_yes {n : Int} (h1 : -5000 ≤ n) (h2 : n ≤ 5000) (h : n ≠ 0) : factB n = true := by simp [factB, okN, h1, h2, h]
theorem factB_no {n : Int} (h : n < -5000 ∨ 5000 < n ∨ n = 0) : factB n = false := by
  unfold factB okN
  rcases h with h | h | h
  · simp [show ¬ -5000 ≤ n by omega]
  · simp [show ¬ n ≤ 5000 by omega]
  · simp [h]

theorem size_any (n : Int) (h1 : -4611686018427387904 ≤ n) (h2 : n ≤ 4611686018427387904) (w : World) : Calls Try.prog 87 #[.int .i64 n] w fun e w' => e = .returned (.int .i64 n.natAbs) ∧ w = w' := by
  by_cases h : n < 0
  · have hn : (n.natAbs : Int) = -n := by omega
    have HN := hid hn; clear hn
    go_enter Try.func87, Try.ntmps87
    go_wp2
    go_ret
    exact ⟨retI HN.out.symm, rfl⟩
  · have hn : (n.natAbs : Int) = n := by omega
    have HN := hid hn; clear hn
    go_enter Try.func87, Try.ntmps87
    go_wp2
    go_ret
    exact ⟨retI HN.out.symm, rfl⟩

theorem tmod_lt_abs (n m : Int) (hm : 1 ≤ m) : -m < n.tmod m ∧ n.tmod m < m := by
  have ht := Int.tmod_eq_emod (a := n) (b := m)
  have hb := Int.emod_lt_of_pos n (show 0 < m by omega)
  have hb2 := Int.emod_nonneg n (show m ≠ 0 by omega)
  rw [ht]
  by_cases hd : m ∣ n
  · rw [if_pos (.inr hd), Int.emod_eq_zero_of_dvd hd]; omega
  · have : n % m ≠ 0 := fun e => hd (Int.dvd_of_emod_eq_zero e)
    split <;> omega

theorem tmod_add_emod (n m : Int) (hm : 1 ≤ m) : (n.tmod m + m).tmod m = n % m := by
  have hb := tmod_lt_abs n m hm
  rw [Int.tmod_eq_emod_of_nonneg (by omega), Int.tmod_eq_emod]
  split
  · simp
  · rw [show n % m - ↑m.natAbs + m = n % m by omega]; simp

end Go.Proofs.Ytenibnblibnocaa
