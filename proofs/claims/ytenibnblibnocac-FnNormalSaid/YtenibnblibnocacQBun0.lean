/-
  Some texts in one file: RowWord Num Own.
-/
import Derived.Below
import Derived.Test.YtenibnblibnocacProg
import Derived.WalkKit
import Derived.WalkSpells
import Derived.WalkLawsBesides
import Derived.BigQuiet
import Derived.Maps.AppendAt
/-! RowWord -/
namespace Go.Proofs.Ytenibnblibnocac
open Go.RowKit
/-- it is nil; or it leads to a row of 'cap' cells, the numbers 'zs' (the first 'len' are its elements), each fitting its kind -/
def IsRow (k : IntKind) (w : World) (a : Option Addr) (len cap : Nat) (zs : List Int) : Prop :=
  (a = none ∧ len = 0 ∧ cap = 0 ∧ zs = []) ∨
  ∃ x, a = some x ∧ len ≤ cap ∧ cap ≤ maxLen ∧ zs.length = cap ∧ (∀ i, i < zs.length → w.cell? (x.add i) = some (.int k (zs.getD i 0))) ∧ ∀ n ∈ zs, (Lit.int k n).wf = true
end Go.Proofs.Ytenibnblibnocac

/-! Num -/
set_option linter.unusedVariables false
namespace Go.Proofs.Ytenibnblibnocac
open Go.RowKit

theorem hid {p : Prop} (h : p) : Hid p := h
theorem retB {a b : Bool} (h : a = b) : Ending.returned (.bool a) = .returned (.bool b) := by rw [h]
theorem vI {a b : Int} (h : a = b) : Value.int .i64 a = .int .i64 b := by rw [h]
theorem retI {a b : Int} (h : a = b) : Ending.returned (.int .i64 a) = .returned (.int .i64 b) := by rw [h]

/-- Is it a number of the document? -/
def okN (n : Int) : Bool := decide (-5000 ≤ n) && decide (n ≤ 5000)
theorem okN_iff {n : Int} : okN n = true ↔ -5000 ≤ n ∧ n ≤ 5000 := by simp [okN]
theorem okN_no {n : Int} : okN n = false ↔ n < -5000 ∨ 5000 < n := by
  rw [← Bool.not_eq_true, okN_iff]; omega
theorem okN_cases (n : Int) : (-5000 ≤ n ∧ n ≤ 5000 ∧ okN n = true) ∨ (n < -5000 ∧ okN n = false) ∨ (-5000 ≤ n ∧ 5000 < n ∧ okN n = false) := by
  by_cases h1 : -5000 ≤ n
  · by_cases h2 : n ≤ 5000
    · exact .inl ⟨h1, h2, okN_iff.2 ⟨h1, h2⟩⟩
    · exact .inr (.inr ⟨h1, by omega, okN_no.2 (by omega)⟩)
  · exact .inr (.inl ⟨by omega, okN_no.2 (by omega)⟩)

def inR (n a b : Int) : Bool := decide (a ≤ n) && decide (n ≤ b)
theorem inR_cases (n a b : Int) : (a ≤ n ∧ n ≤ b ∧ inR n a b = true) ∨ (n < a ∧ inR n a b = false) ∨ (a ≤ n ∧ b < n ∧ inR n a b = false) := by
  unfold inR
  by_cases h1 : a ≤ n
  · by_cases h2 : n ≤ b
    · exact .inl ⟨h1, h2, by simp [h1, h2]⟩
    · exact .inr (.inr ⟨h1, by omega, by simp [h2]⟩)
  · exact .inr (.inl ⟨by omega, by simp [h1]⟩)

theorem valid_any (n : Int) (w : World) : Calls Try.prog 39 #[.int .i64 n] w fun e w' => e = .returned (.bool (okN n)) ∧ w = w' := by
  rcases okN_cases n with ⟨h1, h2, H⟩ | ⟨h1, H⟩ | ⟨h1, h2, H⟩
  all_goals
    go_enter Try.func39, Try.ntmps39
    go_wp2
    go_ret
    exact ⟨retB (by first | rfl | exact H.symm | (rw [H]; simp; omega)), rfl⟩

theorem l6In_any (n a b : Int) (w : World) : Calls Try.prog 57 #[.int .i64 n, .int .i64 a, .int .i64 b] w fun e w' => e = .returned (.bool (inR n a b)) ∧ w = w' := by
  rcases inR_cases n a b with ⟨h1, h2, H⟩ | ⟨h1, H⟩ | ⟨h1, h2, H⟩
  all_goals
    go_enter Try.func57, Try.ntmps57
    go_wp2
    go_ret
    exact ⟨retB (by first | rfl | exact H.symm | (rw [H]; simp; omega)), rfl⟩

def factB (n : Int) : Bool := okN n && decide (n ≠ 0)
theorem factB_yes {n : Int} (h1 : -5000 ≤ n) (h2 : n ≤ 5000) (h : n ≠ 0) : factB n = true := by simp [factB, okN, h1, h2, h]
theorem factB_no {n : Int} (h : n < -5000 ∨ 5000 < n ∨ n = 0) : factB n = false := by
  unfold factB okN
  rcases h with h | h | h
  · simp [show ¬ -5000 ≤ n by omega]
  · simp [show ¬ n ≤ 5000 by omega]
  · simp [h]

theorem factored_any (n : Int) (w : World) : Calls Try.prog 37 #[.int .i64 n] w fun e w' => e = .returned (.bool (factB n)) ∧ w = w' := by
  rcases okN_cases n with ⟨h1, h2, H⟩ | ⟨h1, H⟩ | ⟨h1, h2, H⟩
  · by_cases h0 : n = 0
    · have K := factB_no (n := n) (by omega)
      have e0 : (n != 0) = false := by simp [h0]
      clear h0
      go_enter Try.func37, Try.ntmps37
      go_wp2_with (go_at_call 39; refine (valid_any _ _).mono ?_; rintro e w' ⟨rfl, rfl⟩)
      go_ret
      exact ⟨retB (by first | rfl | exact K.symm | (rw [K]; simp; omega)), rfl⟩
    · have K := factB_yes h1 h2 h0
      have e0 : (n != 0) = true := by simp [h0]
      clear h0
      go_enter Try.func37, Try.ntmps37
      go_wp2_with (go_at_call 39; refine (valid_any _ _).mono ?_; rintro e w' ⟨rfl, rfl⟩)
      go_ret
      exact ⟨retB (by first | rfl | exact K.symm | (rw [K]; simp; omega)), rfl⟩
  all_goals
    have K := factB_no (n := n) (by omega)
    go_enter Try.func37, Try.ntmps37
    go_wp2_with (go_at_call 39; refine (valid_any _ _).mono ?_; rintro e w' ⟨rfl, rfl⟩)
    go_ret
    exact ⟨retB (by first | rfl | exact K.symm | (rw [K]; simp; omega)), rfl⟩

theorem size_any (n : Int) (h1 : -4611686018427387904 ≤ n) (h2 : n ≤ 4611686018427387904) (w : World) : Calls Try.prog 35 #[.int .i64 n] w fun e w' => e = .returned (.int .i64 n.natAbs) ∧ w = w' := by
  by_cases h : n < 0
  · have hn : (n.natAbs : Int) = -n := by omega
    have HN := hid hn; clear hn
    go_enter Try.func35, Try.ntmps35
    go_wp2
    go_ret
    exact ⟨retI HN.out.symm, rfl⟩
  · have hn : (n.natAbs : Int) = n := by omega
    have HN := hid hn; clear hn
    go_enter Try.func35, Try.ntmps35
    go_wp2
    go_ret
    exact ⟨retI HN.out.symm, rfl⟩

theorem rest_any (n m : Int) (h1 : -4611686018427387904 ≤ n) (h2 : n ≤ 4611686018427387904) (hm : 1 ≤ m) (hm2 : m ≤ 4611686018427387904) (w : World) : Calls Try.prog 86 #[.int .i64 n, .int .i64 m] w fun e w' => e = .returned (.int .i64 (n % m)) ∧ w = w' := by
  by_cases h : 0 ≤ n
  · have hb := Int.emod_nonneg n (show m ≠ 0 by omega)
    go_enter Try.func86, Try.ntmps86
    go_wp2
    go_ret
    exact ⟨rfl, rfl⟩
  · have ht := Int.tmod_eq_emod (a := n) (b := m)
    by_cases hd : m ∣ n
    · have h0 : n.tmod m = 0 := (Int.dvd_iff_tmod_eq_zero).1 hd
      have h3 : n % m = 0 := Int.emod_eq_zero_of_dvd hd
      clear ht
      have T := hid h3; clear h3
      go_enter Try.func86, Try.ntmps86
      go_wp2
      go_ret
      exact ⟨retI (by first | exact T.out | exact T.out.symm), rfl⟩
    · have h3 : n.tmod m = n % m - m := by rw [ht, if_neg (by omega)]; omega
      have hb := Int.emod_lt_of_pos n (show 0 < m by omega)
      have hb2 := Int.emod_nonneg n (show m ≠ 0 by omega)
      have hneg : n.tmod m < 0 := by omega
      have hlo : -m < n.tmod m := by
        have : n % m ≠ 0 := fun e => hd (Int.dvd_of_emod_eq_zero e)
        omega
      have T : Hid (n.tmod m + m = n % m) := by show _ = _; omega
      clear h3 ht
      go_enter Try.func86, Try.ntmps86
      go_wp2
      go_ret
      exact ⟨retI (by first | exact T.out | exact T.out.symm), rfl⟩

theorem tmod_lt_abs (n m : Int) (hm : 1 ≤ m) : -m < n.tmod m ∧ n.tmod m < m := by
  have ht := Int.tmod_eq_emod (a := n) (b := m)
  have hb := Int.emod_lt_of_pos n (show 0 < m by omega)
  have hb2 := Int.emod_nonneg n (show m ≠ 0 by omega)
  rw [ht]
  by_cases hd : m ∣ n
  · rw [if_pos (.inr hd), Int.emod_eq_zero_of_dvd hd]; omega
  · have : n % m ≠ 0 := fun e => hd (Int.dvd_of_emod_eq_zero e)
    split <;> omega

theorem tmod_add_emod (n m : Int) (hm : 1 ≤ m) : (n.tmod m + m).tmod m = n % m := by
  have hb := tmod_lt_abs n m hm
  rw [Int.tmod_eq_emod_of_nonneg (by omega), Int.tmod_eq_emod]
  split
  · simp
  · rw [show n % m - ↑m.natAbs + m = n % m by omega]; simp

end Go.Proofs.Ytenibnblibnocac

/-! Own -/
set_option linter.unusedVariables false
namespace Go.Proofs.Ytenibnblibnocac
open Go.RowKit

/-- the value is a slice of the call's own that holds these numbers -/
def Owns (W : World) (B : Nat) (v : Value) (xs : List Int) : Prop := W.ownsRow B 3 1 v xs.length (xs.map (Value.int .i64))
theorem Owns.lt {W : World} {B : Nat} {v : Value} {xs : List Int} (h : Owns W B v xs) : ∀ g, v.ownBlock = some g → g < W.heap.size := fun g e => (World.ownsRow.lt h g e).2
theorem Owns.ge {W : World} {B : Nat} {v : Value} {xs : List Int} (h : Owns W B v xs) : ∀ g, v.ownBlock = some g → B ≤ g := fun g e => (World.ownsRow.lt h g e).1
theorem Owns.keep {W W' : World} {B C : Nat} {v : Value} {xs : List Int} (h : Owns W B v xs) (hlt : ∀ g, v.ownBlock = some g → g < C) (hb : Below C W W') : Owns W' B v xs := by
  obtain ⟨h1, h2⟩ := h
  refine ⟨h1, ?_⟩
  rcases h2 with h2 | ⟨g, cap, cur, hv, hg, hh, r⟩
  · exact .inl h2
  · exact .inr ⟨g, cap, cur, hv, hg, by rw [hb.block g (hlt g (by rw [hv]; rfl))]; exact hh, r⟩
theorem Owns.drewN {W : World} {B : Nat} {v : Value} {xs : List Int} (h : Owns W B v xs) (k : Nat) : Owns (W.drewN k) B v xs := h

/-- the value is a slice that reads as these numbers -/
def Rd (W : World) (v : Value) (xs : List Int) : Prop :=
  (∃ a cap, v = .slice a 0 cap ∧ xs = []) ∨
  ∃ b o cap, v = .slice (some ⟨b, o, none⟩) xs.length cap ∧ (0 < xs.length ∧ xs.length ≤ cap) ∧ xs.length ≤ maxLen ∧ ∀ i, i < xs.length → W.cell? ⟨b, o + i, none⟩ = some (.int .i64 (xs.getD i 0))
theorem Owns.rd {W : World} {B : Nat} {v : Value} {xs : List Int} (h : Owns W B v xs) : Rd W v xs := by
  by_cases h0 : xs = []
  · subst h0
    left
    rcases h.2 with ⟨rfl, _⟩ | ⟨g, cap, _, rfl, _⟩
    · exact ⟨_, _, rfl, rfl⟩
    · exact ⟨_, _, rfl, rfl⟩
  · right
    have hl : 0 < xs.length := List.length_pos_iff.2 h0
    rcases h.2 with ⟨_, hn⟩ | ⟨g, cap, cur, hv, hg, hh, hc, hm, hs, _⟩
    · omega
    · subst hv
      refine ⟨g, 0, cap, rfl, ⟨hl, hc⟩, by omega, fun i hi => ?_⟩
      have := World.ownsRow.cellAt h i (by omega)
      rw [Nat.zero_add, this, List.getElem?_map, List.getElem?_eq_getElem hi]
      simp [List.getD, List.getElem?_eq_getElem hi]

end Go.Proofs.Ytenibnblibnocac
