/-
  Some texts in one file: Draws7 Draws8 Draws9 Draws10 FmLen.
-/
import Derived.Test.YtbhlgdleklfonabBun51
import Derived.Test.YtbhlgdleklfonabBun14
/-! Draws7 -/
set_option linter.unusedVariables false
namespace Go.Proofs.Ytbhlgdleklfonab
open Go.RowKit

theorem Owns.base {W : World} {B C : Nat} {v : Value} {xs : List Int} (h : Owns W C v xs) (hb : B ≤ C) : Owns W B v xs := by
  obtain ⟨h1, h2⟩ := h
  refine ⟨h1, ?_⟩
  rcases h2 with h2 | ⟨g, cap, cur, hv, hg, r⟩
  · exact .inl h2
  · exact .inr ⟨g, cap, cur, hv, Nat.le_trans hb hg, r⟩
def DrewF (P : List Int → Prop) (w : World) (e : Ending) (w' : World) : Prop := ∃ (u : Value) (xs : List Int), e = .returned u ∧ P xs ∧ Hid (Owns w' w.heap.size u xs) ∧ Below w.heap.size w w'
def DrewFF (P : List Int → List Int → Prop) (w : World) (e : Ending) (w' : World) : Prop := ∃ (u v : Value) (xs ys : List Int), e = .returned (.tuple #[u, v]) ∧ P xs ys ∧ Hid (Owns w' w.heap.size u xs) ∧ Hid (Rd w' v ys) ∧ Firm v ∧ Below w.heap.size w w'
def DrewFI (P : List Int → Int → Prop) (w : World) (e : Ending) (w' : World) : Prop := ∃ (u : Value) (xs : List Int) (y : Int), e = .returned (.tuple #[u, .int .i64 y]) ∧ P xs y ∧ Hid (Owns w' w.heap.size u xs) ∧ Below w.heap.size w w'
theorem DrewF.mk {P : List Int → Prop} {w w' : World} {u : Value} {xs : List Int} (h : P xs) (ho : Owns w' w.heap.size u xs) (hb : Below w.heap.size w w') : DrewF P w (.returned u) w' := ⟨u, xs, rfl, h, hid ho, hb⟩
theorem DrewFF.mk {P : List Int → List Int → Prop} {w w' : World} {u v : Value} {xs ys : List Int} (h : P xs ys) (ho : Owns w' w.heap.size u xs) (hr : Rd w' v ys) (hf : Firm v) (hb : Below w.heap.size w w') : DrewFF P w (.returned (.tuple #[u, v])) w' := ⟨u, v, xs, ys, rfl, h, hid ho, hid hr, hf, hb⟩
theorem DrewFI.mk {P : List Int → Int → Prop} {w w' : World} {u : Value} {xs : List Int} {y : Int} (h : P xs y) (ho : Owns w' w.heap.size u xs) (hb : Below w.heap.size w w') : DrewFI P w (.returned (.tuple #[u, .int .i64 y])) w' := ⟨u, xs, y, rfl, h, hid ho, hb⟩








end Go.Proofs.Ytbhlgdleklfonab

/-! Draws8 -/
set_option linter.unusedVariables false
namespace Go.Proofs.Ytbhlgdleklfonab
open Go.RowKit

def facOk (y : Int) : Prop := (-3 ≤ y ∧ y ≤ 5) ∨ y = 5001
theorem fac2 : ∀ y : Int, 0 ≤ y → y < 2 → ∃ pv, (#[.int .i64 0, .int .i64 5001] : Array Value)[y.toNat]? = some (.int .i64 pv) ∧ facOk pv := by
  intro y h0 h1
  have : y = 0 ∨ y = 1 := by omega
  rcases this with rfl | rfl
  all_goals exact ⟨_, rfl, by unfold facOk; omega⟩
theorem fac8 : ∀ y : Int, 0 ≤ y → y < 8 → ∃ pv, (#[.int .i64 1, .int .i64 (-1), .int .i64 2, .int .i64 3, .int .i64 (-2), .int .i64 4, .int .i64 5, .int .i64 (-3)] : Array Value)[y.toNat]? = some (.int .i64 pv) ∧ facOk pv := by
  intro y h0 h1
  have : y = 0 ∨ y = 1 ∨ y = 2 ∨ y = 3 ∨ y = 4 ∨ y = 5 ∨ y = 6 ∨ y = 7 := by omega
  rcases this with rfl | rfl | rfl | rfl | rfl | rfl | rfl | rfl
  all_goals exact ⟨_, rfl, by unfold facOk; omega⟩


end Go.Proofs.Ytbhlgdleklfonab

/-! Draws9 -/
set_option linter.unusedVariables false
namespace Go.Proofs.Ytbhlgdleklfonab
open Go.RowKit


end Go.Proofs.Ytbhlgdleklfonab

/-! Draws10 -/
set_option linter.unusedVariables false
namespace Go.Proofs.Ytbhlgdleklfonab
open Go.RowKit


end Go.Proofs.Ytbhlgdleklfonab

/-! FmLen -/
set_option linter.unusedVariables false
namespace Go.Proofs.Ytbhlgdleklfonab
open Go.RowKit

theorem fpl_len (xs : List Int) : (fplL xs).length ≤ 1000 := by
  unfold fplL
  cases hf : fvB xs with
  | false => simp
  | true =>
    have hp := prod_full hf
    obtain ⟨h1, h2, _⟩ := plistG_spec (show 0 < (prodI xs).natAbs by have := hp.1; omega)
    have h3 := asc_len _ 0 30 h2 (fun x hx => ⟨Nat.zero_le _, (small_prime (fvB_iff.1 hf).1 (h1 x hx).1 (h1 x hx).2).1⟩)
    rw [if_pos rfl]
    unfold placesG
    have h4 := List.length_filter_le (fun x : Int => decide (2 < x)) (natsI (plistG (prodI xs).natAbs))
    rw [natsI_len] at h4
    rw [List.length_append]
    simp only [List.length_cons, List.length_nil]
    omega
theorem bad_len (xs : List Int) : (badL xs).length ≤ 1000 := Nat.le_trans (List.length_filter_le _ _) (fpl_len xs)
theorem fcores_len (xs : List Int) : (fcoresL xs).length ≤ 1000 := by
  unfold fcoresL
  cases hf : fvB xs with
  | false => simp
  | true =>
    have := (fvB_iff.1 hf).2.2
    rw [if_pos rfl]
    unfold timesL
    rw [List.length_map]
    omega
theorem ftimes_len (xs : List Int) (n : Int) : (ftimesL xs n).length ≤ 1000 := by
  unfold ftimesL
  cases ht : timesOk xs n with
  | false => simp
  | true =>
    unfold timesOk at ht
    rw [Bool.and_eq_true] at ht
    have := (fvB_iff.1 ht.1).2.2
    rw [if_pos rfl]
    unfold timesL
    rw [List.length_map]
    omega
theorem join_len (xs ys : List Int) : (joinL xs ys).length ≤ 1000 := by
  unfold joinL
  cases ht : joinOk xs ys with
  | false => simp
  | true =>
    unfold joinOk at ht
    rw [Bool.and_eq_true, Bool.and_eq_true] at ht
    have := (fvB_iff.1 ht.2.2).2.2
    rw [if_pos rfl]
    omega

end Go.Proofs.Ytbhlgdleklfonab
