/-
  Some texts in one file: Draws8 Draws9.
-/
import Derived.Test.YtdclmjmefkgbbabQBun21
/-! Draws8 -/
set_option linter.unusedVariables false
namespace Go.Proofs.Ytdclmjmefkgbbab
open Go.RowKit

theorem Rdr.drew' {W : World} {B R : Nat} {v : Value} {n p : Nat} (h : Rdr W B R v n p) : Rdr W.drew B R v n p := h
theorem Only.of_drew' {R : Nat} {W W' : World} (h : Only R W.drew W') : Only R W W' := ⟨h.os, h.tape, h.output, h.size, h.block⟩
theorem pickLit (cs : Array Value) (m : Int) (P : Int → Prop) (hm : 1 ≤ m) (hm2 : m ≤ 1000) (hl : ∀ y : Int, 0 ≤ y → y < m → ∃ pv, cs[y.toNat]? = some (.int .i64 pv) ∧ P pv) (B R : Nat) (v : Value) (n p : Nat) (hp : p ≤ 1000000000000000) (w2 : World) (HA : Hid (Rdr w2 B R v n p)) (hB : B ≤ w2.heap.size) :
    Calls Try.prog 73 #[.pointer (some ⟨R, 0, none⟩), .int .i64 m] ((w2.alloc (.cells cs 3)).drew) fun e w' => ∃ (y pv : Int), e = .returned (.int .i64 y) ∧ 0 ≤ y ∧ y < m ∧ w'.cell? ⟨w2.heap.size, y.toNat, none⟩ = some (.int .i64 pv) ∧ P pv ∧ Hid (Only R w2 w') := by
  have hR := HA.out.lt
  refine (pick_any _ _ _ _ p m (by omega) (by omega) (by omega) _ ((HA.out.alloc (by omega) _).drew')).mono ?_
  rintro e w3 ⟨y, r, rfl, hy0, hy1, _, hr, HC, HP⟩
  replace hy1 := hy1 (by omega)
  obtain ⟨pv, hpv, hpl⟩ := hl y hy0 hy1
  have HQ := HP.out.of_drew'
  have c := lit_cell (fr := (0, 0)) HQ hR y.toNat
  exact ⟨y, pv, rfl, hy0, hy1, c.trans hpv, hpl, hid (((Only.refl _ _).alloc _).trans HQ)⟩
theorem pickLit2 (cs : Array Value) (m : Int) (P : Int → Prop) (hm : 1 ≤ m) (hm2 : m ≤ 1000) (hl : ∀ y : Int, 0 ≤ y → y < m → ∃ pv, cs[y.toNat]? = some (.int .i64 pv) ∧ P pv) (B R : Nat) (v : Value) (n p : Nat) (hp : p ≤ 1000000000000000) (w2 : World) (HA : Hid (Rdr w2 B R v n p)) (hB : B ≤ w2.heap.size) :
    Calls Try.prog 73 #[.pointer (some ⟨R, 0, none⟩), .int .i64 m] w2.drew fun e w' => ∃ (y pv : Int), e = .returned (.int .i64 y) ∧ 0 ≤ y ∧ y < m ∧ (w'.alloc (.cells cs 3)).cell? ⟨w'.heap.size, y.toNat, none⟩ = some (.int .i64 pv) ∧ P pv ∧ Hid (Only R w2 w') := by
  refine (pick_any _ _ _ _ p m (by omega) (by omega) (by omega) _ HA.out.drew').mono ?_
  rintro e w3 ⟨y, r, rfl, hy0, hy1, _, hr, HC, HP⟩
  replace hy1 := hy1 (by omega)
  obtain ⟨pv, hpv, hpl⟩ := hl y hy0 hy1
  refine ⟨y, pv, rfl, hy0, hy1, ?_, hpl, hid HP.out.of_drew'⟩
  rw [Go.cell_of_row _ _ _ _ _ _ (World.alloc_heap_new w3 _)]
  exact hpv

def facOk (y : Int) : Prop := (-3 ≤ y ∧ y ≤ 5) ∨ y = 5001
theorem fac2 : ∀ y : Int, 0 ≤ y → y < 2 → ∃ pv, (#[.int .i64 0, .int .i64 5001] : Array Value)[y.toNat]? = some (.int .i64 pv) ∧ facOk pv := by
  intro y h0 h1
  have : y = 0 ∨ y = 1 := by omega
  rcases this with rfl | rfl
  all_goals exact ⟨_, rfl, by unfold facOk; omega⟩
theorem fac8 : ∀ y : Int, 0 ≤ y → y < 8 → ∃ pv, (#[.int .i64 1, .int .i64 (-1), .int .i64 2, .int .i64 3, .int .i64 (-2), .int .i64 4, .int .i64 5, .int .i64 (-3)] : Array Value)[y.toNat]? = some (.int .i64 pv) ∧ facOk pv := by
  intro y h0 h1
  have : y = 0 ∨ y = 1 ∨ y = 2 ∨ y = 3 ∨ y = 4 ∨ y = 5 ∨ y = 6 ∨ y = 7 := by omega
  rcases this with rfl | rfl | rfl | rfl | rfl | rfl | rfl | rfl
  all_goals exact ⟨_, rfl, by unfold facOk; omega⟩


end Go.Proofs.Ytdclmjmefkgbbab

/-! Draws9 -/
set_option linter.unusedVariables false
namespace Go.Proofs.Ytdclmjmefkgbbab
open Go.RowKit

def VecOk (m : Nat) (k : Int) (ys : List Int) : Prop := ys.length = m ∧ ∀ y ∈ ys, -k ≤ y ∧ y ≤ k
theorem VecOk.snoc {m : Nat} {k : Int} {ys : List Int} {x : Int} (h : VecOk m k ys) (h1 : -k ≤ x) (h2 : x ≤ k) : VecOk (m + 1) k (ys ++ [x]) :=
  ⟨by rw [List.length_append, h.1]; rfl, fun y hy => by
    rcases List.mem_append.1 hy with h3 | h3
    · exact h.2 y h3
    · rw [List.mem_singleton] at h3; subst h3; exact ⟨h1, h2⟩⟩
def VecPost (m : Nat) (w : World) (B R : Nat) (v : Value) (n p : Nat) (e : Ending) (w' : World) : Prop :=
  ∃ (u : Value) (ys : List Int) (q : Nat), e = .returned u ∧ VecOk m 9 ys ∧ Hid (Owns w' w.heap.size u ys) ∧ q ≤ p + m ∧ Hid (Rdr w' B R v n q) ∧ Hid (Only R w w')
theorem VecPost.mk {m : Nat} {w : World} {B R : Nat} {v : Value} {n p q : Nat} {u : Value} {ys : List Int} {w' : World} (h : VecOk m 9 ys) (ho : Hid (Owns w' w.heap.size u ys)) (hq : q ≤ p + m) (hr : Hid (Rdr w' B R v n q)) (hn : Hid (Only R w w')) : VecPost m w B R v n p (.returned u) w' :=
  ⟨u, ys, q, rfl, h, ho, hq, hr, hn⟩


end Go.Proofs.Ytdclmjmefkgbbab
