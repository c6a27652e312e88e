/-
  The reader of a code: what it holds; drawing one number.
-/
import Derived.Test.YtbhlgdleklfonabRowWord
import Derived.Test.YtbhlgdleklfonabBun5
import Derived.RangeFuncOwn
set_option linter.unusedVariables false
namespace Go.Proofs.Ytbhlgdleklfonab
open Go.RowKit

theorem xor_i64 {a b : Nat} (ha : a < 4611686018427387904) (hb : b < 4611686018427387904) : bits .xor .i64 (a : Int) (b : Int) = ((a ^^^ b : Nat) : Int) ∧ a ^^^ b < 4611686018427387904 := by
  have hx : a ^^^ b < 2 ^ 62 := Nat.xor_lt_two_pow (by omega) (by omega)
  have h1 : (BitVec.ofInt 64 (a : Int)).toNat = a := by
    rw [BitVec.ofInt_natCast, BitVec.toNat_ofNat]; exact Nat.mod_eq_of_lt (by omega)
  have h2 : (BitVec.ofInt 64 (b : Int)).toNat = b := by
    rw [BitVec.ofInt_natCast, BitVec.toNat_ofNat]; exact Nat.mod_eq_of_lt (by omega)
  have h3 : a ^^^ b < 4611686018427387904 := by omega
  refine ⟨?_, h3⟩
  show IntKind.i64.wrap ((BitVec.ofInt 64 (a : Int) ^^^ BitVec.ofInt 64 (b : Int)).toNat : Int) = _
  rw [BitVec.toNat_xor, h1, h2]
  simp [IntKind.wrap, IntKind.bits, IntKind.signed]
  omega
theorem xor_bd {x : Int} (h0 : 0 ≤ x) (h1 : x ≤ 4000000000000000000) : 0 ≤ bits .xor .i64 x (x / 64) := by
  obtain ⟨n, rfl⟩ := Int.eq_ofNat_of_zero_le h0
  have e : ((n : Int) / 64) = ((n / 64 : Nat) : Int) := by push_cast; rfl
  rw [e, (xor_i64 (a := n) (b := n / 64) (by omega) (by omega)).1]
  exact Int.natCast_nonneg _

/-- the code: a slice of n bytes, below block B -/
def CodeAt (W : World) (B : Nat) (v : Value) (n : Nat) : Prop :=
  n ≤ 2000 ∧ ((∃ a cap, v = .slice a 0 cap ∧ n = 0) ∨ ∃ b o cap, v = .slice (some ⟨b, o, none⟩) n cap ∧ b < B ∧ 0 < n ∧ ∀ i, i < n → ∃ x, W.cell? ⟨b, o + i, none⟩ = some (.int .u8 x) ∧ 0 ≤ x ∧ x ≤ 255)
theorem CodeAt.below {W W' : World} {B : Nat} {v : Value} {n : Nat} (h : CodeAt W B v n) (hb : Below B W W') : CodeAt W' B v n := by
  obtain ⟨hn, h⟩ := h
  refine ⟨hn, ?_⟩
  rcases h with h | ⟨b, o, cap, hv, hB, hp, hc⟩
  · exact .inl h
  · refine .inr ⟨b, o, cap, hv, hB, hp, fun i hi => ?_⟩
    obtain ⟨x, hx, h1⟩ := hc i hi
    exact ⟨x, (hb.cell (p := ⟨b, o + i, none⟩) hB).trans hx, h1⟩

/-- only block R has turned -/
structure Only (R : Nat) (w w' : World) : Prop where
  os : w'.os = w.os
  tape : w'.tape = w.tape
  output : w'.output = w.output
  size : w.heap.size ≤ w'.heap.size
  block : ∀ k, k < w.heap.size → k ≠ R → w'.heap[k]? = w.heap[k]?
theorem Only.refl (R : Nat) (w : World) : Only R w w := ⟨rfl, rfl, rfl, Nat.le_refl _, fun _ _ _ => rfl⟩
theorem Only.trans {R : Nat} {a b c : World} (h : Only R a b) (k : Only R b c) : Only R a c :=
  ⟨k.os.trans h.os, k.tape.trans h.tape, k.output.trans h.output, Nat.le_trans h.size k.size, fun i hi hr => (k.block i (Nat.lt_of_lt_of_le hi h.size) hr).trans (h.block i hi hr)⟩
theorem Only.alloc {R : Nat} {a w : World} (h : Only R a w) (o : Obj) : Only R a (w.alloc o) :=
  h.trans ⟨rfl, rfl, rfl, by simp, fun k hk _ => Below.heap_alloc _ _ _ hk⟩
theorem Only.below {R B : Nat} {a w : World} (h : Only R a w) (hB : B ≤ R) (hs : B ≤ a.heap.size) : Below B a w := ⟨h.os, h.tape, h.output, h.size, fun k hk => h.block k (by omega) (by omega)⟩
theorem Only.cell {R : Nat} {a w : World} (h : Only R a w) {b o : Nat} (hb : b < a.heap.size) (hr : b ≠ R) : w.cell? ⟨b, o, none⟩ = a.cell? ⟨b, o, none⟩ := World.cell?_of_block (w := a) (h.block b hb hr)

theorem mod_cast_bd (a n : Nat) (h : 0 < n) : 0 ≤ (a : Int) % n ∧ (a : Int) % n < n := ⟨Int.emod_nonneg _ (by omega), Int.emod_lt_of_pos _ (by omega)⟩

end Go.Proofs.Ytbhlgdleklfonab
