/-
  The reader of a code: what it holds; drawing one number.
-/
import Derived.Test.YtdclmjmefkgbbabQRowWord
import Derived.Test.YtdclmjmefkgbbabQBun3
import Derived.RangeFuncOwn
set_option linter.unusedVariables false
namespace Go.Proofs.Ytdclmjmefkgbbab
open Go.RowKit

theorem xor_i64 {a b : Nat} (ha : a < 4611686018427387904) (hb : b < 4611686018427387904) : bits .xor .i64 (a : Int) (b : Int) = ((a ^^^ b : Nat) : Int) ∧ a ^^^ b < 4611686018427387904 := by
  have hx : a ^^^ b < 2 ^ 62 := Nat.xor_lt_two_pow (by omega) (by omega)
  have h1 : (BitVec.ofInt 64 (a : Int)).toNat = a := by
    rw [BitVec.ofInt_natCast, BitVec.toNat_ofNat]; exact Nat.mod_eq_of_lt (by omega)
  have h2 : (BitVec.ofInt 64 (b : Int)).toNat = b := by
    rw [BitVec.ofInt_natCast, BitVec.toNat_ofNat]; exact Nat.mod_eq_of_lt (by omega)
  have h3 : a ^^^ b < 4611686018427387904 := by omega
  refine ⟨?_, h3⟩
  show IntKind.i64.wrap ((BitVec.ofInt 64 (a : Int) ^^^ BitVec.ofInt 64 (b : Int)).toNat : Int) = _
  rw [BitVec.toNat_xor, h1, h2]
  simp [IntKind.wrap, IntKind.bits, IntKind.signed]
  omega
theorem xor_bd {x : Int} (h0 : 0 ≤ x) (h1 : x ≤ 4000000000000000000) : 0 ≤ bits .xor .i64 x (x / 64) := by
  obtain ⟨n, rfl⟩ := Int.eq_ofNat_of_zero_le h0
  have e : ((n : Int) / 64) = ((n / 64 : Nat) : Int) := by push_cast; rfl
  rw [e, (xor_i64 (a := n) (b := n / 64) (by omega) (by omega)).1]
  exact Int.natCast_nonneg _

/-- the code: a slice of n bytes, below block B -/
def CodeAt (W : World) (B : Nat) (v : Value) (n : Nat) : Prop :=
  n ≤ 2000 ∧ ((∃ a cap, v = .slice a 0 cap ∧ n = 0) ∨ ∃ b o cap, v = .slice (some ⟨b, o, none⟩) n cap ∧ b < B ∧ 0 < n ∧ ∀ i, i < n → ∃ x, W.cell? ⟨b, o + i, none⟩ = some (.int .u8 x) ∧ 0 ≤ x ∧ x ≤ 255)
theorem CodeAt.below {W W' : World} {B : Nat} {v : Value} {n : Nat} (h : CodeAt W B v n) (hb : Below B W W') : CodeAt W' B v n := by
  obtain ⟨hn, h⟩ := h
  refine ⟨hn, ?_⟩
  rcases h with h | ⟨b, o, cap, hv, hB, hp, hc⟩
  · exact .inl h
  · refine .inr ⟨b, o, cap, hv, hB, hp, fun i hi => ?_⟩
    obtain ⟨x, hx, h1⟩ := hc i hi
    exact ⟨x, (hb.cell (p := ⟨b, o + i, none⟩) hB).trans hx, h1⟩

/-- the reader at block R: the code, and the next place -/
def Rdr (W : World) (B R : Nat) (v : Value) (n p : Nat) : Prop := B ≤ R ∧ CodeAt W B v n ∧ W.heap[R]? = some (.cells #[v, .int .i64 p] 78 (0, 0))
theorem Rdr.lt {W : World} {B R : Nat} {v : Value} {n p : Nat} (h : Rdr W B R v n p) : R < W.heap.size := (Array.getElem?_eq_some_iff.1 h.2.2).1
theorem Rdr.cell0 {W : World} {B R : Nat} {v : Value} {n p : Nat} (h : Rdr W B R v n p) : W.cell? ⟨R, 0, none⟩ = some v := by rw [Go.cell_of_row _ _ _ _ _ _ h.2.2]; rfl
theorem Rdr.cell1 {W : World} {B R : Nat} {v : Value} {n p : Nat} (h : Rdr W B R v n p) : W.cell? ⟨R, 1, none⟩ = some (.int .i64 p) := by rw [Go.cell_of_row _ _ _ _ _ _ h.2.2]; rfl
theorem Rdr.frozen {W : World} {B R : Nat} {v : Value} {n p : Nat} (h : Rdr W B R v n p) (j : Nat) : W.frozen? ⟨R, j, none⟩ = false := frozen_of_row _ _ _ _ _ h.2.2
theorem Rdr.drewN {W : World} {B R : Nat} {v : Value} {n p : Nat} (h : Rdr W B R v n p) (k : Nat) : Rdr (W.drewN k) B R v n p := h
theorem Rdr.alloc {W : World} {B R : Nat} {v : Value} {n p : Nat} (h : Rdr W B R v n p) (hB : B ≤ W.heap.size) (o : Obj) : Rdr (W.alloc o) B R v n p :=
  ⟨h.1, h.2.1.below ((Below.refl _ _).alloc hB _), (Below.heap_alloc _ _ _ h.lt).trans h.2.2⟩
theorem Rdr.next {W : World} {B R : Nat} {v : Value} {n p : Nat} (h : Rdr W B R v n p) : Rdr (W.setCell ⟨R, 1, none⟩ (.int .i64 ((p : Int) + 1))) B R v n (p + 1) := by
  refine ⟨h.1, h.2.1.below ((Below.refl _ _).setCell (p := ⟨R, 1, none⟩) h.1 _), ?_⟩
  rw [heap_setCell_same _ _ _ _ _ _ h.2.2]
  simp
theorem Rdr.kept {W W' : World} {B R C : Nat} {v : Value} {n p : Nat} (h : Rdr W B R v n p) (hb : Below C W W') (hR : R < C) (hBC : B ≤ C) : Rdr W' B R v n p :=
  ⟨h.1, h.2.1.below (hb.mono hBC), (hb.block R hR).trans h.2.2⟩

/-- only block R has turned -/
structure Only (R : Nat) (w w' : World) : Prop where
  os : w'.os = w.os
  tape : w'.tape = w.tape
  output : w'.output = w.output
  size : w.heap.size ≤ w'.heap.size
  block : ∀ k, k < w.heap.size → k ≠ R → w'.heap[k]? = w.heap[k]?
theorem Only.refl (R : Nat) (w : World) : Only R w w := ⟨rfl, rfl, rfl, Nat.le_refl _, fun _ _ _ => rfl⟩
theorem Only.trans {R : Nat} {a b c : World} (h : Only R a b) (k : Only R b c) : Only R a c :=
  ⟨k.os.trans h.os, k.tape.trans h.tape, k.output.trans h.output, Nat.le_trans h.size k.size, fun i hi hr => (k.block i (Nat.lt_of_lt_of_le hi h.size) hr).trans (h.block i hi hr)⟩
theorem Only.alloc {R : Nat} {a w : World} (h : Only R a w) (o : Obj) : Only R a (w.alloc o) :=
  h.trans ⟨rfl, rfl, rfl, by simp, fun k hk _ => Below.heap_alloc _ _ _ hk⟩
theorem Only.below {R B : Nat} {a w : World} (h : Only R a w) (hB : B ≤ R) (hs : B ≤ a.heap.size) : Below B a w := ⟨h.os, h.tape, h.output, h.size, fun k hk => h.block k (by omega) (by omega)⟩
theorem Only.cell {R : Nat} {a w : World} (h : Only R a w) {b o : Nat} (hb : b < a.heap.size) (hr : b ≠ R) : w.cell? ⟨b, o, none⟩ = a.cell? ⟨b, o, none⟩ := World.cell?_of_block (w := a) (h.block b hb hr)

/-- what drawing below m answers -/
def PickPost (w : World) (B R : Nat) (v : Value) (n p : Nat) (m : Int) (e : Ending) (w' : World) : Prop :=
  ∃ (x : Int) (q : Nat), e = .returned (.int .i64 x) ∧ 0 ≤ x ∧ (1 ≤ m → x < m) ∧ (m < 1 → x = 0) ∧ q ≤ p + 1 ∧ Hid (Rdr w' B R v n q) ∧ Hid (Only R w w')
theorem PickPost.mk {w : World} {B R : Nat} {v : Value} {n p : Nat} {m x : Int} (k : Nat) (h : Rdr w B R v n p) (h0 : 0 ≤ x) (h1 : 1 ≤ m → x < m) (h2 : m < 1 → x = 0) :
    PickPost w B R v n p m (.returned (.int .i64 x)) ((w.setCell ⟨R, 1, none⟩ (.int .i64 ((p : Int) + 1))).drewN k) :=
  ⟨x, p + 1, rfl, h0, h1, h2, Nat.le_refl _, hid (h.next.drewN k), hid ⟨rfl, rfl, rfl, by simp [World.setCell], fun i hi hr => heap_setCell_other w ⟨R, 1, none⟩ i _ hr⟩⟩

theorem mod_cast_bd (a n : Nat) (h : 0 < n) : 0 ≤ (a : Int) % n ∧ (a : Int) % n < n := ⟨Int.emod_nonneg _ (by omega), Int.emod_lt_of_pos _ (by omega)⟩

set_option maxRecDepth 100000 in
set_option maxHeartbeats 2000000 in
theorem pick_any (B R : Nat) (v : Value) (n p : Nat) (m : Int) (hp : p ≤ 1000000000000000) (hm1 : -1000000 ≤ m) (hm2 : m ≤ 1000000) (w : World) (h : Rdr w B R v n p) :
    Calls Try.prog 73 #[.pointer (some ⟨R, 0, none⟩), .int .i64 m] w (PickPost w B R v n p m) := by
  have c0 := h.cell0
  have c1 := h.cell1
  have f1 := h.frozen 1
  have h2 := h.next
  have d0 := h2.cell0
  have d1 := h2.cell1
  have e1 : ((p + 1 : Nat) : Int) = (p : Int) + 1 := by omega
  rw [e1] at d1
  have H2 := hid h2
  have H := hid h
  obtain ⟨W2, hW2⟩ : ∃ W2, W2 = w.setCell ⟨R, 1, none⟩ (.int .i64 ((p : Int) + 1)) := ⟨_, rfl⟩
  clear h h2 e1 hW2 W2
  by_cases hm : m < 1
  · go_enter Try.func73, Try.ntmps73
    go_wp2
    go_ret
    exact PickPost.mk 0 H.out (by omega) (by omega) (fun _ => rfl)
  · obtain ⟨hn, hv⟩ := H2.out.2.1
    rcases hv with ⟨a, cap, rfl, rfl⟩ | ⟨b, o, cap, rfl, hbB, hn0, hc⟩
    · go_enter Try.func73, Try.ntmps73
      go_wp2
      go_ret
      exact PickPost.mk 0 H.out (by omega) (by omega) (fun _ => rfl)
    · have T : ((n : Int) == 0) = false := by rw [beq_eq_false_iff_ne]; omega
      by_cases hpn : p < n
      · obtain ⟨x, hx, hx1, hx2⟩ := hc p hpn
        have hi : (p : Int) < (n : Int) := by omega
        have hmd := Int.emod_lt_of_pos x (show 0 < m by omega)
        have hmd0 := Int.emod_nonneg x (show m ≠ 0 by omega)
        clear hc
        go_enter Try.func73, Try.ntmps73
        go_wp2
        go_ret
        exact PickPost.mk 0 H.out hmd0 (fun _ => hmd) (by omega)
      · obtain ⟨d, hd⟩ : ∃ d, d = p % n := ⟨_, rfl⟩
        obtain ⟨d2, hd2⟩ : ∃ d2, d2 = (p * 7 + 3) % n := ⟨_, rfl⟩
        obtain ⟨d3, hd3⟩ : ∃ d3, d3 = p / n := ⟨_, rfl⟩
        have hdn : d < n := by rw [hd]; exact Nat.mod_lt _ hn0
        have hdn2 : d2 < n := by rw [hd2]; exact Nat.mod_lt _ hn0
        have hdn3 : d3 ≤ 1000000000000000 := by rw [hd3]; exact Nat.le_trans (Nat.div_le_self p n) hp
        obtain ⟨x, hx, hx1, hx2⟩ := hc d hdn
        obtain ⟨y, hy, hy1, hy2⟩ := hc d2 hdn2
        have e1 : (p : Int) % n = d := by rw [hd]; push_cast; rfl
        have e2 : ((p : Int) * 7 + 3) % n = d2 := by rw [hd2]; push_cast; rfl
        have e3 : (p : Int) / n = d3 := by rw [hd3]; push_cast; rfl
        have xb := xor_bd (x := x * 131 + y * 1117 + (p : Int) * 29 + (d3 : Int) * 53) (by omega) (by omega)
        obtain ⟨z, hz⟩ : ∃ z, z = bits .xor .i64 (x * 131 + y * 1117 + (p : Int) * 29 + (d3 : Int) * 53) ((x * 131 + y * 1117 + (p : Int) * 29 + (d3 : Int) * 53) / 64) := ⟨_, rfl⟩
        rw [← hz] at xb
        have hz' := hz.symm
        have zm := Int.emod_lt_of_pos z (show 0 < m by omega)
        have zm0 := Int.emod_nonneg z (show m ≠ 0 by omega)
        clear hc hd hd2 hd3 hz
        go_enter Try.func73, Try.ntmps73
        go_wp2
        go_quiet (fail)
        go_wp2
        go_ret
        exact PickPost.mk _ H.out zm0 (fun _ => zm) (by omega)

end Go.Proofs.Ytdclmjmefkgbbab
