/-
  Some texts in one file: Draw Draws Draws1 Draws2 Draws6 Jac2 Region Draws7 Draws8 Draws9 Draws10.
-/
import Derived.Test.YtfjbdbfeolfcfaaQBun30
import Derived.Test.YtfjbdbfeolfcfaaQBun4
import Derived.RangeFuncOwn
import Derived.Test.YtfjbdbfeolfcfaaQLawMath
import Derived.OpenShut
import Derived.Maps.AppendAt
import Derived.Deep.RegionWith
import Derived.Deep.RegionHeld3
import Derived.IntWalk
import Derived.Laws.AppendOwnNone
import Derived.Test.YtfjbdbfeolfcfaaQBun14
import Derived.Test.YtfjbdbfeolfcfaaQBun17
/-! Draw -/
set_option linter.unusedVariables false
namespace Go.Proofs.Ytfjbdbfeolfcfaa
open Go.RowKit

theorem xor_i64 {a b : Nat} (ha : a < 4611686018427387904) (hb : b < 4611686018427387904) : bits .xor .i64 (a : Int) (b : Int) = ((a ^^^ b : Nat) : Int) ∧ a ^^^ b < 4611686018427387904 := by
  have hx : a ^^^ b < 2 ^ 62 := Nat.xor_lt_two_pow (by omega) (by omega)
  have h1 : (BitVec.ofInt 64 (a : Int)).toNat = a := by
    rw [BitVec.ofInt_natCast, BitVec.toNat_ofNat]; exact Nat.mod_eq_of_lt (by omega)
  have h2 : (BitVec.ofInt 64 (b : Int)).toNat = b := by
    rw [BitVec.ofInt_natCast, BitVec.toNat_ofNat]; exact Nat.mod_eq_of_lt (by omega)
  have h3 : a ^^^ b < 4611686018427387904 := by omega
  refine ⟨?_, h3⟩
  show IntKind.i64.wrap ((BitVec.ofInt 64 (a : Int) ^^^ BitVec.ofInt 64 (b : Int)).toNat : Int) = _
  rw [BitVec.toNat_xor, h1, h2]
  simp [IntKind.wrap, IntKind.bits, IntKind.signed]
  omega
theorem xor_bd {x : Int} (h0 : 0 ≤ x) (h1 : x ≤ 4000000000000000000) : 0 ≤ bits .xor .i64 x (x / 64) := by
  obtain ⟨n, rfl⟩ := Int.eq_ofNat_of_zero_le h0
  have e : ((n : Int) / 64) = ((n / 64 : Nat) : Int) := by push_cast; rfl
  rw [e, (xor_i64 (a := n) (b := n / 64) (by omega) (by omega)).1]
  exact Int.natCast_nonneg _

/-- the code: a slice of n bytes, below block B -/
def CodeAt (W : World) (B : Nat) (v : Value) (n : Nat) : Prop :=
  n ≤ 2000 ∧ ((∃ a cap, v = .slice a 0 cap ∧ n = 0) ∨ ∃ b o cap, v = .slice (some ⟨b, o, none⟩) n cap ∧ b < B ∧ 0 < n ∧ ∀ i, i < n → ∃ x, W.cell? ⟨b, o + i, none⟩ = some (.int .u8 x) ∧ 0 ≤ x ∧ x ≤ 255)
theorem CodeAt.below {W W' : World} {B : Nat} {v : Value} {n : Nat} (h : CodeAt W B v n) (hb : Below B W W') : CodeAt W' B v n := by
  obtain ⟨hn, h⟩ := h
  refine ⟨hn, ?_⟩
  rcases h with h | ⟨b, o, cap, hv, hB, hp, hc⟩
  · exact .inl h
  · refine .inr ⟨b, o, cap, hv, hB, hp, fun i hi => ?_⟩
    obtain ⟨x, hx, h1⟩ := hc i hi
    exact ⟨x, (hb.cell (p := ⟨b, o + i, none⟩) hB).trans hx, h1⟩

/-- the reader at block R: the code, and the next place -/
def Rdr (W : World) (B R : Nat) (v : Value) (n p : Nat) : Prop := B ≤ R ∧ CodeAt W B v n ∧ W.heap[R]? = some (.cells #[v, .int .i64 p] 79 (0, 0))
theorem Rdr.lt {W : World} {B R : Nat} {v : Value} {n p : Nat} (h : Rdr W B R v n p) : R < W.heap.size := (Array.getElem?_eq_some_iff.1 h.2.2).1
theorem Rdr.cell0 {W : World} {B R : Nat} {v : Value} {n p : Nat} (h : Rdr W B R v n p) : W.cell? ⟨R, 0, none⟩ = some v := by rw [Go.cell_of_row _ _ _ _ _ _ h.2.2]; rfl
theorem Rdr.cell1 {W : World} {B R : Nat} {v : Value} {n p : Nat} (h : Rdr W B R v n p) : W.cell? ⟨R, 1, none⟩ = some (.int .i64 p) := by rw [Go.cell_of_row _ _ _ _ _ _ h.2.2]; rfl
theorem Rdr.frozen {W : World} {B R : Nat} {v : Value} {n p : Nat} (h : Rdr W B R v n p) (j : Nat) : W.frozen? ⟨R, j, none⟩ = false := frozen_of_row _ _ _ _ _ h.2.2
theorem Rdr.drewN {W : World} {B R : Nat} {v : Value} {n p : Nat} (h : Rdr W B R v n p) (k : Nat) : Rdr (W.drewN k) B R v n p := h
theorem Rdr.alloc {W : World} {B R : Nat} {v : Value} {n p : Nat} (h : Rdr W B R v n p) (hB : B ≤ W.heap.size) (o : Obj) : Rdr (W.alloc o) B R v n p :=
  ⟨h.1, h.2.1.below ((Below.refl _ _).alloc hB _), (Below.heap_alloc _ _ _ h.lt).trans h.2.2⟩
theorem Rdr.next {W : World} {B R : Nat} {v : Value} {n p : Nat} (h : Rdr W B R v n p) : Rdr (W.setCell ⟨R, 1, none⟩ (.int .i64 ((p : Int) + 1))) B R v n (p + 1) := by
  refine ⟨h.1, h.2.1.below ((Below.refl _ _).setCell (p := ⟨R, 1, none⟩) h.1 _), ?_⟩
  rw [heap_setCell_same _ _ _ _ _ _ h.2.2]
  simp
theorem Rdr.kept {W W' : World} {B R C : Nat} {v : Value} {n p : Nat} (h : Rdr W B R v n p) (hb : Below C W W') (hR : R < C) (hBC : B ≤ C) : Rdr W' B R v n p :=
  ⟨h.1, h.2.1.below (hb.mono hBC), (hb.block R hR).trans h.2.2⟩

/-- only block R has turned -/
structure Only (R : Nat) (w w' : World) : Prop where
  os : w'.os = w.os
  tape : w'.tape = w.tape
  output : w'.output = w.output
  size : w.heap.size ≤ w'.heap.size
  block : ∀ k, k < w.heap.size → k ≠ R → w'.heap[k]? = w.heap[k]?
theorem Only.refl (R : Nat) (w : World) : Only R w w := ⟨rfl, rfl, rfl, Nat.le_refl _, fun _ _ _ => rfl⟩
theorem Only.trans {R : Nat} {a b c : World} (h : Only R a b) (k : Only R b c) : Only R a c :=
  ⟨k.os.trans h.os, k.tape.trans h.tape, k.output.trans h.output, Nat.le_trans h.size k.size, fun i hi hr => (k.block i (Nat.lt_of_lt_of_le hi h.size) hr).trans (h.block i hi hr)⟩
theorem Only.alloc {R : Nat} {a w : World} (h : Only R a w) (o : Obj) : Only R a (w.alloc o) :=
  h.trans ⟨rfl, rfl, rfl, by simp, fun k hk _ => Below.heap_alloc _ _ _ hk⟩
theorem Only.below {R B : Nat} {a w : World} (h : Only R a w) (hB : B ≤ R) (hs : B ≤ a.heap.size) : Below B a w := ⟨h.os, h.tape, h.output, h.size, fun k hk => h.block k (by omega) (by omega)⟩
theorem Only.cell {R : Nat} {a w : World} (h : Only R a w) {b o : Nat} (hb : b < a.heap.size) (hr : b ≠ R) : w.cell? ⟨b, o, none⟩ = a.cell? ⟨b, o, none⟩ := World.cell?_of_block (w := a) (h.block b hb hr)

/-- what drawing below m answers -/
def PickPost (w : World) (B R : Nat) (v : Value) (n p : Nat) (m : Int) (e : Ending) (w' : World) : Prop :=
  ∃ (x : Int) (q : Nat), e = .returned (.int .i64 x) ∧ 0 ≤ x ∧ (1 ≤ m → x < m) ∧ (m < 1 → x = 0) ∧ q ≤ p + 1 ∧ Hid (Rdr w' B R v n q) ∧ Hid (Only R w w')
theorem PickPost.mk {w : World} {B R : Nat} {v : Value} {n p : Nat} {m x : Int} (k : Nat) (h : Rdr w B R v n p) (h0 : 0 ≤ x) (h1 : 1 ≤ m → x < m) (h2 : m < 1 → x = 0) :
    PickPost w B R v n p m (.returned (.int .i64 x)) ((w.setCell ⟨R, 1, none⟩ (.int .i64 ((p : Int) + 1))).drewN k) :=
  ⟨x, p + 1, rfl, h0, h1, h2, Nat.le_refl _, hid (h.next.drewN k), hid ⟨rfl, rfl, rfl, by simp [World.setCell], fun i hi hr => heap_setCell_other w ⟨R, 1, none⟩ i _ hr⟩⟩

theorem mod_cast_bd (a n : Nat) (h : 0 < n) : 0 ≤ (a : Int) % n ∧ (a : Int) % n < n := ⟨Int.emod_nonneg _ (by omega), Int.emod_lt_of_pos _ (by omega)⟩

set_option maxRecDepth 100000 in
set_option maxHeartbeats 2000000 in
theorem pick_any (B R : Nat) (v : Value) (n p : Nat) (m : Int) (hp : p ≤ 1000000000000000) (hm1 : -1000000 ≤ m) (hm2 : m ≤ 1000000) (w : World) (h : Rdr w B R v n p) :
    Calls Try.prog 43 #[.pointer (some ⟨R, 0, none⟩), .int .i64 m] w (PickPost w B R v n p m) := by
  have c0 := h.cell0
  have c1 := h.cell1
  have f1 := h.frozen 1
  have h2 := h.next
  have d0 := h2.cell0
  have d1 := h2.cell1
  have e1 : ((p + 1 : Nat) : Int) = (p : Int) + 1 := by omega
  rw [e1] at d1
  have H2 := hid h2
  have H := hid h
  obtain ⟨W2, hW2⟩ : ∃ W2, W2 = w.setCell ⟨R, 1, none⟩ (.int .i64 ((p : Int) + 1)) := ⟨_, rfl⟩
  clear h h2 e1 hW2 W2
  by_cases hm : m < 1
  · go_enter Try.func43, Try.ntmps43
    go_wp2
    go_ret
    exact PickPost.mk 0 H.out (by omega) (by omega) (fun _ => rfl)
  · obtain ⟨hn, hv⟩ := H2.out.2.1
    rcases hv with ⟨a, cap, rfl, rfl⟩ | ⟨b, o, cap, rfl, hbB, hn0, hc⟩
    · go_enter Try.func43, Try.ntmps43
      go_wp2
      go_ret
      exact PickPost.mk 0 H.out (by omega) (by omega) (fun _ => rfl)
    · have T : ((n : Int) == 0) = false := by rw [beq_eq_false_iff_ne]; omega
      by_cases hpn : p < n
      · obtain ⟨x, hx, hx1, hx2⟩ := hc p hpn
        have hi : (p : Int) < (n : Int) := by omega
        have hmd := Int.emod_lt_of_pos x (show 0 < m by omega)
        have hmd0 := Int.emod_nonneg x (show m ≠ 0 by omega)
        clear hc
        go_enter Try.func43, Try.ntmps43
        go_wp2
        go_ret
        exact PickPost.mk 0 H.out hmd0 (fun _ => hmd) (by omega)
      · obtain ⟨d, hd⟩ : ∃ d, d = p % n := ⟨_, rfl⟩
        obtain ⟨d2, hd2⟩ : ∃ d2, d2 = (p * 7 + 3) % n := ⟨_, rfl⟩
        obtain ⟨d3, hd3⟩ : ∃ d3, d3 = p / n := ⟨_, rfl⟩
        have hdn : d < n := by rw [hd]; exact Nat.mod_lt _ hn0
        have hdn2 : d2 < n := by rw [hd2]; exact Nat.mod_lt _ hn0
        have hdn3 : d3 ≤ 1000000000000000 := by rw [hd3]; exact Nat.le_trans (Nat.div_le_self p n) hp
        obtain ⟨x, hx, hx1, hx2⟩ := hc d hdn
        obtain ⟨y, hy, hy1, hy2⟩ := hc d2 hdn2
        have e1 : (p : Int) % n = d := by rw [hd]; push_cast; rfl
        have e2 : ((p : Int) * 7 + 3) % n = d2 := by rw [hd2]; push_cast; rfl
        have e3 : (p : Int) / n = d3 := by rw [hd3]; push_cast; rfl
        have xb := xor_bd (x := x * 131 + y * 1117 + (p : Int) * 29 + (d3 : Int) * 53) (by omega) (by omega)
        obtain ⟨z, hz⟩ : ∃ z, z = bits .xor .i64 (x * 131 + y * 1117 + (p : Int) * 29 + (d3 : Int) * 53) ((x * 131 + y * 1117 + (p : Int) * 29 + (d3 : Int) * 53) / 64) := ⟨_, rfl⟩
        rw [← hz] at xb
        have hz' := hz.symm
        have zm := Int.emod_lt_of_pos z (show 0 < m by omega)
        have zm0 := Int.emod_nonneg z (show m ≠ 0 by omega)
        clear hc hd hd2 hd3 hz
        go_enter Try.func43, Try.ntmps43
        go_wp2
        go_quiet (fail)
        go_wp2
        go_ret
        exact PickPost.mk _ H.out zm0 (fun _ => zm) (by omega)

end Go.Proofs.Ytfjbdbfeolfcfaa

/-! Draws -/
set_option linter.unusedVariables false
namespace Go.Proofs.Ytfjbdbfeolfcfaa
open Go.RowKit

def NumPost (P : Int → Prop) (c : Nat) (w : World) (B R : Nat) (v : Value) (n p : Nat) (e : Ending) (w' : World) : Prop :=
  ∃ (x : Int) (q : Nat), e = .returned (.int .i64 x) ∧ P x ∧ q ≤ p + c ∧ Hid (Rdr w' B R v n q) ∧ Hid (Only R w w')
theorem NumPost.mk {P : Int → Prop} {c : Nat} {w : World} {B R : Nat} {v : Value} {n p q : Nat} {w' : World} {x y : Int} (hxy : y = x) (h : P x) (hq : q ≤ p + c) (hr : Hid (Rdr w' B R v n q)) (ho : Only R w w') : NumPost P c w B R v n p (.returned (.int .i64 y)) w' := by
  rw [hxy]; exact ⟨x, q, rfl, h, hq, hr, ho⟩

theorem lit_cell {w w2 : World} {R : Nat} {cs : Array Value} {t : TypeId} {fr : Nat × Nat} (ho : Only R (w.alloc (.cells cs t)) w2) (hR : R < w.heap.size) (i : Nat) : w2.cell? ⟨w.heap.size, i, none⟩ = cs[i]? := by
  rw [ho.cell (by simp) (by omega)]
  exact Go.cell_of_row _ _ _ _ _ _ (World.alloc_heap_new w _)

/-- the code as it comes in -/
def CodeIn (w : World) (v : Value) (n : Nat) : Prop :=
  (∃ a cap, v = .slice a 0 cap ∧ n = 0) ∨ ∃ b o cap, v = .slice (some ⟨b, o, none⟩) n cap ∧ n ≤ cap ∧ cap ≤ maxLen ∧ b < w.heap.size ∧ 0 < n ∧ ∀ i, i < n → ∃ x, w.cell? ⟨b, o + i, none⟩ = some (.int .u8 x) ∧ 0 ≤ x ∧ x ≤ 255
theorem codeIn_of {w : World} {a : Option Addr} {len cap : Nat} {zs : List Int} (h : IsRow .u8 w a len cap zs) : CodeIn w (.slice a len cap) len := by
  rcases h with ⟨rfl, rfl, rfl, rfl⟩ | ⟨x, rfl, hl, hm, hz, hcell, hwz⟩
  · exact .inl ⟨_, _, rfl, rfl⟩
  · by_cases h0 : len = 0
    · subst h0; exact .inl ⟨_, _, rfl, rfl⟩
    · obtain ⟨b, off, spot⟩ := x
      have hc := hcell 0 (by omega)
      have hspot : spot = none := by simpa [Addr.add] using World.cell?_spot hc
      subst hspot
      have hb : b < w.heap.size := by
        obtain ⟨o, ho, _⟩ := cells_of_cell hc
        exact (Array.getElem?_eq_some_iff.1 ho).1
      refine .inr ⟨b, off, cap, rfl, hl, hm, hb, by omega, fun i hi => ?_⟩
      have hz' : i < zs.length := by omega
      have hca : w.cell? ⟨b, off + i, none⟩ = some (.int .u8 (zs.getD i 0)) := by
        have h5 := hcell i hz'
        by_cases hi0 : i = 0
        · subst hi0; simpa [Addr.add] using h5
        · simpa [Addr.add, hi0] using h5
      refine ⟨zs.getD i 0, hca, ?_⟩
      have e : zs.getD i 0 = zs[i] := by simp [List.getD, List.getElem?_eq_getElem hz']
      rw [e]
      exact bounds_u8 (hwz _ (List.getElem_mem hz'))

def OpenPost (w : World) (e : Ending) (w' : World) : Prop :=
  ∃ v n, e = .returned (.pointer (some ⟨w.heap.size, 0, none⟩)) ∧ Hid (Rdr w' w.heap.size w.heap.size v n 0) ∧ Below w.heap.size w w'
theorem OpenPost.mk {w : World} {v : Value} {n : Nat} (h : CodeAt w w.heap.size v n) : OpenPost w (.returned (.pointer (some ⟨w.heap.size, 0, none⟩))) (w.alloc (.cells #[v, .int .i64 0] 79)) :=
  ⟨v, n, rfl, ⟨Nat.le_refl _, h.below ((Below.refl _ _).alloc (Nat.le_refl _) _), World.alloc_heap_new w _⟩, (Below.refl _ _).alloc (Nat.le_refl _) _⟩

set_option maxRecDepth 100000 in
set_option maxHeartbeats 1000000 in
theorem open_any (v : Value) (n : Nat) (w : World) (h : CodeIn w v n) : Calls Try.prog 32 #[v] w (OpenPost w) := by
  rcases h with ⟨a, cap, rfl, rfl⟩ | ⟨b, o, cap, rfl, hl, hm, hb, hn0, hc⟩
  · go_enter Try.func32, Try.ntmps32
    go_wp2
    go_ret
    exact OpenPost.mk ⟨by omega, .inl ⟨_, _, rfl, rfl⟩⟩
  · unfold maxLen at hm
    have HC := hid hc
    clear hc
    by_cases h2 : n ≤ 2000
    · go_enter Try.func32, Try.ntmps32
      go_wp2
      go_ret
      exact OpenPost.mk ⟨h2, .inr ⟨b, o, cap, rfl, hb, hn0, HC.out⟩⟩
    · have h3 : (2000 : Int) < (n : Int) := by omega
      have h4 : (2000 : Nat) ≤ cap := by omega
      go_enter Try.func32, Try.ntmps32
      go_wp2
      go_ret
      exact OpenPost.mk (n := 2000) ⟨by omega, .inr ⟨b, o, cap, rfl, hb, by omega, fun i hi => HC.out i (by omega)⟩⟩

end Go.Proofs.Ytfjbdbfeolfcfaa

/-! Draws1 -/
set_option linter.unusedVariables false
namespace Go.Proofs.Ytfjbdbfeolfcfaa
open Go.RowKit

def Drew1 (P : Int → Prop) (w : World) (e : Ending) (w' : World) : Prop := ∃ x : Int, e = .returned (.int .i64 x) ∧ P x ∧ Below w.heap.size w w'
def Drew2 (P : Int → Int → Prop) (w : World) (e : Ending) (w' : World) : Prop := ∃ x y : Int, e = .returned (.tuple #[.int .i64 x, .int .i64 y]) ∧ P x y ∧ Below w.heap.size w w'
def Drew3 (P : Int → Int → Int → Prop) (w : World) (e : Ending) (w' : World) : Prop := ∃ x y z : Int, e = .returned (.tuple #[.int .i64 x, .int .i64 y, .int .i64 z]) ∧ P x y z ∧ Below w.heap.size w w'
theorem Drew1.mk {P : Int → Prop} {w w' : World} {x : Int} (h : P x) (hb : Below w.heap.size w w') : Drew1 P w (.returned (.int .i64 x)) w' := ⟨x, rfl, h, hb⟩
theorem Drew2.mk {P : Int → Int → Prop} {w w' : World} {x y : Int} (h : P x y) (hb : Below w.heap.size w w') : Drew2 P w (.returned (.tuple #[.int .i64 x, .int .i64 y])) w' := ⟨x, y, rfl, h, hb⟩
theorem Drew3.mk {P : Int → Int → Int → Prop} {w w' : World} {x y z : Int} (h : P x y z) (hb : Below w.heap.size w w') : Drew3 P w (.returned (.tuple #[.int .i64 x, .int .i64 y, .int .i64 z])) w' := ⟨x, y, z, rfl, h, hb⟩
theorem only_below {w w1 w2 : World} (hb : Below w.heap.size w w1) (ho : Only w.heap.size w1 w2) : Below w.heap.size w w2 := hb.trans (ho.below (Nat.le_refl _) hb.size)

/-- ranges -/
def smallI (x : Int) : Prop := -6000 ≤ x ∧ x ≤ 6000
theorem numOk_small {x : Int} (h : numOk x) : -5001 ≤ x ∧ x ≤ 5001 := by unfold numOk at h; omega
theorem prOk_small {x : Int} (h : prOk x) : -3 ≤ x ∧ x ≤ 97 := by unfold prOk at h; omega

end Go.Proofs.Ytfjbdbfeolfcfaa

/-! Draws2 -/
set_option linter.unusedVariables false
namespace Go.Proofs.Ytfjbdbfeolfcfaa
open Go.RowKit

/-- the numbers of l91Local -/
def locOk (x : Int) : Prop := numOk x ∨ ∃ a k : Int, 1 ≤ a ∧ a ≤ 9 ∧ 0 ≤ k ∧ k ≤ 2 ∧ x = a * a * (1 + k * 8)
theorem locOk_small {x : Int} (h : locOk x) : -5001 ≤ x ∧ x ≤ 5001 := by
  rcases h with h | ⟨a, k, a1, a9, k0, k2, rfl⟩
  · exact numOk_small h
  · have h1 : a = 1 ∨ a = 2 ∨ a = 3 ∨ a = 4 ∨ a = 5 ∨ a = 6 ∨ a = 7 ∨ a = 8 ∨ a = 9 := by omega
    rcases h1 with rfl | rfl | rfl | rfl | rfl | rfl | rfl | rfl | rfl <;> omega
/-- the second number of l91Pair -/
def parOk (a b : Int) : Prop := numOk b ∨ ∃ x : Int, 1 ≤ x ∧ x ≤ 8 ∧ b = a * x * x
theorem parOk_small {a b : Int} (ha : numOk a) (h : parOk a b) : -320064 ≤ b ∧ b ≤ 320064 := by
  rcases h with h | ⟨x, x1, x8, rfl⟩
  · have := numOk_small h; omega
  · have := numOk_small ha
    have h1 : x = 1 ∨ x = 2 ∨ x = 3 ∨ x = 4 ∨ x = 5 ∨ x = 6 ∨ x = 7 ∨ x = 8 := by omega
    rcases h1 with rfl | rfl | rfl | rfl | rfl | rfl | rfl | rfl <;> omega

end Go.Proofs.Ytfjbdbfeolfcfaa

/-! Draws6 -/
set_option linter.unusedVariables false
namespace Go.Proofs.Ytfjbdbfeolfcfaa
open Go.RowKit

theorem Owns.only {W W' : World} {B R : Nat} {v : Value} {xs : List Int} (h : Owns W B v xs) (ho : Only R W W') (hR : R < B) : Owns W' B v xs := by
  obtain ⟨h1, h2⟩ := h
  refine ⟨h1, ?_⟩
  rcases h2 with h2 | ⟨g, cap, cur, hv, hg, hh, r⟩
  · exact .inl h2
  · exact .inr ⟨g, cap, cur, hv, hg, by rw [ho.block g (Array.getElem?_eq_some_iff.1 hh).1 (by omega)]; exact hh, r⟩
theorem Only.grown {R : Nat} {a w w' : World} {row : Option Nat} (h : Only R a w) (hg : w.grownBy w' row) (hr : ∀ k, row = some k → a.heap.size ≤ k) : Only R a w' :=
  ⟨hg.os.trans h.os, hg.tape.trans h.tape, hg.output.trans h.output, Nat.le_trans h.size hg.size, fun k hk hne => (hg.block k (Nat.lt_of_lt_of_le hk h.size) (fun e => by have := hr k e.symm; omega)).trans (h.block k hk hne)⟩
/-- a list whose numbers are small -/
def TermsOk (xs : List Int) : Prop := xs.length ≤ 6 ∧ ∀ x ∈ xs, -31 ≤ x ∧ x ≤ 31
theorem TermsOk.snoc {xs : List Int} {x : Int} (h : TermsOk xs) (hl : xs.length ≤ 5) (h1 : -31 ≤ x) (h2 : x ≤ 31) : TermsOk (xs ++ [x]) :=
  ⟨by rw [List.length_append]; simp; omega, fun y hy => by
    rcases List.mem_append.1 hy with h3 | h3
    · exact h.2 y h3
    · rw [List.mem_singleton] at h3; omega⟩
theorem Owns.slice_of {W : World} {B : Nat} {v : Value} {xs : List Int} (h : Owns W B v xs) (hl : 0 < xs.length) : ∃ g cap, v = .slice (some ⟨g, 0, none⟩) xs.length cap := by
  rcases h.2 with ⟨_, h3⟩ | ⟨g, cap, cur, h3, _⟩
  · cases xs with
    | nil => simp at hl
    | cons x xs => simp at h3
  · exact ⟨g, cap, h3⟩
theorem Owns.stored0 {W : World} {B g cap : Nat} {xs : List Int} (h : Owns W B (.slice (some ⟨g, 0, none⟩) xs.length cap) xs) (x : Int) :
    Owns (W.setCell ⟨g, 0, none⟩ (.int .i64 x)) B (.slice (some ⟨g, 0, none⟩) xs.length cap) (xs.set 0 x) ∧ W.grownBy (W.setCell ⟨g, 0, none⟩ (.int .i64 x)) (some g) := by
  have h2 := World.ownsRow.stored h 0 (.int .i64 x)
  refine ⟨?_, h2.2⟩
  unfold Owns
  rw [List.length_set, List.map_set]
  exact h2.1
def FormPost (c : Nat) (w : World) (B R : Nat) (v : Value) (n p : Nat) (e : Ending) (w' : World) : Prop :=
  ∃ (u : Value) (xs : List Int) (q : Nat), e = .returned u ∧ TermsOk xs ∧ Hid (Owns w' w.heap.size u xs) ∧ q ≤ p + c ∧ Hid (Rdr w' B R v n q) ∧ Hid (Only R w w')
theorem FormPost.mk {c : Nat} {w : World} {B R : Nat} {v : Value} {n p q : Nat} {u : Value} {xs : List Int} {w' : World} (h : TermsOk xs) (ho : Hid (Owns w' w.heap.size u xs)) (hq : q ≤ p + c) (hr : Hid (Rdr w' B R v n q)) (hn : Hid (Only R w w')) : FormPost c w B R v n p (.returned u) w' :=
  ⟨u, xs, q, rfl, h, ho, hq, hr, hn⟩
def litT : Array Value := #[.int .i64 1, .int .i64 2, .int .i64 3, .int .i64 5, .int .i64 6, .int .i64 7, .int .i64 1, .int .i64 10, .int .i64 12, .int .i64 3, .int .i64 15, .int .i64 4, .int .i64 21, .int .i64 1, .int .i64 30, .int .i64 8]
theorem litT_at {y : Int} (h0 : 0 ≤ y) (h1 : y < 16) : ∃ p : Int, litT[y.toNat]? = some (.int .i64 p) ∧ 1 ≤ p ∧ p ≤ 30 := by
  have hall : ∀ i : Nat, i < 16 → ∃ p : Int, litT[i]? = some (.int .i64 p) ∧ 1 ≤ p ∧ p ≤ 30 := fun i hi => by
    have : i = 0 ∨ i = 1 ∨ i = 2 ∨ i = 3 ∨ i = 4 ∨ i = 5 ∨ i = 6 ∨ i = 7 ∨ i = 8 ∨ i = 9 ∨ i = 10 ∨ i = 11 ∨ i = 12 ∨ i = 13 ∨ i = 14 ∨ i = 15 := by omega
    rcases this with rfl | rfl | rfl | rfl | rfl | rfl | rfl | rfl | rfl | rfl | rfl | rfl | rfl | rfl | rfl | rfl
    all_goals exact ⟨_, rfl, by omega, by omega⟩
  exact hall y.toNat (by omega)
theorem TermsOk.set0 {xs : List Int} {x : Int} (h : TermsOk xs) (h1 : -31 ≤ x) (h2 : x ≤ 31) : TermsOk (xs.set 0 x) :=
  ⟨by rw [List.length_set]; exact h.1, fun y hy => by
    rcases List.mem_or_eq_of_mem_set hy with h3 | h3
    · exact h.2 y h3
    · omega⟩

set_option maxRecDepth 100000 in
set_option maxHeartbeats 4000000 in
theorem formDraw_any (B R : Nat) (v : Value) (n p m : Nat) (hp : p ≤ 700000000000000) (hm1 : 1 ≤ m) (hm2 : m ≤ 5) (w : World) (HR : Hid (Rdr w B R v n p)) (hB : B ≤ w.heap.size) :
    Calls Try.prog 75 #[.pointer (some ⟨R, 0, none⟩), .int .i64 m] w (FormPost 20 w B R v n p) := by
  obtain ⟨i0, hi, hz0, hz1, hz2⟩ := info_parts infoInt
  have hRs := HR.out.lt
  have hBR := HR.out.1
  have HO0 : Hid (Owns (w.alloc (.cells #[] 3)) w.heap.size (.slice (some ⟨w.heap.size, 0, none⟩) 0 0) []) := hid (World.ownsRow_made (size := 1) w #[] 0 (Nat.le_refl _) (by unfold maxLen; omega) rfl)
  go_enter Try.func75, Try.ntmps75
  go_wp2_with fail
  refine (pick_any _ _ _ _ p (m : Int) (by omega) (by omega) (by omega) _ (HR.out.alloc (by omega) _)).mono ?_
  rintro e wHA ⟨y, q, rfl, hy0, hy1, _, hq, HA, HO⟩
  replace hy1 := hy1 (by omega)
  have HON := hid (((Only.refl R w).alloc (.cells #[] 3)).trans HO.out)
  have HOW := hid (HO0.out.only HO.out hRs)
  have hs1 := HON.out.size
  have hy5 : y ≤ 4 := by omega
  obtain ⟨N, rfl⟩ := Int.eq_ofNat_of_zero_le hy0
  clear HO0 HO
  go_wp2_with fail
  go_loopw [5, 7] (fun so si wr => ∃ (K r : Nat) (xs : List Int), si = .int .i64 K ∧ K ≤ N + 1 ∧ r ≤ p + 1 + 2 * K ∧ xs.length = K ∧ Hid (TermsOk xs) ∧ Hid (Owns wr w.heap.size so xs) ∧ Hid (Rdr wr B R v n r) ∧ Hid (Only R w wr)) (fun _ si _ => 10 - (intOf si).toNat)
  case atStart => exact ⟨0, q, [], rfl, by omega, by omega, rfl, hid ⟨by simp, fun x hx => by cases hx⟩, HOW, HA, HON⟩
  case round =>
    obtain ⟨K, r, xs, rfl, hK, hr, hxl, HT, HOr, HRr, HNr⟩ := hrel
    rename World => wr
    have hsr := HNr.out.size
    by_cases hlt : K < N + 1
    · have hKi : (K : Int) < 1 + (N : Int) := by omega
      have hRr := HRr.out.lt
      go_wp2_with fail
      refine (pick_any _ _ _ _ r 16 (by omega) (by omega) (by omega) _ (HRr.out.alloc (by omega) _)).mono ?_
      rintro e wHC ⟨k, s, rfl, hk0, hk1, _, hs, HC, HP⟩
      replace hk1 := hk1 (by omega)
      obtain ⟨x, hx, hx1, hx2⟩ := litT_at hk0 hk1
      have c := lit_cell (fr := (0, 0)) HP.out hRr k.toNat
      have hc : wHC.cell? ⟨wr.heap.size, k.toNat, none⟩ = some (.int .i64 x) := c.trans hx
      have HN2 := hid ((HNr.out.alloc (.cells litT 3)).trans HP.out)
      have HO2 := hid ((Owns.only (W' := wHC) (show Owns (wr.alloc (.cells litT 3)) w.heap.size u5 xs from HOr.out.alloc _) HP.out (by omega)))
      have hs2 := HN2.out.size
      clear HOr HRr HNr HP hx c
      go_wp2_with fail
      refine (pick_any _ _ _ _ s 5 (by omega) (by omega) (by omega) _ (HC.out)).mono ?_
      rintro e wHD ⟨k2, s2, rfl, hk20, hk21, _, hs2, HD, HQ⟩
      replace hk21 := hk21 (by omega)
      have HN3 := hid (HN2.out.trans HQ.out)
      have HO3 := hid (HO2.out.only HQ.out (by omega))
      have hs3 := HN3.out.size
      clear HO2 HN2 HQ HC hc
      obtain ⟨z, hz⟩ : ∃ z : Int, z = 0 - x := ⟨_, rfl⟩
      by_cases hneg : k2 < 2
      · skip
        go_wp2_with (at_builtin; refine wpList_append_own_at _ rfl _ _ 23 rfl w.heap.size 3 i0 (.int .i64 0) 1 8 Try.underlying23 hi hz0 hz1 hz2 rfl (by decide) _ _ _ rfl ((show World.ownsRow _ _ _ _ _ _ _ from HO3.out).alloc _) ⟨wHD.heap.size, 0, none⟩ 1 1 [.int .i64 (-x)] rfl rfl (cell_one_new _ _ _) (by simp [Value.oneCell']) (by unfold maxLen; omega) (by omega) (by simp; omega) ?_; intro v' w3 hown' hgrow _ hat)
        have hsg := hgrow.size
        simp only [World.size_alloc] at hsg
        have HN4 := hid ((HN3.out.alloc (.cells #[.int .i64 (-x)] 3)).grown hgrow (fun k e => (HO3.out.ge k e)))
        have HR4 := hid (((HD.out.alloc (by omega) (.cells #[.int .i64 (-x)] 3)).kept (((Below.refl w.heap.size _).grown hgrow (by simp; omega) (fun k e => (HO3.out.ge k e)))) (by omega) (by omega)))
        go_roundw
        case measure => simp only [intOf]; omega
        case rel =>
          exact ⟨K + 1, s2, xs ++ [-x], by go_num, by omega, by omega, by rw [List.length_append]; simp; exact hxl, hid (HT.out.snoc (by omega) (by omega) (by omega)), hid (by unfold Owns; simpa using hown'), HR4, HN4⟩
      · skip
        go_wp2_with (at_builtin; refine wpList_append_own_at _ rfl _ _ 23 rfl w.heap.size 3 i0 (.int .i64 0) 1 8 Try.underlying23 hi hz0 hz1 hz2 rfl (by decide) _ _ _ rfl ((show World.ownsRow _ _ _ _ _ _ _ from HO3.out).alloc _) ⟨wHD.heap.size, 0, none⟩ 1 1 [.int .i64 x] rfl rfl (cell_one_new _ _ _) (by simp [Value.oneCell']) (by unfold maxLen; omega) (by omega) (by simp; omega) ?_; intro v' w3 hown' hgrow _ hat)
        have hsg := hgrow.size
        simp only [World.size_alloc] at hsg
        have HN4 := hid ((HN3.out.alloc (.cells #[.int .i64 x] 3)).grown hgrow (fun k e => (HO3.out.ge k e)))
        have HR4 := hid (((HD.out.alloc (by omega) (.cells #[.int .i64 x] 3)).kept (((Below.refl w.heap.size _).grown hgrow (by simp; omega) (fun k e => (HO3.out.ge k e)))) (by omega) (by omega)))
        go_roundw
        case measure => simp only [intOf]; omega
        case rel =>
          exact ⟨K + 1, s2, xs ++ [x], by go_num, by omega, by omega, by rw [List.length_append]; simp; exact hxl, hid (HT.out.snoc (by omega) (by omega) (by omega)), hid (by unfold Owns; simpa using hown'), HR4, HN4⟩
    · obtain rfl : K = N + 1 := by omega
      have hKi : ¬ ((N + 1 : Nat) : Int) < 1 + (N : Int) := by omega
      go_wp2_with fail
      refine (pick_any _ _ _ _ r 40 (by omega) (by omega) (by omega) _ (HRr.out)).mono ?_
      rintro e wHC ⟨k, s, rfl, hk0, hk1, _, hs, HC, HP⟩
      replace hk1 := hk1 (by omega)
      have HN2 := hid (HNr.out.trans HP.out)
      have HO2 := hid (HOr.out.only HP.out (by omega))
      have hs2 := HN2.out.size
      clear HOr HNr HP
      by_cases hk : k = 0
      · subst hk
        obtain ⟨g, cap, rfl⟩ := HO2.out.slice_of (by omega)
        have hg := HO2.out.ge g rfl
        have hgl := HO2.out.lt g rfl
        have hRw := HC.out.lt
        go_wp2_with fail
        refine (pick_any _ _ _ _ s 2 (by omega) (by omega) (by omega) _ (HC.out.alloc (by omega) _)).mono ?_
        rintro e wHD ⟨k2, s2, rfl, hk20, hk21, _, hs2, HD, HQ⟩
        replace hk21 := hk21 (by omega)
        have HO3 := hid (Owns.only (W' := wHD) (show Owns (wHC.alloc (.cells #[.int .i64 0, .int .i64 31] 3)) w.heap.size (.slice (some ⟨g, 0, none⟩) xs.length cap) xs from HO2.out.alloc _) HQ.out (by omega))
        have HN3 := hid ((HN2.out.alloc (.cells #[.int .i64 0, .int .i64 31] 3)).trans HQ.out)
        have hs3 := HN3.out.size
        have hk2c : k2 = 0 ∨ k2 = 1 := by omega
        have f1 := World.ownsRow.frozenAt HO3.out 0
        have hlen : xs.length = N + 1 := hxl
        have c1 : ∃ x0, wHD.cell? ⟨g, 0, none⟩ = some (.int .i64 x0) := by
          have hK2 : 0 < xs.length := by omega
          refine ⟨xs[0], ?_⟩
          rw [World.ownsRow.cellAt HO3.out 0 (by omega), List.getElem?_map, List.getElem?_eq_getElem hK2]
          rfl
        obtain ⟨x0, c1⟩ := c1
        rcases hk2c with rfl | rfl
        · have c := lit_cell (fr := (0, 0)) HQ.out hRw 0
          simp at c
          have HS := hid (HO3.out.stored0 0)
          have HZ := hid (HT.out.set0 (x := 0) (by omega) (by omega))
          have hi0 : (0 : Int) < (xs.length : Int) := by omega
          go_wp2
          go_ret
          have HS1 := HS.out.1
          rw [hlen] at HS1
          exact FormPost.mk HZ.out (hid HS1) (by omega) (hid (HD.out.kept ((Below.refl w.heap.size _).grown HS.out.2 hs3 (fun k e => by cases e; exact hg)) (by omega) (by omega))) (hid (HN3.out.grown HS.out.2 (fun k e => by cases e; exact hg)))
        · have c := lit_cell (fr := (0, 0)) HQ.out hRw 1
          simp at c
          have HS := hid (HO3.out.stored0 31)
          have HZ := hid (HT.out.set0 (x := 31) (by omega) (by omega))
          have hi0 : (0 : Int) < (xs.length : Int) := by omega
          go_wp2
          go_ret
          have HS1 := HS.out.1
          rw [hlen] at HS1
          exact FormPost.mk HZ.out (hid HS1) (by omega) (hid (HD.out.kept ((Below.refl w.heap.size _).grown HS.out.2 hs3 (fun k e => by cases e; exact hg)) (by omega) (by omega))) (hid (HN3.out.grown HS.out.2 (fun k e => by cases e; exact hg)))
      · by_cases hk : k = 1
        · subst hk
          go_wp2
          go_ret
          exact FormPost.mk (xs := []) ⟨by simp, fun x hx => by cases hx⟩ (hid (World.ownsRow_made (size := 1) wHC #[] 0 (by omega) (by unfold maxLen; omega) rfl)) (by omega) (hid (HC.out.alloc (by omega) _)) (hid (HN2.out.alloc _))
        · go_wp2
          go_ret
          exact FormPost.mk HT.out HO2 (by omega) HC HN2

end Go.Proofs.Ytfjbdbfeolfcfaa

/-! Jac2 -/
set_option linter.unusedVariables false
namespace Go.Proofs.Ytfjbdbfeolfcfaa
open Go.RowKit Go.Shelf
attribute [local go_sem] Oper.semAt_some

theorem others_of_below {W W' : World} (h : Below W.heap.size W W') : KeepsOthers W W' := ⟨h.size, fun k o hk _ => by
  rw [h.block k (Array.getElem?_eq_some_iff.1 hk).1]; exact hk⟩
theorem below_of_drew {W W' : World} (h : Below W.drew.heap.size W.drew W') : Below W.heap.size W W' := ⟨h.os, h.tape, h.output, h.size, h.block⟩
theorem boxed_below {W W' : World} {B : Nat} {t : TypeId} {v : Value} (h : Boxed W B t v) (hb : Below W.heap.size W W') : Boxed W' B t v := (hb.block B h.lt).trans h

def jacP (n : Int) (l : List PP) : Int := jacW n (l.map (·.1))
theorem jacP_snoc (n : Int) (l : List PP) (x : PP) : jacP n (l ++ [x]) = jmW (jacP n l) (resV n (x.1.1 : Int)) x.1.2 := by
  unfold jacP; rw [List.map_append]; exact jacW_step n _ _

end Go.Proofs.Ytfjbdbfeolfcfaa

/-! Region -/
set_option linter.unusedVariables false
namespace Go.Proofs.Ytfjbdbfeolfcfaa
open Go.RowKit

theorem pred_nat (J : Nat) (h : J ≤ 1000) : IntKind.i64.wrap (((J + 1 : Nat) : Int) - 1) = (J : Int) := by
  rw [IntWalk.i64_in _ (by omega)]; omega

section
variable {P : Program} {ops : Array Oper} {Q : Exit → Act → World → Prop} {md : Region.Mode} {S : World → Prop}
theorem h_take (oi : Oper) {i : Nat} {d : Option Tmp} {v : Value} {fuel : Nat} {listed : Array Bool} {a : Act} {w : World} (hi : ops[i]? = some oi) (hd : oi.dst = d)
    (hs : Region.noSelect ops = true) (hf : Region.free md ops listed i = true) (hr : (Region.ready md ops listed).contains i = true)
    (hQ : ∀ c a w, Q (.panic c) (a.put d v) w → Q (.panic c) a w) (hw : Region.wanted oi (yielded ops a.tmps) = true)
    (hy : ∀ w, S w → (execOp a.eval oi).run P w = .ok (.value v) w) (hS : S w)
    (h : wpAnyH P md ops Q S fuel (listed.setIfInBounds i true) (a.put d v) w) : wpAnyH P md ops Q S (fuel + 1) listed a w := by
  subst hd; exact wpAnyH_take hi hs hf hr hQ (.inl ⟨hw, hy⟩) hS h
theorem h_skip (oi : Oper) {i : Nat} {d : Option Tmp} {fuel : Nat} {listed : Array Bool} {a : Act} {w : World} (hi : ops[i]? = some oi) (hd : oi.dst = d)
    (hs : Region.noSelect ops = true) (hf : Region.free md ops listed i = true) (hr : (Region.ready md ops listed).contains i = true)
    (hQ : ∀ c a w, Q (.panic c) (a.put d undef) w → Q (.panic c) a w) (hw : Region.wanted oi (yielded ops a.tmps) = false) (hS : S w)
    (h : wpAnyH P md ops Q S fuel (listed.setIfInBounds i true) (a.put d undef) w) : wpAnyH P md ops Q S (fuel + 1) listed a w := by
  subst hd; exact wpAnyH_take hi hs hf hr hQ (.inr ⟨hw, rfl⟩) hS h
end

end Go.Proofs.Ytfjbdbfeolfcfaa

/-! Draws7 -/
set_option linter.unusedVariables false
namespace Go.Proofs.Ytfjbdbfeolfcfaa
open Go.RowKit

theorem Owns.base {W : World} {B C : Nat} {v : Value} {xs : List Int} (h : Owns W C v xs) (hb : B ≤ C) : Owns W B v xs := by
  obtain ⟨h1, h2⟩ := h
  refine ⟨h1, ?_⟩
  rcases h2 with h2 | ⟨g, cap, cur, hv, hg, r⟩
  · exact .inl h2
  · exact .inr ⟨g, cap, cur, hv, Nat.le_trans hb hg, r⟩
def DrewF (P : List Int → Prop) (w : World) (e : Ending) (w' : World) : Prop := ∃ (u : Value) (xs : List Int), e = .returned u ∧ P xs ∧ Hid (Owns w' w.heap.size u xs) ∧ Below w.heap.size w w'
def DrewFF (P : List Int → List Int → Prop) (w : World) (e : Ending) (w' : World) : Prop := ∃ (u v : Value) (xs ys : List Int), e = .returned (.tuple #[u, v]) ∧ P xs ys ∧ Hid (Owns w' w.heap.size u xs) ∧ Hid (Rd w' v ys) ∧ Firm v ∧ Below w.heap.size w w'
def DrewFI (P : List Int → Int → Prop) (w : World) (e : Ending) (w' : World) : Prop := ∃ (u : Value) (xs : List Int) (y : Int), e = .returned (.tuple #[u, .int .i64 y]) ∧ P xs y ∧ Hid (Owns w' w.heap.size u xs) ∧ Below w.heap.size w w'
theorem DrewF.mk {P : List Int → Prop} {w w' : World} {u : Value} {xs : List Int} (h : P xs) (ho : Owns w' w.heap.size u xs) (hb : Below w.heap.size w w') : DrewF P w (.returned u) w' := ⟨u, xs, rfl, h, hid ho, hb⟩
theorem DrewFF.mk {P : List Int → List Int → Prop} {w w' : World} {u v : Value} {xs ys : List Int} (h : P xs ys) (ho : Owns w' w.heap.size u xs) (hr : Rd w' v ys) (hf : Firm v) (hb : Below w.heap.size w w') : DrewFF P w (.returned (.tuple #[u, v])) w' := ⟨u, v, xs, ys, rfl, h, hid ho, hid hr, hf, hb⟩
theorem DrewFI.mk {P : List Int → Int → Prop} {w w' : World} {u : Value} {xs : List Int} {y : Int} (h : P xs y) (ho : Owns w' w.heap.size u xs) (hb : Below w.heap.size w w') : DrewFI P w (.returned (.tuple #[u, .int .i64 y])) w' := ⟨u, xs, y, rfl, h, hid ho, hb⟩








end Go.Proofs.Ytfjbdbfeolfcfaa

/-! Draws8 -/
set_option linter.unusedVariables false
namespace Go.Proofs.Ytfjbdbfeolfcfaa
open Go.RowKit

theorem Rdr.drew' {W : World} {B R : Nat} {v : Value} {n p : Nat} (h : Rdr W B R v n p) : Rdr W.drew B R v n p := h
theorem Only.of_drew' {R : Nat} {W W' : World} (h : Only R W.drew W') : Only R W W' := ⟨h.os, h.tape, h.output, h.size, h.block⟩
theorem pickLit (cs : Array Value) (m : Int) (P : Int → Prop) (hm : 1 ≤ m) (hm2 : m ≤ 1000) (hl : ∀ y : Int, 0 ≤ y → y < m → ∃ pv, cs[y.toNat]? = some (.int .i64 pv) ∧ P pv) (B R : Nat) (v : Value) (n p : Nat) (hp : p ≤ 1000000000000000) (w2 : World) (HA : Hid (Rdr w2 B R v n p)) (hB : B ≤ w2.heap.size) :
    Calls Try.prog 43 #[.pointer (some ⟨R, 0, none⟩), .int .i64 m] ((w2.alloc (.cells cs 3)).drew) fun e w' => ∃ (y pv : Int), e = .returned (.int .i64 y) ∧ 0 ≤ y ∧ y < m ∧ w'.cell? ⟨w2.heap.size, y.toNat, none⟩ = some (.int .i64 pv) ∧ P pv ∧ Hid (Only R w2 w') := by
  have hR := HA.out.lt
  refine (pick_any _ _ _ _ p m (by omega) (by omega) (by omega) _ ((HA.out.alloc (by omega) _).drew')).mono ?_
  rintro e w3 ⟨y, r, rfl, hy0, hy1, _, hr, HC, HP⟩
  replace hy1 := hy1 (by omega)
  obtain ⟨pv, hpv, hpl⟩ := hl y hy0 hy1
  have HQ := HP.out.of_drew'
  have c := lit_cell (fr := (0, 0)) HQ hR y.toNat
  exact ⟨y, pv, rfl, hy0, hy1, c.trans hpv, hpl, hid (((Only.refl _ _).alloc _).trans HQ)⟩
theorem pickLit2 (cs : Array Value) (m : Int) (P : Int → Prop) (hm : 1 ≤ m) (hm2 : m ≤ 1000) (hl : ∀ y : Int, 0 ≤ y → y < m → ∃ pv, cs[y.toNat]? = some (.int .i64 pv) ∧ P pv) (B R : Nat) (v : Value) (n p : Nat) (hp : p ≤ 1000000000000000) (w2 : World) (HA : Hid (Rdr w2 B R v n p)) (hB : B ≤ w2.heap.size) :
    Calls Try.prog 43 #[.pointer (some ⟨R, 0, none⟩), .int .i64 m] w2.drew fun e w' => ∃ (y pv : Int), e = .returned (.int .i64 y) ∧ 0 ≤ y ∧ y < m ∧ (w'.alloc (.cells cs 3)).cell? ⟨w'.heap.size, y.toNat, none⟩ = some (.int .i64 pv) ∧ P pv ∧ Hid (Only R w2 w') := by
  refine (pick_any _ _ _ _ p m (by omega) (by omega) (by omega) _ HA.out.drew').mono ?_
  rintro e w3 ⟨y, r, rfl, hy0, hy1, _, hr, HC, HP⟩
  replace hy1 := hy1 (by omega)
  obtain ⟨pv, hpv, hpl⟩ := hl y hy0 hy1
  refine ⟨y, pv, rfl, hy0, hy1, ?_, hpl, hid HP.out.of_drew'⟩
  rw [Go.cell_of_row _ _ _ _ _ _ (World.alloc_heap_new w3 _)]
  exact hpv

def facOk (y : Int) : Prop := (-3 ≤ y ∧ y ≤ 5) ∨ y = 5001
theorem fac2 : ∀ y : Int, 0 ≤ y → y < 2 → ∃ pv, (#[.int .i64 0, .int .i64 5001] : Array Value)[y.toNat]? = some (.int .i64 pv) ∧ facOk pv := by
  intro y h0 h1
  have : y = 0 ∨ y = 1 := by omega
  rcases this with rfl | rfl
  all_goals exact ⟨_, rfl, by unfold facOk; omega⟩
theorem fac8 : ∀ y : Int, 0 ≤ y → y < 8 → ∃ pv, (#[.int .i64 1, .int .i64 (-1), .int .i64 2, .int .i64 3, .int .i64 (-2), .int .i64 4, .int .i64 5, .int .i64 (-3)] : Array Value)[y.toNat]? = some (.int .i64 pv) ∧ facOk pv := by
  intro y h0 h1
  have : y = 0 ∨ y = 1 ∨ y = 2 ∨ y = 3 ∨ y = 4 ∨ y = 5 ∨ y = 6 ∨ y = 7 := by omega
  rcases this with rfl | rfl | rfl | rfl | rfl | rfl | rfl | rfl
  all_goals exact ⟨_, rfl, by unfold facOk; omega⟩


end Go.Proofs.Ytfjbdbfeolfcfaa

/-! Draws9 -/
set_option linter.unusedVariables false
namespace Go.Proofs.Ytfjbdbfeolfcfaa
open Go.RowKit

def VecOk (m : Nat) (k : Int) (ys : List Int) : Prop := ys.length = m ∧ ∀ y ∈ ys, -k ≤ y ∧ y ≤ k
theorem VecOk.snoc {m : Nat} {k : Int} {ys : List Int} {x : Int} (h : VecOk m k ys) (h1 : -k ≤ x) (h2 : x ≤ k) : VecOk (m + 1) k (ys ++ [x]) :=
  ⟨by rw [List.length_append, h.1]; rfl, fun y hy => by
    rcases List.mem_append.1 hy with h3 | h3
    · exact h.2 y h3
    · rw [List.mem_singleton] at h3; subst h3; exact ⟨h1, h2⟩⟩
def VecPost (m : Nat) (w : World) (B R : Nat) (v : Value) (n p : Nat) (e : Ending) (w' : World) : Prop :=
  ∃ (u : Value) (ys : List Int) (q : Nat), e = .returned u ∧ VecOk m 9 ys ∧ Hid (Owns w' w.heap.size u ys) ∧ q ≤ p + m ∧ Hid (Rdr w' B R v n q) ∧ Hid (Only R w w')
theorem VecPost.mk {m : Nat} {w : World} {B R : Nat} {v : Value} {n p q : Nat} {u : Value} {ys : List Int} {w' : World} (h : VecOk m 9 ys) (ho : Hid (Owns w' w.heap.size u ys)) (hq : q ≤ p + m) (hr : Hid (Rdr w' B R v n q)) (hn : Hid (Only R w w')) : VecPost m w B R v n p (.returned u) w' :=
  ⟨u, ys, q, rfl, h, ho, hq, hr, hn⟩

set_option maxRecDepth 100000 in
set_option maxHeartbeats 4000000 in
theorem vector_any (B R : Nat) (v : Value) (n p m : Nat) (hp : p ≤ 700000000000000) (hm2 : m ≤ 6) (a : Option Addr) (cap : Nat) (w : World) (HR : Hid (Rdr w B R v n p)) (hB : B ≤ w.heap.size) :
    Calls Try.prog 42 #[.pointer (some ⟨R, 0, none⟩), .slice a m cap, .int .i64 9] w (VecPost m w B R v n p) := by
  obtain ⟨i0, hi, hz0, hz1, hz2⟩ := info_parts infoInt
  have hRs := HR.out.lt
  have hBR := HR.out.1
  have HO0 : Hid (Owns (w.alloc (.cells #[] 3)) w.heap.size (.slice (some ⟨w.heap.size, 0, none⟩) 0 0) []) := hid (World.ownsRow_made (size := 1) w #[] 0 (Nat.le_refl _) (by unfold maxLen; omega) rfl)
  have HRA := hid (HR.out.alloc hB (.cells #[] 3))
  have HON := hid ((Only.refl R w).alloc (.cells #[] 3))
  go_enter Try.func42, Try.ntmps42
  go_wp2_with fail
  go_loopw [7, 8] (fun so si wr => ∃ (K r : Nat) (ys : List Int), si = .int .i64 K ∧ K ≤ m ∧ r ≤ p + K ∧ Hid (VecOk K 9 ys) ∧ Hid (Owns wr w.heap.size so ys) ∧ Hid (Rdr wr B R v n r) ∧ Hid (Only R w wr)) (fun _ si _ => 10 - (intOf si).toNat)
  case atStart => exact ⟨0, p, [], rfl, by omega, by omega, hid ⟨rfl, fun x hx => by cases hx⟩, HO0, HRA, HON⟩
  case round =>
    obtain ⟨K, r, ys, rfl, hK, hr, HT, HOr, HRr, HNr⟩ := hrel
    rename World => wr
    have hsr := HNr.out.size
    have hyl := HT.out.1
    by_cases hlt : K < m
    · have hKi : (K : Int) < (m : Int) := by omega
      have hRr := HRr.out.lt
      go_wp2_with (first | (go_at_call 43; refine (pick_any _ _ _ _ r 19 (by omega) (by omega) (by omega) _ HRr.out).mono ?_; rintro e wq ⟨k, s, rfl, hk0, hk1, _, hs, HC, HP⟩; replace hk1 := hk1 (by omega); have HO2 := hid (HOr.out.only HP.out (by omega)); have HN2 := hid (HNr.out.trans HP.out); have hs2 := HN2.out.size) | (at_builtin; refine wpList_append_own_at _ rfl _ _ 23 rfl w.heap.size 3 i0 (.int .i64 0) 1 8 Try.underlying23 hi hz0 hz1 hz2 rfl (by decide) _ _ _ rfl ((show World.ownsRow _ _ _ _ _ _ _ from HO2.out).alloc _) ⟨wq.heap.size, 0, none⟩ 1 1 [.int .i64 (k - 9)] rfl rfl (cell_one_new _ _ _) (by simp [Value.oneCell']) (by unfold maxLen; omega) (by omega) (by simp; omega) ?_; intro v' w3 hown' hgrow _ hat))
      have hsg := hgrow.size
      simp only [World.size_alloc] at hsg
      have HN4 := hid ((HN2.out.alloc (.cells #[.int .i64 (k - 9)] 3)).grown hgrow (fun k e => (HO2.out.ge k e)))
      have HR4 := hid (((HC.out.alloc (by omega) (.cells #[.int .i64 (k - 9)] 3)).kept (((Below.refl w.heap.size _).grown hgrow (by simp; omega) (fun k e => (HO2.out.ge k e)))) (by omega) (by omega)))
      go_roundw
      case measure => simp only [intOf]; omega
      case rel =>
        exact ⟨K + 1, s, ys ++ [k - 9], by go_num, by omega, by omega, hid (HT.out.snoc (by omega) (by omega)), hid (by unfold Owns; simpa using hown'), HR4, HN4⟩
    · obtain rfl : K = m := by omega
      go_wp2
      go_ret
      exact VecPost.mk HT.out HOr (by omega) HRr HNr

end Go.Proofs.Ytfjbdbfeolfcfaa

/-! Draws10 -/
set_option linter.unusedVariables false
namespace Go.Proofs.Ytfjbdbfeolfcfaa
open Go.RowKit

theorem Owns.reads {W : World} {B : Nat} {v : Value} {xs : List Int} (h : Owns W B v xs) : ∃ a cap, v = .slice a xs.length cap := by
  rcases h.2 with ⟨h3, h4⟩ | ⟨g, cap, cur, h3, _⟩
  · have h5 : xs.length = 0 := h4
    exact ⟨none, 0, by rw [h3, h5]⟩
  · exact ⟨_, cap, h3⟩
theorem Owns.room {W : World} {B g cap n : Nat} {xs : List Int} (h : Owns W B (.slice (some ⟨g, 0, none⟩) n cap) xs) : xs.length ≤ cap := by
  rcases h.2 with ⟨h3, h4⟩ | ⟨g, cap, cur, h3, _, _, h4, _⟩
  · cases h3
  · simp only [Value.slice.injEq] at h3
    omega
/-- a slice cut at its head -/
theorem firm_cut (c : Prop) [Decidable c] (x y : Addr) (n k : Nat) : Firm (.slice (if c then some x else some y) n k) := by
  by_cases h : c
  · rw [if_pos h]; exact .inr ⟨_, _, _, rfl⟩
  · rw [if_neg h]; exact .inr ⟨_, _, _, rfl⟩
theorem Owns.kept0 {W W' : World} {B : Nat} {v : Value} {xs : List Int} {g : Nat} (h : Owns W B v xs) (hg : W.grownBy W' (some g)) (hne : ∀ k, v.ownBlock = some k → k < g) : Owns W' B v xs :=
  World.ownsRow.kept h hg (by
    cases e : v.ownBlock with
    | none => exact .inl rfl
    | some k => exact .inr (fun e2 => by have := hne k e; cases e2; omega))
def VecGood (m : Nat) (ys : List Int) : Prop := ys.length ≤ m ∧ ∀ y ∈ ys, -1001 ≤ y ∧ y ≤ 1001
theorem VecOk.good {m : Nat} {ys : List Int} (h : VecOk m 9 ys) : VecGood m ys := ⟨by rw [h.1]; exact Nat.le_refl _, fun y hy => by have := h.2 y hy; omega⟩
theorem VecGood.drop {m k : Nat} {ys : List Int} (h : VecGood m ys) : VecGood m (ys.drop k) := ⟨by rw [List.length_drop]; have := h.1; omega, fun y hy => h.2 y (List.mem_of_mem_drop hy)⟩
theorem VecGood.set0 {m : Nat} {ys : List Int} {x : Int} (h : VecGood m ys) (h1 : -1001 ≤ x) (h2 : x ≤ 1001) : VecGood m (ys.set 0 x) :=
  ⟨by rw [List.length_set]; exact h.1, fun y hy => by
    rcases List.mem_or_eq_of_mem_set hy with h3 | h3
    · exact h.2 y h3
    · subst h3; exact ⟨h1, h2⟩⟩


end Go.Proofs.Ytfjbdbfeolfcfaa
