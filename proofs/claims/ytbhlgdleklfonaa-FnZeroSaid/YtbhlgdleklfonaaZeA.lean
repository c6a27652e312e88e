/-
  Some texts in one file.
-/
import Derived.Below
import Derived.Test.YtbhlgdleklfonaaBun5
import Derived.RangeFuncOwn
import Derived.Test.YtbhlgdleklfonaaLawMath
import Derived.OpenShut
import Derived.Maps.AppendAt
import Derived.Deep.RegionWith
import Derived.Deep.RegionHeld3
import Derived.IntWalk
import Derived.Laws.AppendOwnNone
import Derived.Test.YtbhlgdleklfonaaBun14
import Derived.Test.YtbhlgdleklfonaaBun8
import Derived.BigQuiet
import Derived.Test.YtbhlgdleklfonaaBun32
namespace Go.Proofs.Ytbhlgdleklfonaa
open Go.RowKit
/-- it is nil; or it leads to a row of 'cap' cells, the numbers 'zs' (the first 'len' are its elements), each fitting its kind -/
def IsRow (k : IntKind) (w : World) (a : Option Addr) (len cap : Nat) (zs : List Int) : Prop :=
  (a = none ∧ len = 0 ∧ cap = 0 ∧ zs = []) ∨
  ∃ x, a = some x ∧ len ≤ cap ∧ cap ≤ maxLen ∧ zs.length = cap ∧ (∀ i, i < zs.length → w.cell? (x.add i) = some (.int k (zs.getD i 0))) ∧ ∀ n ∈ zs, (Lit.int k n).wf = true
end Go.Proofs.Ytbhlgdleklfonaa

set_option linter.unusedVariables false
namespace Go.Proofs.Ytbhlgdleklfonaa
open Go.RowKit

theorem xor_i64 {a b : Nat} (ha : a < 4611686018427387904) (hb : b < 4611686018427387904) : bits .xor .i64 (a : Int) (b : Int) = ((a ^^^ b : Nat) : Int) ∧ a ^^^ b < 4611686018427387904 := by
  have hx : a ^^^ b < 2 ^ 62 := Nat.xor_lt_two_pow (by omega) (by omega)
  have h1 : (BitVec.ofInt 64 (a : Int)).toNat = a := by
    rw [BitVec.ofInt_natCast, BitVec.toNat_ofNat]; exact Nat.mod_eq_of_lt (by omega)
  have h2 : (BitVec.ofInt 64 (b : Int)).toNat = b := by
    rw [BitVec.ofInt_natCast, BitVec.toNat_ofNat]; exact Nat.mod_eq_of_lt (by omega)
  have h3 : a ^^^ b < 4611686018427387904 := by omega
  refine ⟨?_, h3⟩
  show IntKind.i64.wrap ((BitVec.ofInt 64 (a : Int) ^^^ BitVec.ofInt 64 (b : Int)).toNat : Int) = _
  rw [BitVec.toNat_xor, h1, h2]
  simp [IntKind.wrap, IntKind.bits, IntKind.signed]
  omega
theorem xor_bd {x : Int} (h0 : 0 ≤ x) (h1 : x ≤ 4000000000000000000) : 0 ≤ bits .xor .i64 x (x / 64) := by
  obtain ⟨n, rfl⟩ := Int.eq_ofNat_of_zero_le h0
  have e : ((n : Int) / 64) = ((n / 64 : Nat) : Int) := by push_cast; rfl
  rw [e, (xor_i64 (a := n) (b := n / 64) (by omega) (by omega)).1]
  exact Int.natCast_nonneg _

/-- the code: a slice of n bytes, below block B -/
def CodeAt (W : World) (B : Nat) (v : Value) (n : Nat) : Prop :=
  n ≤ 2000 ∧ ((∃ a cap, v = .slice a 0 cap ∧ n = 0) ∨ ∃ b o cap, v = .slice (some ⟨b, o, none⟩) n cap ∧ b < B ∧ 0 < n ∧ ∀ i, i < n → ∃ x, W.cell? ⟨b, o + i, none⟩ = some (.int .u8 x) ∧ 0 ≤ x ∧ x ≤ 255)
theorem CodeAt.below {W W' : World} {B : Nat} {v : Value} {n : Nat} (h : CodeAt W B v n) (hb : Below B W W') : CodeAt W' B v n := by
  obtain ⟨hn, h⟩ := h
  refine ⟨hn, ?_⟩
  rcases h with h | ⟨b, o, cap, hv, hB, hp, hc⟩
  · exact .inl h
  · refine .inr ⟨b, o, cap, hv, hB, hp, fun i hi => ?_⟩
    obtain ⟨x, hx, h1⟩ := hc i hi
    exact ⟨x, (hb.cell (p := ⟨b, o + i, none⟩) hB).trans hx, h1⟩

/-- the reader at block R: the code, and the next place -/
def Rdr (W : World) (B R : Nat) (v : Value) (n p : Nat) : Prop := B ≤ R ∧ CodeAt W B v n ∧ W.heap[R]? = some (.cells #[v, .int .i64 p] 93 (0, 0))
theorem Rdr.lt {W : World} {B R : Nat} {v : Value} {n p : Nat} (h : Rdr W B R v n p) : R < W.heap.size := (Array.getElem?_eq_some_iff.1 h.2.2).1
theorem Rdr.cell0 {W : World} {B R : Nat} {v : Value} {n p : Nat} (h : Rdr W B R v n p) : W.cell? ⟨R, 0, none⟩ = some v := by rw [Go.cell_of_row _ _ _ _ _ _ h.2.2]; rfl
theorem Rdr.cell1 {W : World} {B R : Nat} {v : Value} {n p : Nat} (h : Rdr W B R v n p) : W.cell? ⟨R, 1, none⟩ = some (.int .i64 p) := by rw [Go.cell_of_row _ _ _ _ _ _ h.2.2]; rfl
theorem Rdr.frozen {W : World} {B R : Nat} {v : Value} {n p : Nat} (h : Rdr W B R v n p) (j : Nat) : W.frozen? ⟨R, j, none⟩ = false := frozen_of_row _ _ _ _ _ h.2.2
theorem Rdr.drewN {W : World} {B R : Nat} {v : Value} {n p : Nat} (h : Rdr W B R v n p) (k : Nat) : Rdr (W.drewN k) B R v n p := h
theorem Rdr.alloc {W : World} {B R : Nat} {v : Value} {n p : Nat} (h : Rdr W B R v n p) (hB : B ≤ W.heap.size) (o : Obj) : Rdr (W.alloc o) B R v n p :=
  ⟨h.1, h.2.1.below ((Below.refl _ _).alloc hB _), (Below.heap_alloc _ _ _ h.lt).trans h.2.2⟩
theorem Rdr.next {W : World} {B R : Nat} {v : Value} {n p : Nat} (h : Rdr W B R v n p) : Rdr (W.setCell ⟨R, 1, none⟩ (.int .i64 ((p : Int) + 1))) B R v n (p + 1) := by
  refine ⟨h.1, h.2.1.below ((Below.refl _ _).setCell (p := ⟨R, 1, none⟩) h.1 _), ?_⟩
  rw [heap_setCell_same _ _ _ _ _ _ h.2.2]
  simp
theorem Rdr.kept {W W' : World} {B R C : Nat} {v : Value} {n p : Nat} (h : Rdr W B R v n p) (hb : Below C W W') (hR : R < C) (hBC : B ≤ C) : Rdr W' B R v n p :=
  ⟨h.1, h.2.1.below (hb.mono hBC), (hb.block R hR).trans h.2.2⟩

/-- only block R has turned -/
structure Only (R : Nat) (w w' : World) : Prop where
  os : w'.os = w.os
  tape : w'.tape = w.tape
  output : w'.output = w.output
  size : w.heap.size ≤ w'.heap.size
  block : ∀ k, k < w.heap.size → k ≠ R → w'.heap[k]? = w.heap[k]?
theorem Only.refl (R : Nat) (w : World) : Only R w w := ⟨rfl, rfl, rfl, Nat.le_refl _, fun _ _ _ => rfl⟩
theorem Only.trans {R : Nat} {a b c : World} (h : Only R a b) (k : Only R b c) : Only R a c :=
  ⟨k.os.trans h.os, k.tape.trans h.tape, k.output.trans h.output, Nat.le_trans h.size k.size, fun i hi hr => (k.block i (Nat.lt_of_lt_of_le hi h.size) hr).trans (h.block i hi hr)⟩
theorem Only.alloc {R : Nat} {a w : World} (h : Only R a w) (o : Obj) : Only R a (w.alloc o) :=
  h.trans ⟨rfl, rfl, rfl, by simp, fun k hk _ => Below.heap_alloc _ _ _ hk⟩
theorem Only.below {R B : Nat} {a w : World} (h : Only R a w) (hB : B ≤ R) (hs : B ≤ a.heap.size) : Below B a w := ⟨h.os, h.tape, h.output, h.size, fun k hk => h.block k (by omega) (by omega)⟩
theorem Only.cell {R : Nat} {a w : World} (h : Only R a w) {b o : Nat} (hb : b < a.heap.size) (hr : b ≠ R) : w.cell? ⟨b, o, none⟩ = a.cell? ⟨b, o, none⟩ := World.cell?_of_block (w := a) (h.block b hb hr)

/-- what drawing below m answers -/
def PickPost (w : World) (B R : Nat) (v : Value) (n p : Nat) (m : Int) (e : Ending) (w' : World) : Prop :=
  ∃ (x : Int) (q : Nat), e = .returned (.int .i64 x) ∧ 0 ≤ x ∧ (1 ≤ m → x < m) ∧ (m < 1 → x = 0) ∧ q ≤ p + 1 ∧ Hid (Rdr w' B R v n q) ∧ Hid (Only R w w')
theorem PickPost.mk {w : World} {B R : Nat} {v : Value} {n p : Nat} {m x : Int} (k : Nat) (h : Rdr w B R v n p) (h0 : 0 ≤ x) (h1 : 1 ≤ m → x < m) (h2 : m < 1 → x = 0) :
    PickPost w B R v n p m (.returned (.int .i64 x)) ((w.setCell ⟨R, 1, none⟩ (.int .i64 ((p : Int) + 1))).drewN k) :=
  ⟨x, p + 1, rfl, h0, h1, h2, Nat.le_refl _, hid (h.next.drewN k), hid ⟨rfl, rfl, rfl, by simp [World.setCell], fun i hi hr => heap_setCell_other w ⟨R, 1, none⟩ i _ hr⟩⟩

theorem mod_cast_bd (a n : Nat) (h : 0 < n) : 0 ≤ (a : Int) % n ∧ (a : Int) % n < n := ⟨Int.emod_nonneg _ (by omega), Int.emod_lt_of_pos _ (by omega)⟩

set_option maxRecDepth 100000 in
set_option maxHeartbeats 2000000 in
theorem pick_any (B R : Nat) (v : Value) (n p : Nat) (m : Int) (hp : p ≤ 1000000000000000) (hm1 : -1000000 ≤ m) (hm2 : m ≤ 1000000) (w : World) (h : Rdr w B R v n p) :
    Calls Try.prog 67 #[.pointer (some ⟨R, 0, none⟩), .int .i64 m] w (PickPost w B R v n p m) := by
  have c0 := h.cell0
  have c1 := h.cell1
  have f1 := h.frozen 1
  have h2 := h.next
  have d0 := h2.cell0
  have d1 := h2.cell1
  have e1 : ((p + 1 : Nat) : Int) = (p : Int) + 1 := by omega
  rw [e1] at d1
  have H2 := hid h2
  have H := hid h
  obtain ⟨W2, hW2⟩ : ∃ W2, W2 = w.setCell ⟨R, 1, none⟩ (.int .i64 ((p : Int) + 1)) := ⟨_, rfl⟩
  clear h h2 e1 hW2 W2
  by_cases hm : m < 1
  · go_enter Try.func67, Try.ntmps67
    go_wp2
    go_ret
    exact PickPost.mk 0 H.out (by omega) (by omega) (fun _ => rfl)
  · obtain ⟨hn, hv⟩ := H2.out.2.1
    rcases hv with ⟨a, cap, rfl, rfl⟩ | ⟨b, o, cap, rfl, hbB, hn0, hc⟩
    · go_enter Try.func67, Try.ntmps67
      go_wp2
      go_ret
      exact PickPost.mk 0 H.out (by omega) (by omega) (fun _ => rfl)
    · have T : ((n : Int) == 0) = false := by rw [beq_eq_false_iff_ne]; omega
      by_cases hpn : p < n
      · obtain ⟨x, hx, hx1, hx2⟩ := hc p hpn
        have hi : (p : Int) < (n : Int) := by omega
        have hmd := Int.emod_lt_of_pos x (show 0 < m by omega)
        have hmd0 := Int.emod_nonneg x (show m ≠ 0 by omega)
        clear hc
        go_enter Try.func67, Try.ntmps67
        go_wp2
        go_ret
        exact PickPost.mk 0 H.out hmd0 (fun _ => hmd) (by omega)
      · obtain ⟨d, hd⟩ : ∃ d, d = p % n := ⟨_, rfl⟩
        obtain ⟨d2, hd2⟩ : ∃ d2, d2 = (p * 7 + 3) % n := ⟨_, rfl⟩
        obtain ⟨d3, hd3⟩ : ∃ d3, d3 = p / n := ⟨_, rfl⟩
        have hdn : d < n := by rw [hd]; exact Nat.mod_lt _ hn0
        have hdn2 : d2 < n := by rw [hd2]; exact Nat.mod_lt _ hn0
        have hdn3 : d3 ≤ 1000000000000000 := by rw [hd3]; exact Nat.le_trans (Nat.div_le_self p n) hp
        obtain ⟨x, hx, hx1, hx2⟩ := hc d hdn
        obtain ⟨y, hy, hy1, hy2⟩ := hc d2 hdn2
        have e1 : (p : Int) % n = d := by rw [hd]; push_cast; rfl
        have e2 : ((p : Int) * 7 + 3) % n = d2 := by rw [hd2]; push_cast; rfl
        have e3 : (p : Int) / n = d3 := by rw [hd3]; push_cast; rfl
        have xb := xor_bd (x := x * 131 + y * 1117 + (p : Int) * 29 + (d3 : Int) * 53) (by omega) (by omega)
        obtain ⟨z, hz⟩ : ∃ z, z = bits .xor .i64 (x * 131 + y * 1117 + (p : Int) * 29 + (d3 : Int) * 53) ((x * 131 + y * 1117 + (p : Int) * 29 + (d3 : Int) * 53) / 64) := ⟨_, rfl⟩
        rw [← hz] at xb
        have hz' := hz.symm
        have zm := Int.emod_lt_of_pos z (show 0 < m by omega)
        have zm0 := Int.emod_nonneg z (show m ≠ 0 by omega)
        clear hc hd hd2 hd3 hz
        go_enter Try.func67, Try.ntmps67
        go_wp2
        go_quiet (fail)
        go_wp2
        go_ret
        exact PickPost.mk _ H.out zm0 (fun _ => zm) (by omega)

end Go.Proofs.Ytbhlgdleklfonaa

set_option linter.unusedVariables false
namespace Go.Proofs.Ytbhlgdleklfonaa
open Go.RowKit

def NumPost (P : Int → Prop) (c : Nat) (w : World) (B R : Nat) (v : Value) (n p : Nat) (e : Ending) (w' : World) : Prop :=
  ∃ (x : Int) (q : Nat), e = .returned (.int .i64 x) ∧ P x ∧ q ≤ p + c ∧ Hid (Rdr w' B R v n q) ∧ Hid (Only R w w')
theorem NumPost.mk {P : Int → Prop} {c : Nat} {w : World} {B R : Nat} {v : Value} {n p q : Nat} {w' : World} {x y : Int} (hxy : y = x) (h : P x) (hq : q ≤ p + c) (hr : Hid (Rdr w' B R v n q)) (ho : Only R w w') : NumPost P c w B R v n p (.returned (.int .i64 y)) w' := by
  rw [hxy]; exact ⟨x, q, rfl, h, hq, hr, ho⟩

theorem lit_cell {w w2 : World} {R : Nat} {cs : Array Value} {t : TypeId} {fr : Nat × Nat} (ho : Only R (w.alloc (.cells cs t)) w2) (hR : R < w.heap.size) (i : Nat) : w2.cell? ⟨w.heap.size, i, none⟩ = cs[i]? := by
  rw [ho.cell (by simp) (by omega)]
  exact Go.cell_of_row _ _ _ _ _ _ (World.alloc_heap_new w _)

set_option maxRecDepth 100000 in
set_option maxHeartbeats 2000000 in
theorem drawnPrime_any (B R : Nat) (v : Value) (n p : Nat) (hp : p ≤ 900000000000000) (w : World) (HR : Hid (Rdr w B R v n p)) (hB : B ≤ w.heap.size) :
    Calls Try.prog 93 #[.pointer (some ⟨R, 0, none⟩)] w (NumPost prOk 4 w B R v n p) := by
  go_enter Try.func93, Try.ntmps93
  go_wp2_with fail
  refine (pick_any _ _ _ _ p 24 (by omega) (by omega) (by omega) _ (HR.out)).mono ?_
  rintro e wHA ⟨x, q, rfl, hx0, hx1, _, hq, HA, HO⟩
  replace hx1 := hx1 (by omega)
  have hR := HA.out.lt
  have hs := HO.out.size
  by_cases h0 : x = 0
  · have T : (x == 0) = true := by rw [beq_iff_eq]; exact h0
    clear h0
    go_wp2_with fail
    refine (pick_any _ _ _ _ q 6 (by omega) (by omega) (by omega) _ (HA.out.alloc (by omega) _)).mono ?_
    rintro e wHC ⟨y, r, rfl, hy0, hy1, _, hr, HC, HP⟩
    replace hy1 := hy1 (by omega)
    have hyc : y = 0 ∨ y = 1 ∨ y = 2 ∨ y = 3 ∨ y = 4 ∨ y = 5 := by omega
    rcases hyc with rfl | rfl | rfl | rfl | rfl | rfl
    · have c := lit_cell (fr := (0, 0)) HP.out hR 0
      simp at c
      go_wp2
      go_ret
      exact NumPost.mk rfl (by unfold prOk; omega) (by omega) HC ((HO.out.alloc _).trans HP.out)
    · have c := lit_cell (fr := (0, 0)) HP.out hR 1
      simp at c
      go_wp2
      go_ret
      exact NumPost.mk rfl (by unfold prOk; omega) (by omega) HC ((HO.out.alloc _).trans HP.out)
    · have c := lit_cell (fr := (0, 0)) HP.out hR 2
      simp at c
      go_wp2
      go_ret
      exact NumPost.mk rfl (by unfold prOk; omega) (by omega) HC ((HO.out.alloc _).trans HP.out)
    · have c := lit_cell (fr := (0, 0)) HP.out hR 3
      simp at c
      go_wp2
      go_ret
      exact NumPost.mk rfl (by unfold prOk; omega) (by omega) HC ((HO.out.alloc _).trans HP.out)
    · have c := lit_cell (fr := (0, 0)) HP.out hR 4
      simp at c
      go_wp2
      go_ret
      exact NumPost.mk rfl (by unfold prOk; omega) (by omega) HC ((HO.out.alloc _).trans HP.out)
    · have c := lit_cell (fr := (0, 0)) HP.out hR 5
      simp at c
      go_wp2
      go_ret
      exact NumPost.mk rfl (by unfold prOk; omega) (by omega) HC ((HO.out.alloc _).trans HP.out)
  · have T : (x == 0) = false := by rw [beq_eq_false_iff_ne]; exact h0
    clear h0
    go_wp2_with fail
    refine (pick_any _ _ _ _ q 8 (by omega) (by omega) (by omega) _ (HA.out.alloc (by omega) _)).mono ?_
    rintro e wHC ⟨y, r, rfl, hy0, hy1, _, hr, HC, HP⟩
    replace hy1 := hy1 (by omega)
    have hyc : y = 0 ∨ y = 1 ∨ y = 2 ∨ y = 3 ∨ y = 4 ∨ y = 5 ∨ y = 6 ∨ y = 7 := by omega
    rcases hyc with rfl | rfl | rfl | rfl | rfl | rfl | rfl | rfl
    · have c := lit_cell (fr := (0, 0)) HP.out hR 0
      simp at c
      go_wp2
      go_ret
      exact NumPost.mk rfl (by unfold prOk; omega) (by omega) HC ((HO.out.alloc _).trans HP.out)
    · have c := lit_cell (fr := (0, 0)) HP.out hR 1
      simp at c
      go_wp2
      go_ret
      exact NumPost.mk rfl (by unfold prOk; omega) (by omega) HC ((HO.out.alloc _).trans HP.out)
    · have c := lit_cell (fr := (0, 0)) HP.out hR 2
      simp at c
      go_wp2
      go_ret
      exact NumPost.mk rfl (by unfold prOk; omega) (by omega) HC ((HO.out.alloc _).trans HP.out)
    · have c := lit_cell (fr := (0, 0)) HP.out hR 3
      simp at c
      go_wp2
      go_ret
      exact NumPost.mk rfl (by unfold prOk; omega) (by omega) HC ((HO.out.alloc _).trans HP.out)
    · have c := lit_cell (fr := (0, 0)) HP.out hR 4
      simp at c
      go_wp2
      go_ret
      exact NumPost.mk rfl (by unfold prOk; omega) (by omega) HC ((HO.out.alloc _).trans HP.out)
    · have c := lit_cell (fr := (0, 0)) HP.out hR 5
      simp at c
      go_wp2
      go_ret
      exact NumPost.mk rfl (by unfold prOk; omega) (by omega) HC ((HO.out.alloc _).trans HP.out)
    · have c := lit_cell (fr := (0, 0)) HP.out hR 6
      simp at c
      go_wp2
      go_ret
      exact NumPost.mk rfl (by unfold prOk; omega) (by omega) HC ((HO.out.alloc _).trans HP.out)
    · have c := lit_cell (fr := (0, 0)) HP.out hR 7
      simp at c
      go_wp2
      go_ret
      exact NumPost.mk rfl (by unfold prOk; omega) (by omega) HC ((HO.out.alloc _).trans HP.out)

/-- the code as it comes in -/
def CodeIn (w : World) (v : Value) (n : Nat) : Prop :=
  (∃ a cap, v = .slice a 0 cap ∧ n = 0) ∨ ∃ b o cap, v = .slice (some ⟨b, o, none⟩) n cap ∧ n ≤ cap ∧ cap ≤ maxLen ∧ b < w.heap.size ∧ 0 < n ∧ ∀ i, i < n → ∃ x, w.cell? ⟨b, o + i, none⟩ = some (.int .u8 x) ∧ 0 ≤ x ∧ x ≤ 255
theorem codeIn_of {w : World} {a : Option Addr} {len cap : Nat} {zs : List Int} (h : IsRow .u8 w a len cap zs) : CodeIn w (.slice a len cap) len := by
  rcases h with ⟨rfl, rfl, rfl, rfl⟩ | ⟨x, rfl, hl, hm, hz, hcell, hwz⟩
  · exact .inl ⟨_, _, rfl, rfl⟩
  · by_cases h0 : len = 0
    · subst h0; exact .inl ⟨_, _, rfl, rfl⟩
    · obtain ⟨b, off, spot⟩ := x
      have hc := hcell 0 (by omega)
      have hspot : spot = none := by simpa [Addr.add] using World.cell?_spot hc
      subst hspot
      have hb : b < w.heap.size := by
        obtain ⟨o, ho, _⟩ := cells_of_cell hc
        exact (Array.getElem?_eq_some_iff.1 ho).1
      refine .inr ⟨b, off, cap, rfl, hl, hm, hb, by omega, fun i hi => ?_⟩
      have hz' : i < zs.length := by omega
      have hca : w.cell? ⟨b, off + i, none⟩ = some (.int .u8 (zs.getD i 0)) := by
        have h5 := hcell i hz'
        by_cases hi0 : i = 0
        · subst hi0; simpa [Addr.add] using h5
        · simpa [Addr.add, hi0] using h5
      refine ⟨zs.getD i 0, hca, ?_⟩
      have e : zs.getD i 0 = zs[i] := by simp [List.getD, List.getElem?_eq_getElem hz']
      rw [e]
      exact bounds_u8 (hwz _ (List.getElem_mem hz'))

def OpenPost (w : World) (e : Ending) (w' : World) : Prop :=
  ∃ v n, e = .returned (.pointer (some ⟨w.heap.size, 0, none⟩)) ∧ Hid (Rdr w' w.heap.size w.heap.size v n 0) ∧ Below w.heap.size w w'
theorem OpenPost.mk {w : World} {v : Value} {n : Nat} (h : CodeAt w w.heap.size v n) : OpenPost w (.returned (.pointer (some ⟨w.heap.size, 0, none⟩))) (w.alloc (.cells #[v, .int .i64 0] 93)) :=
  ⟨v, n, rfl, ⟨Nat.le_refl _, h.below ((Below.refl _ _).alloc (Nat.le_refl _) _), World.alloc_heap_new w _⟩, (Below.refl _ _).alloc (Nat.le_refl _) _⟩

set_option maxRecDepth 100000 in
set_option maxHeartbeats 1000000 in
theorem open_any (v : Value) (n : Nat) (w : World) (h : CodeIn w v n) : Calls Try.prog 50 #[v] w (OpenPost w) := by
  rcases h with ⟨a, cap, rfl, rfl⟩ | ⟨b, o, cap, rfl, hl, hm, hb, hn0, hc⟩
  · go_enter Try.func50, Try.ntmps50
    go_wp2
    go_ret
    exact OpenPost.mk ⟨by omega, .inl ⟨_, _, rfl, rfl⟩⟩
  · unfold maxLen at hm
    have HC := hid hc
    clear hc
    by_cases h2 : n ≤ 2000
    · go_enter Try.func50, Try.ntmps50
      go_wp2
      go_ret
      exact OpenPost.mk ⟨h2, .inr ⟨b, o, cap, rfl, hb, hn0, HC.out⟩⟩
    · have h3 : (2000 : Int) < (n : Int) := by omega
      have h4 : (2000 : Nat) ≤ cap := by omega
      go_enter Try.func50, Try.ntmps50
      go_wp2
      go_ret
      exact OpenPost.mk (n := 2000) ⟨by omega, .inr ⟨b, o, cap, rfl, hb, by omega, fun i hi => HC.out i (by omega)⟩⟩

end Go.Proofs.Ytbhlgdleklfonaa

/-! Draws1 -/
set_option linter.unusedVariables false
namespace Go.Proofs.Ytbhlgdleklfonaa
open Go.RowKit

def Drew1 (P : Int → Prop) (w : World) (e : Ending) (w' : World) : Prop := ∃ x : Int, e = .returned (.int .i64 x) ∧ P x ∧ Below w.heap.size w w'
def Drew2 (P : Int → Int → Prop) (w : World) (e : Ending) (w' : World) : Prop := ∃ x y : Int, e = .returned (.tuple #[.int .i64 x, .int .i64 y]) ∧ P x y ∧ Below w.heap.size w w'
def Drew3 (P : Int → Int → Int → Prop) (w : World) (e : Ending) (w' : World) : Prop := ∃ x y z : Int, e = .returned (.tuple #[.int .i64 x, .int .i64 y, .int .i64 z]) ∧ P x y z ∧ Below w.heap.size w w'
theorem Drew1.mk {P : Int → Prop} {w w' : World} {x : Int} (h : P x) (hb : Below w.heap.size w w') : Drew1 P w (.returned (.int .i64 x)) w' := ⟨x, rfl, h, hb⟩
theorem Drew2.mk {P : Int → Int → Prop} {w w' : World} {x y : Int} (h : P x y) (hb : Below w.heap.size w w') : Drew2 P w (.returned (.tuple #[.int .i64 x, .int .i64 y])) w' := ⟨x, y, rfl, h, hb⟩
theorem Drew3.mk {P : Int → Int → Int → Prop} {w w' : World} {x y z : Int} (h : P x y z) (hb : Below w.heap.size w w') : Drew3 P w (.returned (.tuple #[.int .i64 x, .int .i64 y, .int .i64 z])) w' := ⟨x, y, z, rfl, h, hb⟩
theorem only_below {w w1 w2 : World} (hb : Below w.heap.size w w1) (ho : Only w.heap.size w1 w2) : Below w.heap.size w w2 := hb.trans (ho.below (Nat.le_refl _) hb.size)

/-- ranges -/
def smallI (x : Int) : Prop := -6000 ≤ x ∧ x ≤ 6000
theorem numOk_small {x : Int} (h : numOk x) : -5001 ≤ x ∧ x ≤ 5001 := by unfold numOk at h; omega
theorem prOk_small {x : Int} (h : prOk x) : -3 ≤ x ∧ x ≤ 97 := by unfold prOk at h; omega

end Go.Proofs.Ytbhlgdleklfonaa

/-! Draws2 -/
set_option linter.unusedVariables false
namespace Go.Proofs.Ytbhlgdleklfonaa
open Go.RowKit

/-- the numbers of l91Local -/
def locOk (x : Int) : Prop := numOk x ∨ ∃ a k : Int, 1 ≤ a ∧ a ≤ 9 ∧ 0 ≤ k ∧ k ≤ 2 ∧ x = a * a * (1 + k * 8)
theorem locOk_small {x : Int} (h : locOk x) : -5001 ≤ x ∧ x ≤ 5001 := by
  rcases h with h | ⟨a, k, a1, a9, k0, k2, rfl⟩
  · exact numOk_small h
  · have h1 : a = 1 ∨ a = 2 ∨ a = 3 ∨ a = 4 ∨ a = 5 ∨ a = 6 ∨ a = 7 ∨ a = 8 ∨ a = 9 := by omega
    rcases h1 with rfl | rfl | rfl | rfl | rfl | rfl | rfl | rfl | rfl <;> omega
/-- the second number of l91Pair -/
def parOk (a b : Int) : Prop := numOk b ∨ ∃ x : Int, 1 ≤ x ∧ x ≤ 8 ∧ b = a * x * x
theorem parOk_small {a b : Int} (ha : numOk a) (h : parOk a b) : -320064 ≤ b ∧ b ≤ 320064 := by
  rcases h with h | ⟨x, x1, x8, rfl⟩
  · have := numOk_small h; omega
  · have := numOk_small ha
    have h1 : x = 1 ∨ x = 2 ∨ x = 3 ∨ x = 4 ∨ x = 5 ∨ x = 6 ∨ x = 7 ∨ x = 8 := by omega
    rcases h1 with rfl | rfl | rfl | rfl | rfl | rfl | rfl | rfl <;> omega

end Go.Proofs.Ytbhlgdleklfonaa

/-! Draws6 -/
set_option linter.unusedVariables false
namespace Go.Proofs.Ytbhlgdleklfonaa
open Go.RowKit

theorem Owns.only {W W' : World} {B R : Nat} {v : Value} {xs : List Int} (h : Owns W B v xs) (ho : Only R W W') (hR : R < B) : Owns W' B v xs := by
  obtain ⟨h1, h2⟩ := h
  refine ⟨h1, ?_⟩
  rcases h2 with h2 | ⟨g, cap, cur, hv, hg, hh, r⟩
  · exact .inl h2
  · exact .inr ⟨g, cap, cur, hv, hg, by rw [ho.block g (Array.getElem?_eq_some_iff.1 hh).1 (by omega)]; exact hh, r⟩
theorem Only.grown {R : Nat} {a w w' : World} {row : Option Nat} (h : Only R a w) (hg : w.grownBy w' row) (hr : ∀ k, row = some k → a.heap.size ≤ k) : Only R a w' :=
  ⟨hg.os.trans h.os, hg.tape.trans h.tape, hg.output.trans h.output, Nat.le_trans h.size hg.size, fun k hk hne => (hg.block k (Nat.lt_of_lt_of_le hk h.size) (fun e => by have := hr k e.symm; omega)).trans (h.block k hk hne)⟩
/-- a list whose numbers are small -/
def TermsOk (xs : List Int) : Prop := xs.length ≤ 6 ∧ ∀ x ∈ xs, -31 ≤ x ∧ x ≤ 31
theorem TermsOk.snoc {xs : List Int} {x : Int} (h : TermsOk xs) (hl : xs.length ≤ 5) (h1 : -31 ≤ x) (h2 : x ≤ 31) : TermsOk (xs ++ [x]) :=
  ⟨by rw [List.length_append]; simp; omega, fun y hy => by
    rcases List.mem_append.1 hy with h3 | h3
    · exact h.2 y h3
    · rw [List.mem_singleton] at h3; omega⟩
theorem Owns.slice_of {W : World} {B : Nat} {v : Value} {xs : List Int} (h : Owns W B v xs) (hl : 0 < xs.length) : ∃ g cap, v = .slice (some ⟨g, 0, none⟩) xs.length cap := by
  rcases h.2 with ⟨_, h3⟩ | ⟨g, cap, cur, h3, _⟩
  · cases xs with
    | nil => simp at hl
    | cons x xs => simp at h3
  · exact ⟨g, cap, h3⟩
theorem Owns.stored0 {W : World} {B g cap : Nat} {xs : List Int} (h : Owns W B (.slice (some ⟨g, 0, none⟩) xs.length cap) xs) (x : Int) :
    Owns (W.setCell ⟨g, 0, none⟩ (.int .i64 x)) B (.slice (some ⟨g, 0, none⟩) xs.length cap) (xs.set 0 x) ∧ W.grownBy (W.setCell ⟨g, 0, none⟩ (.int .i64 x)) (some g) := by
  have h2 := World.ownsRow.stored h 0 (.int .i64 x)
  refine ⟨?_, h2.2⟩
  unfold Owns
  rw [List.length_set, List.map_set]
  exact h2.1
def FormPost (c : Nat) (w : World) (B R : Nat) (v : Value) (n p : Nat) (e : Ending) (w' : World) : Prop :=
  ∃ (u : Value) (xs : List Int) (q : Nat), e = .returned u ∧ TermsOk xs ∧ Hid (Owns w' w.heap.size u xs) ∧ q ≤ p + c ∧ Hid (Rdr w' B R v n q) ∧ Hid (Only R w w')
theorem FormPost.mk {c : Nat} {w : World} {B R : Nat} {v : Value} {n p q : Nat} {u : Value} {xs : List Int} {w' : World} (h : TermsOk xs) (ho : Hid (Owns w' w.heap.size u xs)) (hq : q ≤ p + c) (hr : Hid (Rdr w' B R v n q)) (hn : Hid (Only R w w')) : FormPost c w B R v n p (.returned u) w' :=
  ⟨u, xs, q, rfl, h, ho, hq, hr, hn⟩
def litT : Array Value := #[.int .i64 1, .int .i64 2, .int .i64 3, .int .i64 5, .int .i64 6, .int .i64 7, .int .i64 1, .int .i64 10, .int .i64 12, .int .i64 3, .int .i64 15, .int .i64 4, .int .i64 21, .int .i64 1, .int .i64 30, .int .i64 8]
theorem litT_at {y : Int} (h0 : 0 ≤ y) (h1 : y < 16) : ∃ p : Int, litT[y.toNat]? = some (.int .i64 p) ∧ 1 ≤ p ∧ p ≤ 30 := by
  have hall : ∀ i : Nat, i < 16 → ∃ p : Int, litT[i]? = some (.int .i64 p) ∧ 1 ≤ p ∧ p ≤ 30 := fun i hi => by
    have : i = 0 ∨ i = 1 ∨ i = 2 ∨ i = 3 ∨ i = 4 ∨ i = 5 ∨ i = 6 ∨ i = 7 ∨ i = 8 ∨ i = 9 ∨ i = 10 ∨ i = 11 ∨ i = 12 ∨ i = 13 ∨ i = 14 ∨ i = 15 := by omega
    rcases this with rfl | rfl | rfl | rfl | rfl | rfl | rfl | rfl | rfl | rfl | rfl | rfl | rfl | rfl | rfl | rfl
    all_goals exact ⟨_, rfl, by omega, by omega⟩
  exact hall y.toNat (by omega)
theorem TermsOk.set0 {xs : List Int} {x : Int} (h : TermsOk xs) (h1 : -31 ≤ x) (h2 : x ≤ 31) : TermsOk (xs.set 0 x) :=
  ⟨by rw [List.length_set]; exact h.1, fun y hy => by
    rcases List.mem_or_eq_of_mem_set hy with h3 | h3
    · exact h.2 y h3
    · omega⟩

set_option maxRecDepth 100000 in
set_option maxHeartbeats 4000000 in
theorem formDraw_any (B R : Nat) (v : Value) (n p m : Nat) (hp : p ≤ 700000000000000) (hm1 : 1 ≤ m) (hm2 : m ≤ 5) (w : World) (HR : Hid (Rdr w B R v n p)) (hB : B ≤ w.heap.size) :
    Calls Try.prog 68 #[.pointer (some ⟨R, 0, none⟩), .int .i64 m] w (FormPost 20 w B R v n p) := by
  obtain ⟨i0, hi, hz0, hz1, hz2⟩ := info_parts infoInt
  have hRs := HR.out.lt
  have hBR := HR.out.1
  have HO0 : Hid (Owns (w.alloc (.cells #[] 3)) w.heap.size (.slice (some ⟨w.heap.size, 0, none⟩) 0 0) []) := hid (World.ownsRow_made (size := 1) w #[] 0 (Nat.le_refl _) (by unfold maxLen; omega) rfl)
  go_enter Try.func68, Try.ntmps68
  go_wp2_with fail
  refine (pick_any _ _ _ _ p (m : Int) (by omega) (by omega) (by omega) _ (HR.out.alloc (by omega) _)).mono ?_
  rintro e wHA ⟨y, q, rfl, hy0, hy1, _, hq, HA, HO⟩
  replace hy1 := hy1 (by omega)
  have HON := hid (((Only.refl R w).alloc (.cells #[] 3)).trans HO.out)
  have HOW := hid (HO0.out.only HO.out hRs)
  have hs1 := HON.out.size
  have hy5 : y ≤ 4 := by omega
  obtain ⟨N, rfl⟩ := Int.eq_ofNat_of_zero_le hy0
  clear HO0 HO
  go_wp2_with fail
  go_loopw [5, 7] (fun so si wr => ∃ (K r : Nat) (xs : List Int), si = .int .i64 K ∧ K ≤ N + 1 ∧ r ≤ p + 1 + 2 * K ∧ xs.length = K ∧ Hid (TermsOk xs) ∧ Hid (Owns wr w.heap.size so xs) ∧ Hid (Rdr wr B R v n r) ∧ Hid (Only R w wr)) (fun _ si _ => 10 - (intOf si).toNat)
  case atStart => exact ⟨0, q, [], rfl, by omega, by omega, rfl, hid ⟨by simp, fun x hx => by cases hx⟩, HOW, HA, HON⟩
  case round =>
    obtain ⟨K, r, xs, rfl, hK, hr, hxl, HT, HOr, HRr, HNr⟩ := hrel
    rename World => wr
    have hsr := HNr.out.size
    by_cases hlt : K < N + 1
    · have hKi : (K : Int) < 1 + (N : Int) := by omega
      have hRr := HRr.out.lt
      go_wp2_with fail
      refine (pick_any _ _ _ _ r 16 (by omega) (by omega) (by omega) _ (HRr.out.alloc (by omega) _)).mono ?_
      rintro e wHC ⟨k, s, rfl, hk0, hk1, _, hs, HC, HP⟩
      replace hk1 := hk1 (by omega)
      obtain ⟨x, hx, hx1, hx2⟩ := litT_at hk0 hk1
      have c := lit_cell (fr := (0, 0)) HP.out hRr k.toNat
      have hc : wHC.cell? ⟨wr.heap.size, k.toNat, none⟩ = some (.int .i64 x) := c.trans hx
      have HN2 := hid ((HNr.out.alloc (.cells litT 3)).trans HP.out)
      have HO2 := hid ((Owns.only (W' := wHC) (show Owns (wr.alloc (.cells litT 3)) w.heap.size u5 xs from HOr.out.alloc _) HP.out (by omega)))
      have hs2 := HN2.out.size
      clear HOr HRr HNr HP hx c
      go_wp2_with fail
      refine (pick_any _ _ _ _ s 5 (by omega) (by omega) (by omega) _ (HC.out)).mono ?_
      rintro e wHD ⟨k2, s2, rfl, hk20, hk21, _, hs2, HD, HQ⟩
      replace hk21 := hk21 (by omega)
      have HN3 := hid (HN2.out.trans HQ.out)
      have HO3 := hid (HO2.out.only HQ.out (by omega))
      have hs3 := HN3.out.size
      clear HO2 HN2 HQ HC hc
      obtain ⟨z, hz⟩ : ∃ z : Int, z = 0 - x := ⟨_, rfl⟩
      by_cases hneg : k2 < 2
      · skip
        go_wp2_with (at_builtin; refine wpList_append_own_at _ rfl _ _ 23 rfl w.heap.size 3 i0 (.int .i64 0) 1 8 Try.underlying23 hi hz0 hz1 hz2 rfl (by decide) _ _ _ rfl ((show World.ownsRow _ _ _ _ _ _ _ from HO3.out).alloc _) ⟨wHD.heap.size, 0, none⟩ 1 1 [.int .i64 (-x)] rfl rfl (cell_one_new _ _ _) (by simp [Value.oneCell']) (by unfold maxLen; omega) (by omega) (by simp; omega) ?_; intro v' w3 hown' hgrow _ hat)
        have hsg := hgrow.size
        simp only [World.size_alloc] at hsg
        have HN4 := hid ((HN3.out.alloc (.cells #[.int .i64 (-x)] 3)).grown hgrow (fun k e => (HO3.out.ge k e)))
        have HR4 := hid (((HD.out.alloc (by omega) (.cells #[.int .i64 (-x)] 3)).kept (((Below.refl w.heap.size _).grown hgrow (by simp; omega) (fun k e => (HO3.out.ge k e)))) (by omega) (by omega)))
        go_roundw
        case measure => simp only [intOf]; omega
        case rel =>
          exact ⟨K + 1, s2, xs ++ [-x], by go_num, by omega, by omega, by rw [List.length_append]; simp; exact hxl, hid (HT.out.snoc (by omega) (by omega) (by omega)), hid (by unfold Owns; simpa using hown'), HR4, HN4⟩
      · skip
        go_wp2_with (at_builtin; refine wpList_append_own_at _ rfl _ _ 23 rfl w.heap.size 3 i0 (.int .i64 0) 1 8 Try.underlying23 hi hz0 hz1 hz2 rfl (by decide) _ _ _ rfl ((show World.ownsRow _ _ _ _ _ _ _ from HO3.out).alloc _) ⟨wHD.heap.size, 0, none⟩ 1 1 [.int .i64 x] rfl rfl (cell_one_new _ _ _) (by simp [Value.oneCell']) (by unfold maxLen; omega) (by omega) (by simp; omega) ?_; intro v' w3 hown' hgrow _ hat)
        have hsg := hgrow.size
        simp only [World.size_alloc] at hsg
        have HN4 := hid ((HN3.out.alloc (.cells #[.int .i64 x] 3)).grown hgrow (fun k e => (HO3.out.ge k e)))
        have HR4 := hid (((HD.out.alloc (by omega) (.cells #[.int .i64 x] 3)).kept (((Below.refl w.heap.size _).grown hgrow (by simp; omega) (fun k e => (HO3.out.ge k e)))) (by omega) (by omega)))
        go_roundw
        case measure => simp only [intOf]; omega
        case rel =>
          exact ⟨K + 1, s2, xs ++ [x], by go_num, by omega, by omega, by rw [List.length_append]; simp; exact hxl, hid (HT.out.snoc (by omega) (by omega) (by omega)), hid (by unfold Owns; simpa using hown'), HR4, HN4⟩
    · obtain rfl : K = N + 1 := by omega
      have hKi : ¬ ((N + 1 : Nat) : Int) < 1 + (N : Int) := by omega
      go_wp2_with fail
      refine (pick_any _ _ _ _ r 40 (by omega) (by omega) (by omega) _ (HRr.out)).mono ?_
      rintro e wHC ⟨k, s, rfl, hk0, hk1, _, hs, HC, HP⟩
      replace hk1 := hk1 (by omega)
      have HN2 := hid (HNr.out.trans HP.out)
      have HO2 := hid (HOr.out.only HP.out (by omega))
      have hs2 := HN2.out.size
      clear HOr HNr HP
      by_cases hk : k = 0
      · subst hk
        obtain ⟨g, cap, rfl⟩ := HO2.out.slice_of (by omega)
        have hg := HO2.out.ge g rfl
        have hgl := HO2.out.lt g rfl
        have hRw := HC.out.lt
        go_wp2_with fail
        refine (pick_any _ _ _ _ s 2 (by omega) (by omega) (by omega) _ (HC.out.alloc (by omega) _)).mono ?_
        rintro e wHD ⟨k2, s2, rfl, hk20, hk21, _, hs2, HD, HQ⟩
        replace hk21 := hk21 (by omega)
        have HO3 := hid (Owns.only (W' := wHD) (show Owns (wHC.alloc (.cells #[.int .i64 0, .int .i64 31] 3)) w.heap.size (.slice (some ⟨g, 0, none⟩) xs.length cap) xs from HO2.out.alloc _) HQ.out (by omega))
        have HN3 := hid ((HN2.out.alloc (.cells #[.int .i64 0, .int .i64 31] 3)).trans HQ.out)
        have hs3 := HN3.out.size
        have hk2c : k2 = 0 ∨ k2 = 1 := by omega
        have f1 := World.ownsRow.frozenAt HO3.out 0
        have hlen : xs.length = N + 1 := hxl
        have c1 : ∃ x0, wHD.cell? ⟨g, 0, none⟩ = some (.int .i64 x0) := by
          have hK2 : 0 < xs.length := by omega
          refine ⟨xs[0], ?_⟩
          rw [World.ownsRow.cellAt HO3.out 0 (by omega), List.getElem?_map, List.getElem?_eq_getElem hK2]
          rfl
        obtain ⟨x0, c1⟩ := c1
        rcases hk2c with rfl | rfl
        · have c := lit_cell (fr := (0, 0)) HQ.out hRw 0
          simp at c
          have HS := hid (HO3.out.stored0 0)
          have HZ := hid (HT.out.set0 (x := 0) (by omega) (by omega))
          have hi0 : (0 : Int) < (xs.length : Int) := by omega
          go_wp2
          go_ret
          have HS1 := HS.out.1
          rw [hlen] at HS1
          exact FormPost.mk HZ.out (hid HS1) (by omega) (hid (HD.out.kept ((Below.refl w.heap.size _).grown HS.out.2 hs3 (fun k e => by cases e; exact hg)) (by omega) (by omega))) (hid (HN3.out.grown HS.out.2 (fun k e => by cases e; exact hg)))
        · have c := lit_cell (fr := (0, 0)) HQ.out hRw 1
          simp at c
          have HS := hid (HO3.out.stored0 31)
          have HZ := hid (HT.out.set0 (x := 31) (by omega) (by omega))
          have hi0 : (0 : Int) < (xs.length : Int) := by omega
          go_wp2
          go_ret
          have HS1 := HS.out.1
          rw [hlen] at HS1
          exact FormPost.mk HZ.out (hid HS1) (by omega) (hid (HD.out.kept ((Below.refl w.heap.size _).grown HS.out.2 hs3 (fun k e => by cases e; exact hg)) (by omega) (by omega))) (hid (HN3.out.grown HS.out.2 (fun k e => by cases e; exact hg)))
      · by_cases hk : k = 1
        · subst hk
          go_wp2
          go_ret
          exact FormPost.mk (xs := []) ⟨by simp, fun x hx => by cases hx⟩ (hid (World.ownsRow_made (size := 1) wHC #[] 0 (by omega) (by unfold maxLen; omega) rfl)) (by omega) (hid (HC.out.alloc (by omega) _)) (hid (HN2.out.alloc _))
        · go_wp2
          go_ret
          exact FormPost.mk HT.out HO2 (by omega) HC HN2

end Go.Proofs.Ytbhlgdleklfonaa

/-! Jac2 -/
set_option linter.unusedVariables false
namespace Go.Proofs.Ytbhlgdleklfonaa
open Go.RowKit Go.Shelf
attribute [local go_sem] Oper.semAt_some

theorem others_of_below {W W' : World} (h : Below W.heap.size W W') : KeepsOthers W W' := ⟨h.size, fun k o hk _ => by
  rw [h.block k (Array.getElem?_eq_some_iff.1 hk).1]; exact hk⟩
theorem below_of_drew {W W' : World} (h : Below W.drew.heap.size W.drew W') : Below W.heap.size W W' := ⟨h.os, h.tape, h.output, h.size, h.block⟩
theorem boxed_below {W W' : World} {B : Nat} {t : TypeId} {v : Value} (h : Boxed W B t v) (hb : Below W.heap.size W W') : Boxed W' B t v := (hb.block B h.lt).trans h

def jacP (n : Int) (l : List PP) : Int := jacW n (l.map (·.1))
theorem jacP_snoc (n : Int) (l : List PP) (x : PP) : jacP n (l ++ [x]) = jmW (jacP n l) (resV n (x.1.1 : Int)) x.1.2 := by
  unfold jacP; rw [List.map_append]; exact jacW_step n _ _

end Go.Proofs.Ytbhlgdleklfonaa

/-! Region -/
set_option linter.unusedVariables false
namespace Go.Proofs.Ytbhlgdleklfonaa
open Go.RowKit

theorem pred_nat (J : Nat) (h : J ≤ 1000) : IntKind.i64.wrap (((J + 1 : Nat) : Int) - 1) = (J : Int) := by
  rw [IntWalk.i64_in _ (by omega)]; omega

section
variable {P : Program} {ops : Array Oper} {Q : Exit → Act → World → Prop} {md : Region.Mode} {S : World → Prop}
theorem h_take (oi : Oper) {i : Nat} {d : Option Tmp} {v : Value} {fuel : Nat} {listed : Array Bool} {a : Act} {w : World} (hi : ops[i]? = some oi) (hd : oi.dst = d)
    (hs : Region.noSelect ops = true) (hf : Region.free md ops listed i = true) (hr : (Region.ready md ops listed).contains i = true)
    (hQ : ∀ c a w, Q (.panic c) (a.put d v) w → Q (.panic c) a w) (hw : Region.wanted oi (yielded ops a.tmps) = true)
    (hy : ∀ w, S w → (execOp a.eval oi).run P w = .ok (.value v) w) (hS : S w)
    (h : wpAnyH P md ops Q S fuel (listed.setIfInBounds i true) (a.put d v) w) : wpAnyH P md ops Q S (fuel + 1) listed a w := by
  subst hd; exact wpAnyH_take hi hs hf hr hQ (.inl ⟨hw, hy⟩) hS h
theorem h_skip (oi : Oper) {i : Nat} {d : Option Tmp} {fuel : Nat} {listed : Array Bool} {a : Act} {w : World} (hi : ops[i]? = some oi) (hd : oi.dst = d)
    (hs : Region.noSelect ops = true) (hf : Region.free md ops listed i = true) (hr : (Region.ready md ops listed).contains i = true)
    (hQ : ∀ c a w, Q (.panic c) (a.put d undef) w → Q (.panic c) a w) (hw : Region.wanted oi (yielded ops a.tmps) = false) (hS : S w)
    (h : wpAnyH P md ops Q S fuel (listed.setIfInBounds i true) (a.put d undef) w) : wpAnyH P md ops Q S (fuel + 1) listed a w := by
  subst hd; exact wpAnyH_take hi hs hf hr hQ (.inr ⟨hw, rfl⟩) hS h
end

end Go.Proofs.Ytbhlgdleklfonaa

/-! Draws7 -/
set_option linter.unusedVariables false
namespace Go.Proofs.Ytbhlgdleklfonaa
open Go.RowKit

theorem Owns.base {W : World} {B C : Nat} {v : Value} {xs : List Int} (h : Owns W C v xs) (hb : B ≤ C) : Owns W B v xs := by
  obtain ⟨h1, h2⟩ := h
  refine ⟨h1, ?_⟩
  rcases h2 with h2 | ⟨g, cap, cur, hv, hg, r⟩
  · exact .inl h2
  · exact .inr ⟨g, cap, cur, hv, Nat.le_trans hb hg, r⟩
def DrewF (P : List Int → Prop) (w : World) (e : Ending) (w' : World) : Prop := ∃ (u : Value) (xs : List Int), e = .returned u ∧ P xs ∧ Hid (Owns w' w.heap.size u xs) ∧ Below w.heap.size w w'
def DrewFF (P : List Int → List Int → Prop) (w : World) (e : Ending) (w' : World) : Prop := ∃ (u v : Value) (xs ys : List Int), e = .returned (.tuple #[u, v]) ∧ P xs ys ∧ Hid (Owns w' w.heap.size u xs) ∧ Hid (Rd w' v ys) ∧ Firm v ∧ Below w.heap.size w w'
def DrewFI (P : List Int → Int → Prop) (w : World) (e : Ending) (w' : World) : Prop := ∃ (u : Value) (xs : List Int) (y : Int), e = .returned (.tuple #[u, .int .i64 y]) ∧ P xs y ∧ Hid (Owns w' w.heap.size u xs) ∧ Below w.heap.size w w'
theorem DrewF.mk {P : List Int → Prop} {w w' : World} {u : Value} {xs : List Int} (h : P xs) (ho : Owns w' w.heap.size u xs) (hb : Below w.heap.size w w') : DrewF P w (.returned u) w' := ⟨u, xs, rfl, h, hid ho, hb⟩
theorem DrewFF.mk {P : List Int → List Int → Prop} {w w' : World} {u v : Value} {xs ys : List Int} (h : P xs ys) (ho : Owns w' w.heap.size u xs) (hr : Rd w' v ys) (hf : Firm v) (hb : Below w.heap.size w w') : DrewFF P w (.returned (.tuple #[u, v])) w' := ⟨u, v, xs, ys, rfl, h, hid ho, hid hr, hf, hb⟩
theorem DrewFI.mk {P : List Int → Int → Prop} {w w' : World} {u : Value} {xs : List Int} {y : Int} (h : P xs y) (ho : Owns w' w.heap.size u xs) (hb : Below w.heap.size w w') : DrewFI P w (.returned (.tuple #[u, .int .i64 y])) w' := ⟨u, xs, y, rfl, h, hid ho, hb⟩








end Go.Proofs.Ytbhlgdleklfonaa

/-! Draws8 -/
set_option linter.unusedVariables false
namespace Go.Proofs.Ytbhlgdleklfonaa
open Go.RowKit

theorem Rdr.drew' {W : World} {B R : Nat} {v : Value} {n p : Nat} (h : Rdr W B R v n p) : Rdr W.drew B R v n p := h
theorem Only.of_drew' {R : Nat} {W W' : World} (h : Only R W.drew W') : Only R W W' := ⟨h.os, h.tape, h.output, h.size, h.block⟩
theorem pickLit (cs : Array Value) (m : Int) (P : Int → Prop) (hm : 1 ≤ m) (hm2 : m ≤ 1000) (hl : ∀ y : Int, 0 ≤ y → y < m → ∃ pv, cs[y.toNat]? = some (.int .i64 pv) ∧ P pv) (B R : Nat) (v : Value) (n p : Nat) (hp : p ≤ 1000000000000000) (w2 : World) (HA : Hid (Rdr w2 B R v n p)) (hB : B ≤ w2.heap.size) :
    Calls Try.prog 67 #[.pointer (some ⟨R, 0, none⟩), .int .i64 m] ((w2.alloc (.cells cs 3)).drew) fun e w' => ∃ (y pv : Int), e = .returned (.int .i64 y) ∧ 0 ≤ y ∧ y < m ∧ w'.cell? ⟨w2.heap.size, y.toNat, none⟩ = some (.int .i64 pv) ∧ P pv ∧ Hid (Only R w2 w') := by
  have hR := HA.out.lt
  refine (pick_any _ _ _ _ p m (by omega) (by omega) (by omega) _ ((HA.out.alloc (by omega) _).drew')).mono ?_
  rintro e w3 ⟨y, r, rfl, hy0, hy1, _, hr, HC, HP⟩
  replace hy1 := hy1 (by omega)
  obtain ⟨pv, hpv, hpl⟩ := hl y hy0 hy1
  have HQ := HP.out.of_drew'
  have c := lit_cell (fr := (0, 0)) HQ hR y.toNat
  exact ⟨y, pv, rfl, hy0, hy1, c.trans hpv, hpl, hid (((Only.refl _ _).alloc _).trans HQ)⟩
theorem pickLit2 (cs : Array Value) (m : Int) (P : Int → Prop) (hm : 1 ≤ m) (hm2 : m ≤ 1000) (hl : ∀ y : Int, 0 ≤ y → y < m → ∃ pv, cs[y.toNat]? = some (.int .i64 pv) ∧ P pv) (B R : Nat) (v : Value) (n p : Nat) (hp : p ≤ 1000000000000000) (w2 : World) (HA : Hid (Rdr w2 B R v n p)) (hB : B ≤ w2.heap.size) :
    Calls Try.prog 67 #[.pointer (some ⟨R, 0, none⟩), .int .i64 m] w2.drew fun e w' => ∃ (y pv : Int), e = .returned (.int .i64 y) ∧ 0 ≤ y ∧ y < m ∧ (w'.alloc (.cells cs 3)).cell? ⟨w'.heap.size, y.toNat, none⟩ = some (.int .i64 pv) ∧ P pv ∧ Hid (Only R w2 w') := by
  refine (pick_any _ _ _ _ p m (by omega) (by omega) (by omega) _ HA.out.drew').mono ?_
  rintro e w3 ⟨y, r, rfl, hy0, hy1, _, hr, HC, HP⟩
  replace hy1 := hy1 (by omega)
  obtain ⟨pv, hpv, hpl⟩ := hl y hy0 hy1
  refine ⟨y, pv, rfl, hy0, hy1, ?_, hpl, hid HP.out.of_drew'⟩
  rw [Go.cell_of_row _ _ _ _ _ _ (World.alloc_heap_new w3 _)]
  exact hpv

def facOk (y : Int) : Prop := (-3 ≤ y ∧ y ≤ 5) ∨ y = 5001
theorem fac2 : ∀ y : Int, 0 ≤ y → y < 2 → ∃ pv, (#[.int .i64 0, .int .i64 5001] : Array Value)[y.toNat]? = some (.int .i64 pv) ∧ facOk pv := by
  intro y h0 h1
  have : y = 0 ∨ y = 1 := by omega
  rcases this with rfl | rfl
  all_goals exact ⟨_, rfl, by unfold facOk; omega⟩
theorem fac8 : ∀ y : Int, 0 ≤ y → y < 8 → ∃ pv, (#[.int .i64 1, .int .i64 (-1), .int .i64 2, .int .i64 3, .int .i64 (-2), .int .i64 4, .int .i64 5, .int .i64 (-3)] : Array Value)[y.toNat]? = some (.int .i64 pv) ∧ facOk pv := by
  intro y h0 h1
  have : y = 0 ∨ y = 1 ∨ y = 2 ∨ y = 3 ∨ y = 4 ∨ y = 5 ∨ y = 6 ∨ y = 7 := by omega
  rcases this with rfl | rfl | rfl | rfl | rfl | rfl | rfl | rfl
  all_goals exact ⟨_, rfl, by unfold facOk; omega⟩


end Go.Proofs.Ytbhlgdleklfonaa

/-! Draws9 -/
set_option linter.unusedVariables false
namespace Go.Proofs.Ytbhlgdleklfonaa
open Go.RowKit

def VecOk (m : Nat) (k : Int) (ys : List Int) : Prop := ys.length = m ∧ ∀ y ∈ ys, -k ≤ y ∧ y ≤ k
theorem VecOk.snoc {m : Nat} {k : Int} {ys : List Int} {x : Int} (h : VecOk m k ys) (h1 : -k ≤ x) (h2 : x ≤ k) : VecOk (m + 1) k (ys ++ [x]) :=
  ⟨by rw [List.length_append, h.1]; rfl, fun y hy => by
    rcases List.mem_append.1 hy with h3 | h3
    · exact h.2 y h3
    · rw [List.mem_singleton] at h3; subst h3; exact ⟨h1, h2⟩⟩
def VecPost (m : Nat) (w : World) (B R : Nat) (v : Value) (n p : Nat) (e : Ending) (w' : World) : Prop :=
  ∃ (u : Value) (ys : List Int) (q : Nat), e = .returned u ∧ VecOk m 9 ys ∧ Hid (Owns w' w.heap.size u ys) ∧ q ≤ p + m ∧ Hid (Rdr w' B R v n q) ∧ Hid (Only R w w')
theorem VecPost.mk {m : Nat} {w : World} {B R : Nat} {v : Value} {n p q : Nat} {u : Value} {ys : List Int} {w' : World} (h : VecOk m 9 ys) (ho : Hid (Owns w' w.heap.size u ys)) (hq : q ≤ p + m) (hr : Hid (Rdr w' B R v n q)) (hn : Hid (Only R w w')) : VecPost m w B R v n p (.returned u) w' :=
  ⟨u, ys, q, rfl, h, ho, hq, hr, hn⟩

set_option maxRecDepth 100000 in
set_option maxHeartbeats 4000000 in
theorem vector_any (B R : Nat) (v : Value) (n p m : Nat) (hp : p ≤ 700000000000000) (hm2 : m ≤ 6) (a : Option Addr) (cap : Nat) (w : World) (HR : Hid (Rdr w B R v n p)) (hB : B ≤ w.heap.size) :
    Calls Try.prog 99 #[.pointer (some ⟨R, 0, none⟩), .slice a m cap, .int .i64 9] w (VecPost m w B R v n p) := by
  obtain ⟨i0, hi, hz0, hz1, hz2⟩ := info_parts infoInt
  have hRs := HR.out.lt
  have hBR := HR.out.1
  have HO0 : Hid (Owns (w.alloc (.cells #[] 3)) w.heap.size (.slice (some ⟨w.heap.size, 0, none⟩) 0 0) []) := hid (World.ownsRow_made (size := 1) w #[] 0 (Nat.le_refl _) (by unfold maxLen; omega) rfl)
  have HRA := hid (HR.out.alloc hB (.cells #[] 3))
  have HON := hid ((Only.refl R w).alloc (.cells #[] 3))
  go_enter Try.func99, Try.ntmps99
  go_wp2_with fail
  go_loopw [7, 8] (fun so si wr => ∃ (K r : Nat) (ys : List Int), si = .int .i64 K ∧ K ≤ m ∧ r ≤ p + K ∧ Hid (VecOk K 9 ys) ∧ Hid (Owns wr w.heap.size so ys) ∧ Hid (Rdr wr B R v n r) ∧ Hid (Only R w wr)) (fun _ si _ => 10 - (intOf si).toNat)
  case atStart => exact ⟨0, p, [], rfl, by omega, by omega, hid ⟨rfl, fun x hx => by cases hx⟩, HO0, HRA, HON⟩
  case round =>
    obtain ⟨K, r, ys, rfl, hK, hr, HT, HOr, HRr, HNr⟩ := hrel
    rename World => wr
    have hsr := HNr.out.size
    have hyl := HT.out.1
    by_cases hlt : K < m
    · have hKi : (K : Int) < (m : Int) := by omega
      have hRr := HRr.out.lt
      go_wp2_with (first | (go_at_call 67; refine (pick_any _ _ _ _ r 19 (by omega) (by omega) (by omega) _ HRr.out).mono ?_; rintro e wq ⟨k, s, rfl, hk0, hk1, _, hs, HC, HP⟩; replace hk1 := hk1 (by omega); have HO2 := hid (HOr.out.only HP.out (by omega)); have HN2 := hid (HNr.out.trans HP.out); have hs2 := HN2.out.size) | (at_builtin; refine wpList_append_own_at _ rfl _ _ 23 rfl w.heap.size 3 i0 (.int .i64 0) 1 8 Try.underlying23 hi hz0 hz1 hz2 rfl (by decide) _ _ _ rfl ((show World.ownsRow _ _ _ _ _ _ _ from HO2.out).alloc _) ⟨wq.heap.size, 0, none⟩ 1 1 [.int .i64 (k - 9)] rfl rfl (cell_one_new _ _ _) (by simp [Value.oneCell']) (by unfold maxLen; omega) (by omega) (by simp; omega) ?_; intro v' w3 hown' hgrow _ hat))
      have hsg := hgrow.size
      simp only [World.size_alloc] at hsg
      have HN4 := hid ((HN2.out.alloc (.cells #[.int .i64 (k - 9)] 3)).grown hgrow (fun k e => (HO2.out.ge k e)))
      have HR4 := hid (((HC.out.alloc (by omega) (.cells #[.int .i64 (k - 9)] 3)).kept (((Below.refl w.heap.size _).grown hgrow (by simp; omega) (fun k e => (HO2.out.ge k e)))) (by omega) (by omega)))
      go_roundw
      case measure => simp only [intOf]; omega
      case rel =>
        exact ⟨K + 1, s, ys ++ [k - 9], by go_num, by omega, by omega, hid (HT.out.snoc (by omega) (by omega)), hid (by unfold Owns; simpa using hown'), HR4, HN4⟩
    · obtain rfl : K = m := by omega
      go_wp2
      go_ret
      exact VecPost.mk HT.out HOr (by omega) HRr HNr

end Go.Proofs.Ytbhlgdleklfonaa

/-! Draws10 -/
set_option linter.unusedVariables false
namespace Go.Proofs.Ytbhlgdleklfonaa
open Go.RowKit

theorem Owns.reads {W : World} {B : Nat} {v : Value} {xs : List Int} (h : Owns W B v xs) : ∃ a cap, v = .slice a xs.length cap := by
  rcases h.2 with ⟨h3, h4⟩ | ⟨g, cap, cur, h3, _⟩
  · have h5 : xs.length = 0 := h4
    exact ⟨none, 0, by rw [h3, h5]⟩
  · exact ⟨_, cap, h3⟩
theorem Owns.room {W : World} {B g cap n : Nat} {xs : List Int} (h : Owns W B (.slice (some ⟨g, 0, none⟩) n cap) xs) : xs.length ≤ cap := by
  rcases h.2 with ⟨h3, h4⟩ | ⟨g, cap, cur, h3, _, _, h4, _⟩
  · cases h3
  · simp only [Value.slice.injEq] at h3
    omega
/-- a slice cut at its head -/
theorem Rd.drop {W : World} {g o n cap k : Nat} {xs : List Int} (h : Rd W (.slice (some ⟨g, o, none⟩) n cap) xs) (hk : k ≤ n) (hn : xs.length = n) : Rd W (.slice (some ⟨g, o + k, none⟩) (n - k) (cap - k)) (xs.drop k) := by
  subst hn
  by_cases h0 : xs.length = k
  · exact .inl ⟨_, _, by rw [h0, Nat.sub_self], List.drop_eq_nil_of_le (by omega)⟩
  · rcases h with ⟨a, c, hv, hx⟩ | ⟨b, o', c, hv, hl, hm, hc⟩
    · subst hx; have e : ([] : List Int).length = 0 := rfl; omega
    · simp only [Value.slice.injEq, Option.some.injEq, Addr.mk.injEq, and_true, true_and] at hv
      obtain ⟨⟨rfl, rfl⟩, rfl⟩ := hv
      refine .inr ⟨g, o + k, cap - k, by rw [List.length_drop], by rw [List.length_drop]; omega, by rw [List.length_drop]; omega, fun i hi => ?_⟩
      rw [List.length_drop] at hi
      have := hc (k + i) (by omega)
      rw [show o + k + i = o + (k + i) by omega, this]
      simp [List.getD]
theorem Rd.cut {W : World} {g o n cap k : Nat} {xs : List Int} (h : Rd W (.slice (some ⟨g, o, none⟩) n cap) xs) (hk : k ≤ n) (hn : xs.length = n) (hc : n ≤ cap) : Rd W (.slice (if cap = k then some ⟨g, o, none⟩ else some ⟨g, o + k, none⟩) (n - k) (cap - k)) (xs.drop k) := by
  by_cases e : cap = k
  · exact .inl ⟨_, _, by rw [show n - k = 0 by omega], List.drop_eq_nil_of_le (by omega)⟩
  · rw [if_neg e]
    exact h.drop hk hn
theorem Rd.take {W : World} {g o n cap k c : Nat} {xs : List Int} (h : Rd W (.slice (some ⟨g, o, none⟩) n cap) xs) (hk : k ≤ n) (hn : xs.length = n) (hcc : cap ≤ c := by exact Nat.le_refl _) : Rd W (.slice (some ⟨g, o, none⟩) k c) (xs.take k) := by
  subst hn
  by_cases h0 : k = 0
  · exact .inl ⟨_, _, by rw [h0], by rw [h0]; rfl⟩
  · rcases h with ⟨a, c, hv, hx⟩ | ⟨b, o', c', hv, hl, hm, hc⟩
    · subst hx; simp at hk; omega
    · simp only [Value.slice.injEq, Option.some.injEq, Addr.mk.injEq, and_true, true_and] at hv
      obtain ⟨⟨rfl, rfl⟩, rfl⟩ := hv
      have e : (xs.take k).length = k := by rw [List.length_take]; omega
      refine .inr ⟨g, o, c, by rw [e], by omega, by omega, fun i hi => ?_⟩
      rw [e] at hi
      rw [hc i (by omega)]
      simp [List.getD, hi]
theorem firm_cut (c : Prop) [Decidable c] (x y : Addr) (n k : Nat) : Firm (.slice (if c then some x else some y) n k) := by
  by_cases h : c
  · rw [if_pos h]; exact .inr ⟨_, _, _, rfl⟩
  · rw [if_neg h]; exact .inr ⟨_, _, _, rfl⟩
theorem Owns.kept0 {W W' : World} {B : Nat} {v : Value} {xs : List Int} {g : Nat} (h : Owns W B v xs) (hg : W.grownBy W' (some g)) (hne : ∀ k, v.ownBlock = some k → k < g) : Owns W' B v xs :=
  World.ownsRow.kept h hg (by
    cases e : v.ownBlock with
    | none => exact .inl rfl
    | some k => exact .inr (fun e2 => by have := hne k e; cases e2; omega))
def VecGood (m : Nat) (ys : List Int) : Prop := ys.length ≤ m ∧ ∀ y ∈ ys, -1001 ≤ y ∧ y ≤ 1001
theorem VecOk.good {m : Nat} {ys : List Int} (h : VecOk m 9 ys) : VecGood m ys := ⟨by rw [h.1]; exact Nat.le_refl _, fun y hy => by have := h.2 y hy; omega⟩
theorem VecGood.drop {m k : Nat} {ys : List Int} (h : VecGood m ys) : VecGood m (ys.drop k) := ⟨by rw [List.length_drop]; have := h.1; omega, fun y hy => h.2 y (List.mem_of_mem_drop hy)⟩
theorem VecGood.set0 {m : Nat} {ys : List Int} {x : Int} (h : VecGood m ys) (h1 : -1001 ≤ x) (h2 : x ≤ 1001) : VecGood m (ys.set 0 x) :=
  ⟨by rw [List.length_set]; exact h.1, fun y hy => by
    rcases List.mem_or_eq_of_mem_set hy with h3 | h3
    · exact h.2 y h3
    · subst h3; exact ⟨h1, h2⟩⟩


end Go.Proofs.Ytbhlgdleklfonaa

/-! FmLen -/
set_option linter.unusedVariables false
namespace Go.Proofs.Ytbhlgdleklfonaa
open Go.RowKit

theorem fpl_len (xs : List Int) : (fplL xs).length ≤ 1000 := by
  unfold fplL
  cases hf : fvB xs with
  | false => simp
  | true =>
    have hp := prod_full hf
    obtain ⟨h1, h2, _⟩ := plistG_spec (show 0 < (prodI xs).natAbs by have := hp.1; omega)
    have h3 := asc_len _ 0 30 h2 (fun x hx => ⟨Nat.zero_le _, (small_prime (fvB_iff.1 hf).1 (h1 x hx).1 (h1 x hx).2).1⟩)
    rw [if_pos rfl]
    unfold placesG
    have h4 := List.length_filter_le (fun x : Int => decide (2 < x)) (natsI (plistG (prodI xs).natAbs))
    rw [natsI_len] at h4
    rw [List.length_append]
    simp only [List.length_cons, List.length_nil]
    omega
theorem bad_len (xs : List Int) : (badL xs).length ≤ 1000 := Nat.le_trans (List.length_filter_le _ _) (fpl_len xs)
theorem fcores_len (xs : List Int) : (fcoresL xs).length ≤ 1000 := by
  unfold fcoresL
  cases hf : fvB xs with
  | false => simp
  | true =>
    have := (fvB_iff.1 hf).2.2
    rw [if_pos rfl]
    unfold timesL
    rw [List.length_map]
    omega
theorem ftimes_len (xs : List Int) (n : Int) : (ftimesL xs n).length ≤ 1000 := by
  unfold ftimesL
  cases ht : timesOk xs n with
  | false => simp
  | true =>
    unfold timesOk at ht
    rw [Bool.and_eq_true] at ht
    have := (fvB_iff.1 ht.1).2.2
    rw [if_pos rfl]
    unfold timesL
    rw [List.length_map]
    omega
theorem join_len (xs ys : List Int) : (joinL xs ys).length ≤ 1000 := by
  unfold joinL
  cases ht : joinOk xs ys with
  | false => simp
  | true =>
    unfold joinOk at ht
    rw [Bool.and_eq_true, Bool.and_eq_true] at ht
    have := (fvB_iff.1 ht.2.2).2.2
    rw [if_pos rfl]
    omega

end Go.Proofs.Ytbhlgdleklfonaa

/-! Lift -/
set_option linter.unusedVariables false
namespace Go.Proofs.Ytbhlgdleklfonaa
open Go.RowKit

def liftF (n : Int) (M : Nat) (x : Int) : Bool := (x * x - n) % (M : Int) == 0
def liftBlk (n : Int) (P m : Nat) (R : List Int) (d : Nat) : List Int := (R.map (fun r => r + (d : Int) * (m : Int))).filter (liftF n (m * P))
def liftPre (n : Int) (P m : Nat) (R : List Int) (d : Nat) : List Int := (List.range d).flatMap (liftBlk n P m R)
def liftL (n : Int) (P : Nat) : Nat → List Int
  | 0 => [0]
  | i + 1 => liftPre n P (P ^ i) (liftL n P i) P

theorem liftPre_succ (n : Int) (P m : Nat) (R : List Int) (d : Nat) : liftPre n P m R (d + 1) = liftPre n P m R d ++ liftBlk n P m R d := by
  unfold liftPre
  rw [List.range_succ, List.flatMap_append]
  simp
theorem liftPre_zero (n : Int) (P m : Nat) (R : List Int) : liftPre n P m R 0 = [] := rfl
theorem liftBlk_len (n : Int) (P m : Nat) (R : List Int) (d : Nat) : (liftBlk n P m R d).length ≤ R.length := by
  unfold liftBlk
  exact Nat.le_trans (List.length_filter_le _ _) (by rw [List.length_map]; exact Nat.le_refl _)
theorem liftPre_len (n : Int) (P m : Nat) (R : List Int) : ∀ d, (liftPre n P m R d).length ≤ d * R.length
  | 0 => by rw [liftPre_zero]; simp
  | d + 1 => by
    rw [liftPre_succ, List.length_append, Nat.succ_mul]
    have := liftPre_len n P m R d
    have := liftBlk_len n P m R d
    omega
theorem lift_len (n : Int) (P : Nat) : ∀ i, (liftL n P i).length ≤ P ^ i
  | 0 => by simp [liftL]
  | i + 1 => by
    have h1 := liftPre_len n P (P ^ i) (liftL n P i) P
    have h2 := Nat.mul_le_mul_left P (lift_len n P i)
    show (liftPre n P (P ^ i) (liftL n P i) P).length ≤ P ^ (i + 1)
    rw [Nat.pow_succ, Nat.mul_comm (P ^ i)]
    exact Nat.le_trans h1 h2
theorem mem_blk {n : Int} {P m : Nat} {R : List Int} {d : Nat} {x : Int} : x ∈ liftBlk n P m R d ↔ ∃ r ∈ R, x = r + (d : Int) * (m : Int) ∧ (x * x - n) % ((m * P : Nat) : Int) = 0 := by
  unfold liftBlk liftF
  rw [List.mem_filter, List.mem_map]
  constructor
  · rintro ⟨⟨r, hr, rfl⟩, h⟩
    exact ⟨r, hr, rfl, by simpa using h⟩
  · rintro ⟨r, hr, rfl, h⟩
    exact ⟨⟨r, hr, rfl⟩, by simpa using h⟩
theorem mem_pre {n : Int} {P m : Nat} {R : List Int} {d : Nat} {x : Int} : x ∈ liftPre n P m R d ↔ ∃ c, c < d ∧ x ∈ liftBlk n P m R c := by
  unfold liftPre
  rw [List.mem_flatMap]
  simp only [List.mem_range]

theorem mem_lift {n : Int} {P : Nat} (hP : 1 ≤ P) : ∀ i x, x ∈ liftL n P i ↔ 0 ≤ x ∧ x < ((P ^ i : Nat) : Int) ∧ (x * x - n) % ((P ^ i : Nat) : Int) = 0
  | 0, x => by
    simp only [liftL, List.mem_singleton, Nat.pow_zero]
    constructor
    · rintro rfl
      exact ⟨by omega, by simp, by simp⟩
    · rintro ⟨h1, h2, _⟩
      have : ((1 : Nat) : Int) = 1 := rfl
      omega
  | i + 1, x => by
    have hm : 1 ≤ P ^ i := Nat.pow_pos (by omega)
    show x ∈ liftPre n P (P ^ i) (liftL n P i) P ↔ _
    rw [mem_pre]
    obtain ⟨m, hme⟩ : ∃ m, m = P ^ i := ⟨_, rfl⟩
    have e1 : P ^ (i + 1) = m * P := by rw [Nat.pow_succ, hme]
    rw [← hme] at hm
    rw [e1, ← hme]
    have ih := mem_lift (n := n) hP i
    rw [← hme] at ih
    constructor
    · rintro ⟨c, hc, hx⟩
      obtain ⟨r, hr, rfl, h⟩ := mem_blk.1 hx
      obtain ⟨r1, r2, _⟩ := (ih r).1 hr
      have hcm : (0 : Int) ≤ (c : Int) * (m : Int) := Int.mul_nonneg (by omega) (by omega)
      have hup : (c : Int) * (m : Int) + (m : Int) ≤ ((m * P : Nat) : Int) := by
        have := Nat.mul_le_mul_right m (show c + 1 ≤ P by omega)
        rw [Nat.succ_mul, Nat.mul_comm P m] at this
        have e2 : (c : Int) * (m : Int) = ((c * m : Nat) : Int) := by push_cast; rfl
        rw [e2]
        omega
      exact ⟨by omega, by omega, h⟩
    · rintro ⟨h1, h2, h3⟩
      obtain ⟨X, rfl⟩ := Int.eq_ofNat_of_zero_le h1
      have hX : X < m * P := by omega
      refine ⟨X / m, (Nat.div_lt_iff_lt_mul (by omega)).2 (by rw [Nat.mul_comm]; exact hX), mem_blk.2 ⟨((X % m : Nat) : Int), (ih _).2 ⟨by omega, by have := Nat.mod_lt X (show 0 < m by omega); omega, ?_⟩, ?_, h3⟩⟩
      · have hd : (m : Int) ∣ (X : Int) * X - n := by
          refine Int.dvd_trans ?_ (Int.dvd_of_emod_eq_zero h3)
          exact ⟨(P : Int), by push_cast; rfl⟩
        have e3 : ((X % m : Nat) : Int) * ((X % m : Nat) : Int) - n = ((X : Int) * X - n) - (m : Int) * ((X / m : Nat) : Int) * ((X : Int) + ((X % m : Nat) : Int)) := by
          have e4 : (X : Int) = (m : Int) * ((X / m : Nat) : Int) + ((X % m : Nat) : Int) := by
            have := Nat.div_add_mod X m
            exact_mod_cast this.symm
          obtain ⟨a, ha⟩ : ∃ a, a = (m : Int) * ((X / m : Nat) : Int) := ⟨_, rfl⟩
          obtain ⟨b, hb⟩ : ∃ b, b = ((X % m : Nat) : Int) := ⟨_, rfl⟩
          rw [← ha, ← hb] at e4
          rw [← ha, ← hb, e4]
          simp only [Int.mul_add, Int.add_mul, Int.mul_comm b a]
          omega
        rw [e3]
        exact Int.emod_eq_zero_of_dvd (Int.dvd_sub hd (Int.dvd_mul_of_dvd_left (Int.dvd_mul_right _ _)))
      · have := Nat.div_add_mod X m
        rw [Nat.mul_comm] at this
        have : (((X / m * m + X % m : Nat)) : Int) = (X : Int) := by rw [this]
        push_cast at this ⊢
        omega

theorem root_rest {n : Int} {M : Nat} (hM : 1 ≤ M) {x : Nat} : ((x : Int) * x - n) % (M : Int) = 0 ↔ x * x % M = (n % (M : Int)).toNat := by
  have h1 := Int.emod_nonneg n (show (M : Int) ≠ 0 by omega)
  have h2 : ((n % (M : Int)).toNat : Int) = n % (M : Int) := Int.toNat_of_nonneg h1
  have e : ((x * x % M : Nat) : Int) = (x : Int) * x % (M : Int) := by push_cast; rfl
  rw [← Int.emod_eq_emod_iff_emod_sub_eq_zero, ← e, ← h2]
  exact Int.ofNat_inj

/-- the least of the lifted roots is the least root by trial -/
theorem lift_root {n : Int} {P k : Nat} (hP : 1 ≤ P) {x : Int} (hx : x ∈ liftL n P k) (hmin : ∀ y ∈ liftL n P k, x ≤ y) : rootF (n % ((P ^ k : Nat) : Int)).toNat (P ^ k) = some x.toNat ∧ 0 ≤ x ∧ x < ((P ^ k : Nat) : Int) := by
  have hm : 1 ≤ P ^ k := Nat.pow_pos (by omega)
  obtain ⟨h1, h2, h3⟩ := (mem_lift hP k x).1 hx
  obtain ⟨X, rfl⟩ := Int.eq_ofNat_of_zero_le h1
  refine ⟨?_, h1, h2⟩
  rw [Int.toNat_natCast]
  refine find_at (by omega) (by rw [beq_iff_eq]; exact (root_rest hm).1 h3) fun j hj => ?_
  rw [beq_eq_false_iff_ne]
  intro e
  have := hmin (j : Int) ((mem_lift hP k _).2 ⟨by omega, by omega, (root_rest hm).2 e⟩)
  omega
theorem lift_none {n : Int} {P k : Nat} (hP : 1 ≤ P) (h : liftL n P k = []) : rootF (n % ((P ^ k : Nat) : Int)).toNat (P ^ k) = none := by
  have hm : 1 ≤ P ^ k := Nat.pow_pos (by omega)
  refine find_none fun j hj => ?_
  rw [beq_eq_false_iff_ne]
  intro e
  have := (mem_lift (n := n) hP k (j : Int)).2 ⟨by omega, by omega, (root_rest hm).2 e⟩
  rw [h] at this
  cases this

end Go.Proofs.Ytbhlgdleklfonaa

/-! Loc3 -/
set_option linter.unusedVariables false
namespace Go.Proofs.Ytbhlgdleklfonaa
open Go.RowKit

/-- what is read keeps its cells, and what is built lies elsewhere -/
def Aside2 (a : Option Addr) (so : Value) (w0 wr : World) : Prop := ∀ b o, a = some ⟨b, o, none⟩ → so.ownBlock ≠ some b ∧ wr.heap[b]? = w0.heap[b]?


end Go.Proofs.Ytbhlgdleklfonaa

/-! LawCls -/
set_option linter.unusedVariables false
namespace Go.Proofs.Ytbhlgdleklfonaa
open Go.RowKit

theorem comb_self {q : Int} (hq : plI q = true) {c : Nat × Int} (hc : c ∈ clsList q) : comb q c c = (0, 1) := (comb_one hq hc hc).2 rfl
theorem comb_unit {q : Int} (hq : plI q = true) {c : Nat × Int} (hc : c ∈ clsList q) : comb q c (0, 1) = c := by
  rcases plI_cases hq with rfl | rfl | ⟨P, rfl, hP, h3, h5⟩
  · exact (show ∀ c ∈ clsList 0, comb 0 c (0, 1) = c by decide) c hc
  · exact (show ∀ c ∈ clsList 2, comb 2 c (0, 1) = c by decide) c hc
  · have e0 : ¬ ((P : Int) = 0) := by omega
    have e2 : ¬ ((P : Int) = 2) := by omega
    unfold clsList at hc
    rw [if_neg e0, if_neg e2] at hc
    unfold comb
    rw [if_neg e2]
    exact (show ∀ c ∈ [((0 : Nat), (1 : Int)), (0, -1), (1, 1), (1, -1)], (((c.1 + 0) % 2, c.2 * 1) : Nat × Int) = c by decide) c hc
theorem sq_kk {n k q : Int} (hn : n ≠ 0) (hk : k ≠ 0) (hq : plI q = true) (hs : sqAt n q = true) : sqAt (n * k * k) q = true := by
  unfold sqAt at hs ⊢
  rw [beq_iff_eq] at hs ⊢
  rw [Int.mul_assoc, cls_mul hn (Int.mul_ne_zero hk hk) hq, hs, cls_mul hk hk hq, comb_self hq (cls_mem hk hq)]
  unfold comb
  by_cases h2 : q = 2
  · rw [if_pos h2]; rfl
  · rw [if_neg h2]; rfl
theorem name_sq {n q : Int} (hq : plI q = true) (hs : sqAt n q = true) : nameOf n q = 1 := by
  unfold sqAt at hs
  rw [beq_iff_eq] at hs
  unfold nameOf clsIdx
  rw [hs]
  rcases plI_cases hq with rfl | rfl | ⟨P, rfl, hP, h3, h5⟩
  · rfl
  · rfl
  · rw [names_odd h3]
    unfold clsList
    rw [if_neg (by omega), if_neg (by omega)]
    rfl
theorem lrootV_form (n p k : Int) : ∃ (x : Int) (b : Bool), lrootV n p k = .tuple #[.int .i64 x, .bool b] := by
  unfold lrootV
  split
  · unfold rootT
    split
    · exact ⟨_, _, rfl⟩
    · exact ⟨_, _, rfl⟩
  · exact ⟨_, _, rfl⟩
theorem lnameV_form (n q : Int) : ∃ (x : Int) (b : Bool), lnameV n q = .tuple #[.int .i64 x, .bool b] := by
  unfold lnameV; split <;> exact ⟨_, _, rfl⟩
/-- the names at a drawn place are numbers -/
theorem names_drawn {q : Int} (hp : prOk q) (hq : plI q = true) : ∀ m ∈ namesOf q, -5000 ≤ m ∧ m ≤ 5000 := by
  unfold prOk at hp
  rcases hp with rfl | rfl | rfl | rfl | rfl | rfl | rfl | rfl | rfl | rfl | rfl | rfl
  all_goals first | (revert hq; decide +kernel) | decide +kernel
theorem okAt_yes {n q : Int} (h1 : -5000 ≤ n) (h2 : n ≤ 5000) (h0 : n ≠ 0) (hq : plI q = true) : okAt n q = true := by
  unfold okAt; rw [factB_yes h1 h2 h0, hq]; rfl
theorem okAt_split {n q : Int} (h : okAt n q = true) : -5000 ≤ n ∧ n ≤ 5000 ∧ n ≠ 0 ∧ plI q = true := by
  rcases okAt_cases n q with ⟨h1, h2, h0, hq, _⟩ | hno
  · exact ⟨h1, h2, h0, hq⟩
  · rw [h] at hno; cases hno
theorem okAt_name {n q : Int} (hp : prOk q) (h0 : n ≠ 0) (hq : plI q = true) : okAt (nameOf n q) q = true := by
  have := names_drawn hp hq _ (name_mem h0 hq)
  exact okAt_yes this.1 this.2 (name_ne h0 hq) hq
theorem lmulV_yes {a b q : Int} (h : okAt a q = true) (h2 : okAt b q = true) : lmulV a b q = .tuple #[.int .i64 (nameOf (a * b) q), .bool true] := by
  unfold lmulV; rw [h, h2]; rfl
theorem lmulV_no {a b q : Int} (h : (okAt a q && okAt b q) = false) : lmulV a b q = .tuple #[.int .i64 0, .bool false] := by
  unfold lmulV; rw [h]; rfl

/-- a root up to M is one up to each divisor of M -/
theorem root_divides {n : Int} {M D x : Nat} (hD : 1 ≤ D) (hd : D ∣ M) (hM : 1 ≤ M) (h : rootF (n % (M : Int)).toNat M = some x) : ∃ y, rootF (n % (D : Int)).toNat D = some y := by
  unfold rootF at h
  rw [List.find?_range_eq_some] at h
  obtain ⟨h1, h2, _⟩ := h
  rw [beq_iff_eq] at h1
  have h3 := (root_rest (n := n) hM).2 h1
  have hdd : (D : Int) ∣ (x : Int) * x - n := Int.dvd_trans (Int.natCast_dvd_natCast.2 hd) (Int.dvd_of_emod_eq_zero h3)
  have h4 := (root_rest (n := n) (x := x) hD).1 (Int.emod_eq_zero_of_dvd hdd)
  have h5 : (x % D) * (x % D) % D = (n % (D : Int)).toNat := by rw [← Nat.mul_mod]; exact h4
  cases hf : rootF (n % (D : Int)).toNat D with
  | some y => exact ⟨y, rfl⟩
  | none =>
    unfold rootF at hf
    rw [List.find?_eq_none] at hf
    have := hf (x % D) (List.mem_range.2 (Nat.mod_lt _ (by omega)))
    rw [beq_iff_eq] at this
    exact absurd h5 this
theorem rootF_spec {n : Int} {M x : Nat} (hM : 1 ≤ M) (h : rootF (n % (M : Int)).toNat M = some x) : x < M ∧ ((x : Int) * x - n) % (M : Int) = 0 := by
  unfold rootF at h
  rw [List.find?_range_eq_some] at h
  obtain ⟨h1, h2, _⟩ := h
  rw [beq_iff_eq] at h1
  exact ⟨List.mem_range.1 h2, (root_rest (n := n) hM).2 h1⟩

theorem lroot_split {n p k x : Int} {b : Bool} (h : lrootV n p k = .tuple #[.int .i64 x, .bool b]) : b = false ∨ ∃ P K X : Nat, p = (P : Int) ∧ k = (K : Int) ∧ x = (X : Int) ∧ b = true ∧ primeN P = true ∧ 2 ≤ P ∧ P ≤ 5000 ∧ okN n = true ∧ 1 ≤ K ∧ K ≤ 12 ∧ P ^ K ≤ 5000 ∧ rootF (n % ((P ^ K : Nat) : Int)).toNat (P ^ K) = some X := by
  cases hO : lrootOk n p k with
  | false =>
    rw [lrootV_no hO] at h
    simp only [Value.tuple.injEq, Array.mk.injEq, List.cons.injEq, Value.bool.injEq] at h
    exact .inl h.2.1.symm
  | true =>
    have hO2 := hO
    unfold lrootOk at hO2
    rw [Bool.and_eq_true, Bool.and_eq_true, Bool.and_eq_true] at hO2
    obtain ⟨o1, o2, o3, o4⟩ := hO2
    have hpb := primeI_bd o2
    have hk : 1 ≤ k ∧ k ≤ 12 := by rcases inR_cases k 1 12 with ⟨a, b, _⟩ | ⟨_, c⟩ | ⟨_, _, c⟩; (· exact ⟨a, b⟩); (· rw [o3] at c; cases c); (· rw [o3] at c; cases c)
    obtain ⟨P, rfl⟩ := Int.eq_ofNat_of_zero_le (show 0 ≤ p by omega)
    obtain ⟨K, rfl⟩ := Int.eq_ofNat_of_zero_le (show 0 ≤ k by omega)
    have o5 := of_decide_eq_true o4
    rw [Int.toNat_natCast, Int.toNat_natCast] at o5
    unfold lrootV at h
    rw [if_pos hO, Int.toNat_natCast, Int.toNat_natCast] at h
    cases hr : rootF (n % ((P ^ K : Nat) : Int)).toNat (P ^ K) with
    | none =>
      rw [hr] at h
      unfold rootT at h
      simp only [Value.tuple.injEq, Array.mk.injEq, List.cons.injEq, Value.bool.injEq] at h
      exact .inl h.2.1.symm
    | some X =>
      rw [hr] at h
      unfold rootT at h
      simp only [Value.tuple.injEq, Array.mk.injEq, List.cons.injEq, Value.bool.injEq, Value.int.injEq, true_and] at h
      exact .inr ⟨P, K, X, rfl, rfl, h.1.symm, h.2.1.symm, o2, by omega, by omega, o1, by omega, by omega, o5, hr⟩

/-- all numbers that l91Local draws -/
def drawnL : List Int := (List.range 119).map (fun (k : Nat) => (k : Int)) ++ ((List.range 119).map (fun (k : Nat) => -(k : Int)) ++ ([5000, 5001, -5001, 4096, 3969] ++ (List.range 10).flatMap (fun a => (List.range 3).map (fun k => ((a * a * (1 + k * 8) : Nat) : Int)))))
theorem drawn_mem {x : Int} (h : locOk x) : x ∈ drawnL := by
  unfold drawnL
  rw [List.mem_append, List.mem_append, List.mem_append]
  rcases h with h | ⟨a, k, a1, a9, k0, k2, rfl⟩
  · unfold numOk at h
    rcases h with ⟨h1, h2⟩ | h
    · by_cases h0 : 0 ≤ x
      · left; rw [List.mem_map]; exact ⟨x.toNat, List.mem_range.2 (by omega), by omega⟩
      · right; left; rw [List.mem_map]; exact ⟨x.natAbs, List.mem_range.2 (by omega), by omega⟩
    · right; right; left
      rcases h with rfl | rfl | rfl | rfl | rfl <;> decide
  · right; right; right
    rw [List.mem_flatMap]
    refine ⟨a.toNat, List.mem_range.2 (by omega), List.mem_map.2 ⟨k.toNat, List.mem_range.2 (by omega), ?_⟩⟩
    push_cast
    rw [Int.toNat_of_nonneg (by omega), Int.toNat_of_nonneg k0]

end Go.Proofs.Ytbhlgdleklfonaa

set_option linter.unusedVariables false
namespace Go.Proofs.Ytbhlgdleklfonaa
open Go.RowKit

def atOk (xs : List Int) (y : Int) : Prop := TermsOk xs ∧ (prOk y ∨ y ∈ fplL xs)
def AtPost (w : World) (B R : Nat) (v : Value) (n p : Nat) (e : Ending) (w' : World) : Prop :=
  ∃ (u : Value) (xs : List Int) (y : Int), e = .returned (.tuple #[u, .int .i64 y]) ∧ atOk xs y ∧ Hid (Owns w' w.heap.size u xs) ∧ Hid (Only R w w')
theorem AtPost.mk {w : World} {B R : Nat} {v : Value} {n p : Nat} {u : Value} {xs : List Int} {y : Int} {w' : World} (h : atOk xs y) (ho : Owns w' w.heap.size u xs) (hn : Only R w w') : AtPost w B R v n p (.returned (.tuple #[u, .int .i64 y])) w' :=
  ⟨u, xs, y, rfl, h, hid ho, hid hn⟩
theorem Only.of_below {R : Nat} {w w' : World} (h : Below w.heap.size w w') : Only R w w' := ⟨h.os, h.tape, h.output, h.size, fun k hk _ => h.block k hk⟩
theorem Owns.at {W : World} {B g cap n : Nat} {xs : List Int} (h : Owns W B (.slice (some ⟨g, 0, none⟩) n cap) xs) {i : Nat} (hi : i < xs.length) : W.cell? ⟨g, i, none⟩ = some (.int .i64 (xs[i])) := by
  have hn : n = xs.length := by
    rcases h.2 with ⟨h3, _⟩ | ⟨g', cap', cur, h3, _⟩
    · cases h3
    · simp only [Value.slice.injEq] at h3; exact h3.2.1
  subst hn
  rw [World.ownsRow.cellAt h i (by omega), List.getElem?_map, List.getElem?_eq_getElem hi]
  rfl
theorem pickAt (B R : Nat) (v : Value) (n p : Nat) (hp : p ≤ 1000000000000000) (w2 : World) (HA : Hid (Rdr w2 B R v n p)) (C g cap : Nat) (xs : List Int) (HO : Hid (Owns w2 C (.slice (some ⟨g, 0, none⟩) xs.length cap) xs)) (hRC : R < C) (hl : 0 < xs.length) (hl2 : xs.length ≤ 1000) :
    Calls Try.prog 67 #[.pointer (some ⟨R, 0, none⟩), .int .i64 xs.length] w2.drew fun e w' => ∃ (y pv : Int), e = .returned (.int .i64 y) ∧ 0 ≤ y ∧ y < xs.length ∧ w'.cell? ⟨g, y.toNat, none⟩ = some (.int .i64 pv) ∧ pv ∈ xs ∧ Hid (Only R w2 w') := by
  refine (pick_any _ _ _ _ p (xs.length : Int) (by omega) (by omega) (by omega) _ HA.out.drew').mono ?_
  rintro e w3 ⟨y, r, rfl, hy0, hy1, _, hr, HC, HP⟩
  replace hy1 := hy1 (by omega)
  have HQ := HP.out.of_drew'
  have hi : y.toNat < xs.length := by omega
  exact ⟨y, xs[y.toNat], rfl, hy0, hy1, (HO.out.only HQ hRC).at hi, List.getElem_mem hi, hid HQ⟩




end Go.Proofs.Ytbhlgdleklfonaa

set_option linter.unusedVariables false
namespace Go.Proofs.Ytbhlgdleklfonaa
open Go.RowKit

theorem Owns.storedAt {W : World} {B g cap n : Nat} {xs : List Int} (h : Owns W B (.slice (some ⟨g, 0, none⟩) n cap) xs) (j : Nat) (x : Int) :
    Owns (W.setCell ⟨g, j, none⟩ (.int .i64 x)) B (.slice (some ⟨g, 0, none⟩) n cap) (xs.set j x) ∧ W.grownBy (W.setCell ⟨g, j, none⟩ (.int .i64 x)) (some g) := by
  have hn : n = xs.length := by
    rcases h.2 with ⟨h3, _⟩ | ⟨g', cap', cur, h3, _⟩
    · cases h3
    · simp only [Value.slice.injEq] at h3; exact h3.2.1
  subst hn
  have h2 := World.ownsRow.stored h j (.int .i64 x)
  refine ⟨?_, h2.2⟩
  unfold Owns
  rw [List.length_set, List.map_set]
  exact h2.1
theorem Owns.frozenAt' {W : World} {B g cap n : Nat} {xs : List Int} (h : Owns W B (.slice (some ⟨g, 0, none⟩) n cap) xs) (j : Nat) : W.frozen? ⟨g, j, none⟩ = false := by
  have hn : n = xs.length := by
    rcases h.2 with ⟨h3, _⟩ | ⟨g', cap', cur, h3, _⟩
    · cases h3
    · simp only [Value.slice.injEq] at h3; exact h3.2.1
  subst hn
  exact World.ownsRow.frozenAt h j
theorem fv_set {xs : List Int} {x : Int} (h : fvB xs = true) (j : Nat) (h0 : x ≠ 0) (h1 : -30 ≤ x) (h2 : x ≤ 30) : fvB (xs.set j x) = true := by
  obtain ⟨a1, a2, a3⟩ := fvB_iff.1 h
  refine fvB_iff.2 ⟨fun y hy => ?_, by rw [List.length_set]; exact a2, by rw [List.length_set]; exact a3⟩
  rcases List.mem_or_eq_of_mem_set hy with h3 | h3
  · exact a1 y h3
  · rw [h3]; exact ⟨h0, h1, h2⟩
theorem fv_terms {xs : List Int} (h : fvB xs = true) : TermsOk xs := by
  obtain ⟨a1, a2, a3⟩ := fvB_iff.1 h
  exact ⟨by omega, fun x hx => by have := a1 x hx; omega⟩
theorem core_bd {n : Int} (hn : n ≠ 0) : coreG n ≠ 0 ∧ (coreG n).natAbs ≤ n.natAbs := by
  have hc := core_is hn
  refine ⟨hc.ne hn, ?_⟩
  have e : n.natAbs = (coreG n).natAbs * (rootG n * rootG n) := by
    conv => lhs; rw [← hc.eq]
    rw [Int.natAbs_mul, Int.natAbs_mul, Int.natAbs_natCast]
  have := Nat.le_mul_of_pos_right (coreG n).natAbs (Nat.mul_pos hc.pos hc.pos)
  omega
def SamePost (w : World) (B R : Nat) (v : Value) (n p : Nat) (e : Ending) (w' : World) : Prop :=
  ∃ (u : Value) (ys : List Int) (q : Nat), e = .returned u ∧ fvB ys = true ∧ Hid (Owns w' w.heap.size u ys) ∧ q ≤ p + 4 ∧ Hid (Rdr w' B R v n q) ∧ Hid (Only R w w')
theorem SamePost.mk {w : World} {B R : Nat} {v : Value} {n p q : Nat} {u : Value} {ys : List Int} {w' : World} (h : fvB ys = true) (ho : Owns w' w.heap.size u ys) (hq : q ≤ p + 4) (hr : Rdr w' B R v n q) (hn : Only R w w') : SamePost w B R v n p (.returned u) w' :=
  ⟨u, ys, q, rfl, h, hid ho, hq, hid hr, hid hn⟩


end Go.Proofs.Ytbhlgdleklfonaa

set_option linter.unusedVariables false
namespace Go.Proofs.Ytbhlgdleklfonaa
open Go.RowKit

def TwoPost (w : World) (B R : Nat) (v : Value) (n p : Nat) (e : Ending) (w' : World) : Prop :=
  ∃ (u u2 : Value) (xs ys : List Int), e = .returned (.tuple #[u, u2]) ∧ TermsOk xs ∧ TermsOk ys ∧ Hid (Owns w' w.heap.size u xs) ∧ Hid (Rd w' u2 ys) ∧ Firm u2 ∧ Hid (Only R w w')
theorem TwoPost.mk {w : World} {B R : Nat} {v : Value} {n p : Nat} {u u2 : Value} {xs ys : List Int} {w' : World} (h : TermsOk xs) (h2 : TermsOk ys) (ho : Owns w' w.heap.size u xs) (hr : Rd w' u2 ys) (hf : Firm u2) (hn : Only R w w') : TwoPost w B R v n p (.returned (.tuple #[u, u2])) w' :=
  ⟨u, u2, xs, ys, rfl, h, h2, hid ho, hid hr, hf, hid hn⟩



end Go.Proofs.Ytbhlgdleklfonaa

/-! Marks -/
set_option linter.unusedVariables false
namespace Go.Proofs.Ytbhlgdleklfonaa
open Go.RowKit

theorem all_eq_of {xs ys : List Int} (hl : xs.length = ys.length) (h : ∀ j, j < xs.length → xs.getD j 0 = ys.getD j 0) : xs = ys := by
  refine List.ext_getElem hl fun j h1 h2 => ?_
  have := h j h1
  simpa [List.getD, List.getElem?_eq_getElem h1, List.getElem?_eq_getElem h2] using this

theorem eqs_len {a b : Int} (h : a ≠ b) : (a != b) = true := by rw [bne_iff_ne]; exact h
theorem eqs_same {a b : Int} (h : a = b) : (a != b) = false := by rw [h]; simp

/-- k, k + 1, .. -/
def marksL (k : Int) (n : Nat) : List Int := (List.range n).map (fun (i : Nat) => k + (i : Int))
theorem marksL_len (k : Int) (n : Nat) : (marksL k n).length = n := by simp [marksL]
theorem marksL_get (k : Int) (n i : Nat) (h : i < n) : (marksL k n).getD i 0 = k + i := by simp [marksL, List.getD, h]

/-- the first i numbers are marked -/
def halfL (k : Int) (i : Nat) (xs : List Int) : List Int := marksL k i ++ xs.drop i
theorem halfL_len (k : Int) (i : Nat) (xs : List Int) (h : i ≤ xs.length) : (halfL k i xs).length = xs.length := by simp [halfL, marksL_len]; omega
theorem halfL_step (k : Int) (i : Nat) (xs : List Int) (h : i < xs.length) : (halfL k i xs).set i (k + i) = halfL k (i + 1) xs := by
  unfold halfL
  rw [List.set_append_right _ _ (by simp [marksL_len]), marksL_len, Nat.sub_self, List.drop_eq_getElem_cons h, List.set_cons_zero]
  simp [marksL, List.range_succ]
theorem halfL_end (k : Int) (xs : List Int) : halfL k xs.length xs = marksL k xs.length := by simp [halfL]

end Go.Proofs.Ytbhlgdleklfonaa

/-! Same -/
set_option linter.unusedVariables false
namespace Go.Proofs.Ytbhlgdleklfonaa
open Go.RowKit

set_option maxHeartbeats 1000000 in
theorem sameInts_any (v u : Value) (xs ys : List Int) (w : World) (hx : Rd w v xs) (hy : Rd w u ys) :
    Calls Try.prog 21 #[v, u] w fun e w' => e = .returned (.bool (decide (xs = ys))) ∧ ∃ k, w' = w.drewN k := by
  have form : ∀ {z : Value} {zs : List Int}, Rd w z zs → ∃ a cap, z = .slice a zs.length cap ∧ zs.length ≤ maxLen := by
    rintro z zs (⟨a, cap, rfl, rfl⟩ | ⟨b, o, cap, rfl, _, hm, _⟩)
    · exact ⟨a, cap, rfl, by simp⟩
    · exact ⟨_, _, rfl, hm⟩
  by_cases hl : xs.length = ys.length
  · rcases hx with ⟨a, cap, rfl, rfl⟩ | ⟨b, o, cap, rfl, hp, hm, hcx⟩
    · obtain ⟨a', cap', rfl, _⟩ := form hy
      have e : ys = [] := List.length_eq_zero_iff.1 hl.symm
      have HD : Hid (decide (([] : List Int) = ys) = true) := by show _ = _; rw [e]; rfl
      have HL : ys.length = 0 := hl.symm
      rw [HL]
      clear e hl HL hy
      go_enter Try.func21, Try.ntmps21
      go_wp2
      go_loop [5] (fun i => i = .int .i64 0) (fun _ => 0)
      case atStart => rfl
      case round =>
        obtain rfl := hrel
        go_wp2
        go_ret
        exact ⟨retB (by first | exact HD.out.symm | (rw [eq_comm]; exact HD.out.symm) | (have h := HD.out; simp at h; simp [← h])), 0, rfl⟩
    · rcases hy with ⟨a', cap', rfl, rfl⟩ | ⟨b', o', cap', rfl, _, _, hcy⟩
      · exact absurd hl (by simp; intro e; rw [e] at hp; simp at hp)
      · have T : ((xs.length : Int) != ys.length) = false := eqs_same (by omega)
        unfold maxLen at hm
        have HX := hid hcx
        have HY := hid hcy
        have HL := hid hl
        clear hcx hcy
        go_enter Try.func21, Try.ntmps21
        rw [← hl] at T ⊢
        clear hl
        go_wp2
        go_loopw [5] (fun i wr => ∃ K k : Nat, i = .int .i64 K ∧ K ≤ xs.length ∧ Hid (∀ j, j < K → xs.getD j 0 = ys.getD j 0) ∧ wr = w.drewN k) (fun i _ => xs.length - (intOf i).toNat)
        case atStart => exact ⟨0, 0, rfl, by omega, hid (by omega), rfl⟩
        case round =>
          obtain ⟨K, k, rfl, hK, HE, rfl⟩ := hrel
          by_cases hlt : K < xs.length
          · obtain ⟨x, hx⟩ : ∃ x, x = xs.getD K 0 := ⟨_, rfl⟩
            obtain ⟨y, hy⟩ : ∃ y, y = ys.getD K 0 := ⟨_, rfl⟩
            have c1 := HX.out K hlt
            have c2 := HY.out K (by have := HL.out; omega)
            rw [← hx] at c1
            rw [← hy] at c2
            have Hx := hid hx
            have Hy := hid hy
            clear hx hy
            have hi : (K : Int) < (xs.length : Int) := by omega
            by_cases hxy : x = y
            · have T2 : (x != y) = false := eqs_same hxy
              have HXY := hid hxy
              clear hxy
              go_wp2
              go_quiet (fail)
              go_wp2
              go_roundw
              case rel =>
                exact ⟨K + 1, _, by go_num, by omega, hid (by intro j hj; by_cases e : j = K; (· rw [e, ← Hx.out, ← Hy.out, HXY.out]); (· exact HE.out j (by omega))), by first | rfl | exact World.drewN_drewN ..⟩
              case measure => simp only [intOf]; omega
            · have T2 : (x != y) = true := eqs_len hxy
              have HXY := hid hxy
              clear hxy
              go_wp2
              go_quiet (fail)
              go_wp2
              go_ret
              refine ⟨retB (decide_eq_false fun e => HXY.out ?_).symm, _, by first | rfl | exact World.drewN_drewN ..⟩
              rw [Hx.out, Hy.out, e]
          · go_wp2
            go_ret
            refine ⟨retB (decide_eq_true (all_eq_of HL.out fun j hj => HE.out j (by omega))).symm, _, rfl⟩
  · obtain ⟨a, cap, rfl, m1⟩ := form hx
    obtain ⟨a', cap', rfl, m2⟩ := form hy
    have T : ((xs.length : Int) != ys.length) = true := eqs_len (by omega)
    have HD : Hid (decide (xs = ys) = false) := hid (decide_eq_false fun e => hl (by rw [e]))
    clear hl hx hy
    go_enter Try.func21, Try.ntmps21
    go_wp2
    go_ret
    exact ⟨retB HD.out.symm, 0, rfl⟩

theorem rd_one {w : World} {k : Nat} (x : Int) (h : w.cell? ⟨k, 0, none⟩ = some (.int .i64 x)) : Rd w (.slice (some ⟨k, 0, none⟩) 1 1) [x] := by
  right
  refine ⟨k, 0, 1, rfl, by simp, by unfold maxLen; simp, fun i hi => ?_⟩
  obtain rfl : i = 0 := by simp at hi; exact hi
  simpa using h

end Go.Proofs.Ytbhlgdleklfonaa

/-! LawKit -/
set_option linter.unusedVariables false
namespace Go.Proofs.Ytbhlgdleklfonaa
open Go.RowKit

theorem sizeOf_any (n : Int) (h1 : -1000000000000000 ≤ n) (h2 : n ≤ 1000000000000000) (w : World) : Calls Try.prog 26 #[.int .i64 n] w fun e w' => e = .returned (.int .i64 (n.natAbs : Nat)) ∧ w = w' := by
  by_cases h : n < 0
  · have hm : max n (-n) = ((n.natAbs : Nat) : Int) := by omega
    have hm2 : max n (0 - n) = ((n.natAbs : Nat) : Int) := by omega
    go_enter Try.func26, Try.ntmps26
    go_wp2
    go_ret
    exact ⟨retI (by omega), rfl⟩
  · go_enter Try.func26, Try.ntmps26
    go_wp2
    go_ret
    exact ⟨retI (by omega), rfl⟩

end Go.Proofs.Ytbhlgdleklfonaa

/-! LawFm -/
set_option linter.unusedVariables false
namespace Go.Proofs.Ytbhlgdleklfonaa
open Go.RowKit

def MildT (xs : List Int) : Prop := xs.length ≤ 1000 ∧ ∀ x ∈ xs, -1000000 ≤ x ∧ x ≤ 1000000
theorem TermsOk.mild {xs : List Int} (h : TermsOk xs) : MildT xs := ⟨by have := h.1; omega, fun x hx => by have := h.2 x hx; omega⟩
theorem VecGood.mild {m : Nat} {xs : List Int} (h : VecGood m xs) (hm : m ≤ 10) : MildT xs := ⟨by have := h.1; omega, fun x hx => by have := h.2 x hx; omega⟩
theorem MildT.at {xs : List Int} (h : MildT xs) {i : Nat} (hi : i < xs.length) : -1000000 ≤ xs.getD i 0 ∧ xs.getD i 0 ≤ 1000000 := by
  rw [getD_at _ _ hi]; exact h.2 _ (List.getElem_mem _)

set_option maxRecDepth 100000 in
set_option maxHeartbeats 2000000 in
theorem minusOf_any (v : Value) (xs : List Int) (w : World) (h : Rd w v xs) (hf : MildT xs) :
    Calls Try.prog 16 #[v] w fun e w' => ∃ u, e = .returned u ∧ Owns w' w.heap.size u (xs.map (fun x => -x)) ∧ Below w.heap.size w w' := by
  obtain ⟨i0, hi, hz0, hz1, hz2⟩ := info_parts infoInt
  have HB0 := hid ((Below.refl w.heap.size w).alloc (Nat.le_refl _) (.cells #[] 3))
  have HO0 : Hid (Owns (w.alloc (.cells #[] 3)) w.heap.size (.slice (some ⟨w.heap.size, 0, none⟩) 0 0) []) := hid (World.ownsRow_made (size := 1) w #[] 0 (Nat.le_refl _) (by unfold maxLen; omega) rfl)
  have HH := hid h
  obtain ⟨ad, cap, rfl, _⟩ := h.form
  have HF := hid hf
  have hl4 := hf.1
  clear h hf
  go_enter Try.func16, Try.ntmps16
  go_wp2_with fail
  go_loopw [3, 4] (fun so si wr => ∃ K : Nat, si = .int .i64 K ∧ K ≤ xs.length ∧ Hid (Owns wr w.heap.size so ((xs.take K).map (fun x => -x))) ∧ Hid (Below w.heap.size w wr)) (fun _ si _ => xs.length - (intOf si).toNat)
  case atStart => exact ⟨0, rfl, by omega, hid (by simpa using HO0.out), HB0⟩
  case round =>
    obtain ⟨K, rfl, hK, HO, HB⟩ := hrel
    rename World => wr
    by_cases hlt : K < xs.length
    · obtain ⟨a2, cap2, e2, hform⟩ := (HH.out.keep HB.out).form
      cases e2
      obtain ⟨bb, o, rfl, hml, hc⟩ := hform (by omega)
      have hcell := hc K hlt
      have ht := HF.out.at hlt
      obtain ⟨x, hx⟩ : ∃ x, x = xs.getD K 0 := ⟨_, rfl⟩
      rw [← hx] at hcell ht
      have HS : Hid ((xs.take (K + 1)).map (fun x => -x) = (xs.take K).map (fun x => -x) ++ [-x]) := hid (by rw [map_take hlt, hx])
      have hi0 : (K : Int) < (xs.length : Int) := by omega
      have HLT := hid hlt
      obtain ⟨pre, hpre⟩ : ∃ pre, pre = (xs.take K).map (fun x => -x) := ⟨_, rfl⟩
      have hprel : pre.length ≤ 1000 := by rw [hpre, List.length_map, List.length_take]; omega
      rw [← hpre] at HO HS
      have hbs : w.heap.size ≤ wr.heap.size := HB.out.size
      unfold maxLen at hml
      clear hform hc hx hlt hpre
      go_wp2_with (at_builtin; refine wpList_append_own_at _ rfl _ _ 23 rfl w.heap.size 3 i0 (.int .i64 0) 1 8 Try.underlying23 hi hz0 hz1 hz2 rfl (by decide) _ _ _ rfl ((show World.ownsRow _ _ _ _ _ _ _ from HO.out).alloc _) ⟨wr.heap.size, 0, none⟩ 1 1 [.int .i64 (-x)] rfl rfl (cell_one_new _ _ _) (by simp [Value.oneCell']) (by unfold maxLen; omega) (by omega) (by simp; omega) ?_; intro v' w3 hown' hgrow _ hat)
      have hsg := hgrow.size
      simp only [World.size_alloc] at hsg
      go_roundw
      case measure => simp only [intOf]; have := HLT.out; omega
      case rel =>
        refine ⟨K + 1, by go_num, by have := HLT.out; omega, hid ?_, hid (HB.out.alloc hbs _ |>.grown hgrow (by simp; omega) (fun k e => (HO.out.ge k e)))⟩
        rw [HS.out]
        unfold Owns
        simpa using hown'
    · obtain rfl : K = xs.length := by omega
      have HE : Hid (xs.map (fun x => -x) = (xs.take xs.length).map (fun x => -x)) := hid (by rw [List.take_length])
      clear hlt
      go_wp2_with fail
      go_ret
      exact ⟨_, rfl, by rw [HE.out]; exact HO.out, HB.out⟩


end Go.Proofs.Ytbhlgdleklfonaa

/-! LawFm2 -/
set_option linter.unusedVariables false
namespace Go.Proofs.Ytbhlgdleklfonaa
open Go.RowKit

def sg (xs : List Int) : Int := (xs.length : Int) - 2 * (lessN xs : Int)
theorem signs_yes {xs : List Int} (h : fvB xs = true) : signsV xs = .tuple #[.int .i64 (sg xs), .bool true] := by unfold signsV; rw [h]; rfl
theorem signs_no {xs : List Int} (h : fvB xs = false) : signsV xs = .tuple #[.int .i64 0, .bool false] := by unfold signsV; rw [h]; rfl
theorem fv_neg {xs : List Int} (h : fvB xs = true) : fvB (xs.map (fun x => -x)) = true := by
  obtain ⟨h1, h2, h3⟩ := fvB_iff.1 h
  refine fvB_iff.2 ⟨fun y hy => ?_, by rw [List.length_map]; exact h2, by rw [List.length_map]; exact h3⟩
  obtain ⟨x, hx, rfl⟩ := List.mem_map.1 hy
  have := h1 x hx
  omega
theorem less_neg : ∀ {xs : List Int}, NZ xs → lessN (xs.map (fun x => -x)) + lessN xs = xs.length
  | [], _ => rfl
  | x :: xs, h => by
    have ih := less_neg h.tail
    have hx := h.head
    unfold lessN at ih ⊢
    rw [List.map_cons, List.filter_cons, List.filter_cons, List.length_cons]
    by_cases e : x < 0
    · rw [decide_eq_true e, decide_eq_false (show ¬ -x < 0 by omega), if_neg (by decide), if_pos rfl, List.length_cons]; omega
    · rw [decide_eq_false e, decide_eq_true (show -x < 0 by omega), if_pos rfl, if_neg (by decide), List.length_cons]; omega
theorem fv_take {xs : List Int} (h : fvB xs = true) {k : Nat} (h1 : 1 ≤ k) (h2 : k ≤ xs.length) : fvB (xs.take k) = true := by
  obtain ⟨a1, a2, a3⟩ := fvB_iff.1 h
  exact fvB_iff.2 ⟨fun x hx => a1 x (List.mem_of_mem_take hx), by rw [List.length_take]; omega, by rw [List.length_take]; omega⟩
theorem fv_drop {xs : List Int} (h : fvB xs = true) {k : Nat} (h2 : k < xs.length) : fvB (xs.drop k) = true := by
  obtain ⟨a1, a2, a3⟩ := fvB_iff.1 h
  exact fvB_iff.2 ⟨fun x hx => a1 x (List.mem_of_mem_drop hx), by rw [List.length_drop]; omega, by rw [List.length_drop]; omega⟩
theorem less_split (xs : List Int) (k : Nat) : lessN (xs.take k) + lessN (xs.drop k) = lessN xs := by
  rw [← less_app, List.take_append_drop]

theorem sg_neg {xs : List Int} (h : fvB xs = true) : sg (xs.map (fun x => -x)) = -(sg xs) := by
  have := less_neg (fv_nz h)
  unfold sg
  rw [List.length_map]
  omega
theorem sg_split (xs : List Int) (k : Nat) : sg (xs.take k) + sg (xs.drop k) = sg xs := by
  have h1 := less_split xs k
  have h2 : (xs.take k).length + (xs.drop k).length = xs.length := by rw [← List.length_append, List.take_append_drop]
  unfold sg
  omega
theorem sg_bd (xs : List Int) : -(xs.length : Int) ≤ sg xs ∧ sg xs ≤ xs.length ∧ ((xs.length : Int) - sg xs) % 2 = 0 := by
  have := less_le xs
  unfold sg
  omega
theorem sg_one {x : Int} : sg [x] = if x < 0 then -1 else 1 := by
  unfold sg lessN
  by_cases h : x < 0
  · rw [if_pos h, List.filter_cons, decide_eq_true h, if_pos rfl]; rfl
  · rw [if_neg h, List.filter_cons, decide_eq_false h, if_neg (by decide)]; rfl

theorem sg_app (xs ys : List Int) : sg (xs ++ ys) = sg xs + sg ys := by
  unfold sg
  rw [less_app, List.length_append]
  omega
theorem join_yes {a b : List Int} (h : joinOk a b = true) : fvB a = true ∧ fvB b = true ∧ fvB (a ++ b) = true ∧ joinL a b = a ++ b := by
  have h2 := h
  unfold joinOk at h
  rw [Bool.and_eq_true, Bool.and_eq_true] at h
  exact ⟨h.1, h.2.1, h.2.2, by unfold joinL; rw [h2]; rfl⟩
theorem join_no {a b : List Int} (h : joinOk a b = false) : joinL a b = [] := by unfold joinL; rw [h]; rfl
theorem fv_perm {a b : List Int} (hp : a.Perm b) (h : fvB a = true) : fvB b = true := by
  obtain ⟨h1, h2, h3⟩ := fvB_iff.1 h
  exact fvB_iff.2 ⟨fun x hx => h1 x (hp.mem_iff.2 hx), by rw [← hp.length_eq]; exact h2, by rw [← hp.length_eq]; exact h3⟩
theorem join_comm {a b : List Int} (h : joinOk a b = true) : joinOk b a = true := by
  obtain ⟨h1, h2, h3, _⟩ := join_yes h
  unfold joinOk
  rw [h1, h2, fv_perm List.perm_append_comm h3]
  rfl
theorem disc_yes {a : List Int} (h : fvB a = true) : discV a = coreG (prodI a) := by unfold discV; rw [h]; rfl
theorem disc_perm {a b : List Int} (hp : a.Perm b) (h : fvB a = true) : discV a = discV b := by
  rw [disc_yes h, disc_yes (fv_perm hp h), prodI_perm hp]
theorem below_dn {w w' : World} {B k : Nat} (h : Below B w w') : Below B w (w'.drewN k) := below_drewN h k

end Go.Proofs.Ytbhlgdleklfonaa
