/-
  Contracts of the program's chapter 5: three terms made normal.
-/
import Derived.Test.YtenibnblibnocacQBun34
import Derived.Test.YtenibnblibnocacQBun26
import Derived.Test.YtenibnblibnocacQBun25
set_option linter.unusedVariables false
namespace Go.Proofs.Ytenibnblibnocac
open Go.RowKit

/-- six integers in a block: three terms, three factors -/
def Row6 (W : World) (B : Nat) (l : List Int) : Prop := W.heap[B]? = some (.cells (l.map (Value.int .i64)).toArray 47 (0, 0))
theorem Row6.lt {W : World} {B : Nat} {l : List Int} (h : Row6 W B l) : B < W.heap.size := (Array.getElem?_eq_some_iff.1 h).1
theorem Row6.cell {W : World} {B : Nat} {l : List Int} (h : Row6 W B l) {i : Nat} (hi : i < l.length) : W.cell? ⟨B, i, none⟩ = some (.int .i64 (l.getD i 0)) := by
  rw [Go.cell_of_row _ _ _ _ _ _ h, getD_at _ _ hi]
  simp [hi]
theorem Row6.thaw {W : World} {B : Nat} {l : List Int} (h : Row6 W B l) (i : Nat) : W.frozen? ⟨B, i, none⟩ = false := frozen_of_row _ _ _ _ _ h
theorem Row6.set {W : World} {B : Nat} {l : List Int} (h : Row6 W B l) (i : Nat) (x : Int) : Row6 (W.setCell ⟨B, i, none⟩ (.int .i64 x)) B (l.set i x) := by
  unfold Row6
  rw [heap_setCell_same _ _ _ _ _ _ h]
  simp
theorem Row6.other {W : World} {B C : Nat} {l : List Int} (h : Row6 W B l) (hne : B ≠ C) (i : Nat) (v : Value) : Row6 (W.setCell ⟨C, i, none⟩ v) B l := (heap_setCell_other W ⟨C, i, none⟩ B v hne).trans h
theorem Row6.keep {W W' : World} {B n : Nat} {l : List Int} (h : Row6 W B l) (hb : Below n W W') (hB : B < n) : Row6 W' B l := (hb.block B hB).trans h
theorem Row6.alloc {W : World} {B : Nat} {l : List Int} (h : Row6 W B l) (o : Obj) : Row6 (W.alloc o) B l := (Below.heap_alloc _ _ _ h.lt).trans h
theorem Row6.new (W : World) (l : List Int) : Row6 (W.alloc (.cells (l.map (Value.int .i64)).toArray 47)) W.heap.size l := heap_alloc_new W _
/-- a value of six integers -/
def v6 (t m : T3) : Value := .agg #[.int .i64 t.a, .int .i64 t.b, .int .i64 t.c, .int .i64 m.a, .int .i64 m.b, .int .i64 m.c]
def l6 (t m : T3) : List Int := [t.a, t.b, t.c, m.a, m.b, m.c]
theorem store6 {W : World} {B : Nat} {y0 y1 y2 y3 y4 y5 : Int} (h : Row6 W B [y0, y1, y2, y3, y4, y5]) (x0 x1 x2 x3 x4 x5 : Int) : W.cell? ⟨B, 0, none⟩ = some (.int .i64 y0) ∧ W.frozen? ⟨B, 0, none⟩ = false ∧ (W.setCell ⟨B, 0, none⟩ (.int .i64 x0)).cell? ⟨B, 1, none⟩ = some (.int .i64 y1) ∧ (W.setCell ⟨B, 0, none⟩ (.int .i64 x0)).frozen? ⟨B, 1, none⟩ = false ∧ ((W.setCell ⟨B, 0, none⟩ (.int .i64 x0)).setCell ⟨B, 1, none⟩ (.int .i64 x1)).cell? ⟨B, 2, none⟩ = some (.int .i64 y2) ∧ ((W.setCell ⟨B, 0, none⟩ (.int .i64 x0)).setCell ⟨B, 1, none⟩ (.int .i64 x1)).frozen? ⟨B, 2, none⟩ = false ∧ (((W.setCell ⟨B, 0, none⟩ (.int .i64 x0)).setCell ⟨B, 1, none⟩ (.int .i64 x1)).setCell ⟨B, 2, none⟩ (.int .i64 x2)).cell? ⟨B, 3, none⟩ = some (.int .i64 y3) ∧ (((W.setCell ⟨B, 0, none⟩ (.int .i64 x0)).setCell ⟨B, 1, none⟩ (.int .i64 x1)).setCell ⟨B, 2, none⟩ (.int .i64 x2)).frozen? ⟨B, 3, none⟩ = false ∧ ((((W.setCell ⟨B, 0, none⟩ (.int .i64 x0)).setCell ⟨B, 1, none⟩ (.int .i64 x1)).setCell ⟨B, 2, none⟩ (.int .i64 x2)).setCell ⟨B, 3, none⟩ (.int .i64 x3)).cell? ⟨B, 4, none⟩ = some (.int .i64 y4) ∧ ((((W.setCell ⟨B, 0, none⟩ (.int .i64 x0)).setCell ⟨B, 1, none⟩ (.int .i64 x1)).setCell ⟨B, 2, none⟩ (.int .i64 x2)).setCell ⟨B, 3, none⟩ (.int .i64 x3)).frozen? ⟨B, 4, none⟩ = false ∧ (((((W.setCell ⟨B, 0, none⟩ (.int .i64 x0)).setCell ⟨B, 1, none⟩ (.int .i64 x1)).setCell ⟨B, 2, none⟩ (.int .i64 x2)).setCell ⟨B, 3, none⟩ (.int .i64 x3)).setCell ⟨B, 4, none⟩ (.int .i64 x4)).cell? ⟨B, 5, none⟩ = some (.int .i64 y5) ∧ (((((W.setCell ⟨B, 0, none⟩ (.int .i64 x0)).setCell ⟨B, 1, none⟩ (.int .i64 x1)).setCell ⟨B, 2, none⟩ (.int .i64 x2)).setCell ⟨B, 3, none⟩ (.int .i64 x3)).setCell ⟨B, 4, none⟩ (.int .i64 x4)).frozen? ⟨B, 5, none⟩ = false ∧ Hid (Row6 ((((((W.setCell ⟨B, 0, none⟩ (.int .i64 x0)).setCell ⟨B, 1, none⟩ (.int .i64 x1)).setCell ⟨B, 2, none⟩ (.int .i64 x2)).setCell ⟨B, 3, none⟩ (.int .i64 x3)).setCell ⟨B, 4, none⟩ (.int .i64 x4)).setCell ⟨B, 5, none⟩ (.int .i64 x5)) B [x0, x1, x2, x3, x4, x5]) := by
  have h0 : Row6 (W.setCell ⟨B, 0, none⟩ (.int .i64 x0)) B [x0, y1, y2, y3, y4, y5] := h.set 0 x0
  have h1 : Row6 ((W.setCell ⟨B, 0, none⟩ (.int .i64 x0)).setCell ⟨B, 1, none⟩ (.int .i64 x1)) B [x0, x1, y2, y3, y4, y5] := h0.set 1 x1
  have h2 : Row6 (((W.setCell ⟨B, 0, none⟩ (.int .i64 x0)).setCell ⟨B, 1, none⟩ (.int .i64 x1)).setCell ⟨B, 2, none⟩ (.int .i64 x2)) B [x0, x1, x2, y3, y4, y5] := h1.set 2 x2
  have h3 : Row6 ((((W.setCell ⟨B, 0, none⟩ (.int .i64 x0)).setCell ⟨B, 1, none⟩ (.int .i64 x1)).setCell ⟨B, 2, none⟩ (.int .i64 x2)).setCell ⟨B, 3, none⟩ (.int .i64 x3)) B [x0, x1, x2, x3, y4, y5] := h2.set 3 x3
  have h4 : Row6 (((((W.setCell ⟨B, 0, none⟩ (.int .i64 x0)).setCell ⟨B, 1, none⟩ (.int .i64 x1)).setCell ⟨B, 2, none⟩ (.int .i64 x2)).setCell ⟨B, 3, none⟩ (.int .i64 x3)).setCell ⟨B, 4, none⟩ (.int .i64 x4)) B [x0, x1, x2, x3, x4, y5] := h3.set 4 x4
  have h5 : Row6 ((((((W.setCell ⟨B, 0, none⟩ (.int .i64 x0)).setCell ⟨B, 1, none⟩ (.int .i64 x1)).setCell ⟨B, 2, none⟩ (.int .i64 x2)).setCell ⟨B, 3, none⟩ (.int .i64 x3)).setCell ⟨B, 4, none⟩ (.int .i64 x4)).setCell ⟨B, 5, none⟩ (.int .i64 x5)) B [x0, x1, x2, x3, x4, x5] := h4.set 5 x5
  exact ⟨h.cell (i := 0) (by simp), h.thaw 0, h0.cell (i := 1) (by simp), h0.thaw 1, h1.cell (i := 2) (by simp), h1.thaw 2, h2.cell (i := 3) (by simp), h2.thaw 3, h3.cell (i := 4) (by simp), h3.thaw 4, h4.cell (i := 5) (by simp), h4.thaw 5, hid h5⟩
theorem below6 {n : Nat} {W0 W : World} {B : Nat} (h : Below n W0 W) (hB : n ≤ B) (x0 x1 x2 x3 x4 x5 : Int) : Below n W0 ((((((W.setCell ⟨B, 0, none⟩ (.int .i64 x0)).setCell ⟨B, 1, none⟩ (.int .i64 x1)).setCell ⟨B, 2, none⟩ (.int .i64 x2)).setCell ⟨B, 3, none⟩ (.int .i64 x3)).setCell ⟨B, 4, none⟩ (.int .i64 x4)).setCell ⟨B, 5, none⟩ (.int .i64 x5)) := ((((((h.setCell (p := ⟨B, 0, none⟩) hB (.int .i64 x0)).setCell (p := ⟨B, 1, none⟩) hB (.int .i64 x1)).setCell (p := ⟨B, 2, none⟩) hB (.int .i64 x2)).setCell (p := ⟨B, 3, none⟩) hB (.int .i64 x3)).setCell (p := ⟨B, 4, none⟩) hB (.int .i64 x4)).setCell (p := ⟨B, 5, none⟩) hB (.int .i64 x5))
set_option maxRecDepth 100000 in
set_option maxHeartbeats 8000000 in
theorem coreTerms_any (v : Value) (a b c : Int) (ok : Ok3 a b c) (w : World) (h : Rd w v [a, b, c]) : Calls Try.prog 29 #[v] w fun e w' => e = .returned (v6 (coreT a b c) (rootM a b c)) ∧ Below w.heap.size w w' := by
  obtain ⟨wr0, wr1, wr2, wr3, wr4⟩ := wrap5
  have HH := hid h
  have HA0 := hid ok.a0
  have HB0 := hid ok.b0
  have HC0 := hid ok.c0
  have a1 := ok.a1
  have a2 := ok.a2
  have b1 := ok.b1
  have b2 := ok.b2
  have c1 := ok.c1
  have c2 := ok.c2
  have ra := root_le ok.a0 a1 a2
  have rb := root_le ok.b0 b1 b2
  have rc := root_le ok.c0 c1 c2
  have EV : Hid (v6 (coreT a b c) (rootM a b c) = .agg #[.int .i64 (coreG a), .int .i64 (coreG b), .int .i64 (coreG c), .int .i64 ((rootG b : Int) * rootG c), .int .i64 ((rootG a : Int) * rootG c), .int .i64 ((rootG a : Int) * rootG b)]) := hid rfl
  obtain ⟨V, hV⟩ : ∃ V, V = v6 (coreT a b c) (rootM a b c) := ⟨_, rfl⟩
  rw [← hV] at EV ⊢
  obtain ⟨A, hA⟩ : ∃ A, A = coreG a := ⟨_, rfl⟩
  obtain ⟨B, hB⟩ : ∃ B, B = coreG b := ⟨_, rfl⟩
  obtain ⟨C, hC⟩ : ∃ C, C = coreG c := ⟨_, rfl⟩
  obtain ⟨r, hr⟩ : ∃ r, r = rootG a := ⟨_, rfl⟩
  obtain ⟨s, hs⟩ : ∃ s, s = rootG b := ⟨_, rfl⟩
  obtain ⟨q, hq⟩ : ∃ q, q = rootG c := ⟨_, rfl⟩
  have QA := hid hA.symm
  have QB := hid hB.symm
  have QC := hid hC.symm
  have QR := hid hr.symm
  have QS := hid hs.symm
  have QQ := hid hq.symm
  rw [← hA, ← hB, ← hC, ← hr, ← hs, ← hq] at EV
  rw [← hr] at ra
  rw [← hs] at rb
  rw [← hq] at rc
  have rs := rr_le ra rb
  have rq := rr_le ra rc
  have sq := rr_le rb rc
  have rs1 := rs.1
  have rs2 := rs.2
  have rq1 := rq.1
  have rq2 := rq.2
  have sq1 := sq.1
  have sq2 := sq.2
  obtain ⟨gv, ov, cap, rfl, k0, k1, k2⟩ := rd_three h
  have HK : Hid (∀ W : World, Below w.heap.size w W → W.cell? ⟨gv, ov, none⟩ = some (.int .i64 a) ∧ W.cell? ⟨gv, ov + 1, none⟩ = some (.int .i64 b) ∧ W.cell? ⟨gv, ov + 2, none⟩ = some (.int .i64 c)) := hid (fun W hW => by
    obtain ⟨g2, o2, cap2, e, j⟩ := rd_three (HH.out.keep hW)
    cases e
    exact j)
  have hR0 : Row6 ((w.alloc (.cells (([0, 0, 0, 0, 0, 0] : List Int).map (Value.int .i64)).toArray 47)).alloc (.cells (([0, 0, 0, 1, 1, 1] : List Int).map (Value.int .i64)).toArray 47)) w.heap.size [0, 0, 0, 0, 0, 0] := (Row6.new w _).alloc _
  have hN0 : Row6 ((w.alloc (.cells (([0, 0, 0, 0, 0, 0] : List Int).map (Value.int .i64)).toArray 47)).alloc (.cells (([0, 0, 0, 1, 1, 1] : List Int).map (Value.int .i64)).toArray 47)) (w.heap.size + 1) [0, 0, 0, 1, 1, 1] := by
    have := Row6.new (w.alloc (.cells (([0, 0, 0, 0, 0, 0] : List Int).map (Value.int .i64)).toArray 47)) [0, 0, 0, 1, 1, 1]
    rwa [World.size_alloc] at this
  have hb0 : Below w.heap.size w ((w.alloc (.cells (([0, 0, 0, 0, 0, 0] : List Int).map (Value.int .i64)).toArray 47)).alloc (.cells (([0, 0, 0, 1, 1, 1] : List Int).map (Value.int .i64)).toArray 47)) := ((Below.refl _ _).alloc (Nat.le_refl _) _).alloc (by simp) _
  have HR0 := hid hR0
  have HN0 := hid hN0
  have HB00 := hid hb0
  clear h ok hA hB hC hr hs hq rs rq sq k0 k1 k2 hR0 hN0 hb0 hV
  go_enter Try.func29, Try.ntmps29
  go_wp2_with fail
  go_loopw [12] (fun si wr => ∃ (K : Nat) (L : List Int), si = .int .i64 K ∧ ((K = 0 ∧ L = [0, 0, 0, 1, 1, 1]) ∨ (K = 1 ∧ L = [A, 0, 0, 1, (r : Int), (r : Int)]) ∨ (K = 2 ∧ L = [A, B, 0, (s : Int), (r : Int), (r : Int) * s]) ∨ (K = 3 ∧ L = [A, B, C, (s : Int) * q, (r : Int) * q, (r : Int) * s])) ∧ Hid (Row6 wr (w.heap.size + 1) L) ∧ Hid (Row6 wr w.heap.size [0, 0, 0, 0, 0, 0]) ∧ Hid (Below w.heap.size w wr)) (fun si _ => 3 - (intOf si).toNat)
  case atStart => exact ⟨0, _, rfl, .inl ⟨rfl, rfl⟩, HN0, HR0, HB00⟩
  case round =>
    obtain ⟨K, L, rfl, hK, HN, HZ, HB⟩ := hrel
    rename World => wr
    have hsz := HB.out.size
    obtain ⟨j0, j1, j2⟩ := HK.out wr HB.out
    rcases hK with ⟨rfl, rfl⟩ | ⟨rfl, rfl⟩ | ⟨rfl, rfl⟩ | ⟨rfl, rfl⟩
    · have FACT : ∀ w3 : World, Below wr.heap.size wr w3 → w3.cell? ⟨w.heap.size + 1, 0, none⟩ = some (.int .i64 (0)) ∧ w3.frozen? ⟨w.heap.size + 1, 0, none⟩ = false ∧ (w3.setCell ⟨w.heap.size + 1, 0, none⟩ (.int .i64 (A))).cell? ⟨w.heap.size + 1, 4, none⟩ = some (.int .i64 (1)) ∧ (w3.setCell ⟨w.heap.size + 1, 0, none⟩ (.int .i64 (A))).frozen? ⟨w.heap.size + 1, 4, none⟩ = false ∧ ((w3.setCell ⟨w.heap.size + 1, 0, none⟩ (.int .i64 (A))).setCell ⟨w.heap.size + 1, 4, none⟩ (.int .i64 ((r : Int)))).cell? ⟨w.heap.size + 1, 5, none⟩ = some (.int .i64 (1)) ∧ ((w3.setCell ⟨w.heap.size + 1, 0, none⟩ (.int .i64 (A))).setCell ⟨w.heap.size + 1, 4, none⟩ (.int .i64 ((r : Int)))).frozen? ⟨w.heap.size + 1, 5, none⟩ = false ∧ w.heap.size + 1 < w3.heap.size ∧ Hid (Row6 (((w3.setCell ⟨w.heap.size + 1, 0, none⟩ (.int .i64 (A))).setCell ⟨w.heap.size + 1, 4, none⟩ (.int .i64 ((r : Int)))).setCell ⟨w.heap.size + 1, 5, none⟩ (.int .i64 ((r : Int)))) (w.heap.size + 1) [A, 0, 0, 1, (r : Int), (r : Int)]) ∧ Hid (Row6 (((w3.setCell ⟨w.heap.size + 1, 0, none⟩ (.int .i64 (A))).setCell ⟨w.heap.size + 1, 4, none⟩ (.int .i64 ((r : Int)))).setCell ⟨w.heap.size + 1, 5, none⟩ (.int .i64 ((r : Int)))) w.heap.size [0, 0, 0, 0, 0, 0]) ∧ Hid (Below w.heap.size w (((w3.setCell ⟨w.heap.size + 1, 0, none⟩ (.int .i64 (A))).setCell ⟨w.heap.size + 1, 4, none⟩ (.int .i64 ((r : Int)))).setCell ⟨w.heap.size + 1, 5, none⟩ (.int .i64 ((r : Int))))) := fun w3 hb3 => by
        have n3 := HN.out.keep hb3 HN.out.lt
        have z3 := HZ.out.keep hb3 HZ.out.lt
        have n1 : Row6 (w3.setCell ⟨w.heap.size + 1, 0, none⟩ (.int .i64 (A))) (w.heap.size + 1) [A, 0, 0, 1, 1, 1] := n3.set 0 (A)
        have n2 : Row6 ((w3.setCell ⟨w.heap.size + 1, 0, none⟩ (.int .i64 (A))).setCell ⟨w.heap.size + 1, 4, none⟩ (.int .i64 ((r : Int)))) (w.heap.size + 1) [A, 0, 0, 1, (r : Int), 1] := n1.set 4 ((r : Int))
        have n4 : Row6 (((w3.setCell ⟨w.heap.size + 1, 0, none⟩ (.int .i64 (A))).setCell ⟨w.heap.size + 1, 4, none⟩ (.int .i64 ((r : Int)))).setCell ⟨w.heap.size + 1, 5, none⟩ (.int .i64 ((r : Int)))) (w.heap.size + 1) [A, 0, 0, 1, (r : Int), (r : Int)] := n2.set 5 ((r : Int))
        have z4 := ((z3.other (C := w.heap.size + 1) (by omega) 0 (.int .i64 (A))).other (C := w.heap.size + 1) (by omega) 4 (.int .i64 ((r : Int)))).other (C := w.heap.size + 1) (by omega) 5 (.int .i64 ((r : Int)))
        have B3 := HB.out.trans (hb3.mono hsz)
        have B4 := ((B3.setCell (p := ⟨w.heap.size + 1, 0, none⟩) (by simp) (.int .i64 (A))).setCell (p := ⟨w.heap.size + 1, 4, none⟩) (by simp) (.int .i64 ((r : Int)))).setCell (p := ⟨w.heap.size + 1, 5, none⟩) (by simp) (.int .i64 ((r : Int)))
        exact ⟨n3.cell (i := 0) (by simp), n3.thaw 0, n1.cell (i := 4) (by simp), n1.thaw 4, n2.cell (i := 5) (by simp), n2.thaw 5, n3.lt, hid n4, hid z4, hid B4⟩
      have HF := hid FACT
      clear FACT
      go_wp2_with (go_at_call 38; refine (numCore_any _ HA0.out (by omega) (by omega) _).mono ?_; rw [QA.out, QR.out]; rintro e w3 ⟨rfl, hb3⟩; obtain ⟨q0, f1, q1, f2, q2, f3, hl3, HN4, HZ4, HB4⟩ := HF.out w3 hb3; clear hb3)
      go_roundw
      case measure => simp only [intOf]; omega
      case rel => exact ⟨1, [A, 0, 0, 1, (r : Int), (r : Int)], by first | rfl | go_num, .inr (.inl ⟨rfl, rfl⟩), HN4, HZ4, HB4⟩
    · have FACT : ∀ w3 : World, Below wr.heap.size wr w3 → w3.cell? ⟨w.heap.size + 1, 1, none⟩ = some (.int .i64 (0)) ∧ w3.frozen? ⟨w.heap.size + 1, 1, none⟩ = false ∧ (w3.setCell ⟨w.heap.size + 1, 1, none⟩ (.int .i64 (B))).cell? ⟨w.heap.size + 1, 5, none⟩ = some (.int .i64 ((r : Int))) ∧ (w3.setCell ⟨w.heap.size + 1, 1, none⟩ (.int .i64 (B))).frozen? ⟨w.heap.size + 1, 5, none⟩ = false ∧ ((w3.setCell ⟨w.heap.size + 1, 1, none⟩ (.int .i64 (B))).setCell ⟨w.heap.size + 1, 5, none⟩ (.int .i64 ((r : Int) * s))).cell? ⟨w.heap.size + 1, 3, none⟩ = some (.int .i64 (1)) ∧ ((w3.setCell ⟨w.heap.size + 1, 1, none⟩ (.int .i64 (B))).setCell ⟨w.heap.size + 1, 5, none⟩ (.int .i64 ((r : Int) * s))).frozen? ⟨w.heap.size + 1, 3, none⟩ = false ∧ w.heap.size + 1 < w3.heap.size ∧ Hid (Row6 (((w3.setCell ⟨w.heap.size + 1, 1, none⟩ (.int .i64 (B))).setCell ⟨w.heap.size + 1, 5, none⟩ (.int .i64 ((r : Int) * s))).setCell ⟨w.heap.size + 1, 3, none⟩ (.int .i64 ((s : Int)))) (w.heap.size + 1) [A, B, 0, (s : Int), (r : Int), (r : Int) * s]) ∧ Hid (Row6 (((w3.setCell ⟨w.heap.size + 1, 1, none⟩ (.int .i64 (B))).setCell ⟨w.heap.size + 1, 5, none⟩ (.int .i64 ((r : Int) * s))).setCell ⟨w.heap.size + 1, 3, none⟩ (.int .i64 ((s : Int)))) w.heap.size [0, 0, 0, 0, 0, 0]) ∧ Hid (Below w.heap.size w (((w3.setCell ⟨w.heap.size + 1, 1, none⟩ (.int .i64 (B))).setCell ⟨w.heap.size + 1, 5, none⟩ (.int .i64 ((r : Int) * s))).setCell ⟨w.heap.size + 1, 3, none⟩ (.int .i64 ((s : Int))))) := fun w3 hb3 => by
        have n3 := HN.out.keep hb3 HN.out.lt
        have z3 := HZ.out.keep hb3 HZ.out.lt
        have n1 : Row6 (w3.setCell ⟨w.heap.size + 1, 1, none⟩ (.int .i64 (B))) (w.heap.size + 1) [A, B, 0, 1, (r : Int), (r : Int)] := n3.set 1 (B)
        have n2 : Row6 ((w3.setCell ⟨w.heap.size + 1, 1, none⟩ (.int .i64 (B))).setCell ⟨w.heap.size + 1, 5, none⟩ (.int .i64 ((r : Int) * s))) (w.heap.size + 1) [A, B, 0, 1, (r : Int), (r : Int) * s] := n1.set 5 ((r : Int) * s)
        have n4 : Row6 (((w3.setCell ⟨w.heap.size + 1, 1, none⟩ (.int .i64 (B))).setCell ⟨w.heap.size + 1, 5, none⟩ (.int .i64 ((r : Int) * s))).setCell ⟨w.heap.size + 1, 3, none⟩ (.int .i64 ((s : Int)))) (w.heap.size + 1) [A, B, 0, (s : Int), (r : Int), (r : Int) * s] := n2.set 3 ((s : Int))
        have z4 := ((z3.other (C := w.heap.size + 1) (by omega) 1 (.int .i64 (B))).other (C := w.heap.size + 1) (by omega) 5 (.int .i64 ((r : Int) * s))).other (C := w.heap.size + 1) (by omega) 3 (.int .i64 ((s : Int)))
        have B3 := HB.out.trans (hb3.mono hsz)
        have B4 := ((B3.setCell (p := ⟨w.heap.size + 1, 1, none⟩) (by simp) (.int .i64 (B))).setCell (p := ⟨w.heap.size + 1, 5, none⟩) (by simp) (.int .i64 ((r : Int) * s))).setCell (p := ⟨w.heap.size + 1, 3, none⟩) (by simp) (.int .i64 ((s : Int)))
        exact ⟨n3.cell (i := 1) (by simp), n3.thaw 1, n1.cell (i := 5) (by simp), n1.thaw 5, n2.cell (i := 3) (by simp), n2.thaw 3, n3.lt, hid n4, hid z4, hid B4⟩
      have HF := hid FACT
      clear FACT
      go_wp2_with (go_at_call 38; refine (numCore_any _ HB0.out (by omega) (by omega) _).mono ?_; rw [QB.out, QS.out]; rintro e w3 ⟨rfl, hb3⟩; obtain ⟨q0, f1, q1, f2, q2, f3, hl3, HN4, HZ4, HB4⟩ := HF.out w3 hb3; clear hb3)
      go_roundw
      case measure => simp only [intOf]; omega
      case rel => exact ⟨2, [A, B, 0, (s : Int), (r : Int), (r : Int) * s], by first | rfl | go_num, .inr (.inr (.inl ⟨rfl, rfl⟩)), HN4, HZ4, HB4⟩
    · have FACT : ∀ w3 : World, Below wr.heap.size wr w3 → w3.cell? ⟨w.heap.size + 1, 2, none⟩ = some (.int .i64 (0)) ∧ w3.frozen? ⟨w.heap.size + 1, 2, none⟩ = false ∧ (w3.setCell ⟨w.heap.size + 1, 2, none⟩ (.int .i64 (C))).cell? ⟨w.heap.size + 1, 3, none⟩ = some (.int .i64 ((s : Int))) ∧ (w3.setCell ⟨w.heap.size + 1, 2, none⟩ (.int .i64 (C))).frozen? ⟨w.heap.size + 1, 3, none⟩ = false ∧ ((w3.setCell ⟨w.heap.size + 1, 2, none⟩ (.int .i64 (C))).setCell ⟨w.heap.size + 1, 3, none⟩ (.int .i64 ((s : Int) * q))).cell? ⟨w.heap.size + 1, 4, none⟩ = some (.int .i64 ((r : Int))) ∧ ((w3.setCell ⟨w.heap.size + 1, 2, none⟩ (.int .i64 (C))).setCell ⟨w.heap.size + 1, 3, none⟩ (.int .i64 ((s : Int) * q))).frozen? ⟨w.heap.size + 1, 4, none⟩ = false ∧ w.heap.size + 1 < w3.heap.size ∧ Hid (Row6 (((w3.setCell ⟨w.heap.size + 1, 2, none⟩ (.int .i64 (C))).setCell ⟨w.heap.size + 1, 3, none⟩ (.int .i64 ((s : Int) * q))).setCell ⟨w.heap.size + 1, 4, none⟩ (.int .i64 ((r : Int) * q))) (w.heap.size + 1) [A, B, C, (s : Int) * q, (r : Int) * q, (r : Int) * s]) ∧ Hid (Row6 (((w3.setCell ⟨w.heap.size + 1, 2, none⟩ (.int .i64 (C))).setCell ⟨w.heap.size + 1, 3, none⟩ (.int .i64 ((s : Int) * q))).setCell ⟨w.heap.size + 1, 4, none⟩ (.int .i64 ((r : Int) * q))) w.heap.size [0, 0, 0, 0, 0, 0]) ∧ Hid (Below w.heap.size w (((w3.setCell ⟨w.heap.size + 1, 2, none⟩ (.int .i64 (C))).setCell ⟨w.heap.size + 1, 3, none⟩ (.int .i64 ((s : Int) * q))).setCell ⟨w.heap.size + 1, 4, none⟩ (.int .i64 ((r : Int) * q)))) := fun w3 hb3 => by
        have n3 := HN.out.keep hb3 HN.out.lt
        have z3 := HZ.out.keep hb3 HZ.out.lt
        have n1 : Row6 (w3.setCell ⟨w.heap.size + 1, 2, none⟩ (.int .i64 (C))) (w.heap.size + 1) [A, B, C, (s : Int), (r : Int), (r : Int) * s] := n3.set 2 (C)
        have n2 : Row6 ((w3.setCell ⟨w.heap.size + 1, 2, none⟩ (.int .i64 (C))).setCell ⟨w.heap.size + 1, 3, none⟩ (.int .i64 ((s : Int) * q))) (w.heap.size + 1) [A, B, C, (s : Int) * q, (r : Int), (r : Int) * s] := n1.set 3 ((s : Int) * q)
        have n4 : Row6 (((w3.setCell ⟨w.heap.size + 1, 2, none⟩ (.int .i64 (C))).setCell ⟨w.heap.size + 1, 3, none⟩ (.int .i64 ((s : Int) * q))).setCell ⟨w.heap.size + 1, 4, none⟩ (.int .i64 ((r : Int) * q))) (w.heap.size + 1) [A, B, C, (s : Int) * q, (r : Int) * q, (r : Int) * s] := n2.set 4 ((r : Int) * q)
        have z4 := ((z3.other (C := w.heap.size + 1) (by omega) 2 (.int .i64 (C))).other (C := w.heap.size + 1) (by omega) 3 (.int .i64 ((s : Int) * q))).other (C := w.heap.size + 1) (by omega) 4 (.int .i64 ((r : Int) * q))
        have B3 := HB.out.trans (hb3.mono hsz)
        have B4 := ((B3.setCell (p := ⟨w.heap.size + 1, 2, none⟩) (by simp) (.int .i64 (C))).setCell (p := ⟨w.heap.size + 1, 3, none⟩) (by simp) (.int .i64 ((s : Int) * q))).setCell (p := ⟨w.heap.size + 1, 4, none⟩) (by simp) (.int .i64 ((r : Int) * q))
        exact ⟨n3.cell (i := 2) (by simp), n3.thaw 2, n1.cell (i := 3) (by simp), n1.thaw 3, n2.cell (i := 4) (by simp), n2.thaw 4, n3.lt, hid n4, hid z4, hid B4⟩
      have HF := hid FACT
      clear FACT
      go_wp2_with (go_at_call 38; refine (numCore_any _ HC0.out (by omega) (by omega) _).mono ?_; rw [QC.out, QQ.out]; rintro e w3 ⟨rfl, hb3⟩; obtain ⟨q0, f1, q1, f2, q2, f3, hl3, HN4, HZ4, HB4⟩ := HF.out w3 hb3; clear hb3)
      go_roundw
      case measure => simp only [intOf]; omega
      case rel => exact ⟨3, [A, B, C, (s : Int) * q, (r : Int) * q, (r : Int) * s], by first | rfl | go_num, .inr (.inr (.inr (⟨rfl, rfl⟩))), HN4, HZ4, HB4⟩
    · have n0 := HN.out.cell (i := 0) (by simp)
      have n1 := HN.out.cell (i := 1) (by simp)
      have n2 := HN.out.cell (i := 2) (by simp)
      have n3 := HN.out.cell (i := 3) (by simp)
      have n4 := HN.out.cell (i := 4) (by simp)
      have n5 := HN.out.cell (i := 5) (by simp)
      obtain ⟨z0, f0, z1, f1, z2, f2, z3, f3, z4, f4, z5, f5, HZ6⟩ := store6 HZ.out A B C ((s : Int) * q) ((r : Int) * q) ((r : Int) * s)
      have HB6 := hid (below6 HB.out (Nat.le_refl w.heap.size) A B C ((s : Int) * q) ((r : Int) * q) ((r : Int) * s))
      go_wp2_with fail
      have r0 := HZ6.out.cell (i := 0) (by simp)
      have r1 := HZ6.out.cell (i := 1) (by simp)
      have r2 := HZ6.out.cell (i := 2) (by simp)
      have r3 := HZ6.out.cell (i := 3) (by simp)
      have r4 := HZ6.out.cell (i := 4) (by simp)
      have r5 := HZ6.out.cell (i := 5) (by simp)
      refine bodyPost_ret (v := .agg #[.int .i64 A, .int .i64 B, .int .i64 C, .int .i64 ((s : Int) * q), .int .i64 ((r : Int) * q), .int .i64 ((r : Int) * s)]) (by simp [results, Try.results29, go_sem] <;> go_simp) rfl ?_
      exact ⟨retV EV.out.symm, HB6.out⟩

end Go.Proofs.Ytenibnblibnocac