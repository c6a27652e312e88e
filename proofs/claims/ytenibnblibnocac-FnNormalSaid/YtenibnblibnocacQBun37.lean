/-
  Some texts in one file: Zp2b Zp2c.
-/
import Derived.Test.YtenibnblibnocacQZp2
import Derived.Test.YtenibnblibnocacQBun4
import Derived.Deep.RegionWith
import Derived.Deep.RegionHeld3
import Derived.Deep.QuietTactic
/-! Zp2b -/
set_option linter.unusedVariables false
namespace Go.Proofs.Ytenibnblibnocac
open Go.RowKit

/-- three indices in a block -/
def Row3 (W : World) (B : Nat) (i j k : Int) : Prop := W.heap[B]? = some (.cells #[.int .i64 i, .int .i64 j, .int .i64 k] 45 (0, 0))
theorem Row3.cell0 {W : World} {B : Nat} {i j k : Int} (h : Row3 W B i j k) : W.cell? ⟨B, 0, none⟩ = some (.int .i64 i) := by rw [Go.cell_of_row _ _ _ _ _ _ h]; rfl
theorem Row3.cell1 {W : World} {B : Nat} {i j k : Int} (h : Row3 W B i j k) : W.cell? ⟨B, 1, none⟩ = some (.int .i64 j) := by rw [Go.cell_of_row _ _ _ _ _ _ h]; rfl
theorem Row3.cell2 {W : World} {B : Nat} {i j k : Int} (h : Row3 W B i j k) : W.cell? ⟨B, 2, none⟩ = some (.int .i64 k) := by rw [Go.cell_of_row _ _ _ _ _ _ h]; rfl
theorem Row3.other {W : World} {B C : Nat} {i j k : Int} (h : Row3 W B i j k) (hne : B ≠ C) (n : Nat) (v : Value) : Row3 (W.setCell ⟨C, n, none⟩ v) B i j k := (heap_setCell_other W ⟨C, n, none⟩ B v hne).trans h
theorem Row3.keep {W W' : World} {B n : Nat} {i j k : Int} (h : Row3 W B i j k) (hb : Below n W W') (hB : B < n) : Row3 W' B i j k := (hb.block B hB).trans h
theorem Row3.lt {W : World} {B : Nat} {i j k : Int} (h : Row3 W B i j k) : B < W.heap.size := (Array.getElem?_eq_some_iff.1 h).1
def at3 (k : Nat) : Value := if k = 2 then .agg #[.int .i64 0, .int .i64 1, .int .i64 2] else if k = 1 then .agg #[.int .i64 0, .int .i64 2, .int .i64 1] else .agg #[.int .i64 1, .int .i64 2, .int .i64 0]
/-- one step, by a prime -/
def stepTK (k p : Nat) (t : T3) : T3 := if k = 2 then ⟨t.a.tdiv p, t.b.tdiv p, thirdI t.c p⟩ else if k = 1 then ⟨t.a.tdiv p, thirdI t.b p, t.c.tdiv p⟩ else ⟨thirdI t.a p, t.b.tdiv p, t.c.tdiv p⟩
def stepMK (k p : Nat) (t m : T3) : T3 := if k = 2 then ⟨m.a, m.b, thirdM t.c p m.c⟩ else if k = 1 then ⟨m.a, thirdM t.b p m.b, m.c⟩ else ⟨thirdM t.a p m.a, m.b, m.c⟩
set_option maxRecDepth 100000 in
set_option maxHeartbeats 8000000 in
theorem without_any (k p : Nat) (hk : k ≤ 2) (hp1 : 2 ≤ p) (hp2 : p ≤ 27000) (ta tb tc ma mb mc : Int) (h1 : -27000 ≤ ta) (h2 : ta ≤ 27000) (h3 : -27000 ≤ tb) (h4 : tb ≤ 27000) (h5 : -27000 ≤ tc) (h6 : tc ≤ 27000) (g1 : 1 ≤ ma) (g2 : ma ≤ 30) (g3 : 1 ≤ mb) (g4 : mb ≤ 30) (g5 : 1 ≤ mc) (g6 : mc ≤ 30) (w : World) :
    Calls Try.prog 60 #[v6 ⟨ta, tb, tc⟩ ⟨ma, mb, mc⟩, .int .i64 p, at3 k] w fun e w' => e = .returned (v6 (stepTK k p ⟨ta, tb, tc⟩) (stepMK k p ⟨ta, tb, tc⟩ ⟨ma, mb, mc⟩)) ∧ Below w.heap.size w w' := by
  have P0 : ((p : Int) == 0) = false := by rw [beq_eq_false_iff_ne]; omega
  have pp1 : (2 : Int) ≤ (p : Int) := by omega
  have pp2 : (p : Int) ≤ 27000 := by omega
  have da := tdiv_le (p := p) h1 h2
  have db := tdiv_le (p := p) h3 h4
  have dc := tdiv_le (p := p) h5 h6
  have da1 := da.1
  have da2 := da.2
  have db1 := db.1
  have db2 := db.2
  have dc1 := dc.1
  have dc2 := dc.2
  have mpa := mulp_le (p := p) h1 h2 hp2
  have mpb := mulp_le (p := p) h3 h4 hp2
  have mpc := mulp_le (p := p) h5 h6 hp2
  have nma := mulp_le (p := p) (x := ma) (by omega) (by omega) hp2
  have nmb := mulp_le (p := p) (x := mb) (by omega) (by omega) hp2
  have nmc := mulp_le (p := p) (x := mc) (by omega) (by omega) hp2
  have mpa1 := mpa.1
  have mpa2 := mpa.2
  have mpb1 := mpb.1
  have mpb2 := mpb.2
  have mpc1 := mpc.1
  have mpc2 := mpc.2
  have nma1 := nma.1
  have nma2 := nma.2
  have nmb1 := nmb.1
  have nmb2 := nmb.2
  have nmc1 := nmc.1
  have nmc2 := nmc.2
  clear da db dc mpa mpb mpc nma nmb nmc
  have hk3 : k = 2 ∨ k = 1 ∨ k = 0 := by omega
  clear hk
  rcases hk3 with rfl | rfl | rfl
  · have x0 : Row6 (((w.alloc (.cells #[.int .i64 ta, .int .i64 tb, .int .i64 tc, .int .i64 ma, .int .i64 mb, .int .i64 mc] 47)).alloc (.cells #[.int .i64 0, .int .i64 1, .int .i64 2] 45)).alloc (.cells #[.int .i64 0, .int .i64 0, .int .i64 0, .int .i64 0, .int .i64 0, .int .i64 0] 47)) w.heap.size [ta, tb, tc, ma, mb, mc] := ((Row6.new w [ta, tb, tc, ma, mb, mc]).alloc _).alloc _
    have y0 : Row3 (((w.alloc (.cells #[.int .i64 ta, .int .i64 tb, .int .i64 tc, .int .i64 ma, .int .i64 mb, .int .i64 mc] 47)).alloc (.cells #[.int .i64 0, .int .i64 1, .int .i64 2] 45)).alloc (.cells #[.int .i64 0, .int .i64 0, .int .i64 0, .int .i64 0, .int .i64 0, .int .i64 0] 47)) (w.heap.size + 1) 0 1 2 := by
      have h : Row3 ((w.alloc (.cells #[.int .i64 ta, .int .i64 tb, .int .i64 tc, .int .i64 ma, .int .i64 mb, .int .i64 mc] 47)).alloc (.cells #[.int .i64 0, .int .i64 1, .int .i64 2] 45)) (w.heap.size + 1) 0 1 2 := by
        have := heap_alloc_new (w.alloc (.cells #[.int .i64 ta, .int .i64 tb, .int .i64 tc, .int .i64 ma, .int .i64 mb, .int .i64 mc] 47)) (.cells #[.int .i64 0, .int .i64 1, .int .i64 2] 45)
        rwa [World.size_alloc] at this
      exact (Below.heap_alloc _ _ _ h.lt).trans h
    have z0 : Row6 (((w.alloc (.cells #[.int .i64 ta, .int .i64 tb, .int .i64 tc, .int .i64 ma, .int .i64 mb, .int .i64 mc] 47)).alloc (.cells #[.int .i64 0, .int .i64 1, .int .i64 2] 45)).alloc (.cells #[.int .i64 0, .int .i64 0, .int .i64 0, .int .i64 0, .int .i64 0, .int .i64 0] 47)) (w.heap.size + 2) [0, 0, 0, 0, 0, 0] := by
      have := Row6.new ((w.alloc (.cells #[.int .i64 ta, .int .i64 tb, .int .i64 tc, .int .i64 ma, .int .i64 mb, .int .i64 mc] 47)).alloc (.cells #[.int .i64 0, .int .i64 1, .int .i64 2] 45)) [0, 0, 0, 0, 0, 0]
      simp only [World.size_alloc] at this
      exact this
    have b0 : Below w.heap.size w (((w.alloc (.cells #[.int .i64 ta, .int .i64 tb, .int .i64 tc, .int .i64 ma, .int .i64 mb, .int .i64 mc] 47)).alloc (.cells #[.int .i64 0, .int .i64 1, .int .i64 2] 45)).alloc (.cells #[.int .i64 0, .int .i64 0, .int .i64 0, .int .i64 0, .int .i64 0, .int .i64 0] 47)) := (((Below.refl _ _).alloc (Nat.le_refl _) _).alloc (by simp) _).alloc (by simp; omega) _
    have EA : at3 2 = .agg #[.int .i64 0, .int .i64 1, .int .i64 2] := rfl
    have EB : v6 ⟨ta, tb, tc⟩ ⟨ma, mb, mc⟩ = .agg #[.int .i64 ta, .int .i64 tb, .int .i64 tc, .int .i64 ma, .int .i64 mb, .int .i64 mc] := rfl
    rw [EA, EB]
    clear EA EB
    have Y00 := y0.cell0
    have X00 := x0.cell (i := 0) (by simp)
    have F00 := x0.thaw 0
    obtain ⟨W0, hW0⟩ : ∃ W, W = (((w.alloc (.cells #[.int .i64 ta, .int .i64 tb, .int .i64 tc, .int .i64 ma, .int .i64 mb, .int .i64 mc] 47)).alloc (.cells #[.int .i64 0, .int .i64 1, .int .i64 2] 45)).alloc (.cells #[.int .i64 0, .int .i64 0, .int .i64 0, .int .i64 0, .int .i64 0, .int .i64 0] 47)) := ⟨_, rfl⟩
    have e0 := hW0.symm
    rw [← hW0] at x0 y0 z0 b0 Y00 X00 F00
    have x1 := x0.set 0 (ta.tdiv (p : Int))
    have y1 := y0.other (C := w.heap.size) (by omega) 0 (.int .i64 (ta.tdiv (p : Int)))
    have z1 := z0.other (C := w.heap.size) (by omega) 0 (.int .i64 (ta.tdiv (p : Int)))
    have b1 := b0.setCell (p := ⟨w.heap.size, 0, none⟩) (Nat.le_refl _) (.int .i64 (ta.tdiv (p : Int)))
    obtain ⟨W1, hW1⟩ : ∃ W, W = W0.setCell ⟨w.heap.size, 0, none⟩ (.int .i64 (ta.tdiv (p : Int))) := ⟨_, rfl⟩
    have e1 := hW1.symm
    rw [← hW1] at x1 y1 z1 b1
    have Y11 := y1.cell1
    have X11 : W1.cell? ⟨w.heap.size, 1, none⟩ = some (.int .i64 tb) := x1.cell (i := 1) (by simp)
    have F11 := x1.thaw 1
    have x2 := x1.set 1 (tb.tdiv (p : Int))
    have y2 := y1.other (C := w.heap.size) (by omega) 1 (.int .i64 (tb.tdiv (p : Int)))
    have z2 := z1.other (C := w.heap.size) (by omega) 1 (.int .i64 (tb.tdiv (p : Int)))
    have b2 := b1.setCell (p := ⟨w.heap.size, 1, none⟩) (Nat.le_refl _) (.int .i64 (tb.tdiv (p : Int)))
    obtain ⟨W2, hW2⟩ : ∃ W, W = W1.setCell ⟨w.heap.size, 1, none⟩ (.int .i64 (tb.tdiv (p : Int))) := ⟨_, rfl⟩
    have e2 := hW2.symm
    rw [← hW2] at x2 y2 z2 b2
    have Y22 := y2.cell2
    have X22 : W2.cell? ⟨w.heap.size, 2, none⟩ = some (.int .i64 tc) := x2.cell (i := 2) (by simp)
    have F22 := x2.thaw 2
    have TZ := tmod_zero (n := tc) (c := (p : Int))
    by_cases hd : tc.tmod (p : Int) = 0
    · have TD : (tc.tmod (p : Int) == 0) = true := by rw [beq_iff_eq]; exact hd
      have E3 : thirdI tc p = tc.tdiv (p : Int) := by unfold thirdI; rw [if_pos (TZ.1 hd)]
      have E4 : thirdM tc p mc = mc := by unfold thirdM; rw [if_pos (TZ.1 hd)]
      have x3 := x2.set 2 (tc.tdiv (p : Int))
      have y3 := y2.other (C := w.heap.size) (by omega) 2 (.int .i64 (tc.tdiv (p : Int)))
      have z3 := z2.other (C := w.heap.size) (by omega) 2 (.int .i64 (tc.tdiv (p : Int)))
      have b3 := b2.setCell (p := ⟨w.heap.size, 2, none⟩) (Nat.le_refl _) (.int .i64 (tc.tdiv (p : Int)))
      obtain ⟨W3, hW3⟩ : ∃ W, W = W2.setCell ⟨w.heap.size, 2, none⟩ (.int .i64 (tc.tdiv (p : Int))) := ⟨_, rfl⟩
      have e3 := hW3.symm
      rw [← hW3] at x3 y3 z3 b3
      have xf : Row6 W3 w.heap.size [ta.tdiv (p : Int), tb.tdiv (p : Int), tc.tdiv (p : Int), ma, mb, mc] := x3
      have L0 : W3.cell? ⟨w.heap.size, 0, none⟩ = some (.int .i64 (ta.tdiv (p : Int))) := xf.cell (i := 0) (by simp)
      have L1 : W3.cell? ⟨w.heap.size, 1, none⟩ = some (.int .i64 (tb.tdiv (p : Int))) := xf.cell (i := 1) (by simp)
      have L2 : W3.cell? ⟨w.heap.size, 2, none⟩ = some (.int .i64 (tc.tdiv (p : Int))) := xf.cell (i := 2) (by simp)
      have L3 : W3.cell? ⟨w.heap.size, 3, none⟩ = some (.int .i64 (ma)) := xf.cell (i := 3) (by simp)
      have L4 : W3.cell? ⟨w.heap.size, 4, none⟩ = some (.int .i64 (mb)) := xf.cell (i := 4) (by simp)
      have L5 : W3.cell? ⟨w.heap.size, 5, none⟩ = some (.int .i64 (mc)) := xf.cell (i := 5) (by simp)
      obtain ⟨c0, f0, c1, f1, c2, f2, c3, f3, c4, f4, c5, f5, HZ6⟩ := store6 z3 (ta.tdiv (p : Int)) (tb.tdiv (p : Int)) (tc.tdiv (p : Int)) (ma) (mb) (mc)
      have HB6 := hid (below6 b3 (show w.heap.size ≤ (w.heap.size + 2) by omega) (ta.tdiv (p : Int)) (tb.tdiv (p : Int)) (tc.tdiv (p : Int)) (ma) (mb) (mc))
      have HEV : Hid (v6 (stepTK 2 p ⟨ta, tb, tc⟩) (stepMK 2 p ⟨ta, tb, tc⟩ ⟨ma, mb, mc⟩) = .agg #[.int .i64 (ta.tdiv (p : Int)), .int .i64 (tb.tdiv (p : Int)), .int .i64 (tc.tdiv (p : Int)), .int .i64 (ma), .int .i64 (mb), .int .i64 (mc)]) := hid (by
        show v6 (⟨ta.tdiv p, tb.tdiv p, thirdI tc p⟩) (⟨ma, mb, thirdM tc p mc⟩) = _
        rw [E3, E4]
        rfl)
      clear hW0 hW1 hW2 hW3 x0 x1 x2 x3 y0 y1 y2 y3 z0 z1 z2 z3 b0 b1 b2 b3 xf TZ hd E3 E4
      go_enter Try.func60, Try.ntmps60
      go_wp2_with fail
      have r0 := HZ6.out.cell (i := 0) (by simp)
      have r1 := HZ6.out.cell (i := 1) (by simp)
      have r2 := HZ6.out.cell (i := 2) (by simp)
      have r3 := HZ6.out.cell (i := 3) (by simp)
      have r4 := HZ6.out.cell (i := 4) (by simp)
      have r5 := HZ6.out.cell (i := 5) (by simp)
      refine bodyPost_ret (v := .agg #[.int .i64 (ta.tdiv (p : Int)), .int .i64 (tb.tdiv (p : Int)), .int .i64 (tc.tdiv (p : Int)), .int .i64 (ma), .int .i64 (mb), .int .i64 (mc)]) (by simp [results, Try.results60, go_sem] <;> go_simp) rfl ?_
      exact ⟨retV HEV.out.symm, HB6.out⟩
    · have TD : (tc.tmod (p : Int) == 0) = false := by rw [beq_eq_false_iff_ne]; exact hd
      have E3 : thirdI tc p = tc * (p : Int) := by unfold thirdI; rw [if_neg (fun h => hd (TZ.2 h))]
      have E4 : thirdM tc p mc = mc * (p : Int) := by unfold thirdM; rw [if_neg (fun h => hd (TZ.2 h))]
      have x3 := x2.set 2 (tc * (p : Int))
      have y3 := y2.other (C := w.heap.size) (by omega) 2 (.int .i64 (tc * (p : Int)))
      have z3 := z2.other (C := w.heap.size) (by omega) 2 (.int .i64 (tc * (p : Int)))
      have b3 := b2.setCell (p := ⟨w.heap.size, 2, none⟩) (Nat.le_refl _) (.int .i64 (tc * (p : Int)))
      obtain ⟨W3, hW3⟩ : ∃ W, W = W2.setCell ⟨w.heap.size, 2, none⟩ (.int .i64 (tc * (p : Int))) := ⟨_, rfl⟩
      have e3 := hW3.symm
      rw [← hW3] at x3 y3 z3 b3
      have Y33 := y3.cell2
      have X33 : W3.cell? ⟨w.heap.size, 5, none⟩ = some (.int .i64 mc) := x3.cell (i := 5) (by simp)
      have F33 := x3.thaw 5
      have x4 := x3.set 5 (mc * (p : Int))
      have z4 := z3.other (C := w.heap.size) (by omega) 5 (.int .i64 (mc * (p : Int)))
      have b4 := b3.setCell (p := ⟨w.heap.size, 5, none⟩) (Nat.le_refl _) (.int .i64 (mc * (p : Int)))
      obtain ⟨W4, hW4⟩ : ∃ W, W = W3.setCell ⟨w.heap.size, 5, none⟩ (.int .i64 (mc * (p : Int))) := ⟨_, rfl⟩
      have e4 := hW4.symm
      rw [← hW4] at x4 z4 b4
      have xf : Row6 W4 w.heap.size [ta.tdiv (p : Int), tb.tdiv (p : Int), tc * (p : Int), ma, mb, mc * (p : Int)] := x4
      have L0 : W4.cell? ⟨w.heap.size, 0, none⟩ = some (.int .i64 (ta.tdiv (p : Int))) := xf.cell (i := 0) (by simp)
      have L1 : W4.cell? ⟨w.heap.size, 1, none⟩ = some (.int .i64 (tb.tdiv (p : Int))) := xf.cell (i := 1) (by simp)
      have L2 : W4.cell? ⟨w.heap.size, 2, none⟩ = some (.int .i64 (tc * (p : Int))) := xf.cell (i := 2) (by simp)
      have L3 : W4.cell? ⟨w.heap.size, 3, none⟩ = some (.int .i64 (ma)) := xf.cell (i := 3) (by simp)
      have L4 : W4.cell? ⟨w.heap.size, 4, none⟩ = some (.int .i64 (mb)) := xf.cell (i := 4) (by simp)
      have L5 : W4.cell? ⟨w.heap.size, 5, none⟩ = some (.int .i64 (mc * (p : Int))) := xf.cell (i := 5) (by simp)
      obtain ⟨c0, f0, c1, f1, c2, f2, c3, f3, c4, f4, c5, f5, HZ6⟩ := store6 z4 (ta.tdiv (p : Int)) (tb.tdiv (p : Int)) (tc * (p : Int)) (ma) (mb) (mc * (p : Int))
      have HB6 := hid (below6 b4 (show w.heap.size ≤ (w.heap.size + 2) by omega) (ta.tdiv (p : Int)) (tb.tdiv (p : Int)) (tc * (p : Int)) (ma) (mb) (mc * (p : Int)))
      have HEV : Hid (v6 (stepTK 2 p ⟨ta, tb, tc⟩) (stepMK 2 p ⟨ta, tb, tc⟩ ⟨ma, mb, mc⟩) = .agg #[.int .i64 (ta.tdiv (p : Int)), .int .i64 (tb.tdiv (p : Int)), .int .i64 (tc * (p : Int)), .int .i64 (ma), .int .i64 (mb), .int .i64 (mc * (p : Int))]) := hid (by
        show v6 (⟨ta.tdiv p, tb.tdiv p, thirdI tc p⟩) (⟨ma, mb, thirdM tc p mc⟩) = _
        rw [E3, E4]
        rfl)
      clear hW0 hW1 hW2 hW3 hW4 x0 x1 x2 x3 y0 y1 y2 y3 z0 z1 z2 z3 b0 b1 b2 b3 x4 z4 b4 xf TZ hd E3 E4
      go_enter Try.func60, Try.ntmps60
      go_wp2_with fail
      have r0 := HZ6.out.cell (i := 0) (by simp)
      have r1 := HZ6.out.cell (i := 1) (by simp)
      have r2 := HZ6.out.cell (i := 2) (by simp)
      have r3 := HZ6.out.cell (i := 3) (by simp)
      have r4 := HZ6.out.cell (i := 4) (by simp)
      have r5 := HZ6.out.cell (i := 5) (by simp)
      refine bodyPost_ret (v := .agg #[.int .i64 (ta.tdiv (p : Int)), .int .i64 (tb.tdiv (p : Int)), .int .i64 (tc * (p : Int)), .int .i64 (ma), .int .i64 (mb), .int .i64 (mc * (p : Int))]) (by simp [results, Try.results60, go_sem] <;> go_simp) rfl ?_
      exact ⟨retV HEV.out.symm, HB6.out⟩
  · have x0 : Row6 (((w.alloc (.cells #[.int .i64 ta, .int .i64 tb, .int .i64 tc, .int .i64 ma, .int .i64 mb, .int .i64 mc] 47)).alloc (.cells #[.int .i64 0, .int .i64 2, .int .i64 1] 45)).alloc (.cells #[.int .i64 0, .int .i64 0, .int .i64 0, .int .i64 0, .int .i64 0, .int .i64 0] 47)) w.heap.size [ta, tb, tc, ma, mb, mc] := ((Row6.new w [ta, tb, tc, ma, mb, mc]).alloc _).alloc _
    have y0 : Row3 (((w.alloc (.cells #[.int .i64 ta, .int .i64 tb, .int .i64 tc, .int .i64 ma, .int .i64 mb, .int .i64 mc] 47)).alloc (.cells #[.int .i64 0, .int .i64 2, .int .i64 1] 45)).alloc (.cells #[.int .i64 0, .int .i64 0, .int .i64 0, .int .i64 0, .int .i64 0, .int .i64 0] 47)) (w.heap.size + 1) 0 2 1 := by
      have h : Row3 ((w.alloc (.cells #[.int .i64 ta, .int .i64 tb, .int .i64 tc, .int .i64 ma, .int .i64 mb, .int .i64 mc] 47)).alloc (.cells #[.int .i64 0, .int .i64 2, .int .i64 1] 45)) (w.heap.size + 1) 0 2 1 := by
        have := heap_alloc_new (w.alloc (.cells #[.int .i64 ta, .int .i64 tb, .int .i64 tc, .int .i64 ma, .int .i64 mb, .int .i64 mc] 47)) (.cells #[.int .i64 0, .int .i64 2, .int .i64 1] 45)
        rwa [World.size_alloc] at this
      exact (Below.heap_alloc _ _ _ h.lt).trans h
    have z0 : Row6 (((w.alloc (.cells #[.int .i64 ta, .int .i64 tb, .int .i64 tc, .int .i64 ma, .int .i64 mb, .int .i64 mc] 47)).alloc (.cells #[.int .i64 0, .int .i64 2, .int .i64 1] 45)).alloc (.cells #[.int .i64 0, .int .i64 0, .int .i64 0, .int .i64 0, .int .i64 0, .int .i64 0] 47)) (w.heap.size + 2) [0, 0, 0, 0, 0, 0] := by
      have := Row6.new ((w.alloc (.cells #[.int .i64 ta, .int .i64 tb, .int .i64 tc, .int .i64 ma, .int .i64 mb, .int .i64 mc] 47)).alloc (.cells #[.int .i64 0, .int .i64 2, .int .i64 1] 45)) [0, 0, 0, 0, 0, 0]
      simp only [World.size_alloc] at this
      exact this
    have b0 : Below w.heap.size w (((w.alloc (.cells #[.int .i64 ta, .int .i64 tb, .int .i64 tc, .int .i64 ma, .int .i64 mb, .int .i64 mc] 47)).alloc (.cells #[.int .i64 0, .int .i64 2, .int .i64 1] 45)).alloc (.cells #[.int .i64 0, .int .i64 0, .int .i64 0, .int .i64 0, .int .i64 0, .int .i64 0] 47)) := (((Below.refl _ _).alloc (Nat.le_refl _) _).alloc (by simp) _).alloc (by simp; omega) _
    have EA : at3 1 = .agg #[.int .i64 0, .int .i64 2, .int .i64 1] := rfl
    have EB : v6 ⟨ta, tb, tc⟩ ⟨ma, mb, mc⟩ = .agg #[.int .i64 ta, .int .i64 tb, .int .i64 tc, .int .i64 ma, .int .i64 mb, .int .i64 mc] := rfl
    rw [EA, EB]
    clear EA EB
    have Y00 := y0.cell0
    have X00 := x0.cell (i := 0) (by simp)
    have F00 := x0.thaw 0
    obtain ⟨W0, hW0⟩ : ∃ W, W = (((w.alloc (.cells #[.int .i64 ta, .int .i64 tb, .int .i64 tc, .int .i64 ma, .int .i64 mb, .int .i64 mc] 47)).alloc (.cells #[.int .i64 0, .int .i64 2, .int .i64 1] 45)).alloc (.cells #[.int .i64 0, .int .i64 0, .int .i64 0, .int .i64 0, .int .i64 0, .int .i64 0] 47)) := ⟨_, rfl⟩
    have e0 := hW0.symm
    rw [← hW0] at x0 y0 z0 b0 Y00 X00 F00
    have x1 := x0.set 0 (ta.tdiv (p : Int))
    have y1 := y0.other (C := w.heap.size) (by omega) 0 (.int .i64 (ta.tdiv (p : Int)))
    have z1 := z0.other (C := w.heap.size) (by omega) 0 (.int .i64 (ta.tdiv (p : Int)))
    have b1 := b0.setCell (p := ⟨w.heap.size, 0, none⟩) (Nat.le_refl _) (.int .i64 (ta.tdiv (p : Int)))
    obtain ⟨W1, hW1⟩ : ∃ W, W = W0.setCell ⟨w.heap.size, 0, none⟩ (.int .i64 (ta.tdiv (p : Int))) := ⟨_, rfl⟩
    have e1 := hW1.symm
    rw [← hW1] at x1 y1 z1 b1
    have Y11 := y1.cell1
    have X11 : W1.cell? ⟨w.heap.size, 2, none⟩ = some (.int .i64 tc) := x1.cell (i := 2) (by simp)
    have F11 := x1.thaw 2
    have x2 := x1.set 2 (tc.tdiv (p : Int))
    have y2 := y1.other (C := w.heap.size) (by omega) 2 (.int .i64 (tc.tdiv (p : Int)))
    have z2 := z1.other (C := w.heap.size) (by omega) 2 (.int .i64 (tc.tdiv (p : Int)))
    have b2 := b1.setCell (p := ⟨w.heap.size, 2, none⟩) (Nat.le_refl _) (.int .i64 (tc.tdiv (p : Int)))
    obtain ⟨W2, hW2⟩ : ∃ W, W = W1.setCell ⟨w.heap.size, 2, none⟩ (.int .i64 (tc.tdiv (p : Int))) := ⟨_, rfl⟩
    have e2 := hW2.symm
    rw [← hW2] at x2 y2 z2 b2
    have Y22 := y2.cell2
    have X22 : W2.cell? ⟨w.heap.size, 1, none⟩ = some (.int .i64 tb) := x2.cell (i := 1) (by simp)
    have F22 := x2.thaw 1
    have TZ := tmod_zero (n := tb) (c := (p : Int))
    by_cases hd : tb.tmod (p : Int) = 0
    · have TD : (tb.tmod (p : Int) == 0) = true := by rw [beq_iff_eq]; exact hd
      have E3 : thirdI tb p = tb.tdiv (p : Int) := by unfold thirdI; rw [if_pos (TZ.1 hd)]
      have E4 : thirdM tb p mb = mb := by unfold thirdM; rw [if_pos (TZ.1 hd)]
      have x3 := x2.set 1 (tb.tdiv (p : Int))
      have y3 := y2.other (C := w.heap.size) (by omega) 1 (.int .i64 (tb.tdiv (p : Int)))
      have z3 := z2.other (C := w.heap.size) (by omega) 1 (.int .i64 (tb.tdiv (p : Int)))
      have b3 := b2.setCell (p := ⟨w.heap.size, 1, none⟩) (Nat.le_refl _) (.int .i64 (tb.tdiv (p : Int)))
      obtain ⟨W3, hW3⟩ : ∃ W, W = W2.setCell ⟨w.heap.size, 1, none⟩ (.int .i64 (tb.tdiv (p : Int))) := ⟨_, rfl⟩
      have e3 := hW3.symm
      rw [← hW3] at x3 y3 z3 b3
      have xf : Row6 W3 w.heap.size [ta.tdiv (p : Int), tb.tdiv (p : Int), tc.tdiv (p : Int), ma, mb, mc] := x3
      have L0 : W3.cell? ⟨w.heap.size, 0, none⟩ = some (.int .i64 (ta.tdiv (p : Int))) := xf.cell (i := 0) (by simp)
      have L1 : W3.cell? ⟨w.heap.size, 1, none⟩ = some (.int .i64 (tb.tdiv (p : Int))) := xf.cell (i := 1) (by simp)
      have L2 : W3.cell? ⟨w.heap.size, 2, none⟩ = some (.int .i64 (tc.tdiv (p : Int))) := xf.cell (i := 2) (by simp)
      have L3 : W3.cell? ⟨w.heap.size, 3, none⟩ = some (.int .i64 (ma)) := xf.cell (i := 3) (by simp)
      have L4 : W3.cell? ⟨w.heap.size, 4, none⟩ = some (.int .i64 (mb)) := xf.cell (i := 4) (by simp)
      have L5 : W3.cell? ⟨w.heap.size, 5, none⟩ = some (.int .i64 (mc)) := xf.cell (i := 5) (by simp)
      obtain ⟨c0, f0, c1, f1, c2, f2, c3, f3, c4, f4, c5, f5, HZ6⟩ := store6 z3 (ta.tdiv (p : Int)) (tb.tdiv (p : Int)) (tc.tdiv (p : Int)) (ma) (mb) (mc)
      have HB6 := hid (below6 b3 (show w.heap.size ≤ (w.heap.size + 2) by omega) (ta.tdiv (p : Int)) (tb.tdiv (p : Int)) (tc.tdiv (p : Int)) (ma) (mb) (mc))
      have HEV : Hid (v6 (stepTK 1 p ⟨ta, tb, tc⟩) (stepMK 1 p ⟨ta, tb, tc⟩ ⟨ma, mb, mc⟩) = .agg #[.int .i64 (ta.tdiv (p : Int)), .int .i64 (tb.tdiv (p : Int)), .int .i64 (tc.tdiv (p : Int)), .int .i64 (ma), .int .i64 (mb), .int .i64 (mc)]) := hid (by
        show v6 (⟨ta.tdiv p, thirdI tb p, tc.tdiv p⟩) (⟨ma, thirdM tb p mb, mc⟩) = _
        rw [E3, E4]
        rfl)
      clear hW0 hW1 hW2 hW3 x0 x1 x2 x3 y0 y1 y2 y3 z0 z1 z2 z3 b0 b1 b2 b3 xf TZ hd E3 E4
      go_enter Try.func60, Try.ntmps60
      go_wp2_with fail
      have r0 := HZ6.out.cell (i := 0) (by simp)
      have r1 := HZ6.out.cell (i := 1) (by simp)
      have r2 := HZ6.out.cell (i := 2) (by simp)
      have r3 := HZ6.out.cell (i := 3) (by simp)
      have r4 := HZ6.out.cell (i := 4) (by simp)
      have r5 := HZ6.out.cell (i := 5) (by simp)
      refine bodyPost_ret (v := .agg #[.int .i64 (ta.tdiv (p : Int)), .int .i64 (tb.tdiv (p : Int)), .int .i64 (tc.tdiv (p : Int)), .int .i64 (ma), .int .i64 (mb), .int .i64 (mc)]) (by simp [results, Try.results60, go_sem] <;> go_simp) rfl ?_
      exact ⟨retV HEV.out.symm, HB6.out⟩
    · have TD : (tb.tmod (p : Int) == 0) = false := by rw [beq_eq_false_iff_ne]; exact hd
      have E3 : thirdI tb p = tb * (p : Int) := by unfold thirdI; rw [if_neg (fun h => hd (TZ.2 h))]
      have E4 : thirdM tb p mb = mb * (p : Int) := by unfold thirdM; rw [if_neg (fun h => hd (TZ.2 h))]
      have x3 := x2.set 1 (tb * (p : Int))
      have y3 := y2.other (C := w.heap.size) (by omega) 1 (.int .i64 (tb * (p : Int)))
      have z3 := z2.other (C := w.heap.size) (by omega) 1 (.int .i64 (tb * (p : Int)))
      have b3 := b2.setCell (p := ⟨w.heap.size, 1, none⟩) (Nat.le_refl _) (.int .i64 (tb * (p : Int)))
      obtain ⟨W3, hW3⟩ : ∃ W, W = W2.setCell ⟨w.heap.size, 1, none⟩ (.int .i64 (tb * (p : Int))) := ⟨_, rfl⟩
      have e3 := hW3.symm
      rw [← hW3] at x3 y3 z3 b3
      have Y33 := y3.cell2
      have X33 : W3.cell? ⟨w.heap.size, 4, none⟩ = some (.int .i64 mb) := x3.cell (i := 4) (by simp)
      have F33 := x3.thaw 4
      have x4 := x3.set 4 (mb * (p : Int))
      have z4 := z3.other (C := w.heap.size) (by omega) 4 (.int .i64 (mb * (p : Int)))
      have b4 := b3.setCell (p := ⟨w.heap.size, 4, none⟩) (Nat.le_refl _) (.int .i64 (mb * (p : Int)))
      obtain ⟨W4, hW4⟩ : ∃ W, W = W3.setCell ⟨w.heap.size, 4, none⟩ (.int .i64 (mb * (p : Int))) := ⟨_, rfl⟩
      have e4 := hW4.symm
      rw [← hW4] at x4 z4 b4
      have xf : Row6 W4 w.heap.size [ta.tdiv (p : Int), tb * (p : Int), tc.tdiv (p : Int), ma, mb * (p : Int), mc] := x4
      have L0 : W4.cell? ⟨w.heap.size, 0, none⟩ = some (.int .i64 (ta.tdiv (p : Int))) := xf.cell (i := 0) (by simp)
      have L1 : W4.cell? ⟨w.heap.size, 1, none⟩ = some (.int .i64 (tb * (p : Int))) := xf.cell (i := 1) (by simp)
      have L2 : W4.cell? ⟨w.heap.size, 2, none⟩ = some (.int .i64 (tc.tdiv (p : Int))) := xf.cell (i := 2) (by simp)
      have L3 : W4.cell? ⟨w.heap.size, 3, none⟩ = some (.int .i64 (ma)) := xf.cell (i := 3) (by simp)
      have L4 : W4.cell? ⟨w.heap.size, 4, none⟩ = some (.int .i64 (mb * (p : Int))) := xf.cell (i := 4) (by simp)
      have L5 : W4.cell? ⟨w.heap.size, 5, none⟩ = some (.int .i64 (mc)) := xf.cell (i := 5) (by simp)
      obtain ⟨c0, f0, c1, f1, c2, f2, c3, f3, c4, f4, c5, f5, HZ6⟩ := store6 z4 (ta.tdiv (p : Int)) (tb * (p : Int)) (tc.tdiv (p : Int)) (ma) (mb * (p : Int)) (mc)
      have HB6 := hid (below6 b4 (show w.heap.size ≤ (w.heap.size + 2) by omega) (ta.tdiv (p : Int)) (tb * (p : Int)) (tc.tdiv (p : Int)) (ma) (mb * (p : Int)) (mc))
      have HEV : Hid (v6 (stepTK 1 p ⟨ta, tb, tc⟩) (stepMK 1 p ⟨ta, tb, tc⟩ ⟨ma, mb, mc⟩) = .agg #[.int .i64 (ta.tdiv (p : Int)), .int .i64 (tb * (p : Int)), .int .i64 (tc.tdiv (p : Int)), .int .i64 (ma), .int .i64 (mb * (p : Int)), .int .i64 (mc)]) := hid (by
        show v6 (⟨ta.tdiv p, thirdI tb p, tc.tdiv p⟩) (⟨ma, thirdM tb p mb, mc⟩) = _
        rw [E3, E4]
        rfl)
      clear hW0 hW1 hW2 hW3 hW4 x0 x1 x2 x3 y0 y1 y2 y3 z0 z1 z2 z3 b0 b1 b2 b3 x4 z4 b4 xf TZ hd E3 E4
      go_enter Try.func60, Try.ntmps60
      go_wp2_with fail
      have r0 := HZ6.out.cell (i := 0) (by simp)
      have r1 := HZ6.out.cell (i := 1) (by simp)
      have r2 := HZ6.out.cell (i := 2) (by simp)
      have r3 := HZ6.out.cell (i := 3) (by simp)
      have r4 := HZ6.out.cell (i := 4) (by simp)
      have r5 := HZ6.out.cell (i := 5) (by simp)
      refine bodyPost_ret (v := .agg #[.int .i64 (ta.tdiv (p : Int)), .int .i64 (tb * (p : Int)), .int .i64 (tc.tdiv (p : Int)), .int .i64 (ma), .int .i64 (mb * (p : Int)), .int .i64 (mc)]) (by simp [results, Try.results60, go_sem] <;> go_simp) rfl ?_
      exact ⟨retV HEV.out.symm, HB6.out⟩
  · have x0 : Row6 (((w.alloc (.cells #[.int .i64 ta, .int .i64 tb, .int .i64 tc, .int .i64 ma, .int .i64 mb, .int .i64 mc] 47)).alloc (.cells #[.int .i64 1, .int .i64 2, .int .i64 0] 45)).alloc (.cells #[.int .i64 0, .int .i64 0, .int .i64 0, .int .i64 0, .int .i64 0, .int .i64 0] 47)) w.heap.size [ta, tb, tc, ma, mb, mc] := ((Row6.new w [ta, tb, tc, ma, mb, mc]).alloc _).alloc _
    have y0 : Row3 (((w.alloc (.cells #[.int .i64 ta, .int .i64 tb, .int .i64 tc, .int .i64 ma, .int .i64 mb, .int .i64 mc] 47)).alloc (.cells #[.int .i64 1, .int .i64 2, .int .i64 0] 45)).alloc (.cells #[.int .i64 0, .int .i64 0, .int .i64 0, .int .i64 0, .int .i64 0, .int .i64 0] 47)) (w.heap.size + 1) 1 2 0 := by
      have h : Row3 ((w.alloc (.cells #[.int .i64 ta, .int .i64 tb, .int .i64 tc, .int .i64 ma, .int .i64 mb, .int .i64 mc] 47)).alloc (.cells #[.int .i64 1, .int .i64 2, .int .i64 0] 45)) (w.heap.size + 1) 1 2 0 := by
        have := heap_alloc_new (w.alloc (.cells #[.int .i64 ta, .int .i64 tb, .int .i64 tc, .int .i64 ma, .int .i64 mb, .int .i64 mc] 47)) (.cells #[.int .i64 1, .int .i64 2, .int .i64 0] 45)
        rwa [World.size_alloc] at this
      exact (Below.heap_alloc _ _ _ h.lt).trans h
    have z0 : Row6 (((w.alloc (.cells #[.int .i64 ta, .int .i64 tb, .int .i64 tc, .int .i64 ma, .int .i64 mb, .int .i64 mc] 47)).alloc (.cells #[.int .i64 1, .int .i64 2, .int .i64 0] 45)).alloc (.cells #[.int .i64 0, .int .i64 0, .int .i64 0, .int .i64 0, .int .i64 0, .int .i64 0] 47)) (w.heap.size + 2) [0, 0, 0, 0, 0, 0] := by
      have := Row6.new ((w.alloc (.cells #[.int .i64 ta, .int .i64 tb, .int .i64 tc, .int .i64 ma, .int .i64 mb, .int .i64 mc] 47)).alloc (.cells #[.int .i64 1, .int .i64 2, .int .i64 0] 45)) [0, 0, 0, 0, 0, 0]
      simp only [World.size_alloc] at this
      exact this
    have b0 : Below w.heap.size w (((w.alloc (.cells #[.int .i64 ta, .int .i64 tb, .int .i64 tc, .int .i64 ma, .int .i64 mb, .int .i64 mc] 47)).alloc (.cells #[.int .i64 1, .int .i64 2, .int .i64 0] 45)).alloc (.cells #[.int .i64 0, .int .i64 0, .int .i64 0, .int .i64 0, .int .i64 0, .int .i64 0] 47)) := (((Below.refl _ _).alloc (Nat.le_refl _) _).alloc (by simp) _).alloc (by simp; omega) _
    have EA : at3 0 = .agg #[.int .i64 1, .int .i64 2, .int .i64 0] := rfl
    have EB : v6 ⟨ta, tb, tc⟩ ⟨ma, mb, mc⟩ = .agg #[.int .i64 ta, .int .i64 tb, .int .i64 tc, .int .i64 ma, .int .i64 mb, .int .i64 mc] := rfl
    rw [EA, EB]
    clear EA EB
    have Y00 := y0.cell0
    have X00 := x0.cell (i := 1) (by simp)
    have F00 := x0.thaw 1
    obtain ⟨W0, hW0⟩ : ∃ W, W = (((w.alloc (.cells #[.int .i64 ta, .int .i64 tb, .int .i64 tc, .int .i64 ma, .int .i64 mb, .int .i64 mc] 47)).alloc (.cells #[.int .i64 1, .int .i64 2, .int .i64 0] 45)).alloc (.cells #[.int .i64 0, .int .i64 0, .int .i64 0, .int .i64 0, .int .i64 0, .int .i64 0] 47)) := ⟨_, rfl⟩
    have e0 := hW0.symm
    rw [← hW0] at x0 y0 z0 b0 Y00 X00 F00
    have x1 := x0.set 1 (tb.tdiv (p : Int))
    have y1 := y0.other (C := w.heap.size) (by omega) 1 (.int .i64 (tb.tdiv (p : Int)))
    have z1 := z0.other (C := w.heap.size) (by omega) 1 (.int .i64 (tb.tdiv (p : Int)))
    have b1 := b0.setCell (p := ⟨w.heap.size, 1, none⟩) (Nat.le_refl _) (.int .i64 (tb.tdiv (p : Int)))
    obtain ⟨W1, hW1⟩ : ∃ W, W = W0.setCell ⟨w.heap.size, 1, none⟩ (.int .i64 (tb.tdiv (p : Int))) := ⟨_, rfl⟩
    have e1 := hW1.symm
    rw [← hW1] at x1 y1 z1 b1
    have Y11 := y1.cell1
    have X11 : W1.cell? ⟨w.heap.size, 2, none⟩ = some (.int .i64 tc) := x1.cell (i := 2) (by simp)
    have F11 := x1.thaw 2
    have x2 := x1.set 2 (tc.tdiv (p : Int))
    have y2 := y1.other (C := w.heap.size) (by omega) 2 (.int .i64 (tc.tdiv (p : Int)))
    have z2 := z1.other (C := w.heap.size) (by omega) 2 (.int .i64 (tc.tdiv (p : Int)))
    have b2 := b1.setCell (p := ⟨w.heap.size, 2, none⟩) (Nat.le_refl _) (.int .i64 (tc.tdiv (p : Int)))
    obtain ⟨W2, hW2⟩ : ∃ W, W = W1.setCell ⟨w.heap.size, 2, none⟩ (.int .i64 (tc.tdiv (p : Int))) := ⟨_, rfl⟩
    have e2 := hW2.symm
    rw [← hW2] at x2 y2 z2 b2
    have Y22 := y2.cell2
    have X22 : W2.cell? ⟨w.heap.size, 0, none⟩ = some (.int .i64 ta) := x2.cell (i := 0) (by simp)
    have F22 := x2.thaw 0
    have TZ := tmod_zero (n := ta) (c := (p : Int))
    by_cases hd : ta.tmod (p : Int) = 0
    · have TD : (ta.tmod (p : Int) == 0) = true := by rw [beq_iff_eq]; exact hd
      have E3 : thirdI ta p = ta.tdiv (p : Int) := by unfold thirdI; rw [if_pos (TZ.1 hd)]
      have E4 : thirdM ta p ma = ma := by unfold thirdM; rw [if_pos (TZ.1 hd)]
      have x3 := x2.set 0 (ta.tdiv (p : Int))
      have y3 := y2.other (C := w.heap.size) (by omega) 0 (.int .i64 (ta.tdiv (p : Int)))
      have z3 := z2.other (C := w.heap.size) (by omega) 0 (.int .i64 (ta.tdiv (p : Int)))
      have b3 := b2.setCell (p := ⟨w.heap.size, 0, none⟩) (Nat.le_refl _) (.int .i64 (ta.tdiv (p : Int)))
      obtain ⟨W3, hW3⟩ : ∃ W, W = W2.setCell ⟨w.heap.size, 0, none⟩ (.int .i64 (ta.tdiv (p : Int))) := ⟨_, rfl⟩
      have e3 := hW3.symm
      rw [← hW3] at x3 y3 z3 b3
      have xf : Row6 W3 w.heap.size [ta.tdiv (p : Int), tb.tdiv (p : Int), tc.tdiv (p : Int), ma, mb, mc] := x3
      have L0 : W3.cell? ⟨w.heap.size, 0, none⟩ = some (.int .i64 (ta.tdiv (p : Int))) := xf.cell (i := 0) (by simp)
      have L1 : W3.cell? ⟨w.heap.size, 1, none⟩ = some (.int .i64 (tb.tdiv (p : Int))) := xf.cell (i := 1) (by simp)
      have L2 : W3.cell? ⟨w.heap.size, 2, none⟩ = some (.int .i64 (tc.tdiv (p : Int))) := xf.cell (i := 2) (by simp)
      have L3 : W3.cell? ⟨w.heap.size, 3, none⟩ = some (.int .i64 (ma)) := xf.cell (i := 3) (by simp)
      have L4 : W3.cell? ⟨w.heap.size, 4, none⟩ = some (.int .i64 (mb)) := xf.cell (i := 4) (by simp)
      have L5 : W3.cell? ⟨w.heap.size, 5, none⟩ = some (.int .i64 (mc)) := xf.cell (i := 5) (by simp)
      obtain ⟨c0, f0, c1, f1, c2, f2, c3, f3, c4, f4, c5, f5, HZ6⟩ := store6 z3 (ta.tdiv (p : Int)) (tb.tdiv (p : Int)) (tc.tdiv (p : Int)) (ma) (mb) (mc)
      have HB6 := hid (below6 b3 (show w.heap.size ≤ (w.heap.size + 2) by omega) (ta.tdiv (p : Int)) (tb.tdiv (p : Int)) (tc.tdiv (p : Int)) (ma) (mb) (mc))
      have HEV : Hid (v6 (stepTK 0 p ⟨ta, tb, tc⟩) (stepMK 0 p ⟨ta, tb, tc⟩ ⟨ma, mb, mc⟩) = .agg #[.int .i64 (ta.tdiv (p : Int)), .int .i64 (tb.tdiv (p : Int)), .int .i64 (tc.tdiv (p : Int)), .int .i64 (ma), .int .i64 (mb), .int .i64 (mc)]) := hid (by
        show v6 (⟨thirdI ta p, tb.tdiv p, tc.tdiv p⟩) (⟨thirdM ta p ma, mb, mc⟩) = _
        rw [E3, E4]
        rfl)
      clear hW0 hW1 hW2 hW3 x0 x1 x2 x3 y0 y1 y2 y3 z0 z1 z2 z3 b0 b1 b2 b3 xf TZ hd E3 E4
      go_enter Try.func60, Try.ntmps60
      go_wp2_with fail
      have r0 := HZ6.out.cell (i := 0) (by simp)
      have r1 := HZ6.out.cell (i := 1) (by simp)
      have r2 := HZ6.out.cell (i := 2) (by simp)
      have r3 := HZ6.out.cell (i := 3) (by simp)
      have r4 := HZ6.out.cell (i := 4) (by simp)
      have r5 := HZ6.out.cell (i := 5) (by simp)
      refine bodyPost_ret (v := .agg #[.int .i64 (ta.tdiv (p : Int)), .int .i64 (tb.tdiv (p : Int)), .int .i64 (tc.tdiv (p : Int)), .int .i64 (ma), .int .i64 (mb), .int .i64 (mc)]) (by simp [results, Try.results60, go_sem] <;> go_simp) rfl ?_
      exact ⟨retV HEV.out.symm, HB6.out⟩
    · have TD : (ta.tmod (p : Int) == 0) = false := by rw [beq_eq_false_iff_ne]; exact hd
      have E3 : thirdI ta p = ta * (p : Int) := by unfold thirdI; rw [if_neg (fun h => hd (TZ.2 h))]
      have E4 : thirdM ta p ma = ma * (p : Int) := by unfold thirdM; rw [if_neg (fun h => hd (TZ.2 h))]
      have x3 := x2.set 0 (ta * (p : Int))
      have y3 := y2.other (C := w.heap.size) (by omega) 0 (.int .i64 (ta * (p : Int)))
      have z3 := z2.other (C := w.heap.size) (by omega) 0 (.int .i64 (ta * (p : Int)))
      have b3 := b2.setCell (p := ⟨w.heap.size, 0, none⟩) (Nat.le_refl _) (.int .i64 (ta * (p : Int)))
      obtain ⟨W3, hW3⟩ : ∃ W, W = W2.setCell ⟨w.heap.size, 0, none⟩ (.int .i64 (ta * (p : Int))) := ⟨_, rfl⟩
      have e3 := hW3.symm
      rw [← hW3] at x3 y3 z3 b3
      have Y33 := y3.cell2
      have X33 : W3.cell? ⟨w.heap.size, 3, none⟩ = some (.int .i64 ma) := x3.cell (i := 3) (by simp)
      have F33 := x3.thaw 3
      have x4 := x3.set 3 (ma * (p : Int))
      have z4 := z3.other (C := w.heap.size) (by omega) 3 (.int .i64 (ma * (p : Int)))
      have b4 := b3.setCell (p := ⟨w.heap.size, 3, none⟩) (Nat.le_refl _) (.int .i64 (ma * (p : Int)))
      obtain ⟨W4, hW4⟩ : ∃ W, W = W3.setCell ⟨w.heap.size, 3, none⟩ (.int .i64 (ma * (p : Int))) := ⟨_, rfl⟩
      have e4 := hW4.symm
      rw [← hW4] at x4 z4 b4
      have xf : Row6 W4 w.heap.size [ta * (p : Int), tb.tdiv (p : Int), tc.tdiv (p : Int), ma * (p : Int), mb, mc] := x4
      have L0 : W4.cell? ⟨w.heap.size, 0, none⟩ = some (.int .i64 (ta * (p : Int))) := xf.cell (i := 0) (by simp)
      have L1 : W4.cell? ⟨w.heap.size, 1, none⟩ = some (.int .i64 (tb.tdiv (p : Int))) := xf.cell (i := 1) (by simp)
      have L2 : W4.cell? ⟨w.heap.size, 2, none⟩ = some (.int .i64 (tc.tdiv (p : Int))) := xf.cell (i := 2) (by simp)
      have L3 : W4.cell? ⟨w.heap.size, 3, none⟩ = some (.int .i64 (ma * (p : Int))) := xf.cell (i := 3) (by simp)
      have L4 : W4.cell? ⟨w.heap.size, 4, none⟩ = some (.int .i64 (mb)) := xf.cell (i := 4) (by simp)
      have L5 : W4.cell? ⟨w.heap.size, 5, none⟩ = some (.int .i64 (mc)) := xf.cell (i := 5) (by simp)
      obtain ⟨c0, f0, c1, f1, c2, f2, c3, f3, c4, f4, c5, f5, HZ6⟩ := store6 z4 (ta * (p : Int)) (tb.tdiv (p : Int)) (tc.tdiv (p : Int)) (ma * (p : Int)) (mb) (mc)
      have HB6 := hid (below6 b4 (show w.heap.size ≤ (w.heap.size + 2) by omega) (ta * (p : Int)) (tb.tdiv (p : Int)) (tc.tdiv (p : Int)) (ma * (p : Int)) (mb) (mc))
      have HEV : Hid (v6 (stepTK 0 p ⟨ta, tb, tc⟩) (stepMK 0 p ⟨ta, tb, tc⟩ ⟨ma, mb, mc⟩) = .agg #[.int .i64 (ta * (p : Int)), .int .i64 (tb.tdiv (p : Int)), .int .i64 (tc.tdiv (p : Int)), .int .i64 (ma * (p : Int)), .int .i64 (mb), .int .i64 (mc)]) := hid (by
        show v6 (⟨thirdI ta p, tb.tdiv p, tc.tdiv p⟩) (⟨thirdM ta p ma, mb, mc⟩) = _
        rw [E3, E4]
        rfl)
      clear hW0 hW1 hW2 hW3 hW4 x0 x1 x2 x3 y0 y1 y2 y3 z0 z1 z2 z3 b0 b1 b2 b3 x4 z4 b4 xf TZ hd E3 E4
      go_enter Try.func60, Try.ntmps60
      go_wp2_with fail
      have r0 := HZ6.out.cell (i := 0) (by simp)
      have r1 := HZ6.out.cell (i := 1) (by simp)
      have r2 := HZ6.out.cell (i := 2) (by simp)
      have r3 := HZ6.out.cell (i := 3) (by simp)
      have r4 := HZ6.out.cell (i := 4) (by simp)
      have r5 := HZ6.out.cell (i := 5) (by simp)
      refine bodyPost_ret (v := .agg #[.int .i64 (ta * (p : Int)), .int .i64 (tb.tdiv (p : Int)), .int .i64 (tc.tdiv (p : Int)), .int .i64 (ma * (p : Int)), .int .i64 (mb), .int .i64 (mc)]) (by simp [results, Try.results60, go_sem] <;> go_simp) rfl ?_
      exact ⟨retV HEV.out.symm, HB6.out⟩

end Go.Proofs.Ytenibnblibnocac
/-! Zp2c -/
set_option linter.unusedVariables false
namespace Go.Proofs.Ytenibnblibnocac
open Go.RowKit

theorem least_tab : (List.range 200).all (fun G => decide (G ≤ 1) || (lpG G == leastN G)) = true := by decide +kernel
theorem least_lp {G : Nat} (h1 : 1 < G) (h2 : G ≤ 199) : leastN G = lpG G := by
  have h := List.all_eq_true.1 least_tab G (List.mem_range.2 (by omega))
  rw [decide_eq_false (show ¬ G ≤ 1 by omega), Bool.false_or, beq_iff_eq] at h
  exact h.symm
theorem gcd_sq {x y n : Nat} (hx : 1 ≤ x) (hy : 1 ≤ y) (h : x * y ≤ n) : Nat.gcd x y * Nat.gcd x y ≤ n := by
  obtain ⟨u, hu⟩ := Nat.gcd_dvd_left x y
  obtain ⟨v, hv⟩ := Nat.gcd_dvd_right x y
  obtain ⟨g, hg⟩ : ∃ g, g = Nat.gcd x y := ⟨_, rfl⟩
  rw [← hg] at hu hv ⊢
  have hu1 : 1 ≤ u := by
    rcases Nat.eq_zero_or_pos u with e | e
    · rw [e] at hu; omega
    · exact e
  have hv1 : 1 ≤ v := by
    rcases Nat.eq_zero_or_pos v with e | e
    · rw [e] at hv; omega
    · exact e
  have e : x * y = g * g * (u * v) := by rw [hu, hv]; simp only [Nat.mul_comm, Nat.mul_left_comm]
  have := Nat.le_mul_of_pos_right (g * g) (Nat.mul_pos hu1 hv1)
  omega
theorem pair_le {t : T3} (h : t.nz) (hp : t.prod ≤ 27000) : t.a.natAbs * t.b.natAbs ≤ 27000 ∧ t.a.natAbs * t.c.natAbs ≤ 27000 ∧ t.b.natAbs * t.c.natAbs ≤ 27000 := by
  obtain ⟨_, _, _, h1, h2, h3⟩ := T3.bd h hp
  rw [Int.natAbs_mul] at h1 h2 h3
  exact ⟨h3, h2, h1⟩
theorem gcd_199 {x y : Nat} (hx : 1 ≤ x) (hy : 1 ≤ y) (h : x * y ≤ 27000) : 1 ≤ Nat.gcd x y ∧ Nat.gcd x y ≤ 199 := by
  have h1 := gcd_sq hx hy h
  refine ⟨Nat.gcd_pos_of_pos_left _ hx, ?_⟩
  refine Classical.byContradiction fun hc => ?_
  have := Nat.mul_le_mul (show 200 ≤ Nat.gcd x y by omega) (show 200 ≤ Nat.gcd x y by omega)
  omega
theorem stepTK_2 {t m : T3} (h : twoK t.a t.b t.c = 2) : stepTK 2 (twoD t.a t.b t.c) t = stepI t ∧ stepMK 2 (twoD t.a t.b t.c) t m = stepM t m := by rw [(step_k2 (m := m) h).1, (step_k2 h).2]; exact ⟨rfl, rfl⟩
theorem stepTK_1 {t m : T3} (h : twoK t.a t.b t.c = 1) : stepTK 1 (twoD t.a t.b t.c) t = stepI t ∧ stepMK 1 (twoD t.a t.b t.c) t m = stepM t m := by rw [(step_k1 (m := m) h).1, (step_k1 h).2]; exact ⟨rfl, rfl⟩
theorem stepTK_0 {t m : T3} (h : twoK t.a t.b t.c = 0) : stepTK 0 (twoD t.a t.b t.c) t = stepI t ∧ stepMK 0 (twoD t.a t.b t.c) t m = stepM t m := by rw [(step_k0 (m := m) h).1, (step_k0 h).2]; exact ⟨rfl, rfl⟩

theorem idx9 {t e : TypeId} (hu : Try.prog.underlying t = some (.array 3 e)) (hue : Try.prog.underlying e = some (.array 3 3)) (hi : (Try.prog.info? e).isSome = true) (hc : Try.prog.cellsOf e = 3) (k : Int) (h0 : 0 ≤ k) (h3 : k < 3) (xs : Array Value) (w : World) :
    (Instr.index t (.agg xs) (.int .i64 k)).run Try.prog w = .ok (.agg (xs.extract (k.toNat * 3) (k.toNat * 3 + 3))) w := by
  obtain ⟨i3, hi⟩ := Option.isSome_iff_exists.1 hi
  have h : (0 ≤ k ∧ k < ((3 : Nat) : Int)) := ⟨h0, by omega⟩
  simp [Instr.index, run_underlying hu, asIntOf, h, part, isAgg, run_underlying hue, run_sizeOf w hi, hc, go_sem]
  intro hh
  omega
theorem at9 (k : Int) (h0 : 0 ≤ k) (h3 : k < 3) (xs : Array Value) (w : World) :
    (Instr.index 77 (.agg xs) (.int .i64 k)).run Try.prog w = .ok (.agg (xs.extract (k.toNat * 3) (k.toNat * 3 + 3))) w :=
  idx9 Try.underlying77 Try.underlying45 (by kernel_rfl) (by kernel_rfl) k h0 h3 xs w
theorem at9_0 (w : World) : (Instr.index 77 (.agg #[.int .i64 0, .int .i64 1, .int .i64 2, .int .i64 0, .int .i64 2, .int .i64 1, .int .i64 1, .int .i64 2, .int .i64 0]) (.int .i64 0)).run Try.prog w = .ok (.agg #[.int .i64 0, .int .i64 1, .int .i64 2]) w := at9 0 (by omega) (by omega) _ w
theorem at9_1 (w : World) : (Instr.index 77 (.agg #[.int .i64 0, .int .i64 1, .int .i64 2, .int .i64 0, .int .i64 2, .int .i64 1, .int .i64 1, .int .i64 2, .int .i64 0]) (.int .i64 1)).run Try.prog w = .ok (.agg #[.int .i64 0, .int .i64 2, .int .i64 1]) w := at9 1 (by omega) (by omega) _ w
theorem at9_2 (w : World) : (Instr.index 77 (.agg #[.int .i64 0, .int .i64 1, .int .i64 2, .int .i64 0, .int .i64 2, .int .i64 1, .int .i64 1, .int .i64 2, .int .i64 0]) (.int .i64 2)).run Try.prog w = .ok (.agg #[.int .i64 1, .int .i64 2, .int .i64 0]) w := at9 2 (by omega) (by omega) _ w
set_option maxRecDepth 100000 in
set_option maxHeartbeats 16000000 in
theorem descend_k3 (N M t m : T3) (f : Nat) (C0 : ¬ 1 < Nat.gcd t.a.natAbs t.b.natAbs) (C1 : ¬ 1 < Nat.gcd t.a.natAbs t.c.natAbs) (C2 : ¬ 1 < Nat.gcd t.b.natAbs t.c.natAbs) (hD : Desc N M f t m) (ih : ∀ f', f = f' + 1 → ∀ (t m : T3), Desc N M f' t m → ∀ w : World, Calls Try.prog 30 #[v6 t m] w fun e w' => e = .returned (v6 N M) ∧ Below w.heap.size w w') (w : World) :
    Calls Try.prog 30 #[v6 t m] w fun e w' => e = .returned (v6 N M) ∧ Below w.heap.size w w' := by
  obtain ⟨wr0, wr1, wr2, wr3, wr4⟩ := wrap5
  have hle := T3.le hD.nz hD.prod
  have hml := hD.inv.le hD.nz
  have hpr := pair_le hD.nz hD.prod
  have hnz := hD.nz
  have HSTOP : Hid (twoD t.a t.b t.c = 1 → N = t ∧ M = m) := hid (fun h => hD.stop h)
  have HSTEP : Hid (twoD t.a t.b t.c ≠ 1 → ∀ w : World, Calls Try.prog 30 #[v6 (stepI t) (stepM t m)] w fun e w' => e = .returned (v6 N M) ∧ Below w.heap.size w w') := hid (fun h w => by
    obtain ⟨f', e, hd⟩ := hD.step h
    exact ih f' e _ _ hd w)
  have HK2 := hid (stepTK_2 (t := t) (m := m))
  have HK1 := hid (stepTK_1 (t := t) (m := m))
  have HK0 := hid (stepTK_0 (t := t) (m := m))
  clear hD ih
  obtain ⟨ta, tb, tc⟩ := t
  obtain ⟨ma, mb, mc⟩ := m
  obtain ⟨na, nb, nc⟩ := N
  obtain ⟨oa, ob, oc⟩ := M
  dsimp only at hle hml hpr hnz HSTOP HSTEP HK2 HK1 HK0 C0 C1 C2
  obtain ⟨⟨ta1, ta2⟩, ⟨tb1, tb2⟩, tc1, tc2⟩ := hle
  obtain ⟨⟨ma1, ma2⟩, ⟨mb1, mb2⟩, mc1, mc2⟩ := hml
  obtain ⟨ta0, tb0, tc0⟩ := hnz
  dsimp only at ta0 tb0 tc0
  have GAB := gcd_199 (x := ta.natAbs) (y := tb.natAbs) (by omega) (by omega) hpr.1
  have GAC := gcd_199 (x := ta.natAbs) (y := tc.natAbs) (by omega) (by omega) hpr.2.1
  have GBC := gcd_199 (x := tb.natAbs) (y := tc.natAbs) (by omega) (by omega) hpr.2.2
  have eab : Int.gcd ta tb = Nat.gcd ta.natAbs tb.natAbs := rfl
  have eca : Int.gcd tc ta = Nat.gcd ta.natAbs tc.natAbs := Nat.gcd_comm ..
  have ebc : Int.gcd tb tc = Nat.gcd tb.natAbs tc.natAbs := rfl
  obtain ⟨G1, hG1⟩ : ∃ G, G = Nat.gcd ta.natAbs tb.natAbs := ⟨_, rfl⟩
  obtain ⟨G2, hG2⟩ : ∃ G, G = Nat.gcd ta.natAbs tc.natAbs := ⟨_, rfl⟩
  obtain ⟨G3, hG3⟩ : ∃ G, G = Nat.gcd tb.natAbs tc.natAbs := ⟨_, rfl⟩
  rw [← hG1] at GAB eab
  rw [← hG2] at GAC eca
  rw [← hG3] at GBC ebc
  rw [← hG1] at C0
  have HG1 := hid hG1.symm
  have D0 := hid C0
  clear C0
  rw [← hG2] at C1
  have HG2 := hid hG2.symm
  have D1 := hid C1
  clear C1
  rw [← hG3] at C2
  have HG3 := hid hG3.symm
  have D2 := hid C2
  clear C2
  have T1 : Hid (1 < G1 → twoD ta tb tc = lpG G1 ∧ twoK ta tb tc = 2) := hid (fun h => by unfold twoD twoK; rw [eab, if_pos h, if_pos h]; exact ⟨rfl, rfl⟩)
  have T2 : Hid (¬ 1 < G1 → 1 < G2 → twoD ta tb tc = lpG G2 ∧ twoK ta tb tc = 1) := hid (fun h0 h => by unfold twoD twoK; rw [eab, if_neg h0, if_neg h0, eca, if_pos h, if_pos h]; exact ⟨rfl, rfl⟩)
  have T3' : Hid (¬ 1 < G1 → ¬ 1 < G2 → 1 < G3 → twoD ta tb tc = lpG G3 ∧ twoK ta tb tc = 0) := hid (fun h0 h1 h => by unfold twoD twoK; rw [eab, if_neg h0, if_neg h0, eca, if_neg h1, if_neg h1, ebc, if_pos h]; exact ⟨rfl, rfl⟩)
  have T4 : Hid (¬ 1 < G1 → ¬ 1 < G2 → ¬ 1 < G3 → twoD ta tb tc = 1) := hid (fun h0 h1 h => by unfold twoD; rw [eab, if_neg h0, eca, if_neg h1, ebc, if_neg h])
  have QC : Hid (∀ (x y : Int), -27000 ≤ x → x ≤ 27000 → -27000 ≤ y → y ≤ 27000 → ∀ (w : World) (n : Nat), Calls Try.prog 40 #[.int .i64 x, .int .i64 y] (w.drewN n) fun e w'' => e = .returned (.int .i64 (Nat.gcd x.natAbs y.natAbs : Nat)) ∧ ∃ m, w'' = w.drewN m) := hid (fun x y x1 x2 y1 y2 w n => Calls.quiet_of (common_any x y (by omega) (by omega) (by omega) (by omega) _))
  have EIN : v6 ⟨ta, tb, tc⟩ ⟨ma, mb, mc⟩ = .agg #[.int .i64 ta, .int .i64 tb, .int .i64 tc, .int .i64 ma, .int .i64 mb, .int .i64 mc] := rfl
  have EOUT : v6 ⟨na, nb, nc⟩ ⟨oa, ob, oc⟩ = .agg #[.int .i64 na, .int .i64 nb, .int .i64 nc, .int .i64 oa, .int .i64 ob, .int .i64 oc] := rfl
  rw [EIN]
  rw [EOUT] at HSTEP ⊢
  have x0 : Row6 ((w.alloc (.cells #[.int .i64 ta, .int .i64 tb, .int .i64 tc, .int .i64 ma, .int .i64 mb, .int .i64 mc] 47)).alloc (.cells #[.int .i64 0, .int .i64 0, .int .i64 0, .int .i64 0, .int .i64 0, .int .i64 0] 47)) w.heap.size [ta, tb, tc, ma, mb, mc] := (Row6.new w [ta, tb, tc, ma, mb, mc]).alloc _
  have z0 : Row6 ((w.alloc (.cells #[.int .i64 ta, .int .i64 tb, .int .i64 tc, .int .i64 ma, .int .i64 mb, .int .i64 mc] 47)).alloc (.cells #[.int .i64 0, .int .i64 0, .int .i64 0, .int .i64 0, .int .i64 0, .int .i64 0] 47)) (w.heap.size + 1) [0, 0, 0, 0, 0, 0] := by
    have := Row6.new (w.alloc (.cells #[.int .i64 ta, .int .i64 tb, .int .i64 tc, .int .i64 ma, .int .i64 mb, .int .i64 mc] 47)) [0, 0, 0, 0, 0, 0]
    rwa [World.size_alloc] at this
  have b0 : Below w.heap.size w ((w.alloc (.cells #[.int .i64 ta, .int .i64 tb, .int .i64 tc, .int .i64 ma, .int .i64 mb, .int .i64 mc] 47)).alloc (.cells #[.int .i64 0, .int .i64 0, .int .i64 0, .int .i64 0, .int .i64 0, .int .i64 0] 47)) := ((Below.refl _ _).alloc (Nat.le_refl _) _).alloc (by simp) _
  have HX0 := hid x0
  have HZ0 := hid z0
  have HB0 := hid b0
  have HTT : Hid (v6 (stepI ⟨ta, tb, tc⟩) (stepM ⟨ta, tb, tc⟩ ⟨ma, mb, mc⟩) = v6 (stepI ⟨ta, tb, tc⟩) (stepM ⟨ta, tb, tc⟩ ⟨ma, mb, mc⟩)) := hid rfl
  obtain ⟨V2, hV2⟩ : ∃ V, V = v6 (stepI ⟨ta, tb, tc⟩) (stepM ⟨ta, tb, tc⟩ ⟨ma, mb, mc⟩) := ⟨_, rfl⟩
  rw [← hV2] at HSTEP
  have HV2 := hid hV2
  clear hpr hG1 hG2 hG3 eab eca ebc EIN EOUT x0 z0 b0 HTT hV2
  go_enter Try.func30, Try.ntmps30
  go_wp2_with fail
  go_loopw [10] (fun si wr => ∃ K : Int, si = .int .i64 K ∧ (K = 0 ∨ K = 1 ∨ K = 2 ∨ K = 3) ∧ Hid (Row6 wr w.heap.size [ta, tb, tc, ma, mb, mc]) ∧ Hid (Row6 wr (w.heap.size + 1) [0, 0, 0, 0, 0, 0]) ∧ Hid (Below w.heap.size w wr)) (fun si _ => 3 - (intOf si).toNat)
  case atStart => exact ⟨0, rfl, .inl rfl, HX0, HZ0, HB0⟩
  case round =>
    obtain ⟨K, rfl, hK, HX, HZ, HB⟩ := hrel
    rename World => wr
    have hsz := HB.out.size
    rcases hK with rfl | rfl | rfl | rfl
    · have y1 : Row3 (wr.alloc (.cells #[.int .i64 0, .int .i64 1, .int .i64 2] 45)) wr.heap.size 0 1 2 := heap_alloc_new wr _
      have HX1 := hid (HX.out.alloc (.cells #[.int .i64 0, .int .i64 1, .int .i64 2] 45))
      have HZ1 := hid (HZ.out.alloc (.cells #[.int .i64 0, .int .i64 1, .int .i64 2] 45))
      have HB1 := hid (HB.out.alloc hsz (.cells #[.int .i64 0, .int .i64 1, .int .i64 2] 45))
      have HY1 := hid y1
      have HROW : Hid (∀ W : World, Below (wr.alloc (.cells #[.int .i64 0, .int .i64 1, .int .i64 2] 45)).heap.size (wr.alloc (.cells #[.int .i64 0, .int .i64 1, .int .i64 2] 45)) W → (W.cell? ⟨wr.heap.size, 0, none⟩ = some (.int .i64 0) ∧ W.cell? ⟨wr.heap.size, 1, none⟩ = some (.int .i64 1) ∧ W.cell? ⟨wr.heap.size, 2, none⟩ = some (.int .i64 2)) ∧ (W.cell? ⟨w.heap.size, 0, none⟩ = some (.int .i64 ta) ∧ W.cell? ⟨w.heap.size, 1, none⟩ = some (.int .i64 tb) ∧ W.cell? ⟨w.heap.size, 2, none⟩ = some (.int .i64 tc) ∧ W.cell? ⟨w.heap.size, 3, none⟩ = some (.int .i64 ma) ∧ W.cell? ⟨w.heap.size, 4, none⟩ = some (.int .i64 mb) ∧ W.cell? ⟨w.heap.size, 5, none⟩ = some (.int .i64 mc)) ∧ Row6 W (w.heap.size + 1) [0, 0, 0, 0, 0, 0] ∧ Below w.heap.size w W) := hid (fun W hW => by
        have yw := HY1.out.keep hW HY1.out.lt
        have xw := HX1.out.keep hW HX1.out.lt
        exact ⟨⟨yw.cell0, yw.cell1, yw.cell2⟩, ⟨xw.cell (i := 0) (by simp), xw.cell (i := 1) (by simp), xw.cell (i := 2) (by simp), xw.cell (i := 3) (by simp), xw.cell (i := 4) (by simp), xw.cell (i := 5) (by simp)⟩, HZ1.out.keep hW HZ1.out.lt, HB1.out.trans (hW.mono HB1.out.size)⟩)
      have hb1 := Below.refl (wr.alloc (.cells #[.int .i64 0, .int .i64 1, .int .i64 2] 45)).heap.size (wr.alloc (.cells #[.int .i64 0, .int .i64 1, .int .i64 2] 45))
      obtain ⟨⟨Y0, Y1, Y2⟩, ⟨X0, X1, X2, X3, X4, X5⟩, _, _⟩ := HROW.out _ hb1
      clear y1 hb1
      go_wp2_with fail
      rw [at9_0]
      go_wp2_with fail
      go_quiet ((go_at_call 40; exact QC.out _ _ (by omega) (by omega) (by omega) (by omega) _ _))
      rw [HG1.out]
      have HBN : Hid (Below (wr.alloc (.cells #[.int .i64 0, .int .i64 1, .int .i64 2] 45)).heap.size (wr.alloc (.cells #[.int .i64 0, .int .i64 1, .int .i64 2] 45)) ((wr.alloc (.cells #[.int .i64 0, .int .i64 1, .int .i64 2] 45)).drewN nq)) := hid (below_drewN (Below.refl _ _) nq)
      obtain ⟨⟨Y0, Y1, Y2⟩, ⟨X0, X1, X2, X3, X4, X5⟩, _, _⟩ := HROW.out _ HBN.out
      have gb1 := GAB.1
      have gb2 := GAB.2
      have h1 := D0.out
      have h1i : ¬ (1 : Int) < (G1 : Int) := by omega
      have HXN := hid (HX1.out.keep HBN.out HX1.out.lt)
      have HZN := hid (HZ1.out.keep HBN.out HZ1.out.lt)
      have HBB := hid (HB1.out.trans (HBN.out.mono HB1.out.size))
      clear h1
      go_wp2_with fail
      go_roundw
      case measure => simp only [intOf]; omega
      case rel => exact ⟨1, by first | rfl | go_num, .inr (.inl rfl), HXN, HZN, HBB⟩
    · have y1 : Row3 (wr.alloc (.cells #[.int .i64 0, .int .i64 2, .int .i64 1] 45)) wr.heap.size 0 2 1 := heap_alloc_new wr _
      have HX1 := hid (HX.out.alloc (.cells #[.int .i64 0, .int .i64 2, .int .i64 1] 45))
      have HZ1 := hid (HZ.out.alloc (.cells #[.int .i64 0, .int .i64 2, .int .i64 1] 45))
      have HB1 := hid (HB.out.alloc hsz (.cells #[.int .i64 0, .int .i64 2, .int .i64 1] 45))
      have HY1 := hid y1
      have HROW : Hid (∀ W : World, Below (wr.alloc (.cells #[.int .i64 0, .int .i64 2, .int .i64 1] 45)).heap.size (wr.alloc (.cells #[.int .i64 0, .int .i64 2, .int .i64 1] 45)) W → (W.cell? ⟨wr.heap.size, 0, none⟩ = some (.int .i64 0) ∧ W.cell? ⟨wr.heap.size, 1, none⟩ = some (.int .i64 2) ∧ W.cell? ⟨wr.heap.size, 2, none⟩ = some (.int .i64 1)) ∧ (W.cell? ⟨w.heap.size, 0, none⟩ = some (.int .i64 ta) ∧ W.cell? ⟨w.heap.size, 1, none⟩ = some (.int .i64 tb) ∧ W.cell? ⟨w.heap.size, 2, none⟩ = some (.int .i64 tc) ∧ W.cell? ⟨w.heap.size, 3, none⟩ = some (.int .i64 ma) ∧ W.cell? ⟨w.heap.size, 4, none⟩ = some (.int .i64 mb) ∧ W.cell? ⟨w.heap.size, 5, none⟩ = some (.int .i64 mc)) ∧ Row6 W (w.heap.size + 1) [0, 0, 0, 0, 0, 0] ∧ Below w.heap.size w W) := hid (fun W hW => by
        have yw := HY1.out.keep hW HY1.out.lt
        have xw := HX1.out.keep hW HX1.out.lt
        exact ⟨⟨yw.cell0, yw.cell1, yw.cell2⟩, ⟨xw.cell (i := 0) (by simp), xw.cell (i := 1) (by simp), xw.cell (i := 2) (by simp), xw.cell (i := 3) (by simp), xw.cell (i := 4) (by simp), xw.cell (i := 5) (by simp)⟩, HZ1.out.keep hW HZ1.out.lt, HB1.out.trans (hW.mono HB1.out.size)⟩)
      have hb1 := Below.refl (wr.alloc (.cells #[.int .i64 0, .int .i64 2, .int .i64 1] 45)).heap.size (wr.alloc (.cells #[.int .i64 0, .int .i64 2, .int .i64 1] 45))
      obtain ⟨⟨Y0, Y1, Y2⟩, ⟨X0, X1, X2, X3, X4, X5⟩, _, _⟩ := HROW.out _ hb1
      clear y1 hb1
      go_wp2_with fail
      rw [at9_1]
      go_wp2_with fail
      go_quiet ((go_at_call 40; exact QC.out _ _ (by omega) (by omega) (by omega) (by omega) _ _))
      rw [HG2.out]
      have HBN : Hid (Below (wr.alloc (.cells #[.int .i64 0, .int .i64 2, .int .i64 1] 45)).heap.size (wr.alloc (.cells #[.int .i64 0, .int .i64 2, .int .i64 1] 45)) ((wr.alloc (.cells #[.int .i64 0, .int .i64 2, .int .i64 1] 45)).drewN nq)) := hid (below_drewN (Below.refl _ _) nq)
      obtain ⟨⟨Y0, Y1, Y2⟩, ⟨X0, X1, X2, X3, X4, X5⟩, _, _⟩ := HROW.out _ HBN.out
      have gb1 := GAC.1
      have gb2 := GAC.2
      have h1 := D1.out
      have h1i : ¬ (1 : Int) < (G2 : Int) := by omega
      have HXN := hid (HX1.out.keep HBN.out HX1.out.lt)
      have HZN := hid (HZ1.out.keep HBN.out HZ1.out.lt)
      have HBB := hid (HB1.out.trans (HBN.out.mono HB1.out.size))
      clear h1
      go_wp2_with fail
      go_roundw
      case measure => simp only [intOf]; omega
      case rel => exact ⟨2, by first | rfl | go_num, .inr (.inr (.inl rfl)), HXN, HZN, HBB⟩
    · have y1 : Row3 (wr.alloc (.cells #[.int .i64 1, .int .i64 2, .int .i64 0] 45)) wr.heap.size 1 2 0 := heap_alloc_new wr _
      have HX1 := hid (HX.out.alloc (.cells #[.int .i64 1, .int .i64 2, .int .i64 0] 45))
      have HZ1 := hid (HZ.out.alloc (.cells #[.int .i64 1, .int .i64 2, .int .i64 0] 45))
      have HB1 := hid (HB.out.alloc hsz (.cells #[.int .i64 1, .int .i64 2, .int .i64 0] 45))
      have HY1 := hid y1
      have HROW : Hid (∀ W : World, Below (wr.alloc (.cells #[.int .i64 1, .int .i64 2, .int .i64 0] 45)).heap.size (wr.alloc (.cells #[.int .i64 1, .int .i64 2, .int .i64 0] 45)) W → (W.cell? ⟨wr.heap.size, 0, none⟩ = some (.int .i64 1) ∧ W.cell? ⟨wr.heap.size, 1, none⟩ = some (.int .i64 2) ∧ W.cell? ⟨wr.heap.size, 2, none⟩ = some (.int .i64 0)) ∧ (W.cell? ⟨w.heap.size, 0, none⟩ = some (.int .i64 ta) ∧ W.cell? ⟨w.heap.size, 1, none⟩ = some (.int .i64 tb) ∧ W.cell? ⟨w.heap.size, 2, none⟩ = some (.int .i64 tc) ∧ W.cell? ⟨w.heap.size, 3, none⟩ = some (.int .i64 ma) ∧ W.cell? ⟨w.heap.size, 4, none⟩ = some (.int .i64 mb) ∧ W.cell? ⟨w.heap.size, 5, none⟩ = some (.int .i64 mc)) ∧ Row6 W (w.heap.size + 1) [0, 0, 0, 0, 0, 0] ∧ Below w.heap.size w W) := hid (fun W hW => by
        have yw := HY1.out.keep hW HY1.out.lt
        have xw := HX1.out.keep hW HX1.out.lt
        exact ⟨⟨yw.cell0, yw.cell1, yw.cell2⟩, ⟨xw.cell (i := 0) (by simp), xw.cell (i := 1) (by simp), xw.cell (i := 2) (by simp), xw.cell (i := 3) (by simp), xw.cell (i := 4) (by simp), xw.cell (i := 5) (by simp)⟩, HZ1.out.keep hW HZ1.out.lt, HB1.out.trans (hW.mono HB1.out.size)⟩)
      have hb1 := Below.refl (wr.alloc (.cells #[.int .i64 1, .int .i64 2, .int .i64 0] 45)).heap.size (wr.alloc (.cells #[.int .i64 1, .int .i64 2, .int .i64 0] 45))
      obtain ⟨⟨Y0, Y1, Y2⟩, ⟨X0, X1, X2, X3, X4, X5⟩, _, _⟩ := HROW.out _ hb1
      clear y1 hb1
      go_wp2_with fail
      rw [at9_2]
      go_wp2_with fail
      go_quiet ((go_at_call 40; exact QC.out _ _ (by omega) (by omega) (by omega) (by omega) _ _))
      rw [HG3.out]
      have HBN : Hid (Below (wr.alloc (.cells #[.int .i64 1, .int .i64 2, .int .i64 0] 45)).heap.size (wr.alloc (.cells #[.int .i64 1, .int .i64 2, .int .i64 0] 45)) ((wr.alloc (.cells #[.int .i64 1, .int .i64 2, .int .i64 0] 45)).drewN nq)) := hid (below_drewN (Below.refl _ _) nq)
      obtain ⟨⟨Y0, Y1, Y2⟩, ⟨X0, X1, X2, X3, X4, X5⟩, _, _⟩ := HROW.out _ HBN.out
      have gb1 := GBC.1
      have gb2 := GBC.2
      have h1 := D2.out
      have h1i : ¬ (1 : Int) < (G3 : Int) := by omega
      have HXN := hid (HX1.out.keep HBN.out HX1.out.lt)
      have HZN := hid (HZ1.out.keep HBN.out HZ1.out.lt)
      have HBB := hid (HB1.out.trans (HBN.out.mono HB1.out.size))
      clear h1
      go_wp2_with fail
      go_roundw
      case measure => simp only [intOf]; omega
      case rel => exact ⟨3, by first | rfl | go_num, .inr (.inr (.inr rfl)), HXN, HZN, HBB⟩
    · obtain ⟨hn, hm⟩ := HSTOP.out (T4.out D0.out D1.out D2.out)
      cases hn
      cases hm
      have X0 := HX.out.cell (i := 0) (by simp)
      have X1 := HX.out.cell (i := 1) (by simp)
      have X2 := HX.out.cell (i := 2) (by simp)
      have X3 := HX.out.cell (i := 3) (by simp)
      have X4 := HX.out.cell (i := 4) (by simp)
      have X5 := HX.out.cell (i := 5) (by simp)
      obtain ⟨c0, f0, c1, f1, c2, f2, c3, f3, c4, f4, c5, f5, HZ6⟩ := store6 HZ.out ta tb tc ma mb mc
      have HB6 := hid (below6 HB.out (show w.heap.size ≤ w.heap.size + 1 by omega) ta tb tc ma mb mc)
      go_wp2_with fail
      have r0 := HZ6.out.cell (i := 0) (by simp)
      have r1 := HZ6.out.cell (i := 1) (by simp)
      have r2 := HZ6.out.cell (i := 2) (by simp)
      have r3 := HZ6.out.cell (i := 3) (by simp)
      have r4 := HZ6.out.cell (i := 4) (by simp)
      have r5 := HZ6.out.cell (i := 5) (by simp)
      refine bodyPost_ret (v := .agg #[.int .i64 ta, .int .i64 tb, .int .i64 tc, .int .i64 ma, .int .i64 mb, .int .i64 mc]) (by simp [results, Try.results30, go_sem] <;> go_simp) rfl ?_
      exact ⟨rfl, HB6.out⟩

end Go.Proofs.Ytenibnblibnocac
