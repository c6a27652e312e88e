/-
  Contracts of the program's chapter 5: the descent to normal terms; ZeroNormal.
-/
import Derived.Test.YtbhlgdleklfonabZp2b
import Derived.Test.YtbhlgdleklfonabBun2
import Derived.Deep.RegionWith
import Derived.Deep.RegionHeld3
import Derived.Deep.QuietTactic
set_option linter.unusedVariables false
namespace Go.Proofs.Ytbhlgdleklfonab
open Go.RowKit

theorem least_tab : (List.range 200).all (fun G => decide (G ≤ 1) || (lpG G == leastN G)) = true := by decide +kernel
theorem least_lp {G : Nat} (h1 : 1 < G) (h2 : G ≤ 199) : leastN G = lpG G := by
  have h := List.all_eq_true.1 least_tab G (List.mem_range.2 (by omega))
  rw [decide_eq_false (show ¬ G ≤ 1 by omega), Bool.false_or, beq_iff_eq] at h
  exact h.symm
theorem gcd_sq {x y n : Nat} (hx : 1 ≤ x) (hy : 1 ≤ y) (h : x * y ≤ n) : Nat.gcd x y * Nat.gcd x y ≤ n := by
  obtain ⟨u, hu⟩ := Nat.gcd_dvd_left x y
  obtain ⟨v, hv⟩ := Nat.gcd_dvd_right x y
  obtain ⟨g, hg⟩ : ∃ g, g = Nat.gcd x y := ⟨_, rfl⟩
  rw [← hg] at hu hv ⊢
  have hu1 : 1 ≤ u := by
    rcases Nat.eq_zero_or_pos u with e | e
    · rw [e] at hu; omega
    · exact e
  have hv1 : 1 ≤ v := by
    rcases Nat.eq_zero_or_pos v with e | e
    · rw [e] at hv; omega
    · exact e
  have e : x * y = g * g * (u * v) := by rw [hu, hv]; simp only [Nat.mul_comm, Nat.mul_left_comm]
  have := Nat.le_mul_of_pos_right (g * g) (Nat.mul_pos hu1 hv1)
  omega
theorem pair_le {t : T3} (h : t.nz) (hp : t.prod ≤ 27000) : t.a.natAbs * t.b.natAbs ≤ 27000 ∧ t.a.natAbs * t.c.natAbs ≤ 27000 ∧ t.b.natAbs * t.c.natAbs ≤ 27000 := by
  obtain ⟨_, _, _, h1, h2, h3⟩ := T3.bd h hp
  rw [Int.natAbs_mul] at h1 h2 h3
  exact ⟨h3, h2, h1⟩
theorem gcd_199 {x y : Nat} (hx : 1 ≤ x) (hy : 1 ≤ y) (h : x * y ≤ 27000) : 1 ≤ Nat.gcd x y ∧ Nat.gcd x y ≤ 199 := by
  have h1 := gcd_sq hx hy h
  refine ⟨Nat.gcd_pos_of_pos_left _ hx, ?_⟩
  refine Classical.byContradiction fun hc => ?_
  have := Nat.mul_le_mul (show 200 ≤ Nat.gcd x y by omega) (show 200 ≤ Nat.gcd x y by omega)
  omega
theorem stepTK_2 {t m : T3} (h : twoK t.a t.b t.c = 2) : stepTK 2 (twoD t.a t.b t.c) t = stepI t ∧ stepMK 2 (twoD t.a t.b t.c) t m = stepM t m := by rw [(step_k2 (m := m) h).1, (step_k2 h).2]; exact ⟨rfl, rfl⟩
theorem stepTK_1 {t m : T3} (h : twoK t.a t.b t.c = 1) : stepTK 1 (twoD t.a t.b t.c) t = stepI t ∧ stepMK 1 (twoD t.a t.b t.c) t m = stepM t m := by rw [(step_k1 (m := m) h).1, (step_k1 h).2]; exact ⟨rfl, rfl⟩
theorem stepTK_0 {t m : T3} (h : twoK t.a t.b t.c = 0) : stepTK 0 (twoD t.a t.b t.c) t = stepI t ∧ stepMK 0 (twoD t.a t.b t.c) t m = stepM t m := by rw [(step_k0 (m := m) h).1, (step_k0 h).2]; exact ⟨rfl, rfl⟩

theorem idx9 {t e : TypeId} (hu : Try.prog.underlying t = some (.array 3 e)) (hue : Try.prog.underlying e = some (.array 3 3)) (hi : (Try.prog.info? e).isSome = true) (hc : Try.prog.cellsOf e = 3) (k : Int) (h0 : 0 ≤ k) (h3 : k < 3) (xs : Array Value) (w : World) :
    (Instr.index t (.agg xs) (.int .i64 k)).run Try.prog w = .ok (.agg (xs.extract (k.toNat * 3) (k.toNat * 3 + 3))) w := by
  obtain ⟨i3, hi⟩ := Option.isSome_iff_exists.1 hi
  have h : (0 ≤ k ∧ k < ((3 : Nat) : Int)) := ⟨h0, by omega⟩
  simp [Instr.index, run_underlying hu, asIntOf, h, part, isAgg, run_underlying hue, run_sizeOf w hi, hc, go_sem]
  intro hh
  omega
theorem at9 (k : Int) (h0 : 0 ≤ k) (h3 : k < 3) (xs : Array Value) (w : World) :
    (Instr.index 67 (.agg xs) (.int .i64 k)).run Try.prog w = .ok (.agg (xs.extract (k.toNat * 3) (k.toNat * 3 + 3))) w :=
  idx9 Try.underlying67 Try.underlying43 (by kernel_rfl) (by kernel_rfl) k h0 h3 xs w
theorem at9_0 (w : World) : (Instr.index 67 (.agg #[.int .i64 0, .int .i64 1, .int .i64 2, .int .i64 0, .int .i64 2, .int .i64 1, .int .i64 1, .int .i64 2, .int .i64 0]) (.int .i64 0)).run Try.prog w = .ok (.agg #[.int .i64 0, .int .i64 1, .int .i64 2]) w := at9 0 (by omega) (by omega) _ w
theorem at9_1 (w : World) : (Instr.index 67 (.agg #[.int .i64 0, .int .i64 1, .int .i64 2, .int .i64 0, .int .i64 2, .int .i64 1, .int .i64 1, .int .i64 2, .int .i64 0]) (.int .i64 1)).run Try.prog w = .ok (.agg #[.int .i64 0, .int .i64 2, .int .i64 1]) w := at9 1 (by omega) (by omega) _ w
theorem at9_2 (w : World) : (Instr.index 67 (.agg #[.int .i64 0, .int .i64 1, .int .i64 2, .int .i64 0, .int .i64 2, .int .i64 1, .int .i64 1, .int .i64 2, .int .i64 0]) (.int .i64 2)).run Try.prog w = .ok (.agg #[.int .i64 1, .int .i64 2, .int .i64 0]) w := at9 2 (by omega) (by omega) _ w
set_option maxRecDepth 100000 in
set_option maxHeartbeats 16000000 in
theorem descend_k3 (N M t m : T3) (f : Nat) (C0 : ¬ 1 < Nat.gcd t.a.natAbs t.b.natAbs) (C1 : ¬ 1 < Nat.gcd t.a.natAbs t.c.natAbs) (C2 : ¬ 1 < Nat.gcd t.b.natAbs t.c.natAbs) (hD : Desc N M f t m) (ih : ∀ f', f = f' + 1 → ∀ (t m : T3), Desc N M f' t m → ∀ w : World, Calls Try.prog 46 #[v6 t m] w fun e w' => e = .returned (v6 N M) ∧ Below w.heap.size w w') (w : World) :
    Calls Try.prog 46 #[v6 t m] w fun e w' => e = .returned (v6 N M) ∧ Below w.heap.size w w' := by
  obtain ⟨wr0, wr1, wr2, wr3, wr4⟩ := wrap5
  have hle := T3.le hD.nz hD.prod
  have hml := hD.inv.le hD.nz
  have hpr := pair_le hD.nz hD.prod
  have hnz := hD.nz
  have HSTOP : Hid (twoD t.a t.b t.c = 1 → N = t ∧ M = m) := hid (fun h => hD.stop h)
  have HSTEP : Hid (twoD t.a t.b t.c ≠ 1 → ∀ w : World, Calls Try.prog 46 #[v6 (stepI t) (stepM t m)] w fun e w' => e = .returned (v6 N M) ∧ Below w.heap.size w w') := hid (fun h w => by
    obtain ⟨f', e, hd⟩ := hD.step h
    exact ih f' e _ _ hd w)
  have HK2 := hid (stepTK_2 (t := t) (m := m))
  have HK1 := hid (stepTK_1 (t := t) (m := m))
  have HK0 := hid (stepTK_0 (t := t) (m := m))
  clear hD ih
  obtain ⟨ta, tb, tc⟩ := t
  obtain ⟨ma, mb, mc⟩ := m
  obtain ⟨na, nb, nc⟩ := N
  obtain ⟨oa, ob, oc⟩ := M
  dsimp only at hle hml hpr hnz HSTOP HSTEP HK2 HK1 HK0 C0 C1 C2
  obtain ⟨⟨ta1, ta2⟩, ⟨tb1, tb2⟩, tc1, tc2⟩ := hle
  obtain ⟨⟨ma1, ma2⟩, ⟨mb1, mb2⟩, mc1, mc2⟩ := hml
  obtain ⟨ta0, tb0, tc0⟩ := hnz
  dsimp only at ta0 tb0 tc0
  have GAB := gcd_199 (x := ta.natAbs) (y := tb.natAbs) (by omega) (by omega) hpr.1
  have GAC := gcd_199 (x := ta.natAbs) (y := tc.natAbs) (by omega) (by omega) hpr.2.1
  have GBC := gcd_199 (x := tb.natAbs) (y := tc.natAbs) (by omega) (by omega) hpr.2.2
  have eab : Int.gcd ta tb = Nat.gcd ta.natAbs tb.natAbs := rfl
  have eca : Int.gcd tc ta = Nat.gcd ta.natAbs tc.natAbs := Nat.gcd_comm ..
  have ebc : Int.gcd tb tc = Nat.gcd tb.natAbs tc.natAbs := rfl
  obtain ⟨G1, hG1⟩ : ∃ G, G = Nat.gcd ta.natAbs tb.natAbs := ⟨_, rfl⟩
  obtain ⟨G2, hG2⟩ : ∃ G, G = Nat.gcd ta.natAbs tc.natAbs := ⟨_, rfl⟩
  obtain ⟨G3, hG3⟩ : ∃ G, G = Nat.gcd tb.natAbs tc.natAbs := ⟨_, rfl⟩
  rw [← hG1] at GAB eab
  rw [← hG2] at GAC eca
  rw [← hG3] at GBC ebc
  rw [← hG1] at C0
  have HG1 := hid hG1.symm
  have D0 := hid C0
  clear C0
  rw [← hG2] at C1
  have HG2 := hid hG2.symm
  have D1 := hid C1
  clear C1
  rw [← hG3] at C2
  have HG3 := hid hG3.symm
  have D2 := hid C2
  clear C2
  have T1 : Hid (1 < G1 → twoD ta tb tc = lpG G1 ∧ twoK ta tb tc = 2) := hid (fun h => by unfold twoD twoK; rw [eab, if_pos h, if_pos h]; exact ⟨rfl, rfl⟩)
  have T2 : Hid (¬ 1 < G1 → 1 < G2 → twoD ta tb tc = lpG G2 ∧ twoK ta tb tc = 1) := hid (fun h0 h => by unfold twoD twoK; rw [eab, if_neg h0, if_neg h0, eca, if_pos h, if_pos h]; exact ⟨rfl, rfl⟩)
  have T3' : Hid (¬ 1 < G1 → ¬ 1 < G2 → 1 < G3 → twoD ta tb tc = lpG G3 ∧ twoK ta tb tc = 0) := hid (fun h0 h1 h => by unfold twoD twoK; rw [eab, if_neg h0, if_neg h0, eca, if_neg h1, if_neg h1, ebc, if_pos h]; exact ⟨rfl, rfl⟩)
  have T4 : Hid (¬ 1 < G1 → ¬ 1 < G2 → ¬ 1 < G3 → twoD ta tb tc = 1) := hid (fun h0 h1 h => by unfold twoD; rw [eab, if_neg h0, eca, if_neg h1, ebc, if_neg h])
  have QC : Hid (∀ (x y : Int), -27000 ≤ x → x ≤ 27000 → -27000 ≤ y → y ≤ 27000 → ∀ (w : World) (n : Nat), Calls Try.prog 72 #[.int .i64 x, .int .i64 y] (w.drewN n) fun e w'' => e = .returned (.int .i64 (Nat.gcd x.natAbs y.natAbs : Nat)) ∧ ∃ m, w'' = w.drewN m) := hid (fun x y x1 x2 y1 y2 w n => Calls.quiet_of (common_any x y (by omega) (by omega) (by omega) (by omega) _))
  have EIN : v6 ⟨ta, tb, tc⟩ ⟨ma, mb, mc⟩ = .agg #[.int .i64 ta, .int .i64 tb, .int .i64 tc, .int .i64 ma, .int .i64 mb, .int .i64 mc] := rfl
  have EOUT : v6 ⟨na, nb, nc⟩ ⟨oa, ob, oc⟩ = .agg #[.int .i64 na, .int .i64 nb, .int .i64 nc, .int .i64 oa, .int .i64 ob, .int .i64 oc] := rfl
  rw [EIN]
  rw [EOUT] at HSTEP ⊢
  have x0 : Row6 ((w.alloc (.cells #[.int .i64 ta, .int .i64 tb, .int .i64 tc, .int .i64 ma, .int .i64 mb, .int .i64 mc] 45)).alloc (.cells #[.int .i64 0, .int .i64 0, .int .i64 0, .int .i64 0, .int .i64 0, .int .i64 0] 45)) w.heap.size [ta, tb, tc, ma, mb, mc] := (Row6.new w [ta, tb, tc, ma, mb, mc]).alloc _
  have z0 : Row6 ((w.alloc (.cells #[.int .i64 ta, .int .i64 tb, .int .i64 tc, .int .i64 ma, .int .i64 mb, .int .i64 mc] 45)).alloc (.cells #[.int .i64 0, .int .i64 0, .int .i64 0, .int .i64 0, .int .i64 0, .int .i64 0] 45)) (w.heap.size + 1) [0, 0, 0, 0, 0, 0] := by
    have := Row6.new (w.alloc (.cells #[.int .i64 ta, .int .i64 tb, .int .i64 tc, .int .i64 ma, .int .i64 mb, .int .i64 mc] 45)) [0, 0, 0, 0, 0, 0]
    rwa [World.size_alloc] at this
  have b0 : Below w.heap.size w ((w.alloc (.cells #[.int .i64 ta, .int .i64 tb, .int .i64 tc, .int .i64 ma, .int .i64 mb, .int .i64 mc] 45)).alloc (.cells #[.int .i64 0, .int .i64 0, .int .i64 0, .int .i64 0, .int .i64 0, .int .i64 0] 45)) := ((Below.refl _ _).alloc (Nat.le_refl _) _).alloc (by simp) _
  have HX0 := hid x0
  have HZ0 := hid z0
  have HB0 := hid b0
  have HTT : Hid (v6 (stepI ⟨ta, tb, tc⟩) (stepM ⟨ta, tb, tc⟩ ⟨ma, mb, mc⟩) = v6 (stepI ⟨ta, tb, tc⟩) (stepM ⟨ta, tb, tc⟩ ⟨ma, mb, mc⟩)) := hid rfl
  obtain ⟨V2, hV2⟩ : ∃ V, V = v6 (stepI ⟨ta, tb, tc⟩) (stepM ⟨ta, tb, tc⟩ ⟨ma, mb, mc⟩) := ⟨_, rfl⟩
  rw [← hV2] at HSTEP
  have HV2 := hid hV2
  clear hpr hG1 hG2 hG3 eab eca ebc EIN EOUT x0 z0 b0 HTT hV2
  go_enter Try.func46, Try.ntmps46
  go_wp2_with fail
  go_loopw [10] (fun si wr => ∃ K : Int, si = .int .i64 K ∧ (K = 0 ∨ K = 1 ∨ K = 2 ∨ K = 3) ∧ Hid (Row6 wr w.heap.size [ta, tb, tc, ma, mb, mc]) ∧ Hid (Row6 wr (w.heap.size + 1) [0, 0, 0, 0, 0, 0]) ∧ Hid (Below w.heap.size w wr)) (fun si _ => 3 - (intOf si).toNat)
  case atStart => exact ⟨0, rfl, .inl rfl, HX0, HZ0, HB0⟩
  case round =>
    obtain ⟨K, rfl, hK, HX, HZ, HB⟩ := hrel
    rename World => wr
    have hsz := HB.out.size
    rcases hK with rfl | rfl | rfl | rfl
    · have y1 : Row3 (wr.alloc (.cells #[.int .i64 0, .int .i64 1, .int .i64 2] 43)) wr.heap.size 0 1 2 := heap_alloc_new wr _
      have HX1 := hid (HX.out.alloc (.cells #[.int .i64 0, .int .i64 1, .int .i64 2] 43))
      have HZ1 := hid (HZ.out.alloc (.cells #[.int .i64 0, .int .i64 1, .int .i64 2] 43))
      have HB1 := hid (HB.out.alloc hsz (.cells #[.int .i64 0, .int .i64 1, .int .i64 2] 43))
      have HY1 := hid y1
      have HROW : Hid (∀ W : World, Below (wr.alloc (.cells #[.int .i64 0, .int .i64 1, .int .i64 2] 43)).heap.size (wr.alloc (.cells #[.int .i64 0, .int .i64 1, .int .i64 2] 43)) W → (W.cell? ⟨wr.heap.size, 0, none⟩ = some (.int .i64 0) ∧ W.cell? ⟨wr.heap.size, 1, none⟩ = some (.int .i64 1) ∧ W.cell? ⟨wr.heap.size, 2, none⟩ = some (.int .i64 2)) ∧ (W.cell? ⟨w.heap.size, 0, none⟩ = some (.int .i64 ta) ∧ W.cell? ⟨w.heap.size, 1, none⟩ = some (.int .i64 tb) ∧ W.cell? ⟨w.heap.size, 2, none⟩ = some (.int .i64 tc) ∧ W.cell? ⟨w.heap.size, 3, none⟩ = some (.int .i64 ma) ∧ W.cell? ⟨w.heap.size, 4, none⟩ = some (.int .i64 mb) ∧ W.cell? ⟨w.heap.size, 5, none⟩ = some (.int .i64 mc)) ∧ Row6 W (w.heap.size + 1) [0, 0, 0, 0, 0, 0] ∧ Below w.heap.size w W) := hid (fun W hW => by
        have yw := HY1.out.keep hW HY1.out.lt
        have xw := HX1.out.keep hW HX1.out.lt
        exact ⟨⟨yw.cell0, yw.cell1, yw.cell2⟩, ⟨xw.cell (i := 0) (by simp), xw.cell (i := 1) (by simp), xw.cell (i := 2) (by simp), xw.cell (i := 3) (by simp), xw.cell (i := 4) (by simp), xw.cell (i := 5) (by simp)⟩, HZ1.out.keep hW HZ1.out.lt, HB1.out.trans (hW.mono HB1.out.size)⟩)
      have hb1 := Below.refl (wr.alloc (.cells #[.int .i64 0, .int .i64 1, .int .i64 2] 43)).heap.size (wr.alloc (.cells #[.int .i64 0, .int .i64 1, .int .i64 2] 43))
      obtain ⟨⟨Y0, Y1, Y2⟩, ⟨X0, X1, X2, X3, X4, X5⟩, _, _⟩ := HROW.out _ hb1
      clear y1 hb1
      go_wp2_with fail
      rw [at9_0]
      go_wp2_with fail
      go_quiet ((go_at_call 72; exact QC.out _ _ (by omega) (by omega) (by omega) (by omega) _ _))
      rw [HG1.out]
      have HBN : Hid (Below (wr.alloc (.cells #[.int .i64 0, .int .i64 1, .int .i64 2] 43)).heap.size (wr.alloc (.cells #[.int .i64 0, .int .i64 1, .int .i64 2] 43)) ((wr.alloc (.cells #[.int .i64 0, .int .i64 1, .int .i64 2] 43)).drewN nq)) := hid (below_drewN (Below.refl _ _) nq)
      obtain ⟨⟨Y0, Y1, Y2⟩, ⟨X0, X1, X2, X3, X4, X5⟩, _, _⟩ := HROW.out _ HBN.out
      have gb1 := GAB.1
      have gb2 := GAB.2
      have h1 := D0.out
      have h1i : ¬ (1 : Int) < (G1 : Int) := by omega
      have HXN := hid (HX1.out.keep HBN.out HX1.out.lt)
      have HZN := hid (HZ1.out.keep HBN.out HZ1.out.lt)
      have HBB := hid (HB1.out.trans (HBN.out.mono HB1.out.size))
      clear h1
      go_wp2_with fail
      go_roundw
      case measure => simp only [intOf]; omega
      case rel => exact ⟨1, by first | rfl | go_num, .inr (.inl rfl), HXN, HZN, HBB⟩
    · have y1 : Row3 (wr.alloc (.cells #[.int .i64 0, .int .i64 2, .int .i64 1] 43)) wr.heap.size 0 2 1 := heap_alloc_new wr _
      have HX1 := hid (HX.out.alloc (.cells #[.int .i64 0, .int .i64 2, .int .i64 1] 43))
      have HZ1 := hid (HZ.out.alloc (.cells #[.int .i64 0, .int .i64 2, .int .i64 1] 43))
      have HB1 := hid (HB.out.alloc hsz (.cells #[.int .i64 0, .int .i64 2, .int .i64 1] 43))
      have HY1 := hid y1
      have HROW : Hid (∀ W : World, Below (wr.alloc (.cells #[.int .i64 0, .int .i64 2, .int .i64 1] 43)).heap.size (wr.alloc (.cells #[.int .i64 0, .int .i64 2, .int .i64 1] 43)) W → (W.cell? ⟨wr.heap.size, 0, none⟩ = some (.int .i64 0) ∧ W.cell? ⟨wr.heap.size, 1, none⟩ = some (.int .i64 2) ∧ W.cell? ⟨wr.heap.size, 2, none⟩ = some (.int .i64 1)) ∧ (W.cell? ⟨w.heap.size, 0, none⟩ = some (.int .i64 ta) ∧ W.cell? ⟨w.heap.size, 1, none⟩ = some (.int .i64 tb) ∧ W.cell? ⟨w.heap.size, 2, none⟩ = some (.int .i64 tc) ∧ W.cell? ⟨w.heap.size, 3, none⟩ = some (.int .i64 ma) ∧ W.cell? ⟨w.heap.size, 4, none⟩ = some (.int .i64 mb) ∧ W.cell? ⟨w.heap.size, 5, none⟩ = some (.int .i64 mc)) ∧ Row6 W (w.heap.size + 1) [0, 0, 0, 0, 0, 0] ∧ Below w.heap.size w W) := hid (fun W hW => by
        have yw := HY1.out.keep hW HY1.out.lt
        have xw := HX1.out.keep hW HX1.out.lt
        exact ⟨⟨yw.cell0, yw.cell1, yw.cell2⟩, ⟨xw.cell (i := 0) (by simp), xw.cell (i := 1) (by simp), xw.cell (i := 2) (by simp), xw.cell (i := 3) (by simp), xw.cell (i := 4) (by simp), xw.cell (i := 5) (by simp)⟩, HZ1.out.keep hW HZ1.out.lt, HB1.out.trans (hW.mono HB1.out.size)⟩)
      have hb1 := Below.refl (wr.alloc (.cells #[.int .i64 0, .int .i64 2, .int .i64 1] 43)).heap.size (wr.alloc (.cells #[.int .i64 0, .int .i64 2, .int .i64 1] 43))
      obtain ⟨⟨Y0, Y1, Y2⟩, ⟨X0, X1, X2, X3, X4, X5⟩, _, _⟩ := HROW.out _ hb1
      clear y1 hb1
      go_wp2_with fail
      rw [at9_1]
      go_wp2_with fail
      go_quiet ((go_at_call 72; exact QC.out _ _ (by omega) (by omega) (by omega) (by omega) _ _))
      rw [HG2.out]
      have HBN : Hid (Below (wr.alloc (.cells #[.int .i64 0, .int .i64 2, .int .i64 1] 43)).heap.size (wr.alloc (.cells #[.int .i64 0, .int .i64 2, .int .i64 1] 43)) ((wr.alloc (.cells #[.int .i64 0, .int .i64 2, .int .i64 1] 43)).drewN nq)) := hid (below_drewN (Below.refl _ _) nq)
      obtain ⟨⟨Y0, Y1, Y2⟩, ⟨X0, X1, X2, X3, X4, X5⟩, _, _⟩ := HROW.out _ HBN.out
      have gb1 := GAC.1
      have gb2 := GAC.2
      have h1 := D1.out
      have h1i : ¬ (1 : Int) < (G2 : Int) := by omega
      have HXN := hid (HX1.out.keep HBN.out HX1.out.lt)
      have HZN := hid (HZ1.out.keep HBN.out HZ1.out.lt)
      have HBB := hid (HB1.out.trans (HBN.out.mono HB1.out.size))
      clear h1
      go_wp2_with fail
      go_roundw
      case measure => simp only [intOf]; omega
      case rel => exact ⟨2, by first | rfl | go_num, .inr (.inr (.inl rfl)), HXN, HZN, HBB⟩
    · have y1 : Row3 (wr.alloc (.cells #[.int .i64 1, .int .i64 2, .int .i64 0] 43)) wr.heap.size 1 2 0 := heap_alloc_new wr _
      have HX1 := hid (HX.out.alloc (.cells #[.int .i64 1, .int .i64 2, .int .i64 0] 43))
      have HZ1 := hid (HZ.out.alloc (.cells #[.int .i64 1, .int .i64 2, .int .i64 0] 43))
      have HB1 := hid (HB.out.alloc hsz (.cells #[.int .i64 1, .int .i64 2, .int .i64 0] 43))
      have HY1 := hid y1
      have HROW : Hid (∀ W : World, Below (wr.alloc (.cells #[.int .i64 1, .int .i64 2, .int .i64 0] 43)).heap.size (wr.alloc (.cells #[.int .i64 1, .int .i64 2, .int .i64 0] 43)) W → (W.cell? ⟨wr.heap.size, 0, none⟩ = some (.int .i64 1) ∧ W.cell? ⟨wr.heap.size, 1, none⟩ = some (.int .i64 2) ∧ W.cell? ⟨wr.heap.size, 2, none⟩ = some (.int .i64 0)) ∧ (W.cell? ⟨w.heap.size, 0, none⟩ = some (.int .i64 ta) ∧ W.cell? ⟨w.heap.size, 1, none⟩ = some (.int .i64 tb) ∧ W.cell? ⟨w.heap.size, 2, none⟩ = some (.int .i64 tc) ∧ W.cell? ⟨w.heap.size, 3, none⟩ = some (.int .i64 ma) ∧ W.cell? ⟨w.heap.size, 4, none⟩ = some (.int .i64 mb) ∧ W.cell? ⟨w.heap.size, 5, none⟩ = some (.int .i64 mc)) ∧ Row6 W (w.heap.size + 1) [0, 0, 0, 0, 0, 0] ∧ Below w.heap.size w W) := hid (fun W hW => by
        have yw := HY1.out.keep hW HY1.out.lt
        have xw := HX1.out.keep hW HX1.out.lt
        exact ⟨⟨yw.cell0, yw.cell1, yw.cell2⟩, ⟨xw.cell (i := 0) (by simp), xw.cell (i := 1) (by simp), xw.cell (i := 2) (by simp), xw.cell (i := 3) (by simp), xw.cell (i := 4) (by simp), xw.cell (i := 5) (by simp)⟩, HZ1.out.keep hW HZ1.out.lt, HB1.out.trans (hW.mono HB1.out.size)⟩)
      have hb1 := Below.refl (wr.alloc (.cells #[.int .i64 1, .int .i64 2, .int .i64 0] 43)).heap.size (wr.alloc (.cells #[.int .i64 1, .int .i64 2, .int .i64 0] 43))
      obtain ⟨⟨Y0, Y1, Y2⟩, ⟨X0, X1, X2, X3, X4, X5⟩, _, _⟩ := HROW.out _ hb1
      clear y1 hb1
      go_wp2_with fail
      rw [at9_2]
      go_wp2_with fail
      go_quiet ((go_at_call 72; exact QC.out _ _ (by omega) (by omega) (by omega) (by omega) _ _))
      rw [HG3.out]
      have HBN : Hid (Below (wr.alloc (.cells #[.int .i64 1, .int .i64 2, .int .i64 0] 43)).heap.size (wr.alloc (.cells #[.int .i64 1, .int .i64 2, .int .i64 0] 43)) ((wr.alloc (.cells #[.int .i64 1, .int .i64 2, .int .i64 0] 43)).drewN nq)) := hid (below_drewN (Below.refl _ _) nq)
      obtain ⟨⟨Y0, Y1, Y2⟩, ⟨X0, X1, X2, X3, X4, X5⟩, _, _⟩ := HROW.out _ HBN.out
      have gb1 := GBC.1
      have gb2 := GBC.2
      have h1 := D2.out
      have h1i : ¬ (1 : Int) < (G3 : Int) := by omega
      have HXN := hid (HX1.out.keep HBN.out HX1.out.lt)
      have HZN := hid (HZ1.out.keep HBN.out HZ1.out.lt)
      have HBB := hid (HB1.out.trans (HBN.out.mono HB1.out.size))
      clear h1
      go_wp2_with fail
      go_roundw
      case measure => simp only [intOf]; omega
      case rel => exact ⟨3, by first | rfl | go_num, .inr (.inr (.inr rfl)), HXN, HZN, HBB⟩
    · obtain ⟨hn, hm⟩ := HSTOP.out (T4.out D0.out D1.out D2.out)
      cases hn
      cases hm
      have X0 := HX.out.cell (i := 0) (by simp)
      have X1 := HX.out.cell (i := 1) (by simp)
      have X2 := HX.out.cell (i := 2) (by simp)
      have X3 := HX.out.cell (i := 3) (by simp)
      have X4 := HX.out.cell (i := 4) (by simp)
      have X5 := HX.out.cell (i := 5) (by simp)
      obtain ⟨c0, f0, c1, f1, c2, f2, c3, f3, c4, f4, c5, f5, HZ6⟩ := store6 HZ.out ta tb tc ma mb mc
      have HB6 := hid (below6 HB.out (show w.heap.size ≤ w.heap.size + 1 by omega) ta tb tc ma mb mc)
      go_wp2_with fail
      have r0 := HZ6.out.cell (i := 0) (by simp)
      have r1 := HZ6.out.cell (i := 1) (by simp)
      have r2 := HZ6.out.cell (i := 2) (by simp)
      have r3 := HZ6.out.cell (i := 3) (by simp)
      have r4 := HZ6.out.cell (i := 4) (by simp)
      have r5 := HZ6.out.cell (i := 5) (by simp)
      refine bodyPost_ret (v := .agg #[.int .i64 ta, .int .i64 tb, .int .i64 tc, .int .i64 ma, .int .i64 mb, .int .i64 mc]) (by simp [results, Try.results46, go_sem] <;> go_simp) rfl ?_
      exact ⟨rfl, HB6.out⟩

end Go.Proofs.Ytbhlgdleklfonab
