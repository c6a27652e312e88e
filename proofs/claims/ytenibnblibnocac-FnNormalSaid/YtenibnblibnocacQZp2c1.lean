/-
  Contracts of the program's chapter 5: one step of the descent, at the second pair of terms.
-/
import Derived.Test.YtenibnblibnocacQBun37
set_option linter.unusedVariables false
namespace Go.Proofs.Ytenibnblibnocac
open Go.RowKit

set_option maxRecDepth 100000 in
set_option maxHeartbeats 16000000 in
theorem descend_k1 (N M t m : T3) (f : Nat) (C0 : ¬ 1 < Nat.gcd t.a.natAbs t.b.natAbs) (C1 : 1 < Nat.gcd t.a.natAbs t.c.natAbs) (hD : Desc N M f t m) (ih : ∀ f', f = f' + 1 → ∀ (t m : T3), Desc N M f' t m → ∀ w : World, Calls Try.prog 30 #[v6 t m] w fun e w' => e = .returned (v6 N M) ∧ Below w.heap.size w w') (w : World) :
    Calls Try.prog 30 #[v6 t m] w fun e w' => e = .returned (v6 N M) ∧ Below w.heap.size w w' := by
  obtain ⟨wr0, wr1, wr2, wr3, wr4⟩ := wrap5
  have hle := T3.le hD.nz hD.prod
  have hml := hD.inv.le hD.nz
  have hpr := pair_le hD.nz hD.prod
  have hnz := hD.nz
  have HSTOP : Hid (twoD t.a t.b t.c = 1 → N = t ∧ M = m) := hid (fun h => hD.stop h)
  have HSTEP : Hid (twoD t.a t.b t.c ≠ 1 → ∀ w : World, Calls Try.prog 30 #[v6 (stepI t) (stepM t m)] w fun e w' => e = .returned (v6 N M) ∧ Below w.heap.size w w') := hid (fun h w => by
    obtain ⟨f', e, hd⟩ := hD.step h
    exact ih f' e _ _ hd w)
  have HK2 := hid (stepTK_2 (t := t) (m := m))
  have HK1 := hid (stepTK_1 (t := t) (m := m))
  have HK0 := hid (stepTK_0 (t := t) (m := m))
  clear hD ih
  obtain ⟨ta, tb, tc⟩ := t
  obtain ⟨ma, mb, mc⟩ := m
  obtain ⟨na, nb, nc⟩ := N
  obtain ⟨oa, ob, oc⟩ := M
  dsimp only at hle hml hpr hnz HSTOP HSTEP HK2 HK1 HK0 C0 C1
  obtain ⟨⟨ta1, ta2⟩, ⟨tb1, tb2⟩, tc1, tc2⟩ := hle
  obtain ⟨⟨ma1, ma2⟩, ⟨mb1, mb2⟩, mc1, mc2⟩ := hml
  obtain ⟨ta0, tb0, tc0⟩ := hnz
  dsimp only at ta0 tb0 tc0
  have GAB := gcd_199 (x := ta.natAbs) (y := tb.natAbs) (by omega) (by omega) hpr.1
  have GAC := gcd_199 (x := ta.natAbs) (y := tc.natAbs) (by omega) (by omega) hpr.2.1
  have GBC := gcd_199 (x := tb.natAbs) (y := tc.natAbs) (by omega) (by omega) hpr.2.2
  have eab : Int.gcd ta tb = Nat.gcd ta.natAbs tb.natAbs := rfl
  have eca : Int.gcd tc ta = Nat.gcd ta.natAbs tc.natAbs := Nat.gcd_comm ..
  have ebc : Int.gcd tb tc = Nat.gcd tb.natAbs tc.natAbs := rfl
  obtain ⟨G1, hG1⟩ : ∃ G, G = Nat.gcd ta.natAbs tb.natAbs := ⟨_, rfl⟩
  obtain ⟨G2, hG2⟩ : ∃ G, G = Nat.gcd ta.natAbs tc.natAbs := ⟨_, rfl⟩
  obtain ⟨G3, hG3⟩ : ∃ G, G = Nat.gcd tb.natAbs tc.natAbs := ⟨_, rfl⟩
  rw [← hG1] at GAB eab
  rw [← hG2] at GAC eca
  rw [← hG3] at GBC ebc
  rw [← hG1] at C0
  have HG1 := hid hG1.symm
  have D0 := hid C0
  clear C0
  rw [← hG2] at C1
  have HG2 := hid hG2.symm
  have D1 := hid C1
  clear C1
  have HG3 := hid hG3.symm
  have T1 : Hid (1 < G1 → twoD ta tb tc = lpG G1 ∧ twoK ta tb tc = 2) := hid (fun h => by unfold twoD twoK; rw [eab, if_pos h, if_pos h]; exact ⟨rfl, rfl⟩)
  have T2 : Hid (¬ 1 < G1 → 1 < G2 → twoD ta tb tc = lpG G2 ∧ twoK ta tb tc = 1) := hid (fun h0 h => by unfold twoD twoK; rw [eab, if_neg h0, if_neg h0, eca, if_pos h, if_pos h]; exact ⟨rfl, rfl⟩)
  have T3' : Hid (¬ 1 < G1 → ¬ 1 < G2 → 1 < G3 → twoD ta tb tc = lpG G3 ∧ twoK ta tb tc = 0) := hid (fun h0 h1 h => by unfold twoD twoK; rw [eab, if_neg h0, if_neg h0, eca, if_neg h1, if_neg h1, ebc, if_pos h]; exact ⟨rfl, rfl⟩)
  have T4 : Hid (¬ 1 < G1 → ¬ 1 < G2 → ¬ 1 < G3 → twoD ta tb tc = 1) := hid (fun h0 h1 h => by unfold twoD; rw [eab, if_neg h0, eca, if_neg h1, ebc, if_neg h])
  have QC : Hid (∀ (x y : Int), -27000 ≤ x → x ≤ 27000 → -27000 ≤ y → y ≤ 27000 → ∀ (w : World) (n : Nat), Calls Try.prog 40 #[.int .i64 x, .int .i64 y] (w.drewN n) fun e w'' => e = .returned (.int .i64 (Nat.gcd x.natAbs y.natAbs : Nat)) ∧ ∃ m, w'' = w.drewN m) := hid (fun x y x1 x2 y1 y2 w n => Calls.quiet_of (common_any x y (by omega) (by omega) (by omega) (by omega) _))
  have EIN : v6 ⟨ta, tb, tc⟩ ⟨ma, mb, mc⟩ = .agg #[.int .i64 ta, .int .i64 tb, .int .i64 tc, .int .i64 ma, .int .i64 mb, .int .i64 mc] := rfl
  have EOUT : v6 ⟨na, nb, nc⟩ ⟨oa, ob, oc⟩ = .agg #[.int .i64 na, .int .i64 nb, .int .i64 nc, .int .i64 oa, .int .i64 ob, .int .i64 oc] := rfl
  rw [EIN]
  rw [EOUT] at HSTEP ⊢
  have x0 : Row6 ((w.alloc (.cells #[.int .i64 ta, .int .i64 tb, .int .i64 tc, .int .i64 ma, .int .i64 mb, .int .i64 mc] 47)).alloc (.cells #[.int .i64 0, .int .i64 0, .int .i64 0, .int .i64 0, .int .i64 0, .int .i64 0] 47)) w.heap.size [ta, tb, tc, ma, mb, mc] := (Row6.new w [ta, tb, tc, ma, mb, mc]).alloc _
  have z0 : Row6 ((w.alloc (.cells #[.int .i64 ta, .int .i64 tb, .int .i64 tc, .int .i64 ma, .int .i64 mb, .int .i64 mc] 47)).alloc (.cells #[.int .i64 0, .int .i64 0, .int .i64 0, .int .i64 0, .int .i64 0, .int .i64 0] 47)) (w.heap.size + 1) [0, 0, 0, 0, 0, 0] := by
    have := Row6.new (w.alloc (.cells #[.int .i64 ta, .int .i64 tb, .int .i64 tc, .int .i64 ma, .int .i64 mb, .int .i64 mc] 47)) [0, 0, 0, 0, 0, 0]
    rwa [World.size_alloc] at this
  have b0 : Below w.heap.size w ((w.alloc (.cells #[.int .i64 ta, .int .i64 tb, .int .i64 tc, .int .i64 ma, .int .i64 mb, .int .i64 mc] 47)).alloc (.cells #[.int .i64 0, .int .i64 0, .int .i64 0, .int .i64 0, .int .i64 0, .int .i64 0] 47)) := ((Below.refl _ _).alloc (Nat.le_refl _) _).alloc (by simp) _
  have HX0 := hid x0
  have HZ0 := hid z0
  have HB0 := hid b0
  have HTT : Hid (v6 (stepI ⟨ta, tb, tc⟩) (stepM ⟨ta, tb, tc⟩ ⟨ma, mb, mc⟩) = v6 (stepI ⟨ta, tb, tc⟩) (stepM ⟨ta, tb, tc⟩ ⟨ma, mb, mc⟩)) := hid rfl
  obtain ⟨V2, hV2⟩ : ∃ V, V = v6 (stepI ⟨ta, tb, tc⟩) (stepM ⟨ta, tb, tc⟩ ⟨ma, mb, mc⟩) := ⟨_, rfl⟩
  rw [← hV2] at HSTEP
  have HV2 := hid hV2
  clear hpr hG1 hG2 hG3 eab eca ebc EIN EOUT x0 z0 b0 HTT hV2
  go_enter Try.func30, Try.ntmps30
  go_wp2_with fail
  go_loopw [10] (fun si wr => ∃ K : Int, si = .int .i64 K ∧ (K = 0 ∨ K = 1) ∧ Hid (Row6 wr w.heap.size [ta, tb, tc, ma, mb, mc]) ∧ Hid (Row6 wr (w.heap.size + 1) [0, 0, 0, 0, 0, 0]) ∧ Hid (Below w.heap.size w wr)) (fun si _ => 3 - (intOf si).toNat)
  case atStart => exact ⟨0, rfl, .inl rfl, HX0, HZ0, HB0⟩
  case round =>
    obtain ⟨K, rfl, hK, HX, HZ, HB⟩ := hrel
    rename World => wr
    have hsz := HB.out.size
    rcases hK with rfl | rfl
    · have y1 : Row3 (wr.alloc (.cells #[.int .i64 0, .int .i64 1, .int .i64 2] 45)) wr.heap.size 0 1 2 := heap_alloc_new wr _
      have HX1 := hid (HX.out.alloc (.cells #[.int .i64 0, .int .i64 1, .int .i64 2] 45))
      have HZ1 := hid (HZ.out.alloc (.cells #[.int .i64 0, .int .i64 1, .int .i64 2] 45))
      have HB1 := hid (HB.out.alloc hsz (.cells #[.int .i64 0, .int .i64 1, .int .i64 2] 45))
      have HY1 := hid y1
      have HROW : Hid (∀ W : World, Below (wr.alloc (.cells #[.int .i64 0, .int .i64 1, .int .i64 2] 45)).heap.size (wr.alloc (.cells #[.int .i64 0, .int .i64 1, .int .i64 2] 45)) W → (W.cell? ⟨wr.heap.size, 0, none⟩ = some (.int .i64 0) ∧ W.cell? ⟨wr.heap.size, 1, none⟩ = some (.int .i64 1) ∧ W.cell? ⟨wr.heap.size, 2, none⟩ = some (.int .i64 2)) ∧ (W.cell? ⟨w.heap.size, 0, none⟩ = some (.int .i64 ta) ∧ W.cell? ⟨w.heap.size, 1, none⟩ = some (.int .i64 tb) ∧ W.cell? ⟨w.heap.size, 2, none⟩ = some (.int .i64 tc) ∧ W.cell? ⟨w.heap.size, 3, none⟩ = some (.int .i64 ma) ∧ W.cell? ⟨w.heap.size, 4, none⟩ = some (.int .i64 mb) ∧ W.cell? ⟨w.heap.size, 5, none⟩ = some (.int .i64 mc)) ∧ Row6 W (w.heap.size + 1) [0, 0, 0, 0, 0, 0] ∧ Below w.heap.size w W) := hid (fun W hW => by
        have yw := HY1.out.keep hW HY1.out.lt
        have xw := HX1.out.keep hW HX1.out.lt
        exact ⟨⟨yw.cell0, yw.cell1, yw.cell2⟩, ⟨xw.cell (i := 0) (by simp), xw.cell (i := 1) (by simp), xw.cell (i := 2) (by simp), xw.cell (i := 3) (by simp), xw.cell (i := 4) (by simp), xw.cell (i := 5) (by simp)⟩, HZ1.out.keep hW HZ1.out.lt, HB1.out.trans (hW.mono HB1.out.size)⟩)
      have hb1 := Below.refl (wr.alloc (.cells #[.int .i64 0, .int .i64 1, .int .i64 2] 45)).heap.size (wr.alloc (.cells #[.int .i64 0, .int .i64 1, .int .i64 2] 45))
      obtain ⟨⟨Y0, Y1, Y2⟩, ⟨X0, X1, X2, X3, X4, X5⟩, _, _⟩ := HROW.out _ hb1
      clear y1 hb1
      go_wp2_with fail
      rw [at9_0]
      go_wp2_with fail
      go_quiet ((go_at_call 40; exact QC.out _ _ (by omega) (by omega) (by omega) (by omega) _ _))
      rw [HG1.out]
      have HBN : Hid (Below (wr.alloc (.cells #[.int .i64 0, .int .i64 1, .int .i64 2] 45)).heap.size (wr.alloc (.cells #[.int .i64 0, .int .i64 1, .int .i64 2] 45)) ((wr.alloc (.cells #[.int .i64 0, .int .i64 1, .int .i64 2] 45)).drewN nq)) := hid (below_drewN (Below.refl _ _) nq)
      obtain ⟨⟨Y0, Y1, Y2⟩, ⟨X0, X1, X2, X3, X4, X5⟩, _, _⟩ := HROW.out _ HBN.out
      have gb1 := GAB.1
      have gb2 := GAB.2
      have h1 := D0.out
      have h1i : ¬ (1 : Int) < (G1 : Int) := by omega
      have HXN := hid (HX1.out.keep HBN.out HX1.out.lt)
      have HZN := hid (HZ1.out.keep HBN.out HZ1.out.lt)
      have HBB := hid (HB1.out.trans (HBN.out.mono HB1.out.size))
      clear h1
      go_wp2_with fail
      go_roundw
      case measure => simp only [intOf]; omega
      case rel => exact ⟨1, by first | rfl | go_num, .inr rfl, HXN, HZN, HBB⟩
    · have y1 : Row3 (wr.alloc (.cells #[.int .i64 0, .int .i64 2, .int .i64 1] 45)) wr.heap.size 0 2 1 := heap_alloc_new wr _
      have HX1 := hid (HX.out.alloc (.cells #[.int .i64 0, .int .i64 2, .int .i64 1] 45))
      have HZ1 := hid (HZ.out.alloc (.cells #[.int .i64 0, .int .i64 2, .int .i64 1] 45))
      have HB1 := hid (HB.out.alloc hsz (.cells #[.int .i64 0, .int .i64 2, .int .i64 1] 45))
      have HY1 := hid y1
      have HROW : Hid (∀ W : World, Below (wr.alloc (.cells #[.int .i64 0, .int .i64 2, .int .i64 1] 45)).heap.size (wr.alloc (.cells #[.int .i64 0, .int .i64 2, .int .i64 1] 45)) W → (W.cell? ⟨wr.heap.size, 0, none⟩ = some (.int .i64 0) ∧ W.cell? ⟨wr.heap.size, 1, none⟩ = some (.int .i64 2) ∧ W.cell? ⟨wr.heap.size, 2, none⟩ = some (.int .i64 1)) ∧ (W.cell? ⟨w.heap.size, 0, none⟩ = some (.int .i64 ta) ∧ W.cell? ⟨w.heap.size, 1, none⟩ = some (.int .i64 tb) ∧ W.cell? ⟨w.heap.size, 2, none⟩ = some (.int .i64 tc) ∧ W.cell? ⟨w.heap.size, 3, none⟩ = some (.int .i64 ma) ∧ W.cell? ⟨w.heap.size, 4, none⟩ = some (.int .i64 mb) ∧ W.cell? ⟨w.heap.size, 5, none⟩ = some (.int .i64 mc)) ∧ Row6 W (w.heap.size + 1) [0, 0, 0, 0, 0, 0] ∧ Below w.heap.size w W) := hid (fun W hW => by
        have yw := HY1.out.keep hW HY1.out.lt
        have xw := HX1.out.keep hW HX1.out.lt
        exact ⟨⟨yw.cell0, yw.cell1, yw.cell2⟩, ⟨xw.cell (i := 0) (by simp), xw.cell (i := 1) (by simp), xw.cell (i := 2) (by simp), xw.cell (i := 3) (by simp), xw.cell (i := 4) (by simp), xw.cell (i := 5) (by simp)⟩, HZ1.out.keep hW HZ1.out.lt, HB1.out.trans (hW.mono HB1.out.size)⟩)
      have hb1 := Below.refl (wr.alloc (.cells #[.int .i64 0, .int .i64 2, .int .i64 1] 45)).heap.size (wr.alloc (.cells #[.int .i64 0, .int .i64 2, .int .i64 1] 45))
      obtain ⟨⟨Y0, Y1, Y2⟩, ⟨X0, X1, X2, X3, X4, X5⟩, _, _⟩ := HROW.out _ hb1
      clear y1 hb1
      go_wp2_with fail
      rw [at9_1]
      go_wp2_with fail
      go_quiet ((go_at_call 40; exact QC.out _ _ (by omega) (by omega) (by omega) (by omega) _ _))
      rw [HG2.out]
      have HBN : Hid (Below (wr.alloc (.cells #[.int .i64 0, .int .i64 2, .int .i64 1] 45)).heap.size (wr.alloc (.cells #[.int .i64 0, .int .i64 2, .int .i64 1] 45)) ((wr.alloc (.cells #[.int .i64 0, .int .i64 2, .int .i64 1] 45)).drewN nq)) := hid (below_drewN (Below.refl _ _) nq)
      obtain ⟨⟨Y0, Y1, Y2⟩, ⟨X0, X1, X2, X3, X4, X5⟩, _, _⟩ := HROW.out _ HBN.out
      have gb1 := GAC.1
      have gb2 := GAC.2
      have h1 := D1.out
      have h1i : (1 : Int) < (G2 : Int) := by omega
      obtain ⟨hd, hk⟩ := T2.out D0.out h1
      have hlp := lp_two h1
      have hle := lp_bd h1
      have HLL := hid (least_lp h1 gb2)
      have HLP := hid (leastPrime_any G2 (by omega) (by omega))
      have HST := hid (HSTEP.out (by rw [hd]; omega))
      have hs := HK1.out hk
      rw [hd] at hs
      have HWO : Hid (∀ W : World, Calls Try.prog 60 #[.agg #[.int .i64 ta, .int .i64 tb, .int .i64 tc, .int .i64 ma, .int .i64 mb, .int .i64 mc], .int .i64 (lpG G2 : Nat), .agg #[.int .i64 0, .int .i64 2, .int .i64 1]] W fun e w' => e = .returned V2 ∧ Below W.heap.size W w') := hid (fun W => by
        have h := without_any 1 (lpG G2) (by omega) hlp (by omega) ta tb tc ma mb mc ta1 ta2 tb1 tb2 tc1 tc2 ma1 ma2 mb1 mb2 mc1 mc2 W
        rw [hs.1, hs.2, ← HV2.out] at h
        exact h)
      clear hd hk hlp hle hs h1
      generalize (wr.alloc (.cells #[.int .i64 0, .int .i64 2, .int .i64 1] 45)).drewN nq = wq at HBN ⊢
      have hbd := HBN.out.drew
      obtain ⟨⟨Y0, Y1, Y2⟩, ⟨X0, X1, X2, X3, X4, X5⟩, _, _⟩ := HROW.out wq HBN.out
      go_wp2_with fail
      have HQD := HROW.out wq.drew hbd
      obtain ⟨⟨Q0, Q1, Q2⟩, ⟨R0, R1, R2, R3, R4, R5⟩, _, _⟩ := HQD
      go_region_with (first
        | (go_at_call 61; refine (HLP.out _).mono ?_; rw [HLL.out]; rintro e w3 ⟨rfl, hb3⟩; have hc3 := hbd.trans (hb3.mono hbd.size); obtain ⟨⟨Y30, Y31, Y32⟩, ⟨X30, X31, X32, X33, X34, X35⟩, _, _⟩ := HROW.out w3 hc3)
        | (go_at_call 60; refine (HWO.out _).mono ?_; rintro e w4 ⟨rfl, hb4⟩; have hc4 := hc3.trans (hb4.mono hc3.size))
        | (go_at_call 30; refine (HST.out _).mono ?_; rintro e w5 ⟨rfl, hb5⟩; have hc5 := hc4.trans (hb5.mono hc4.size); obtain ⟨_, _, Z5, B5⟩ := HROW.out w5 hc5; obtain ⟨c0, f0, c1, f1, c2, f2, c3, f3, c4, f4, c5, f5, HZ6⟩ := store6 Z5 na nb nc oa ob oc; have HB6 := hid (below6 B5 (show w.heap.size ≤ w.heap.size + 1 by omega) na nb nc oa ob oc)))
      all_goals (
        go_wp2
        have r0 := HZ6.out.cell (i := 0) (by simp)
        have r1 := HZ6.out.cell (i := 1) (by simp)
        have r2 := HZ6.out.cell (i := 2) (by simp)
        have r3 := HZ6.out.cell (i := 3) (by simp)
        have r4 := HZ6.out.cell (i := 4) (by simp)
        have r5 := HZ6.out.cell (i := 5) (by simp)
        refine bodyPost_ret (v := .agg #[.int .i64 na, .int .i64 nb, .int .i64 nc, .int .i64 oa, .int .i64 ob, .int .i64 oc]) (by simp [results, Try.results30, go_sem] <;> go_simp) rfl ?_
        exact ⟨rfl, HB6.out⟩)

end Go.Proofs.Ytenibnblibnocac
