/-
  Contracts of the program's chapter 7: what its closures tell: mirrors, the way back, products.
-/
import Derived.Test.YtacjejnbomdhbabMpI
import Derived.Test.YtacjejnbomdhbabQBun26
import Derived.Test.YtacjejnbomdhbabMpE
set_option linter.unusedVariables false
namespace Go.Proofs.Ytacjejnbomdhbab
open Go.RowKit

theorem rd_cells {W : World} {v : Value} {xs : List Int} (h : Rd W v xs) (h0 : 0 < xs.length) : ∃ b o c, v = .slice (some ⟨b, o, none⟩) xs.length c ∧ ∀ i, i < xs.length → W.cell? ⟨b, o + i, none⟩ = some (.int .i64 (xs.getD i 0)) := by
  rcases h with ⟨_, _, _, rfl⟩ | ⟨b, o, c, rfl, _, _, hc⟩
  · simp at h0
  · exact ⟨b, o, c, rfl, hc⟩
theorem box_below {W wx : World} {b : Nat} {t : TypeId} {v : Value} (hb : Below W.heap.size W wx) (h : Boxed W b t v) : Boxed wx b t v := heap_below hb h

set_option maxRecDepth 100000 in
set_option maxHeartbeats 8000000 in
theorem mirrorAt_any (b2 b3 b6 : Nat) (vf vw : Value) (xs ws : List Int) (q : Int) (i j : Nat) (w : World) (hx1 : Boxed w b2 22 vf) (hx2 : Boxed w b3 22 vw) (hx3 : Boxed w b6 3 (.int .i64 q)) (hf : Rd w vf xs) (hw : Rd w vw ws) (hl : ws.length = xs.length) (h3 : xs.length ≤ 3) (hi : i < xs.length) (hj : j < xs.length) (bx30 : ∀ k, k < xs.length → -30 ≤ fF xs k ∧ fF xs k ≤ 30) (bwd : ∀ k, k < xs.length → -1000 ≤ fF ws k ∧ fF ws k ≤ 1000) (hq0 : q ≠ 0) (bq : -1000000000 ≤ q ∧ q ≤ 1000000000) :
    Calls Try.prog 59 #[.int .i64 (i : Int), .int .i64 (j : Int), .pointer (some ⟨b2, 0, none⟩), .pointer (some ⟨b3, 0, none⟩), .pointer (some ⟨b6, 0, none⟩)] w fun e w' => ∃ a b, e = .returned (frV a b) ∧ Fr a b (mirF (fF xs) (fF ws) q i j) q ∧ Below w.heap.size w w' := by
  obtain ⟨bx, ox, cx, rfl, hcx⟩ := rd_cells hf (by omega)
  obtain ⟨bw, ow, cw, rfl, hcw⟩ := rd_cells hw (by omega)
  have g1 := hcx j hj
  have g2 := hcw j (by omega)
  have g3 := hcw i (by omega)
  obtain ⟨x, hx⟩ : ∃ x, x = fF xs j := ⟨_, rfl⟩
  obtain ⟨y, hy⟩ : ∃ y, y = fF ws j := ⟨_, rfl⟩
  obtain ⟨z, hz⟩ : ∃ z, z = fF ws i := ⟨_, rfl⟩
  rw [show xs.getD j 0 = x from hx.symm] at g1
  rw [show ws.getD j 0 = y from hy.symm] at g2
  rw [show ws.getD i 0 = z from hz.symm] at g3
  have m0 := bx30 j hj
  have m1 := bwd j hj
  have m2 := bwd i hi
  rw [← hx] at m0
  rw [← hy] at m1
  rw [← hz] at m2
  obtain ⟨_, m3, m4⟩ := mirr_bd m0 m1 m2
  have n2 : -60000 ≤ -2 * x * y ∧ -2 * x * y ≤ 60000 := by rw [show -2 * x * y = -(2 * x * y) by grind]; omega
  have n3 : -60000000 ≤ -2 * x * y * z ∧ -2 * x * y * z ≤ 60000000 := by rw [show -2 * x * y * z = -(2 * x * y * z) by grind]; omega
  have HST := hid (fun w => stayAt_any i j (by omega) (by omega) w)
  obtain ⟨d1, hd1⟩ : ∃ d1 : Int, d1 = if i = j then 1 else 0 := ⟨_, rfl⟩
  rw [← hd1] at HST
  have hd01 : d1 = 0 ∨ d1 = 1 := by rw [hd1]; split <;> omega
  have hfd : Fr d1 1 (d1 * q) q := ⟨by omega, Nat.gcd_one_right _, by omega⟩
  have HFO := hid (fun w => fractionOf_any (-2 * x * y * z) q (by unfold B15; omega) (by unfold B15; omega) hq0 w)
  have hfo := fr_of (n := -2 * x * y * z) (d := q) hq0
  generalize numF (-2 * x * y * z) q = a1 at *
  generalize denF (-2 * x * y * z) q = b1 at *
  have HPL := hid (fun w => frPlus_any d1 1 (d1 * q) a1 b1 (-2 * x * y * z) q hfd hfo hq0 (by unfold B14; rcases hd01 with e | e <;> rw [e] <;> omega) (by unfold B14; omega) (by unfold B14; omega) w)
  have HFR := hid (plus_is hfd hfo hq0)
  have he : d1 * q + -2 * x * y * z = mirF (fF xs) (fF ws) q i j := by
    unfold mirF
    rw [← hx, ← hy, ← hz, hd1]
    split <;> grind
  rw [he] at HFR
  generalize plusN d1 1 a1 b1 = a2 at *
  generalize plusD d1 1 a1 b1 = b2v at *
  have hbl : Below w.heap.size w (w.alloc (.cells #[.int .i64 0, .int .i64 0] 65)) := below_box2 _ _
  have HC1 := hid (cell_below hbl g1)
  have HC2 := hid (cell_below hbl g2)
  have HC3 := hid (cell_below hbl g3)
  have HX1 := hid (box_below hbl hx1)
  have HX2 := hid (box_below hbl hx2)
  have HX3 := hid (box_below hbl hx3)
  have H2 : Hid ((w.alloc (.cells #[.int .i64 0, .int .i64 0] 65)).heap[w.heap.size]? = some (.cells #[.int .i64 0, .int .i64 0] 65 (0, 0))) := hid (heap_new rfl)
  have HBL := hid hbl
  have hi2 : (i : Int) < (ws.length : Int) := by omega
  have hj1 : (j : Int) < (xs.length : Int) := by omega
  have hj2 : (j : Int) < (ws.length : Int) := by omega
  clear hf hw hcx hcw g1 g2 g3 hx hy hz bx30 bwd hd1 hfd hfo he hx1 hx2 hx3 hl m3 m4 hbl hd01 hi hj
  go_enter Try.func59, Try.ntmps59
  go_wp2_with fail
  obtain ⟨W, hW⟩ : ∃ W, W = (w.alloc (.cells #[.int .i64 0, .int .i64 0] 65)).drew := ⟨_, rfl⟩
  replace HC1 : Hid (W.cell? ⟨bx, ox + j, none⟩ = some (.int .i64 x)) := hid (by rw [hW]; exact HC1.out)
  replace HC2 : Hid (W.cell? ⟨bw, ow + j, none⟩ = some (.int .i64 y)) := hid (by rw [hW]; exact HC2.out)
  replace HC3 : Hid (W.cell? ⟨bw, ow + i, none⟩ = some (.int .i64 z)) := hid (by rw [hW]; exact HC3.out)
  replace HX1 : Hid (Boxed W b2 22 (.slice (some ⟨bx, ox, none⟩) xs.length cx)) := hid (by rw [hW]; exact HX1.out)
  replace HX2 : Hid (Boxed W b3 22 (.slice (some ⟨bw, ow, none⟩) ws.length cw)) := hid (by rw [hW]; exact HX2.out)
  replace HX3 : Hid (Boxed W b6 3 (.int .i64 q)) := hid (by rw [hW]; exact HX3.out)
  replace H2 : Hid (W.heap[w.heap.size]? = some (.cells #[.int .i64 0, .int .i64 0] 65 (0, 0))) := hid (by rw [hW]; exact H2.out)
  replace HBL : Hid (Below w.heap.size w W) := hid (by rw [hW]; exact below_drewN HBL.out 1)
  have HL2 := hid (Array.getElem?_eq_some_iff.1 H2.out).1
  refine region_inv (by kernel_rfl) (fun LB act wx => ∃ (s8 s9 s10 s11 s12 s13 s14 s15 s16 s17 s18 s19 s20 s21 s22 s23 s24 s25 s26 s27 s28 : Value), act = ({ tmps := #[.int .i64 (i : Int), .int .i64 (j : Int), .pointer (some ⟨b2, 0, none⟩), .pointer (some ⟨b3, 0, none⟩), .pointer (some ⟨b6, 0, none⟩), undef, undef, .pointer (some ⟨w.heap.size, 0, none⟩), s8, s9, s10, s11, s12, s13, s14, s15, s16, s17, s18, s19, s20, s21, s22, s23, s24, s25, s26, s27, s28], defers := [] } : Act) ∧ RegI 22 [[], [], [0, 1], [], [], [3, 4], [5], [6], [], [], [8, 9], [10], [7, 11], [], [], [13, 14], [15], [12, 16], [], [17, 18], [2, 19], [20]] (W) (fun wy => (wy.setCell ⟨w.heap.size, 0, none⟩ (.int .i64 a2)).setCell ⟨w.heap.size, 1, none⟩ (.int .i64 b2v)) [.int .i64 (i : Int), .int .i64 (j : Int), .agg #[.int .i64 d1, .int .i64 1], .slice (some ⟨bx, ox, none⟩) xs.length cx, .int .i64 (j : Int), .pointer (some ⟨bx, ox + j, none⟩), .int .i64 x, .int .i64 (-2 * x), .slice (some ⟨bw, ow, none⟩) ws.length cw, .int .i64 (j : Int), .pointer (some ⟨bw, ow + j, none⟩), .int .i64 y, .int .i64 (-2 * x * y), .slice (some ⟨bw, ow, none⟩) ws.length cw, .int .i64 (i : Int), .pointer (some ⟨bw, ow + i, none⟩), .int .i64 z, .int .i64 (-2 * x * y * z), .int .i64 q, .agg #[.int .i64 a1, .int .i64 b1], .agg #[.int .i64 a2, .int .i64 b2v], undef] LB wx [s8, s9, s10, s11, s12, s13, s14, s15, s16, s17, s18, s19, s20, s21, s22, s23, s24, s25, s26, s27, s28, undef]) ?h0R ?hendR ?hstepR
  case h0R => exact ⟨_, _, _, _, _, _, _, _, _, _, _, _, _, _, _, _, _, _, _, _, _, rfl, RegI.start rfl rfl hW.symm⟩
  case hstepR =>
    rintro LB act wx i ⟨s8, s9, s10, s11, s12, s13, s14, s15, s16, s17, s18, s19, s20, s21, s22, s23, s24, s25, s26, s27, s28, rfl, I⟩ hi
    obtain ⟨hi1, hf, hdep⟩ := ready_mem hi
    have hi2 : i < 22 := hi1
    have hbw := I.open (by decide) hf hi2
    have hsz := hbw.size
    have HI := hid I
    have HF := hid hf
    have hqH2 := (hbw.block _ HL2.out).trans H2.out
    have cH20 := cellB (i := 0) hqH2
    have cH21 := cellB (i := 1) hqH2
    have HQH2 := hid hqH2
    clear hqH2
    have y0 := frozenB (i := 0) HQH2.out
    have y1 := frozenB (i := 1) HQH2.out
    have k1 := cell_below hbw HC1.out
    have k2 := cell_below hbw HC2.out
    have k3 := cell_below hbw HC3.out
    have k4 := (box_below hbw HX1.out).cell
    have k5 := (box_below hbw HX2.out).cell
    have k6 := (box_below hbw HX3.out).cell
    have HBW := hid hbw
    clear hi hi1 I hf hbw
    have hc : i = 0 ∨ i = 1 ∨ i = 2 ∨ i = 3 ∨ i = 4 ∨ i = 5 ∨ i = 6 ∨ i = 7 ∨ i = 8 ∨ i = 9 ∨ i = 10 ∨ i = 11 ∨ i = 12 ∨ i = 13 ∨ i = 14 ∨ i = 15 ∨ i = 16 ∨ i = 17 ∨ i = 18 ∨ i = 19 ∨ i = 20 ∨ i = 21 := by omega
    clear hi2
    rcases hc with rfl | rfl | rfl | rfl | rfl | rfl | rfl | rfl | rfl | rfl | rfl | rfl | rfl | rfl | rfl | rfl | rfl | rfl | rfl | rfl | rfl | rfl
    · skip
      have hq : ∀ j ∈ ([] : List Nat), dn LB j := fun _ h => absurd h List.not_mem_nil
      clear hdep
      refine wpOp_step rfl (fun K hK => ?_)
      go_simp
      exact hK _ _ ⟨_, _, _, _, _, _, _, _, _, _, _, _, _, _, _, _, _, _, _, _, _, rfl, HI.out.step HF.out (by decide) hq HBW.out rfl (by decide)⟩
    · skip
      have hq : ∀ j ∈ ([] : List Nat), dn LB j := fun _ h => absurd h List.not_mem_nil
      clear hdep
      refine wpOp_step rfl (fun K hK => ?_)
      go_simp
      exact hK _ _ ⟨_, _, _, _, _, _, _, _, _, _, _, _, _, _, _, _, _, _, _, _, _, rfl, HI.out.step HF.out (by decide) hq HBW.out rfl (by decide)⟩
    · skip
      have q0 : dn LB 0 := hdep _ rfl { on := 0, ground := .data } (by simp) rfl
      have q1 : dn LB 1 := hdep _ rfl { on := 1, ground := .data } (by simp) rfl
      have hq : ∀ j ∈ ([0, 1] : List Nat), dn LB j := List.forall_mem_cons.2 ⟨q0, List.forall_mem_cons.2 ⟨q1, fun _ h => absurd h List.not_mem_nil⟩⟩
      clear hdep
      obtain rfl : s8 = .int .i64 (i : Int) := HI.out.val 0 q0
      obtain rfl : s9 = .int .i64 (j : Int) := HI.out.val 1 q1
      refine wpOp_step rfl (fun K hK => ?_)
      go_simp
      go_at_call 53
      refine (HST.out _).mono ?_
      rintro e wP ⟨rfl, hbk⟩
      exact hK _ _ ⟨_, _, _, _, _, _, _, _, _, _, _, _, _, _, _, _, _, _, _, _, _, rfl, HI.out.step HF.out (by decide) hq (HBW.out.trans (hbk.mono hsz)) rfl (by decide)⟩
    · skip
      have hq : ∀ j ∈ ([] : List Nat), dn LB j := fun _ h => absurd h List.not_mem_nil
      clear hdep
      refine wpOp_step rfl (fun K hK => ?_)
      go_simp
      exact hK _ _ ⟨_, _, _, _, _, _, _, _, _, _, _, _, _, _, _, _, _, _, _, _, _, rfl, HI.out.step HF.out (by decide) hq HBW.out rfl (by decide)⟩
    · skip
      have hq : ∀ j ∈ ([] : List Nat), dn LB j := fun _ h => absurd h List.not_mem_nil
      clear hdep
      refine wpOp_step rfl (fun K hK => ?_)
      go_simp
      exact hK _ _ ⟨_, _, _, _, _, _, _, _, _, _, _, _, _, _, _, _, _, _, _, _, _, rfl, HI.out.step HF.out (by decide) hq HBW.out rfl (by decide)⟩
    · skip
      have q3 : dn LB 3 := hdep _ rfl { on := 3, ground := .data } (by simp) rfl
      have q4 : dn LB 4 := hdep _ rfl { on := 4, ground := .data } (by simp) rfl
      have hq : ∀ j ∈ ([3, 4] : List Nat), dn LB j := List.forall_mem_cons.2 ⟨q3, List.forall_mem_cons.2 ⟨q4, fun _ h => absurd h List.not_mem_nil⟩⟩
      clear hdep
      obtain rfl : s11 = .slice (some ⟨bx, ox, none⟩) xs.length cx := HI.out.val 3 q3
      obtain rfl : s12 = .int .i64 (j : Int) := HI.out.val 4 q4
      refine wpOp_step rfl (fun K hK => ?_)
      go_simp
      exact hK _ _ ⟨_, _, _, _, _, _, _, _, _, _, _, _, _, _, _, _, _, _, _, _, _, rfl, HI.out.step HF.out (by decide) hq HBW.out rfl (by decide)⟩
    · skip
      have q5 : dn LB 5 := hdep _ rfl { on := 5, ground := .data } (by simp) rfl
      have hq : ∀ j ∈ ([5] : List Nat), dn LB j := List.forall_mem_cons.2 ⟨q5, fun _ h => absurd h List.not_mem_nil⟩
      clear hdep
      obtain rfl : s13 = .pointer (some ⟨bx, ox + j, none⟩) := HI.out.val 5 q5
      refine wpOp_step rfl (fun K hK => ?_)
      go_simp
      exact hK _ _ ⟨_, _, _, _, _, _, _, _, _, _, _, _, _, _, _, _, _, _, _, _, _, rfl, HI.out.step HF.out (by decide) hq HBW.out rfl (by decide)⟩
    · skip
      have q6 : dn LB 6 := hdep _ rfl { on := 6, ground := .data } (by simp) rfl
      have hq : ∀ j ∈ ([6] : List Nat), dn LB j := List.forall_mem_cons.2 ⟨q6, fun _ h => absurd h List.not_mem_nil⟩
      clear hdep
      obtain rfl : s14 = .int .i64 x := HI.out.val 6 q6
      refine wpOp_step rfl (fun K hK => ?_)
      go_simp
      rw [wrap62 (by omega) (by omega)]
      exact hK _ _ ⟨_, _, _, _, _, _, _, _, _, _, _, _, _, _, _, _, _, _, _, _, _, rfl, HI.out.step HF.out (by decide) hq HBW.out rfl (by decide)⟩
    · skip
      have hq : ∀ j ∈ ([] : List Nat), dn LB j := fun _ h => absurd h List.not_mem_nil
      clear hdep
      refine wpOp_step rfl (fun K hK => ?_)
      go_simp
      exact hK _ _ ⟨_, _, _, _, _, _, _, _, _, _, _, _, _, _, _, _, _, _, _, _, _, rfl, HI.out.step HF.out (by decide) hq HBW.out rfl (by decide)⟩
    · skip
      have hq : ∀ j ∈ ([] : List Nat), dn LB j := fun _ h => absurd h List.not_mem_nil
      clear hdep
      refine wpOp_step rfl (fun K hK => ?_)
      go_simp
      exact hK _ _ ⟨_, _, _, _, _, _, _, _, _, _, _, _, _, _, _, _, _, _, _, _, _, rfl, HI.out.step HF.out (by decide) hq HBW.out rfl (by decide)⟩
    · skip
      have q8 : dn LB 8 := hdep _ rfl { on := 8, ground := .data } (by simp) rfl
      have q9 : dn LB 9 := hdep _ rfl { on := 9, ground := .data } (by simp) rfl
      have hq : ∀ j ∈ ([8, 9] : List Nat), dn LB j := List.forall_mem_cons.2 ⟨q8, List.forall_mem_cons.2 ⟨q9, fun _ h => absurd h List.not_mem_nil⟩⟩
      clear hdep
      obtain rfl : s16 = .slice (some ⟨bw, ow, none⟩) ws.length cw := HI.out.val 8 q8
      obtain rfl : s17 = .int .i64 (j : Int) := HI.out.val 9 q9
      refine wpOp_step rfl (fun K hK => ?_)
      go_simp
      exact hK _ _ ⟨_, _, _, _, _, _, _, _, _, _, _, _, _, _, _, _, _, _, _, _, _, rfl, HI.out.step HF.out (by decide) hq HBW.out rfl (by decide)⟩
    · skip
      have q10 : dn LB 10 := hdep _ rfl { on := 10, ground := .data } (by simp) rfl
      have hq : ∀ j ∈ ([10] : List Nat), dn LB j := List.forall_mem_cons.2 ⟨q10, fun _ h => absurd h List.not_mem_nil⟩
      clear hdep
      obtain rfl : s18 = .pointer (some ⟨bw, ow + j, none⟩) := HI.out.val 10 q10
      refine wpOp_step rfl (fun K hK => ?_)
      go_simp
      exact hK _ _ ⟨_, _, _, _, _, _, _, _, _, _, _, _, _, _, _, _, _, _, _, _, _, rfl, HI.out.step HF.out (by decide) hq HBW.out rfl (by decide)⟩
    · skip
      have q7 : dn LB 7 := hdep _ rfl { on := 7, ground := .data } (by simp) rfl
      have q11 : dn LB 11 := hdep _ rfl { on := 11, ground := .data } (by simp) rfl
      have hq : ∀ j ∈ ([7, 11] : List Nat), dn LB j := List.forall_mem_cons.2 ⟨q7, List.forall_mem_cons.2 ⟨q11, fun _ h => absurd h List.not_mem_nil⟩⟩
      clear hdep
      obtain rfl : s15 = .int .i64 (-2 * x) := HI.out.val 7 q7
      obtain rfl : s19 = .int .i64 y := HI.out.val 11 q11
      refine wpOp_step rfl (fun K hK => ?_)
      go_simp
      rw [wrap62 (by omega) (by omega)]
      exact hK _ _ ⟨_, _, _, _, _, _, _, _, _, _, _, _, _, _, _, _, _, _, _, _, _, rfl, HI.out.step HF.out (by decide) hq HBW.out rfl (by decide)⟩
    · skip
      have hq : ∀ j ∈ ([] : List Nat), dn LB j := fun _ h => absurd h List.not_mem_nil
      clear hdep
      refine wpOp_step rfl (fun K hK => ?_)
      go_simp
      exact hK _ _ ⟨_, _, _, _, _, _, _, _, _, _, _, _, _, _, _, _, _, _, _, _, _, rfl, HI.out.step HF.out (by decide) hq HBW.out rfl (by decide)⟩
    · skip
      have hq : ∀ j ∈ ([] : List Nat), dn LB j := fun _ h => absurd h List.not_mem_nil
      clear hdep
      refine wpOp_step rfl (fun K hK => ?_)
      go_simp
      exact hK _ _ ⟨_, _, _, _, _, _, _, _, _, _, _, _, _, _, _, _, _, _, _, _, _, rfl, HI.out.step HF.out (by decide) hq HBW.out rfl (by decide)⟩
    · skip
      have q13 : dn LB 13 := hdep _ rfl { on := 13, ground := .data } (by simp) rfl
      have q14 : dn LB 14 := hdep _ rfl { on := 14, ground := .data } (by simp) rfl
      have hq : ∀ j ∈ ([13, 14] : List Nat), dn LB j := List.forall_mem_cons.2 ⟨q13, List.forall_mem_cons.2 ⟨q14, fun _ h => absurd h List.not_mem_nil⟩⟩
      clear hdep
      obtain rfl : s21 = .slice (some ⟨bw, ow, none⟩) ws.length cw := HI.out.val 13 q13
      obtain rfl : s22 = .int .i64 (i : Int) := HI.out.val 14 q14
      refine wpOp_step rfl (fun K hK => ?_)
      go_simp
      exact hK _ _ ⟨_, _, _, _, _, _, _, _, _, _, _, _, _, _, _, _, _, _, _, _, _, rfl, HI.out.step HF.out (by decide) hq HBW.out rfl (by decide)⟩
    · skip
      have q15 : dn LB 15 := hdep _ rfl { on := 15, ground := .data } (by simp) rfl
      have hq : ∀ j ∈ ([15] : List Nat), dn LB j := List.forall_mem_cons.2 ⟨q15, fun _ h => absurd h List.not_mem_nil⟩
      clear hdep
      obtain rfl : s23 = .pointer (some ⟨bw, ow + i, none⟩) := HI.out.val 15 q15
      refine wpOp_step rfl (fun K hK => ?_)
      go_simp
      exact hK _ _ ⟨_, _, _, _, _, _, _, _, _, _, _, _, _, _, _, _, _, _, _, _, _, rfl, HI.out.step HF.out (by decide) hq HBW.out rfl (by decide)⟩
    · skip
      have q12 : dn LB 12 := hdep _ rfl { on := 12, ground := .data } (by simp) rfl
      have q16 : dn LB 16 := hdep _ rfl { on := 16, ground := .data } (by simp) rfl
      have hq : ∀ j ∈ ([12, 16] : List Nat), dn LB j := List.forall_mem_cons.2 ⟨q12, List.forall_mem_cons.2 ⟨q16, fun _ h => absurd h List.not_mem_nil⟩⟩
      clear hdep
      obtain rfl : s20 = .int .i64 (-2 * x * y) := HI.out.val 12 q12
      obtain rfl : s24 = .int .i64 z := HI.out.val 16 q16
      refine wpOp_step rfl (fun K hK => ?_)
      go_simp
      rw [wrap62 (by omega) (by omega)]
      exact hK _ _ ⟨_, _, _, _, _, _, _, _, _, _, _, _, _, _, _, _, _, _, _, _, _, rfl, HI.out.step HF.out (by decide) hq HBW.out rfl (by decide)⟩
    · skip
      have hq : ∀ j ∈ ([] : List Nat), dn LB j := fun _ h => absurd h List.not_mem_nil
      clear hdep
      refine wpOp_step rfl (fun K hK => ?_)
      go_simp
      exact hK _ _ ⟨_, _, _, _, _, _, _, _, _, _, _, _, _, _, _, _, _, _, _, _, _, rfl, HI.out.step HF.out (by decide) hq HBW.out rfl (by decide)⟩
    · skip
      have q17 : dn LB 17 := hdep _ rfl { on := 17, ground := .data } (by simp) rfl
      have q18 : dn LB 18 := hdep _ rfl { on := 18, ground := .data } (by simp) rfl
      have hq : ∀ j ∈ ([17, 18] : List Nat), dn LB j := List.forall_mem_cons.2 ⟨q17, List.forall_mem_cons.2 ⟨q18, fun _ h => absurd h List.not_mem_nil⟩⟩
      clear hdep
      obtain rfl : s25 = .int .i64 (-2 * x * y * z) := HI.out.val 17 q17
      obtain rfl : s26 = .int .i64 q := HI.out.val 18 q18
      refine wpOp_step rfl (fun K hK => ?_)
      go_simp
      go_at_call 61
      refine (HFO.out _).mono ?_
      rintro e wP ⟨rfl, hbk⟩
      exact hK _ _ ⟨_, _, _, _, _, _, _, _, _, _, _, _, _, _, _, _, _, _, _, _, _, rfl, HI.out.step HF.out (by decide) hq (HBW.out.trans (hbk.mono hsz)) rfl (by decide)⟩
    · skip
      have q2 : dn LB 2 := hdep _ rfl { on := 2, ground := .data } (by simp) rfl
      have q19 : dn LB 19 := hdep _ rfl { on := 19, ground := .data } (by simp) rfl
      have hq : ∀ j ∈ ([2, 19] : List Nat), dn LB j := List.forall_mem_cons.2 ⟨q2, List.forall_mem_cons.2 ⟨q19, fun _ h => absurd h List.not_mem_nil⟩⟩
      clear hdep
      obtain rfl : s10 = .agg #[.int .i64 d1, .int .i64 1] := HI.out.val 2 q2
      obtain rfl : s27 = .agg #[.int .i64 a1, .int .i64 b1] := HI.out.val 19 q19
      refine wpOp_step rfl (fun K hK => ?_)
      go_simp
      go_at_call 60
      refine (HPL.out _).mono ?_
      rintro e wP ⟨rfl, hbk⟩
      exact hK _ _ ⟨_, _, _, _, _, _, _, _, _, _, _, _, _, _, _, _, _, _, _, _, _, rfl, HI.out.step HF.out (by decide) hq (HBW.out.trans (hbk.mono hsz)) rfl (by decide)⟩
    · skip
      have q20 : dn LB 20 := hdep _ rfl { on := 20, ground := .data } (by simp) rfl
      have hq : ∀ j ∈ ([20] : List Nat), dn LB j := List.forall_mem_cons.2 ⟨q20, fun _ h => absurd h List.not_mem_nil⟩
      clear hdep
      obtain rfl : s28 = .agg #[.int .i64 a2, .int .i64 b2v] := HI.out.val 20 q20
      refine wpOp_step rfl (fun K hK => ?_)
      go_simp
      exact hK _ _ ⟨_, _, _, _, _, _, _, _, _, _, _, _, _, _, _, _, _, _, _, _, _, rfl, HI.out.last HF.out rfl (by decide) hq HBW.out rfl rfl⟩
  case hendR =>
    rintro LB act wx ⟨s8, s9, s10, s11, s12, s13, s14, s15, s16, s17, s18, s19, s20, s21, s22, s23, s24, s25, s26, s27, s28, rfl, I⟩ hrd
    have D := all_done2 I.hs (by kernel_rfl) hrd
    obtain ⟨wy, hby, rfl⟩ := I.he (D 21 (by decide))
    have hq := (hby.block _ HL2.out).trans H2.out
    have HBF := hid (HBL.out.trans (hby.mono HBL.out.size))
    have HQ := hid hq
    clear I D hrd hby hq
    go_wp2_with fail
    refine bodyPost_ret (results_cell_row rfl _ _ w.heap.size 65 #[_, _] (0, 0) _ rfl (heap_two1 (heap_two0 HQ.out)) Try.underlying65 rfl (by kernel_rfl)) rfl ?_
    exact ⟨_, _, rfl, HFR.out, (HBF.out.setCell (Nat.le_refl _) _).setCell (Nat.le_refl _) _⟩

set_option maxRecDepth 100000 in
set_option maxHeartbeats 8000000 in
theorem backAt_any (b2 bm : Nat) (vf va : Value) (xs : List Int) (R : List (List Int)) (d all : Int) (i j : Nat) (w : World) (hx1 : Boxed w b2 22 vf) (hm : MvAt w bm va d) (hf : Rd w vf xs) (hR : RdM w va R) (hs : Sq xs.length R) (h3 : xs.length ≤ 3) (hi : i < xs.length) (hj : j < xs.length) (bx30 : ∀ k, k < xs.length → (-30 ≤ fF xs k ∧ fF xs k ≤ 30) ∧ fF xs k ≠ 0) (hb : ∀ i j, i < xs.length → j < xs.length → -1000000 ≤ at2 R i j ∧ at2 R i j ≤ 1000000) (d1 : 1 ≤ d) (d2 : d ≤ 10000) (hall : ∀ k, k < xs.length → fF xs k * all.tdiv (fF xs k) = all) :
    Calls Try.prog 65 #[.int .i64 (i : Int), .int .i64 (j : Int), .pointer (some ⟨b2, 0, none⟩), .pointer (some ⟨bm, 0, none⟩)] w fun e w' => ∃ a b, e = .returned (frV a b) ∧ Fr a b (backF (fF xs) all (at2 R) i j) (d * all) ∧ Below w.heap.size w w' := by
  obtain ⟨bx, ox, cx, rfl, hcx⟩ := rd_cells hf (by omega)
  have g1 := hcx j hj
  have g2 := hcx i hi
  obtain ⟨x, hx⟩ : ∃ x, x = fF xs j := ⟨_, rfl⟩
  obtain ⟨y, hy⟩ : ∃ y, y = fF xs i := ⟨_, rfl⟩
  rw [show xs.getD j 0 = x from hx.symm] at g1
  rw [show xs.getD i 0 = y from hy.symm] at g2
  have m0 := bx30 j hj
  have m1 := bx30 i hi
  rw [← hx] at m0
  rw [← hy] at m1
  obtain ⟨⟨m01, m02⟩, _⟩ := m0
  obtain ⟨⟨m11, m12⟩, m13⟩ := m1
  have ha := hb j i hj hi
  have HAT := hid (fun (w' : World) (h : Below w.heap.size w w') => mvAt_any bm va R d xs.length j i w' (hm.keep h) (hR.keep h) hs hj hi (by omega) (by unfold B15; omega) d1 d2)
  have hfa := fr_of (n := at2 R j i) (d := d) (by omega)
  have HFO := hid (fun w => fractionOf_any x y (by unfold B15; omega) (by unfold B15; omega) m13 w)
  have hfo := fr_of (n := x) (d := y) m13
  have hfull : x * at2 R j i * (d * all) = backF (fF xs) all (at2 R) i j * (y * d) := by
    have e := hall i hi
    unfold backF
    rw [← hx]
    rw [← hy] at e ⊢
    have e2 : at2 R j i * x * all.tdiv y * (y * d) = at2 R j i * x * d * (y * all.tdiv y) := by grind
    rw [e2, e]
    grind
  generalize backF (fF xs) all (at2 R) i j = BF at *
  generalize at2 R j i = r at *
  generalize numF r d = a2 at *
  generalize denF r d = b2v at *
  generalize numF x y = a1 at *
  generalize denF x y = b1 at *
  have p1 := hfo.pos
  have p2 := hfa.pos
  have q1 := hfo.num_bd (m := 30) m13 (by omega) m01 m02
  have q2 := hfa.num_bd (m := 1000000) (by omega) (by omega) ha.1 ha.2
  have q3 := hfo.den_bd (m := 30) m13 m11 m12
  have q4 := hfa.den_bd (m := 10000) (by omega) (by omega) d2
  have t1 := mul_bd12 (x := a1) (y := a2) (by omega) (by omega)
  have t2 := mul_bd12 (x := b1) (y := b2v) (by omega) (by omega)
  have HTM := hid (fun w => frTimes_any a1 b1 a2 b2v p1 p2 (by unfold B15; omega) (by unfold B15; omega) w)
  have hft := fr_times hfo hfa (fr_of (n := a1 * a2) (d := b1 * b2v) (Int.mul_ne_zero (by omega) (by omega)))
  have HFR := hid (hft.change (Int.mul_ne_zero m13 (by omega)) hfull)
  generalize numF (a1 * a2) (b1 * b2v) = a3 at *
  generalize denF (a1 * a2) (b1 * b2v) = b3v at *
  have hbl : Below w.heap.size w (w.alloc (.cells #[.int .i64 0, .int .i64 0] 65)) := below_box2 _ _
  have HC1 := hid (cell_below hbl g1)
  have HC2 := hid (cell_below hbl g2)
  have HX1 := hid (box_below hbl hx1)
  have H2 : Hid ((w.alloc (.cells #[.int .i64 0, .int .i64 0] 65)).heap[w.heap.size]? = some (.cells #[.int .i64 0, .int .i64 0] 65 (0, 0))) := hid (heap_new rfl)
  have HBL := hid hbl
  have hi1 : (i : Int) < (xs.length : Int) := by omega
  have hj1 : (j : Int) < (xs.length : Int) := by omega
  clear hf hcx g1 g2 hx hy bx30 hfull hfo hfa hft hx1 hbl hi hj hall hb ha hm hR hs p1 p2 q1 q2 q3 q4 t1 t2
  go_enter Try.func65, Try.ntmps65
  go_wp2_with fail
  obtain ⟨W, hW⟩ : ∃ W, W = (w.alloc (.cells #[.int .i64 0, .int .i64 0] 65)).drew := ⟨_, rfl⟩
  replace HC1 : Hid (W.cell? ⟨bx, ox + j, none⟩ = some (.int .i64 x)) := hid (by rw [hW]; exact HC1.out)
  replace HC2 : Hid (W.cell? ⟨bx, ox + i, none⟩ = some (.int .i64 y)) := hid (by rw [hW]; exact HC2.out)
  replace HX1 : Hid (Boxed W b2 22 (.slice (some ⟨bx, ox, none⟩) xs.length cx)) := hid (by rw [hW]; exact HX1.out)
  replace H2 : Hid (W.heap[w.heap.size]? = some (.cells #[.int .i64 0, .int .i64 0] 65 (0, 0))) := hid (by rw [hW]; exact H2.out)
  replace HBL : Hid (Below w.heap.size w W) := hid (by rw [hW]; exact below_drewN HBL.out 1)
  have HL2 := hid (Array.getElem?_eq_some_iff.1 H2.out).1
  refine region_inv (by kernel_rfl) (fun LB act wx => ∃ (s7 s8 s9 s10 s11 s12 s13 s14 s15 s16 s17 s18 s19 : Value), act = ({ tmps := #[.int .i64 (i : Int), .int .i64 (j : Int), .pointer (some ⟨b2, 0, none⟩), .pointer (some ⟨bm, 0, none⟩), undef, undef, .pointer (some ⟨w.heap.size, 0, none⟩), s7, s8, s9, s10, s11, s12, s13, s14, s15, s16, s17, s18, s19], defers := [] } : Act) ∧ RegI 14 [[], [], [0, 1], [2], [], [], [4, 5], [6], [3, 7], [], [], [9, 10], [8, 11], [12]] (W) (fun wy => (wy.setCell ⟨w.heap.size, 0, none⟩ (.int .i64 a3)).setCell ⟨w.heap.size, 1, none⟩ (.int .i64 b3v)) [.slice (some ⟨bx, ox, none⟩) xs.length cx, .int .i64 (j : Int), .pointer (some ⟨bx, ox + j, none⟩), .int .i64 x, .slice (some ⟨bx, ox, none⟩) xs.length cx, .int .i64 (i : Int), .pointer (some ⟨bx, ox + i, none⟩), .int .i64 y, .agg #[.int .i64 a1, .int .i64 b1], .int .i64 (j : Int), .int .i64 (i : Int), .agg #[.int .i64 a2, .int .i64 b2v], .agg #[.int .i64 a3, .int .i64 b3v], undef] LB wx [s7, s8, s9, s10, s11, s12, s13, s14, s15, s16, s17, s18, s19, undef]) ?h0R ?hendR ?hstepR
  case h0R => exact ⟨_, _, _, _, _, _, _, _, _, _, _, _, _, rfl, RegI.start rfl rfl hW.symm⟩
  case hstepR =>
    rintro LB act wx i ⟨s7, s8, s9, s10, s11, s12, s13, s14, s15, s16, s17, s18, s19, rfl, I⟩ hi
    obtain ⟨hi1, hf, hdep⟩ := ready_mem hi
    have hi2 : i < 14 := hi1
    have hbw := I.open (by decide) hf hi2
    have hsz := hbw.size
    have HI := hid I
    have HF := hid hf
    have hqH2 := (hbw.block _ HL2.out).trans H2.out
    have cH20 := cellB (i := 0) hqH2
    have cH21 := cellB (i := 1) hqH2
    have HQH2 := hid hqH2
    clear hqH2
    have y0 := frozenB (i := 0) HQH2.out
    have y1 := frozenB (i := 1) HQH2.out
    have k1 := cell_below hbw HC1.out
    have k2 := cell_below hbw HC2.out
    have k4 := (box_below hbw HX1.out).cell
    have HBW := hid hbw
    clear hi hi1 I hf hbw
    have hc : i = 0 ∨ i = 1 ∨ i = 2 ∨ i = 3 ∨ i = 4 ∨ i = 5 ∨ i = 6 ∨ i = 7 ∨ i = 8 ∨ i = 9 ∨ i = 10 ∨ i = 11 ∨ i = 12 ∨ i = 13 := by omega
    clear hi2
    rcases hc with rfl | rfl | rfl | rfl | rfl | rfl | rfl | rfl | rfl | rfl | rfl | rfl | rfl | rfl
    · skip
      have hq : ∀ j ∈ ([] : List Nat), dn LB j := fun _ h => absurd h List.not_mem_nil
      clear hdep
      refine wpOp_step rfl (fun K hK => ?_)
      go_simp
      exact hK _ _ ⟨_, _, _, _, _, _, _, _, _, _, _, _, _, rfl, HI.out.step HF.out (by decide) hq HBW.out rfl (by decide)⟩
    · skip
      have hq : ∀ j ∈ ([] : List Nat), dn LB j := fun _ h => absurd h List.not_mem_nil
      clear hdep
      refine wpOp_step rfl (fun K hK => ?_)
      go_simp
      exact hK _ _ ⟨_, _, _, _, _, _, _, _, _, _, _, _, _, rfl, HI.out.step HF.out (by decide) hq HBW.out rfl (by decide)⟩
    · skip
      have q0 : dn LB 0 := hdep _ rfl { on := 0, ground := .data } (by simp) rfl
      have q1 : dn LB 1 := hdep _ rfl { on := 1, ground := .data } (by simp) rfl
      have hq : ∀ j ∈ ([0, 1] : List Nat), dn LB j := List.forall_mem_cons.2 ⟨q0, List.forall_mem_cons.2 ⟨q1, fun _ h => absurd h List.not_mem_nil⟩⟩
      clear hdep
      obtain rfl : s7 = .slice (some ⟨bx, ox, none⟩) xs.length cx := HI.out.val 0 q0
      obtain rfl : s8 = .int .i64 (j : Int) := HI.out.val 1 q1
      refine wpOp_step rfl (fun K hK => ?_)
      go_simp
      exact hK _ _ ⟨_, _, _, _, _, _, _, _, _, _, _, _, _, rfl, HI.out.step HF.out (by decide) hq HBW.out rfl (by decide)⟩
    · skip
      have q2 : dn LB 2 := hdep _ rfl { on := 2, ground := .data } (by simp) rfl
      have hq : ∀ j ∈ ([2] : List Nat), dn LB j := List.forall_mem_cons.2 ⟨q2, fun _ h => absurd h List.not_mem_nil⟩
      clear hdep
      obtain rfl : s9 = .pointer (some ⟨bx, ox + j, none⟩) := HI.out.val 2 q2
      refine wpOp_step rfl (fun K hK => ?_)
      go_simp
      exact hK _ _ ⟨_, _, _, _, _, _, _, _, _, _, _, _, _, rfl, HI.out.step HF.out (by decide) hq HBW.out rfl (by decide)⟩
    · skip
      have hq : ∀ j ∈ ([] : List Nat), dn LB j := fun _ h => absurd h List.not_mem_nil
      clear hdep
      refine wpOp_step rfl (fun K hK => ?_)
      go_simp
      exact hK _ _ ⟨_, _, _, _, _, _, _, _, _, _, _, _, _, rfl, HI.out.step HF.out (by decide) hq HBW.out rfl (by decide)⟩
    · skip
      have hq : ∀ j ∈ ([] : List Nat), dn LB j := fun _ h => absurd h List.not_mem_nil
      clear hdep
      refine wpOp_step rfl (fun K hK => ?_)
      go_simp
      exact hK _ _ ⟨_, _, _, _, _, _, _, _, _, _, _, _, _, rfl, HI.out.step HF.out (by decide) hq HBW.out rfl (by decide)⟩
    · skip
      have q4 : dn LB 4 := hdep _ rfl { on := 4, ground := .data } (by simp) rfl
      have q5 : dn LB 5 := hdep _ rfl { on := 5, ground := .data } (by simp) rfl
      have hq : ∀ j ∈ ([4, 5] : List Nat), dn LB j := List.forall_mem_cons.2 ⟨q4, List.forall_mem_cons.2 ⟨q5, fun _ h => absurd h List.not_mem_nil⟩⟩
      clear hdep
      obtain rfl : s11 = .slice (some ⟨bx, ox, none⟩) xs.length cx := HI.out.val 4 q4
      obtain rfl : s12 = .int .i64 (i : Int) := HI.out.val 5 q5
      refine wpOp_step rfl (fun K hK => ?_)
      go_simp
      exact hK _ _ ⟨_, _, _, _, _, _, _, _, _, _, _, _, _, rfl, HI.out.step HF.out (by decide) hq HBW.out rfl (by decide)⟩
    · skip
      have q6 : dn LB 6 := hdep _ rfl { on := 6, ground := .data } (by simp) rfl
      have hq : ∀ j ∈ ([6] : List Nat), dn LB j := List.forall_mem_cons.2 ⟨q6, fun _ h => absurd h List.not_mem_nil⟩
      clear hdep
      obtain rfl : s13 = .pointer (some ⟨bx, ox + i, none⟩) := HI.out.val 6 q6
      refine wpOp_step rfl (fun K hK => ?_)
      go_simp
      exact hK _ _ ⟨_, _, _, _, _, _, _, _, _, _, _, _, _, rfl, HI.out.step HF.out (by decide) hq HBW.out rfl (by decide)⟩
    · skip
      have q3 : dn LB 3 := hdep _ rfl { on := 3, ground := .data } (by simp) rfl
      have q7 : dn LB 7 := hdep _ rfl { on := 7, ground := .data } (by simp) rfl
      have hq : ∀ j ∈ ([3, 7] : List Nat), dn LB j := List.forall_mem_cons.2 ⟨q3, List.forall_mem_cons.2 ⟨q7, fun _ h => absurd h List.not_mem_nil⟩⟩
      clear hdep
      obtain rfl : s10 = .int .i64 x := HI.out.val 3 q3
      obtain rfl : s14 = .int .i64 y := HI.out.val 7 q7
      refine wpOp_step rfl (fun K hK => ?_)
      go_simp
      go_at_call 61
      refine (HFO.out _).mono ?_
      rintro e wP ⟨rfl, hbk⟩
      exact hK _ _ ⟨_, _, _, _, _, _, _, _, _, _, _, _, _, rfl, HI.out.step HF.out (by decide) hq (HBW.out.trans (hbk.mono hsz)) rfl (by decide)⟩
    · skip
      have hq : ∀ j ∈ ([] : List Nat), dn LB j := fun _ h => absurd h List.not_mem_nil
      clear hdep
      refine wpOp_step rfl (fun K hK => ?_)
      go_simp
      exact hK _ _ ⟨_, _, _, _, _, _, _, _, _, _, _, _, _, rfl, HI.out.step HF.out (by decide) hq HBW.out rfl (by decide)⟩
    · skip
      have hq : ∀ j ∈ ([] : List Nat), dn LB j := fun _ h => absurd h List.not_mem_nil
      clear hdep
      refine wpOp_step rfl (fun K hK => ?_)
      go_simp
      exact hK _ _ ⟨_, _, _, _, _, _, _, _, _, _, _, _, _, rfl, HI.out.step HF.out (by decide) hq HBW.out rfl (by decide)⟩
    · skip
      have q9 : dn LB 9 := hdep _ rfl { on := 9, ground := .data } (by simp) rfl
      have q10 : dn LB 10 := hdep _ rfl { on := 10, ground := .data } (by simp) rfl
      have hq : ∀ j ∈ ([9, 10] : List Nat), dn LB j := List.forall_mem_cons.2 ⟨q9, List.forall_mem_cons.2 ⟨q10, fun _ h => absurd h List.not_mem_nil⟩⟩
      clear hdep
      obtain rfl : s16 = .int .i64 (j : Int) := HI.out.val 9 q9
      obtain rfl : s17 = .int .i64 (i : Int) := HI.out.val 10 q10
      refine wpOp_step rfl (fun K hK => ?_)
      go_simp
      go_at_call 67
      refine (HAT.out _ (HBL.out.trans (HBW.out.mono HBL.out.size))).mono ?_
      rintro e wP ⟨rfl, hbk⟩
      exact hK _ _ ⟨_, _, _, _, _, _, _, _, _, _, _, _, _, rfl, HI.out.step HF.out (by decide) hq (HBW.out.trans (hbk.mono hsz)) rfl (by decide)⟩
    · skip
      have q8 : dn LB 8 := hdep _ rfl { on := 8, ground := .data } (by simp) rfl
      have q11 : dn LB 11 := hdep _ rfl { on := 11, ground := .data } (by simp) rfl
      have hq : ∀ j ∈ ([8, 11] : List Nat), dn LB j := List.forall_mem_cons.2 ⟨q8, List.forall_mem_cons.2 ⟨q11, fun _ h => absurd h List.not_mem_nil⟩⟩
      clear hdep
      obtain rfl : s15 = .agg #[.int .i64 a1, .int .i64 b1] := HI.out.val 8 q8
      obtain rfl : s18 = .agg #[.int .i64 a2, .int .i64 b2v] := HI.out.val 11 q11
      refine wpOp_step rfl (fun K hK => ?_)
      go_simp
      go_at_call 66
      refine (HTM.out _).mono ?_
      rintro e wP ⟨rfl, hbk⟩
      exact hK _ _ ⟨_, _, _, _, _, _, _, _, _, _, _, _, _, rfl, HI.out.step HF.out (by decide) hq (HBW.out.trans (hbk.mono hsz)) rfl (by decide)⟩
    · skip
      have q12 : dn LB 12 := hdep _ rfl { on := 12, ground := .data } (by simp) rfl
      have hq : ∀ j ∈ ([12] : List Nat), dn LB j := List.forall_mem_cons.2 ⟨q12, fun _ h => absurd h List.not_mem_nil⟩
      clear hdep
      obtain rfl : s19 = .agg #[.int .i64 a3, .int .i64 b3v] := HI.out.val 12 q12
      refine wpOp_step rfl (fun K hK => ?_)
      go_simp
      exact hK _ _ ⟨_, _, _, _, _, _, _, _, _, _, _, _, _, rfl, HI.out.last HF.out rfl (by decide) hq HBW.out rfl rfl⟩
  case hendR =>
    rintro LB act wx ⟨s7, s8, s9, s10, s11, s12, s13, s14, s15, s16, s17, s18, s19, rfl, I⟩ hrd
    have D := all_done2 I.hs (by kernel_rfl) hrd
    obtain ⟨wy, hby, rfl⟩ := I.he (D 13 (by decide))
    have hq := (hby.block _ HL2.out).trans H2.out
    have HBF := hid (HBL.out.trans (hby.mono HBL.out.size))
    have HQ := hid hq
    clear I D hrd hby hq
    go_wp2_with fail
    refine bodyPost_ret (results_cell_row rfl _ _ w.heap.size 65 #[_, _] (0, 0) _ rfl (heap_two1 (heap_two0 HQ.out)) Try.underlying65 rfl (by kernel_rfl)) rfl ?_
    exact ⟨_, _, rfl, HFR.out, (HBF.out.setCell (Nat.le_refl _) _).setCell (Nat.le_refl _) _⟩

end Go.Proofs.Ytacjejnbomdhbab
