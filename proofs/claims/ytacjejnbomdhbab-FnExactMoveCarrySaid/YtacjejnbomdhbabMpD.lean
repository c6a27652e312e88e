/-
  Contracts of the program's chapter 7: the fraction at a place of a move, the sum of a row's products.
-/
import Derived.Test.YtacjejnbomdhbabMpC
import Derived.Test.YtacjejnbomdhbabQBun27
set_option linter.unusedVariables false
namespace Go.Proofs.Ytacjejnbomdhbab
open Go.RowKit

theorem cell_below {W wx : World} {b o : Nat} {x : Value} (hb : Below W.heap.size W wx) (h : W.cell? ⟨b, o, none⟩ = some x) : wx.cell? ⟨b, o, none⟩ = some x := cell_block h hb.block
theorem heap_below {W wx : World} {b : Nat} {x : Obj} (hb : Below W.heap.size W wx) (h : W.heap[b]? = some x) : wx.heap[b]? = some x := (hb.block b (Array.getElem?_eq_some_iff.1 h).1).trans h
/-- a move in memory -/
def MvAt (W : World) (bm : Nat) (va : Value) (d : Int) : Prop := W.heap[bm]? = some (.cells #[va, .int .i64 d] 29 (0, 0))
theorem MvAt.keep {W W' : World} {bm : Nat} {va : Value} {d : Int} (h : MvAt W bm va d) (hb : Below W.heap.size W W') : MvAt W' bm va d := heap_below hb h

set_option maxRecDepth 100000 in
set_option maxHeartbeats 4000000 in
theorem mvAt_any (bm : Nat) (va : Value) (R : List (List Int)) (d : Int) (n i j : Nat) (w : World) (hm : MvAt w bm va d) (hR : RdM w va R) (hs : Sq n R) (hi : i < n) (hj : j < n) (hn : n ≤ 100) (bx : B15 (at2 R i j)) (d1 : 1 ≤ d) (d2 : d ≤ 10000) :
    Calls Try.prog 67 #[.pointer (some ⟨bm, 0, none⟩), .int .i64 (i : Int), .int .i64 (j : Int)] w fun e w' => e = .returned (frV (numF (at2 R i j) d) (denF (at2 R i j) d)) ∧ Below w.heap.size w w' := by
  have HFO := hid (fun w => fractionOf_any (at2 R i j) d bx (by unfold B15; omega) (by omega) w)
  obtain ⟨aa, ca, rfl⟩ := hR.form
  obtain ⟨ba, oa, _, rfl, _, _⟩ := hR.row (i := i) (by rw [hs.1]; exact hi)
  obtain ⟨b2, o2, c2, hc1, hc2⟩ := row_cells (m := n) hR (t := i) (by rw [hs.1]; exact hi) (by omega) (hs.2 _ (by rw [List.getD_eq_getElem?_getD, List.getElem?_eq_getElem (by rw [hs.1]; exact hi)]; exact List.getElem_mem _))
  have hc2 := hc2 j hj
  obtain ⟨x, hx⟩ : ∃ x, x = at2 R i j := ⟨_, rfl⟩
  rw [← hx] at hc2 HFO ⊢
  have hn1 : R.length = n := hs.1
  rw [hn1] at hm
  have hbl : Below w.heap.size w (w.alloc (.cells #[.int .i64 0, .int .i64 0] 65)) := below_box2 _ _
  have HM0 := hid hm
  have HC1 := hid (cell_below hbl hc1)
  have HC2 := hid (cell_below hbl hc2)
  have H0 := hid (heap_below hbl hm)
  have H2 : Hid ((w.alloc (.cells #[.int .i64 0, .int .i64 0] 65)).heap[w.heap.size]? = some (.cells #[.int .i64 0, .int .i64 0] 65 (0, 0))) := hid (heap_new rfl)
  have HBL := hid hbl
  have hi2 : (i : Int) < (n : Int) := by omega
  have hj2 : (j : Int) < (n : Int) := by omega
  clear hR hs hc1 hc2 hx hbl hm bx hn1 HM0
  go_enter Try.func67, Try.ntmps67
  go_wp2_with fail
  obtain ⟨W, hW⟩ : ∃ W, W = (w.alloc (.cells #[.int .i64 0, .int .i64 0] 65)).drew := ⟨_, rfl⟩
  replace H0 : Hid (W.heap[bm]? = some (.cells #[.slice (some ⟨ba, oa, none⟩) n ca, .int .i64 d] 29 (0, 0))) := hid (by rw [hW]; exact H0.out)
  replace H2 : Hid (W.heap[w.heap.size]? = some (.cells #[.int .i64 0, .int .i64 0] 65 (0, 0))) := hid (by rw [hW]; exact H2.out)
  replace HC1 : Hid (W.cell? ⟨ba, oa + i, none⟩ = some (.slice (some ⟨b2, o2, none⟩) n c2)) := hid (by rw [hW]; exact HC1.out)
  replace HC2 : Hid (W.cell? ⟨b2, o2 + j, none⟩ = some (.int .i64 x)) := hid (by rw [hW]; exact HC2.out)
  replace HBL : Hid (Below w.heap.size w W) := hid (by rw [hW]; exact below_drewN HBL.out 1)
  have HL0 := hid (Array.getElem?_eq_some_iff.1 H0.out).1
  have HL2 := hid (Array.getElem?_eq_some_iff.1 H2.out).1
  refine region_inv (by kernel_rfl) (fun LB act wx => ∃ (s7 s8 s9 s10 s11 s12 s13 s14 s15 s16 s17 s18 s19 s20 s21 : Value), act = ({ tmps := #[.pointer (some ⟨bm, 0, none⟩), .int .i64 (i : Int), .int .i64 (j : Int), undef, undef, undef, .pointer (some ⟨w.heap.size, 0, none⟩), s7, s8, s9, s10, s11, s12, s13, s14, s15, s16, s17, s18, s19, s20, s21], defers := [] } : Act) ∧ RegI 16 [[], [0], [1], [2], [], [3, 4], [5], [], [6, 7], [8], [], [10], [11], [12], [9, 13], [14]] (W) (fun wy => (wy.setCell ⟨w.heap.size, 0, none⟩ (.int .i64 (numF x d))).setCell ⟨w.heap.size, 1, none⟩ (.int .i64 (denF x d))) [.pointer (some ⟨bm, 0, none⟩), .pointer (some ⟨bm, 0, none⟩), .pointer (some ⟨bm, 0, none⟩), .slice (some ⟨ba, oa, none⟩) n ca, .int .i64 (i : Int), .pointer (some ⟨ba, oa + i, none⟩), .slice (some ⟨b2, o2, none⟩) n c2, .int .i64 (j : Int), .pointer (some ⟨b2, o2 + j, none⟩), .int .i64 x, .pointer (some ⟨bm, 0, none⟩), .pointer (some ⟨bm, 0, none⟩), .pointer (some ⟨bm, 1, none⟩), .int .i64 d, .agg #[.int .i64 (numF x d), .int .i64 (denF x d)], undef] LB wx [s7, s8, s9, s10, s11, s12, s13, s14, s15, s16, s17, s18, s19, s20, s21, undef]) ?h0R ?hendR ?hstepR
  case h0R => exact ⟨undef, undef, undef, undef, undef, undef, undef, undef, undef, undef, undef, undef, undef, undef, undef, rfl, RegI.start rfl rfl hW.symm⟩
  case hstepR =>
    rintro LB act wx i ⟨s7, s8, s9, s10, s11, s12, s13, s14, s15, s16, s17, s18, s19, s20, s21, rfl, I⟩ hi
    obtain ⟨hi1, hf, hdep⟩ := ready_mem hi
    have hi2 : i < 16 := hi1
    have hbw := I.open (by decide) hf hi2
    have hsz := hbw.size
    have HI := hid I
    have HF := hid hf
    have hqH0 := (hbw.block _ HL0.out).trans H0.out
    have cH00 := cellB (i := 0) hqH0
    have cH01 := cellB (i := 1) hqH0
    have HQH0 := hid hqH0
    clear hqH0
    have hqH2 := (hbw.block _ HL2.out).trans H2.out
    have cH20 := cellB (i := 0) hqH2
    have cH21 := cellB (i := 1) hqH2
    have HQH2 := hid hqH2
    clear hqH2
    have y0 := frozenB (i := 0) HQH2.out
    have y1 := frozenB (i := 1) HQH2.out
    have k1 := cell_below hbw HC1.out
    have k2 := cell_below hbw HC2.out
    have HBW := hid hbw
    clear hi hi1 I hf hbw
    have hc : i = 0 ∨ i = 1 ∨ i = 2 ∨ i = 3 ∨ i = 4 ∨ i = 5 ∨ i = 6 ∨ i = 7 ∨ i = 8 ∨ i = 9 ∨ i = 10 ∨ i = 11 ∨ i = 12 ∨ i = 13 ∨ i = 14 ∨ i = 15 := by omega
    clear hi2
    rcases hc with rfl | rfl | rfl | rfl | rfl | rfl | rfl | rfl | rfl | rfl | rfl | rfl | rfl | rfl | rfl | rfl
    · skip
      have hq : ∀ j ∈ ([] : List Nat), dn LB j := fun _ h => absurd h List.not_mem_nil
      clear hdep
      refine wpOp_step rfl (fun K hK => ?_)
      go_simp
      exact hK _ _ ⟨_, _, _, _, _, _, _, _, _, _, _, _, _, _, _, rfl, HI.out.step HF.out (by decide) hq HBW.out rfl (by decide)⟩
    · skip
      have q0 : dn LB 0 := hdep _ rfl { on := 0, ground := .data } (by simp) rfl
      have hq : ∀ j ∈ ([0] : List Nat), dn LB j := List.forall_mem_cons.2 ⟨q0, fun _ h => absurd h List.not_mem_nil⟩
      clear hdep
      obtain rfl : s7 = .pointer (some ⟨bm, 0, none⟩) := HI.out.val 0 q0
      refine wpOp_step rfl (fun K hK => ?_)
      go_simp
      exact hK _ _ ⟨_, _, _, _, _, _, _, _, _, _, _, _, _, _, _, rfl, HI.out.step HF.out (by decide) hq HBW.out rfl (by decide)⟩
    · skip
      have q1 : dn LB 1 := hdep _ rfl { on := 1, ground := .data } (by simp) rfl
      have hq : ∀ j ∈ ([1] : List Nat), dn LB j := List.forall_mem_cons.2 ⟨q1, fun _ h => absurd h List.not_mem_nil⟩
      clear hdep
      obtain rfl : s8 = .pointer (some ⟨bm, 0, none⟩) := HI.out.val 1 q1
      refine wpOp_step rfl (fun K hK => ?_)
      go_simp
      exact hK _ _ ⟨_, _, _, _, _, _, _, _, _, _, _, _, _, _, _, rfl, HI.out.step HF.out (by decide) hq HBW.out rfl (by decide)⟩
    · skip
      have q2 : dn LB 2 := hdep _ rfl { on := 2, ground := .data } (by simp) rfl
      have hq : ∀ j ∈ ([2] : List Nat), dn LB j := List.forall_mem_cons.2 ⟨q2, fun _ h => absurd h List.not_mem_nil⟩
      clear hdep
      obtain rfl : s9 = .pointer (some ⟨bm, 0, none⟩) := HI.out.val 2 q2
      refine wpOp_step rfl (fun K hK => ?_)
      go_simp
      exact hK _ _ ⟨_, _, _, _, _, _, _, _, _, _, _, _, _, _, _, rfl, HI.out.step HF.out (by decide) hq HBW.out rfl (by decide)⟩
    · skip
      have hq : ∀ j ∈ ([] : List Nat), dn LB j := fun _ h => absurd h List.not_mem_nil
      clear hdep
      refine wpOp_step rfl (fun K hK => ?_)
      go_simp
      exact hK _ _ ⟨_, _, _, _, _, _, _, _, _, _, _, _, _, _, _, rfl, HI.out.step HF.out (by decide) hq HBW.out rfl (by decide)⟩
    · skip
      have q3 : dn LB 3 := hdep _ rfl { on := 3, ground := .data } (by simp) rfl
      have q4 : dn LB 4 := hdep _ rfl { on := 4, ground := .data } (by simp) rfl
      have hq : ∀ j ∈ ([3, 4] : List Nat), dn LB j := List.forall_mem_cons.2 ⟨q3, List.forall_mem_cons.2 ⟨q4, fun _ h => absurd h List.not_mem_nil⟩⟩
      clear hdep
      obtain rfl : s10 = .slice (some ⟨ba, oa, none⟩) n ca := HI.out.val 3 q3
      obtain rfl : s11 = .int .i64 (i : Int) := HI.out.val 4 q4
      refine wpOp_step rfl (fun K hK => ?_)
      go_simp
      exact hK _ _ ⟨_, _, _, _, _, _, _, _, _, _, _, _, _, _, _, rfl, HI.out.step HF.out (by decide) hq HBW.out rfl (by decide)⟩
    · skip
      have q5 : dn LB 5 := hdep _ rfl { on := 5, ground := .data } (by simp) rfl
      have hq : ∀ j ∈ ([5] : List Nat), dn LB j := List.forall_mem_cons.2 ⟨q5, fun _ h => absurd h List.not_mem_nil⟩
      clear hdep
      obtain rfl : s12 = .pointer (some ⟨ba, oa + i, none⟩) := HI.out.val 5 q5
      refine wpOp_step rfl (fun K hK => ?_)
      go_simp
      exact hK _ _ ⟨_, _, _, _, _, _, _, _, _, _, _, _, _, _, _, rfl, HI.out.step HF.out (by decide) hq HBW.out rfl (by decide)⟩
    · skip
      have hq : ∀ j ∈ ([] : List Nat), dn LB j := fun _ h => absurd h List.not_mem_nil
      clear hdep
      refine wpOp_step rfl (fun K hK => ?_)
      go_simp
      exact hK _ _ ⟨_, _, _, _, _, _, _, _, _, _, _, _, _, _, _, rfl, HI.out.step HF.out (by decide) hq HBW.out rfl (by decide)⟩
    · skip
      have q6 : dn LB 6 := hdep _ rfl { on := 6, ground := .data } (by simp) rfl
      have q7 : dn LB 7 := hdep _ rfl { on := 7, ground := .data } (by simp) rfl
      have hq : ∀ j ∈ ([6, 7] : List Nat), dn LB j := List.forall_mem_cons.2 ⟨q6, List.forall_mem_cons.2 ⟨q7, fun _ h => absurd h List.not_mem_nil⟩⟩
      clear hdep
      obtain rfl : s13 = .slice (some ⟨b2, o2, none⟩) n c2 := HI.out.val 6 q6
      obtain rfl : s14 = .int .i64 (j : Int) := HI.out.val 7 q7
      refine wpOp_step rfl (fun K hK => ?_)
      go_simp
      exact hK _ _ ⟨_, _, _, _, _, _, _, _, _, _, _, _, _, _, _, rfl, HI.out.step HF.out (by decide) hq HBW.out rfl (by decide)⟩
    · skip
      have q8 : dn LB 8 := hdep _ rfl { on := 8, ground := .data } (by simp) rfl
      have hq : ∀ j ∈ ([8] : List Nat), dn LB j := List.forall_mem_cons.2 ⟨q8, fun _ h => absurd h List.not_mem_nil⟩
      clear hdep
      obtain rfl : s15 = .pointer (some ⟨b2, o2 + j, none⟩) := HI.out.val 8 q8
      refine wpOp_step rfl (fun K hK => ?_)
      go_simp
      exact hK _ _ ⟨_, _, _, _, _, _, _, _, _, _, _, _, _, _, _, rfl, HI.out.step HF.out (by decide) hq HBW.out rfl (by decide)⟩
    · skip
      have hq : ∀ j ∈ ([] : List Nat), dn LB j := fun _ h => absurd h List.not_mem_nil
      clear hdep
      refine wpOp_step rfl (fun K hK => ?_)
      go_simp
      exact hK _ _ ⟨_, _, _, _, _, _, _, _, _, _, _, _, _, _, _, rfl, HI.out.step HF.out (by decide) hq HBW.out rfl (by decide)⟩
    · skip
      have q10 : dn LB 10 := hdep _ rfl { on := 10, ground := .data } (by simp) rfl
      have hq : ∀ j ∈ ([10] : List Nat), dn LB j := List.forall_mem_cons.2 ⟨q10, fun _ h => absurd h List.not_mem_nil⟩
      clear hdep
      obtain rfl : s17 = .pointer (some ⟨bm, 0, none⟩) := HI.out.val 10 q10
      refine wpOp_step rfl (fun K hK => ?_)
      go_simp
      exact hK _ _ ⟨_, _, _, _, _, _, _, _, _, _, _, _, _, _, _, rfl, HI.out.step HF.out (by decide) hq HBW.out rfl (by decide)⟩
    · skip
      have q11 : dn LB 11 := hdep _ rfl { on := 11, ground := .data } (by simp) rfl
      have hq : ∀ j ∈ ([11] : List Nat), dn LB j := List.forall_mem_cons.2 ⟨q11, fun _ h => absurd h List.not_mem_nil⟩
      clear hdep
      obtain rfl : s18 = .pointer (some ⟨bm, 0, none⟩) := HI.out.val 11 q11
      refine wpOp_step rfl (fun K hK => ?_)
      go_simp
      exact hK _ _ ⟨_, _, _, _, _, _, _, _, _, _, _, _, _, _, _, rfl, HI.out.step HF.out (by decide) hq HBW.out rfl (by decide)⟩
    · skip
      have q12 : dn LB 12 := hdep _ rfl { on := 12, ground := .data } (by simp) rfl
      have hq : ∀ j ∈ ([12] : List Nat), dn LB j := List.forall_mem_cons.2 ⟨q12, fun _ h => absurd h List.not_mem_nil⟩
      clear hdep
      obtain rfl : s19 = .pointer (some ⟨bm, 1, none⟩) := HI.out.val 12 q12
      refine wpOp_step rfl (fun K hK => ?_)
      go_simp
      exact hK _ _ ⟨_, _, _, _, _, _, _, _, _, _, _, _, _, _, _, rfl, HI.out.step HF.out (by decide) hq HBW.out rfl (by decide)⟩
    · skip
      have q9 : dn LB 9 := hdep _ rfl { on := 9, ground := .data } (by simp) rfl
      have q13 : dn LB 13 := hdep _ rfl { on := 13, ground := .data } (by simp) rfl
      have hq : ∀ j ∈ ([9, 13] : List Nat), dn LB j := List.forall_mem_cons.2 ⟨q9, List.forall_mem_cons.2 ⟨q13, fun _ h => absurd h List.not_mem_nil⟩⟩
      clear hdep
      obtain rfl : s16 = .int .i64 x := HI.out.val 9 q9
      obtain rfl : s20 = .int .i64 d := HI.out.val 13 q13
      refine wpOp_step rfl (fun K hK => ?_)
      go_simp
      go_at_call 61
      refine (HFO.out _).mono ?_
      rintro e wP ⟨rfl, hbk⟩
      exact hK _ _ ⟨_, _, _, _, _, _, _, _, _, _, _, _, _, _, _, rfl, HI.out.step HF.out (by decide) hq (HBW.out.trans (hbk.mono hsz)) rfl (by decide)⟩
    · skip
      have q14 : dn LB 14 := hdep _ rfl { on := 14, ground := .data } (by simp) rfl
      have hq : ∀ j ∈ ([14] : List Nat), dn LB j := List.forall_mem_cons.2 ⟨q14, fun _ h => absurd h List.not_mem_nil⟩
      clear hdep
      obtain rfl : s21 = .agg #[.int .i64 (numF x d), .int .i64 (denF x d)] := HI.out.val 14 q14
      refine wpOp_step rfl (fun K hK => ?_)
      go_simp
      exact hK _ _ ⟨_, _, _, _, _, _, _, _, _, _, _, _, _, _, _, rfl, HI.out.last HF.out rfl (by decide) hq HBW.out rfl rfl⟩
  case hendR =>
    rintro LB act wx ⟨s7, s8, s9, s10, s11, s12, s13, s14, s15, s16, s17, s18, s19, s20, s21, rfl, I⟩ hrd
    have D := all_done2 I.hs (by kernel_rfl) hrd
    obtain ⟨wy, hby, rfl⟩ := I.he (D 15 (by decide))
    have hq := (hby.block _ HL2.out).trans H2.out
    have HBF := hid (HBL.out.trans (hby.mono HBL.out.size))
    have HQ := hid hq
    clear I D hrd hby hq
    go_wp2_with fail
    refine bodyPost_ret (results_cell_row rfl _ _ w.heap.size 65 #[_, _] (0, 0) _ rfl (heap_two1 (heap_two0 HQ.out)) Try.underlying65 rfl (by kernel_rfl)) rfl ?_
    exact ⟨rfl, (HBF.out.setCell (Nat.le_refl _) _).setCell (Nat.le_refl _) _⟩

end Go.Proofs.Ytacjejnbomdhbab
