/-
  Some texts in one file: MpC MpD.
-/
import Derived.Test.YtjabklpnohfjpabQBun28
import Derived.Test.YtjabklpnohfjpabQBun26
import Derived.Test.YtjabklpnohfjpabQBun27
/-! MpC -/
set_option linter.unusedVariables false
namespace Go.Proofs.Ytjabklpnohfjpab
open Go.RowKit

def encF (l : List (Int × Int)) : List Value := l.flatMap fun f => [.int .i64 f.1, .int .i64 f.2]
theorem encF_snoc (l : List (Int × Int)) (f : Int × Int) : encF (l ++ [f]) = encF l ++ [.int .i64 f.1, .int .i64 f.2] := by unfold encF; rw [List.flatMap_append]; rfl
theorem encF_len (l : List (Int × Int)) : (encF l).length = l.length * 2 := by
  unfold encF
  induction l with
  | nil => rfl
  | cons f l ih => rw [List.flatMap_cons, List.length_append, ih, List.length_cons]; simp; omega
theorem encF_at : ∀ (l : List (Int × Int)) (i : Nat), i < l.length → (encF l)[i * 2]? = some (.int .i64 (l.getD i (0, 0)).1) ∧ (encF l)[i * 2 + 1]? = some (.int .i64 (l.getD i (0, 0)).2)
  | [], i, h => absurd h (by simp)
  | f :: l, 0, _ => ⟨rfl, rfl⟩
  | f :: l, i + 1, h => by
    have ih := encF_at l i (by simpa using h)
    have e : encF (f :: l) = .int .i64 f.1 :: .int .i64 f.2 :: encF l := rfl
    rw [e, show (i + 1) * 2 = i * 2 + 1 + 1 by omega, List.getElem?_cons_succ, List.getElem?_cons_succ, show i * 2 + 1 + 1 + 1 = (i * 2 + 1) + 1 + 1 by omega, List.getElem?_cons_succ, List.getElem?_cons_succ]
    simpa using ih
/-- a list of fractions of one's own -/
def OwnF (W : World) (B : Nat) (v : Value) (l : List (Int × Int)) : Prop := World.ownsRow W B 65 2 v l.length (encF l)
/-- a list of fractions to be read -/
def RdF (W : World) (v : Value) (l : List (Int × Int)) : Prop := ∃ (g cap : Nat), v = .slice (some ⟨g, 0, none⟩) l.length cap ∧ l.length ≤ maxLen ∧ g < W.heap.size ∧ ∀ i, i < l.length → W.cell? ⟨g, i * 2, none⟩ = some (.int .i64 (l.getD i (0, 0)).1) ∧ W.cell? ⟨g, i * 2 + 1, none⟩ = some (.int .i64 (l.getD i (0, 0)).2)
theorem RdF.keep {W W' : World} {v : Value} {l : List (Int × Int)} (h : RdF W v l) (hb : Below W.heap.size W W') : RdF W' v l := by
  obtain ⟨g, cap, hv, hm, hg, hc⟩ := h
  refine ⟨g, cap, hv, hm, Nat.lt_of_lt_of_le hg hb.size, fun i hi => ?_⟩
  have hq := hb.block g hg
  have e : ∀ o, W'.cell? ⟨g, o, none⟩ = W.cell? ⟨g, o, none⟩ := fun o => by simp [World.cell?, hq]
  rw [e, e]
  exact hc i hi
theorem OwnF.rd {W : World} {B : Nat} {v : Value} {l : List (Int × Int)} (h : OwnF W B v l) (hf : ∃ g n cap, v = .slice (some ⟨g, 0, none⟩) n cap) : RdF W v l := by
  obtain ⟨g, n, cap, rfl⟩ := hf
  obtain ⟨h1, h2⟩ := h
  rcases h2 with ⟨h2, _⟩ | ⟨g', cap', cur, hv, hBg, hcur, hnc, hcm, hst, hfr⟩
  · cases h2
  · cases hv
    have hrow : World.ownsRow W B 65 2 (.slice (some ⟨g, 0, none⟩) l.length cap) l.length (encF l) := ⟨h1, .inr ⟨g, cap, cur, rfl, hBg, hcur, hnc, hcm, hst, hfr⟩⟩
    refine ⟨g, cap, rfl, by omega, (hrow.lt g rfl).2, fun i hi => ?_⟩
    have e := encF_at l i hi
    exact ⟨(hrow.cellAt (i * 2) (by omega)).trans e.1, (hrow.cellAt (i * 2 + 1) (by omega)).trans e.2⟩

theorem lcmL_next {l : List (Int × Int)} {K : Nat} (h : K < l.length) : lcmL (l.take (K + 1)) = lcmI (lcmL (l.take K)) (l.getD K (0, 0)).2 := by
  rw [List.take_succ_eq_append_getElem h, lcmL_snoc, List.getD_eq_getElem?_getD, List.getElem?_eq_getElem h]; rfl
theorem nums_next {l : List (Int × Int)} {K : Nat} {L : Int} (h : K < l.length) : numsL (l.take (K + 1)) L = numsL (l.take K) L ++ [overF (l.getD K (0, 0)).1 (l.getD K (0, 0)).2 L] := by
  unfold numsL
  rw [List.take_succ_eq_append_getElem h, List.map_append, List.getD_eq_getElem?_getD, List.getElem?_eq_getElem h]; rfl
set_option maxRecDepth 100000 in
set_option maxHeartbeats 4000000 in
theorem together_any (v : Value) (l : List (Int × Int)) (Ns : List Int) (D : Int) (w : World) (hv : RdF w v l) (hn : l.length ≤ 9) (h : Frs l Ns D) (h0 : D ≠ 0) (bD : B14 D) (bN : ∀ i, i < l.length → B14 (Ns.getD i 0)) :
    Calls Try.prog 70 #[v] w fun e w' => ∃ u, e = .returned (.tuple #[u, .int .i64 (lcmL l)]) ∧ Owns w' w.heap.size u (numsL l (lcmL l)) ∧ Below w.heap.size w w' := by
  obtain ⟨i0, hi, hz0, hz1, hz2⟩ := info_parts infoInt
  have HV := hid hv
  obtain ⟨g, cap, rfl, hlm, _, _⟩ := hv
  have hall := lcm_all (l := l) (D := D) (fun f hf => by
    obtain ⟨i, hi, rfl⟩ := List.getElem_of_mem hf
    have e := h.2 i hi
    rw [List.getD_eq_getElem?_getD, List.getElem?_eq_getElem hi] at e
    exact ⟨e.pos, e.den⟩)
  have HL : Hid (∀ K, K ≤ l.length → 1 ≤ lcmL (l.take K) ∧ B14 (lcmL (l.take K))) := hid (fun K hK => ⟨(hall K hK).1, b14_dvd (hall K hK).1 (hall K hK).2.1 h0 bD⟩)
  have HF : Hid (∀ K, K < l.length → 1 ≤ (l.getD K (0, 0)).2 ∧ B14 (l.getD K (0, 0)).2 ∧ B14 (l.getD K (0, 0)).1 ∧ B14 (overF (l.getD K (0, 0)).1 (l.getD K (0, 0)).2 (lcmL l))) := hid (fun K hK => by
    have e := h.2 K hK
    have a := hall l.length (Nat.le_refl _)
    rw [List.take_length] at a
    have hm : l.getD K (0, 0) ∈ l := by rw [List.getD_eq_getElem?_getD, List.getElem?_eq_getElem hK]; exact List.getElem_mem _
    exact ⟨e.pos, e.b14d h0 bD, e.b14n h0 (bN K hK), over_bd e (a.2.2 _ hm) a.2.1 h0 (by omega) (bN K hK).1 (bN K hK).2⟩)
  unfold maxLen at hlm
  clear h hall h0 bD bN
  go_enter Try.func70, Try.ntmps70
  go_wp2_with fail
  go_loopw [4, 12] (fun sL si wr => ∃ K : Nat, si = .int .i64 K ∧ K ≤ l.length ∧ sL = .int .i64 (lcmL (l.take K)) ∧ Hid (Below w.heap.size w wr)) (fun _ si _ => l.length - (intOf si).toNat)
  case atStart => exact ⟨0, rfl, by omega, rfl, hid (Below.refl _ _)⟩
  case round =>
    obtain ⟨K, rfl, hK, rfl, HB⟩ := hrel
    rename World => wr
    by_cases hlt : K < l.length
    · obtain ⟨g', cap', e', _, hg, hc⟩ := HV.out.keep HB.out
      cases e'
      obtain ⟨c0, c1⟩ := hc K hlt
      obtain ⟨p1, p2, p3, _⟩ := HF.out K hlt
      obtain ⟨l1, l2⟩ := HL.out K hK
      obtain ⟨m1, m2⟩ := HL.out (K + 1) hlt
      rw [lcmL_next hlt] at m1 m2
      have HN := hid (lcmL_next hlt)
      obtain ⟨a, ha⟩ : ∃ a, a = (l.getD K (0, 0)).1 := ⟨_, rfl⟩
      obtain ⟨b, hb⟩ : ∃ b, b = (l.getD K (0, 0)).2 := ⟨_, rfl⟩
      obtain ⟨L, hL⟩ : ∃ L, L = lcmL (l.take K) := ⟨_, rfl⟩
      rw [← ha] at c0 p3
      rw [← hb] at c1 p1 p2 m1 m2 HN
      rw [← hL] at l1 l2 m1 m2 HN ⊢
      have HM := hid (fun w => multipleOf_any L b l1 p1 l2.b15 p2.b15 m2.b15 w)
      have hKi : (K : Int) < (l.length : Int) := by omega
      have HLT := hid hlt
      clear hc ha hb hL p1 p2 p3 l1 l2 m1 m2 hlt
      go_wp2_with fail
      refine (HM.out _).mono ?_
      rintro e w2 ⟨rfl, k, rfl⟩
      go_wp2_with fail
      go_roundw
      case measure => simp only [intOf]; have := HLT.out; omega
      case rel => exact ⟨K + 1, by go_num, by have := HLT.out; omega, by rw [HN.out], hid (below_drewN (HB.out.trans ((below_box2 _ _).mono HB.out.size)) _)⟩
    · obtain rfl : K = l.length := by omega
      clear hlt
      rw [List.take_length] at *
      have HO0 : Hid (Owns (wr.alloc (.cells #[] 3)) w.heap.size (.slice (some ⟨wr.heap.size, 0, none⟩) 0 0) []) := hid (World.ownsRow_made (size := 1) wr #[] 0 HB.out.size (by unfold maxLen; omega) rfl)
      have HB0 := hid (HB.out.alloc HB.out.size (.cells #[] 3))
      clear HB
      have hL1 := (HL.out l.length (Nat.le_refl _))
      rw [List.take_length] at hL1
      obtain ⟨L, hL⟩ : ∃ L, L = lcmL l := ⟨_, rfl⟩
      rw [← hL] at hL1 HF ⊢
      obtain ⟨l1, l2⟩ := hL1
      have HLE := hid hL
      clear hL HL
      have HBS := hid HB0.out.size
      go_wp2_with fail
      go_loopw [7, 24] (fun so si wq => ∃ K : Nat, si = .int .i64 K ∧ K ≤ l.length ∧ Hid (Owns wq w.heap.size so (numsL (l.take K) L)) ∧ Hid (Below w.heap.size w wq)) (fun _ si _ => l.length - (intOf si).toNat)
      case atStart => exact ⟨0, rfl, by omega, hid (by simpa [numsL] using HO0.out), HB0⟩
      case round =>
        obtain ⟨K, rfl, hK, HO, HB⟩ := hrel
        rename World => wq
        by_cases hlt : K < l.length
        · obtain ⟨g', cap', e', _, hg, hc⟩ := HV.out.keep HB.out
          cases e'
          obtain ⟨c0, c1⟩ := hc K hlt
          obtain ⟨p1, p2, p3, p4⟩ := HF.out K hlt
          have HSN := hid (nums_next (L := L) hlt)
          obtain ⟨a, ha⟩ : ∃ a, a = (l.getD K (0, 0)).1 := ⟨_, rfl⟩
          obtain ⟨b, hb⟩ : ∃ b, b = (l.getD K (0, 0)).2 := ⟨_, rfl⟩
          rw [← ha] at c0 p3 p4 HSN
          rw [← hb] at c1 p1 p2 p4 HSN
          have HM := hid (fun w => over_any a b L p1 p2.b15 p3.b15 l2.b15 p4.b15 w)
          obtain ⟨o, ho⟩ : ∃ o, o = overF a b L := ⟨_, rfl⟩
          rw [← ho] at HM HSN
          obtain ⟨pre, hpre⟩ : ∃ pre, pre = numsL (l.take K) L := ⟨_, rfl⟩
          have hprel : pre.length ≤ 9 := by rw [hpre]; unfold numsL; rw [List.length_map, List.length_take]; omega
          rw [← hpre] at HO HSN
          have hKi : (K : Int) < (l.length : Int) := by omega
          have HLT := hid hlt
          clear hc ha hb ho hpre p1 p2 p3 p4 hlt
          go_wp2_with fail
          refine (HM.out _).mono ?_
          rintro e w2 ⟨rfl, hb2⟩
          have HB2 := hid (HB.out.trans (((below_box2 _ _).trans (hb2.mono (by simp))).mono HB.out.size))
          have HO2 := hid (HO.out.keep HO.out.lt ((below_box2 _ _).trans (hb2.mono (by simp))))
          have hbs := HB2.out.size
          clear hb2
          go_wp2_with (at_builtin; refine wpList_append_own_at _ rfl _ _ 22 rfl w.heap.size 3 i0 (.int .i64 0) 1 8 Try.underlying22 hi hz0 hz1 hz2 rfl (by decide) _ _ _ rfl ((show World.ownsRow _ _ _ _ _ _ _ from HO2.out).alloc _) ⟨w2.heap.size, 0, none⟩ 1 1 [.int .i64 o] rfl rfl (cell_one_new _ _ _) (by simp [Value.oneCell']) (by unfold maxLen; omega) (by omega) (by simp; omega) ?_; intro v' w3 hown' hgrow _ hat)
          have hsg := hgrow.size
          simp only [World.size_alloc] at hsg
          go_roundw
          case measure => simp only [intOf]; have := HLT.out; omega
          case rel =>
            refine ⟨K + 1, by go_num, by have := HLT.out; omega, hid ?_, hid (HB2.out.alloc hbs _ |>.grown hgrow (by simp; omega) (fun k e => (HO2.out.ge k e)))⟩
            rw [HSN.out]
            unfold Owns
            simpa using hown'
        · obtain rfl : K = l.length := by omega
          have HE : Hid (numsL l L = numsL (l.take l.length) L) := hid (by rw [List.take_length])
          clear hlt
          go_wp2_with fail
          go_ret2
          have hr := HO.out
          rw [← HE.out, HLE.out] at hr
          refine ⟨_, ?_, hr, HB.out⟩
          rw [HLE.out]
          rfl

end Go.Proofs.Ytjabklpnohfjpab

/-! MpD -/
set_option linter.unusedVariables false
namespace Go.Proofs.Ytjabklpnohfjpab
open Go.RowKit

theorem cell_below {W wx : World} {b o : Nat} {x : Value} (hb : Below W.heap.size W wx) (h : W.cell? ⟨b, o, none⟩ = some x) : wx.cell? ⟨b, o, none⟩ = some x := cell_block h hb.block
theorem heap_below {W wx : World} {b : Nat} {x : Obj} (hb : Below W.heap.size W wx) (h : W.heap[b]? = some x) : wx.heap[b]? = some x := (hb.block b (Array.getElem?_eq_some_iff.1 h).1).trans h
/-- a move in memory -/
def MvAt (W : World) (bm : Nat) (va : Value) (d : Int) : Prop := W.heap[bm]? = some (.cells #[va, .int .i64 d] 29 (0, 0))
theorem MvAt.keep {W W' : World} {bm : Nat} {va : Value} {d : Int} (h : MvAt W bm va d) (hb : Below W.heap.size W W') : MvAt W' bm va d := heap_below hb h

set_option maxRecDepth 100000 in
set_option maxHeartbeats 4000000 in
theorem mvAt_any (bm : Nat) (va : Value) (R : List (List Int)) (d : Int) (n i j : Nat) (w : World) (hm : MvAt w bm va d) (hR : RdM w va R) (hs : Sq n R) (hi : i < n) (hj : j < n) (hn : n ≤ 100) (bx : B15 (at2 R i j)) (d1 : 1 ≤ d) (d2 : d ≤ 10000) :
    Calls Try.prog 67 #[.pointer (some ⟨bm, 0, none⟩), .int .i64 (i : Int), .int .i64 (j : Int)] w fun e w' => e = .returned (frV (numF (at2 R i j) d) (denF (at2 R i j) d)) ∧ Below w.heap.size w w' := by
  have HFO := hid (fun w => fractionOf_any (at2 R i j) d bx (by unfold B15; omega) (by omega) w)
  obtain ⟨aa, ca, rfl⟩ := hR.form
  obtain ⟨ba, oa, _, rfl, _, _⟩ := hR.row (i := i) (by rw [hs.1]; exact hi)
  obtain ⟨b2, o2, c2, hc1, hc2⟩ := row_cells (m := n) hR (t := i) (by rw [hs.1]; exact hi) (by omega) (hs.2 _ (by rw [List.getD_eq_getElem?_getD, List.getElem?_eq_getElem (by rw [hs.1]; exact hi)]; exact List.getElem_mem _))
  have hc2 := hc2 j hj
  obtain ⟨x, hx⟩ : ∃ x, x = at2 R i j := ⟨_, rfl⟩
  rw [← hx] at hc2 HFO ⊢
  have hn1 : R.length = n := hs.1
  rw [hn1] at hm
  have hbl : Below w.heap.size w (w.alloc (.cells #[.int .i64 0, .int .i64 0] 65)) := below_box2 _ _
  have HM0 := hid hm
  have HC1 := hid (cell_below hbl hc1)
  have HC2 := hid (cell_below hbl hc2)
  have H0 := hid (heap_below hbl hm)
  have H2 : Hid ((w.alloc (.cells #[.int .i64 0, .int .i64 0] 65)).heap[w.heap.size]? = some (.cells #[.int .i64 0, .int .i64 0] 65 (0, 0))) := hid (heap_new rfl)
  have HBL := hid hbl
  have hi2 : (i : Int) < (n : Int) := by omega
  have hj2 : (j : Int) < (n : Int) := by omega
  clear hR hs hc1 hc2 hx hbl hm bx hn1 HM0
  go_enter Try.func67, Try.ntmps67
  go_wp2_with fail
  obtain ⟨W, hW⟩ : ∃ W, W = (w.alloc (.cells #[.int .i64 0, .int .i64 0] 65)).drew := ⟨_, rfl⟩
  replace H0 : Hid (W.heap[bm]? = some (.cells #[.slice (some ⟨ba, oa, none⟩) n ca, .int .i64 d] 29 (0, 0))) := hid (by rw [hW]; exact H0.out)
  replace H2 : Hid (W.heap[w.heap.size]? = some (.cells #[.int .i64 0, .int .i64 0] 65 (0, 0))) := hid (by rw [hW]; exact H2.out)
  replace HC1 : Hid (W.cell? ⟨ba, oa + i, none⟩ = some (.slice (some ⟨b2, o2, none⟩) n c2)) := hid (by rw [hW]; exact HC1.out)
  replace HC2 : Hid (W.cell? ⟨b2, o2 + j, none⟩ = some (.int .i64 x)) := hid (by rw [hW]; exact HC2.out)
  replace HBL : Hid (Below w.heap.size w W) := hid (by rw [hW]; exact below_drewN HBL.out 1)
  have HL0 := hid (Array.getElem?_eq_some_iff.1 H0.out).1
  have HL2 := hid (Array.getElem?_eq_some_iff.1 H2.out).1
  refine region_inv (by kernel_rfl) (fun LB act wx => ∃ (s7 s8 s9 s10 s11 s12 s13 s14 s15 s16 s17 s18 s19 s20 s21 : Value), act = ({ tmps := #[.pointer (some ⟨bm, 0, none⟩), .int .i64 (i : Int), .int .i64 (j : Int), undef, undef, undef, .pointer (some ⟨w.heap.size, 0, none⟩), s7, s8, s9, s10, s11, s12, s13, s14, s15, s16, s17, s18, s19, s20, s21], defers := [] } : Act) ∧ RegI 16 [[], [0], [1], [2], [], [3, 4], [5], [], [6, 7], [8], [], [10], [11], [12], [9, 13], [14]] (W) (fun wy => (wy.setCell ⟨w.heap.size, 0, none⟩ (.int .i64 (numF x d))).setCell ⟨w.heap.size, 1, none⟩ (.int .i64 (denF x d))) [.pointer (some ⟨bm, 0, none⟩), .pointer (some ⟨bm, 0, none⟩), .pointer (some ⟨bm, 0, none⟩), .slice (some ⟨ba, oa, none⟩) n ca, .int .i64 (i : Int), .pointer (some ⟨ba, oa + i, none⟩), .slice (some ⟨b2, o2, none⟩) n c2, .int .i64 (j : Int), .pointer (some ⟨b2, o2 + j, none⟩), .int .i64 x, .pointer (some ⟨bm, 0, none⟩), .pointer (some ⟨bm, 0, none⟩), .pointer (some ⟨bm, 1, none⟩), .int .i64 d, .agg #[.int .i64 (numF x d), .int .i64 (denF x d)], undef] LB wx [s7, s8, s9, s10, s11, s12, s13, s14, s15, s16, s17, s18, s19, s20, s21, undef]) ?h0R ?hendR ?hstepR
  case h0R => exact ⟨undef, undef, undef, undef, undef, undef, undef, undef, undef, undef, undef, undef, undef, undef, undef, rfl, RegI.start rfl rfl hW.symm⟩
  case hstepR =>
    rintro LB act wx i ⟨s7, s8, s9, s10, s11, s12, s13, s14, s15, s16, s17, s18, s19, s20, s21, rfl, I⟩ hi
    obtain ⟨hi1, hf, hdep⟩ := ready_mem hi
    have hi2 : i < 16 := hi1
    have hbw := I.open (by decide) hf hi2
    have hsz := hbw.size
    have HI := hid I
    have HF := hid hf
    have hqH0 := (hbw.block _ HL0.out).trans H0.out
    have cH00 := cellB (i := 0) hqH0
    have cH01 := cellB (i := 1) hqH0
    have HQH0 := hid hqH0
    clear hqH0
    have hqH2 := (hbw.block _ HL2.out).trans H2.out
    have cH20 := cellB (i := 0) hqH2
    have cH21 := cellB (i := 1) hqH2
    have HQH2 := hid hqH2
    clear hqH2
    have y0 := frozenB (i := 0) HQH2.out
    have y1 := frozenB (i := 1) HQH2.out
    have k1 := cell_below hbw HC1.out
    have k2 := cell_below hbw HC2.out
    have HBW := hid hbw
    clear hi hi1 I hf hbw
    have hc : i = 0 ∨ i = 1 ∨ i = 2 ∨ i = 3 ∨ i = 4 ∨ i = 5 ∨ i = 6 ∨ i = 7 ∨ i = 8 ∨ i = 9 ∨ i = 10 ∨ i = 11 ∨ i = 12 ∨ i = 13 ∨ i = 14 ∨ i = 15 := by omega
    clear hi2
    rcases hc with rfl | rfl | rfl | rfl | rfl | rfl | rfl | rfl | rfl | rfl | rfl | rfl | rfl | rfl | rfl | rfl
    · skip
      have hq : ∀ j ∈ ([] : List Nat), dn LB j := fun _ h => absurd h List.not_mem_nil
      clear hdep
      refine wpOp_step rfl (fun K hK => ?_)
      go_simp
      exact hK _ _ ⟨_, _, _, _, _, _, _, _, _, _, _, _, _, _, _, rfl, HI.out.step HF.out (by decide) hq HBW.out rfl (by decide)⟩
    · skip
      have q0 : dn LB 0 := hdep _ rfl { on := 0, ground := .data } (by simp) rfl
      have hq : ∀ j ∈ ([0] : List Nat), dn LB j := List.forall_mem_cons.2 ⟨q0, fun _ h => absurd h List.not_mem_nil⟩
      clear hdep
      obtain rfl : s7 = .pointer (some ⟨bm, 0, none⟩) := HI.out.val 0 q0
      refine wpOp_step rfl (fun K hK => ?_)
      go_simp
      exact hK _ _ ⟨_, _, _, _, _, _, _, _, _, _, _, _, _, _, _, rfl, HI.out.step HF.out (by decide) hq HBW.out rfl (by decide)⟩
    · skip
      have q1 : dn LB 1 := hdep _ rfl { on := 1, ground := .data } (by simp) rfl
      have hq : ∀ j ∈ ([1] : List Nat), dn LB j := List.forall_mem_cons.2 ⟨q1, fun _ h => absurd h List.not_mem_nil⟩
      clear hdep
      obtain rfl : s8 = .pointer (some ⟨bm, 0, none⟩) := HI.out.val 1 q1
      refine wpOp_step rfl (fun K hK => ?_)
      go_simp
      exact hK _ _ ⟨_, _, _, _, _, _, _, _, _, _, _, _, _, _, _, rfl, HI.out.step HF.out (by decide) hq HBW.out rfl (by decide)⟩
    · skip
      have q2 : dn LB 2 := hdep _ rfl { on := 2, ground := .data } (by simp) rfl
      have hq : ∀ j ∈ ([2] : List Nat), dn LB j := List.forall_mem_cons.2 ⟨q2, fun _ h => absurd h List.not_mem_nil⟩
      clear hdep
      obtain rfl : s9 = .pointer (some ⟨bm, 0, none⟩) := HI.out.val 2 q2
      refine wpOp_step rfl (fun K hK => ?_)
      go_simp
      exact hK _ _ ⟨_, _, _, _, _, _, _, _, _, _, _, _, _, _, _, rfl, HI.out.step HF.out (by decide) hq HBW.out rfl (by decide)⟩
    · skip
      have hq : ∀ j ∈ ([] : List Nat), dn LB j := fun _ h => absurd h List.not_mem_nil
      clear hdep
      refine wpOp_step rfl (fun K hK => ?_)
      go_simp
      exact hK _ _ ⟨_, _, _, _, _, _, _, _, _, _, _, _, _, _, _, rfl, HI.out.step HF.out (by decide) hq HBW.out rfl (by decide)⟩
    · skip
      have q3 : dn LB 3 := hdep _ rfl { on := 3, ground := .data } (by simp) rfl
      have q4 : dn LB 4 := hdep _ rfl { on := 4, ground := .data } (by simp) rfl
      have hq : ∀ j ∈ ([3, 4] : List Nat), dn LB j := List.forall_mem_cons.2 ⟨q3, List.forall_mem_cons.2 ⟨q4, fun _ h => absurd h List.not_mem_nil⟩⟩
      clear hdep
      obtain rfl : s10 = .slice (some ⟨ba, oa, none⟩) n ca := HI.out.val 3 q3
      obtain rfl : s11 = .int .i64 (i : Int) := HI.out.val 4 q4
      refine wpOp_step rfl (fun K hK => ?_)
      go_simp
      exact hK _ _ ⟨_, _, _, _, _, _, _, _, _, _, _, _, _, _, _, rfl, HI.out.step HF.out (by decide) hq HBW.out rfl (by decide)⟩
    · skip
      have q5 : dn LB 5 := hdep _ rfl { on := 5, ground := .data } (by simp) rfl
      have hq : ∀ j ∈ ([5] : List Nat), dn LB j := List.forall_mem_cons.2 ⟨q5, fun _ h => absurd h List.not_mem_nil⟩
      clear hdep
      obtain rfl : s12 = .pointer (some ⟨ba, oa + i, none⟩) := HI.out.val 5 q5
      refine wpOp_step rfl (fun K hK => ?_)
      go_simp
      exact hK _ _ ⟨_, _, _, _, _, _, _, _, _, _, _, _, _, _, _, rfl, HI.out.step HF.out (by decide) hq HBW.out rfl (by decide)⟩
    · skip
      have hq : ∀ j ∈ ([] : List Nat), dn LB j := fun _ h => absurd h List.not_mem_nil
      clear hdep
      refine wpOp_step rfl (fun K hK => ?_)
      go_simp
      exact hK _ _ ⟨_, _, _, _, _, _, _, _, _, _, _, _, _, _, _, rfl, HI.out.step HF.out (by decide) hq HBW.out rfl (by decide)⟩
    · skip
      have q6 : dn LB 6 := hdep _ rfl { on := 6, ground := .data } (by simp) rfl
      have q7 : dn LB 7 := hdep _ rfl { on := 7, ground := .data } (by simp) rfl
      have hq : ∀ j ∈ ([6, 7] : List Nat), dn LB j := List.forall_mem_cons.2 ⟨q6, List.forall_mem_cons.2 ⟨q7, fun _ h => absurd h List.not_mem_nil⟩⟩
      clear hdep
      obtain rfl : s13 = .slice (some ⟨b2, o2, none⟩) n c2 := HI.out.val 6 q6
      obtain rfl : s14 = .int .i64 (j : Int) := HI.out.val 7 q7
      refine wpOp_step rfl (fun K hK => ?_)
      go_simp
      exact hK _ _ ⟨_, _, _, _, _, _, _, _, _, _, _, _, _, _, _, rfl, HI.out.step HF.out (by decide) hq HBW.out rfl (by decide)⟩
    · skip
      have q8 : dn LB 8 := hdep _ rfl { on := 8, ground := .data } (by simp) rfl
      have hq : ∀ j ∈ ([8] : List Nat), dn LB j := List.forall_mem_cons.2 ⟨q8, fun _ h => absurd h List.not_mem_nil⟩
      clear hdep
      obtain rfl : s15 = .pointer (some ⟨b2, o2 + j, none⟩) := HI.out.val 8 q8
      refine wpOp_step rfl (fun K hK => ?_)
      go_simp
      exact hK _ _ ⟨_, _, _, _, _, _, _, _, _, _, _, _, _, _, _, rfl, HI.out.step HF.out (by decide) hq HBW.out rfl (by decide)⟩
    · skip
      have hq : ∀ j ∈ ([] : List Nat), dn LB j := fun _ h => absurd h List.not_mem_nil
      clear hdep
      refine wpOp_step rfl (fun K hK => ?_)
      go_simp
      exact hK _ _ ⟨_, _, _, _, _, _, _, _, _, _, _, _, _, _, _, rfl, HI.out.step HF.out (by decide) hq HBW.out rfl (by decide)⟩
    · skip
      have q10 : dn LB 10 := hdep _ rfl { on := 10, ground := .data } (by simp) rfl
      have hq : ∀ j ∈ ([10] : List Nat), dn LB j := List.forall_mem_cons.2 ⟨q10, fun _ h => absurd h List.not_mem_nil⟩
      clear hdep
      obtain rfl : s17 = .pointer (some ⟨bm, 0, none⟩) := HI.out.val 10 q10
      refine wpOp_step rfl (fun K hK => ?_)
      go_simp
      exact hK _ _ ⟨_, _, _, _, _, _, _, _, _, _, _, _, _, _, _, rfl, HI.out.step HF.out (by decide) hq HBW.out rfl (by decide)⟩
    · skip
      have q11 : dn LB 11 := hdep _ rfl { on := 11, ground := .data } (by simp) rfl
      have hq : ∀ j ∈ ([11] : List Nat), dn LB j := List.forall_mem_cons.2 ⟨q11, fun _ h => absurd h List.not_mem_nil⟩
      clear hdep
      obtain rfl : s18 = .pointer (some ⟨bm, 0, none⟩) := HI.out.val 11 q11
      refine wpOp_step rfl (fun K hK => ?_)
      go_simp
      exact hK _ _ ⟨_, _, _, _, _, _, _, _, _, _, _, _, _, _, _, rfl, HI.out.step HF.out (by decide) hq HBW.out rfl (by decide)⟩
    · skip
      have q12 : dn LB 12 := hdep _ rfl { on := 12, ground := .data } (by simp) rfl
      have hq : ∀ j ∈ ([12] : List Nat), dn LB j := List.forall_mem_cons.2 ⟨q12, fun _ h => absurd h List.not_mem_nil⟩
      clear hdep
      obtain rfl : s19 = .pointer (some ⟨bm, 1, none⟩) := HI.out.val 12 q12
      refine wpOp_step rfl (fun K hK => ?_)
      go_simp
      exact hK _ _ ⟨_, _, _, _, _, _, _, _, _, _, _, _, _, _, _, rfl, HI.out.step HF.out (by decide) hq HBW.out rfl (by decide)⟩
    · skip
      have q9 : dn LB 9 := hdep _ rfl { on := 9, ground := .data } (by simp) rfl
      have q13 : dn LB 13 := hdep _ rfl { on := 13, ground := .data } (by simp) rfl
      have hq : ∀ j ∈ ([9, 13] : List Nat), dn LB j := List.forall_mem_cons.2 ⟨q9, List.forall_mem_cons.2 ⟨q13, fun _ h => absurd h List.not_mem_nil⟩⟩
      clear hdep
      obtain rfl : s16 = .int .i64 x := HI.out.val 9 q9
      obtain rfl : s20 = .int .i64 d := HI.out.val 13 q13
      refine wpOp_step rfl (fun K hK => ?_)
      go_simp
      go_at_call 61
      refine (HFO.out _).mono ?_
      rintro e wP ⟨rfl, hbk⟩
      exact hK _ _ ⟨_, _, _, _, _, _, _, _, _, _, _, _, _, _, _, rfl, HI.out.step HF.out (by decide) hq (HBW.out.trans (hbk.mono hsz)) rfl (by decide)⟩
    · skip
      have q14 : dn LB 14 := hdep _ rfl { on := 14, ground := .data } (by simp) rfl
      have hq : ∀ j ∈ ([14] : List Nat), dn LB j := List.forall_mem_cons.2 ⟨q14, fun _ h => absurd h List.not_mem_nil⟩
      clear hdep
      obtain rfl : s21 = .agg #[.int .i64 (numF x d), .int .i64 (denF x d)] := HI.out.val 14 q14
      refine wpOp_step rfl (fun K hK => ?_)
      go_simp
      exact hK _ _ ⟨_, _, _, _, _, _, _, _, _, _, _, _, _, _, _, rfl, HI.out.last HF.out rfl (by decide) hq HBW.out rfl rfl⟩
  case hendR =>
    rintro LB act wx ⟨s7, s8, s9, s10, s11, s12, s13, s14, s15, s16, s17, s18, s19, s20, s21, rfl, I⟩ hrd
    have D := all_done2 I.hs (by kernel_rfl) hrd
    obtain ⟨wy, hby, rfl⟩ := I.he (D 15 (by decide))
    have hq := (hby.block _ HL2.out).trans H2.out
    have HBF := hid (HBL.out.trans (hby.mono HBL.out.size))
    have HQ := hid hq
    clear I D hrd hby hq
    go_wp2_with fail
    refine bodyPost_ret (results_cell_row rfl _ _ w.heap.size 65 #[_, _] (0, 0) _ rfl (heap_two1 (heap_two0 HQ.out)) Try.underlying65 rfl (by kernel_rfl)) rfl ?_
    exact ⟨rfl, (HBF.out.setCell (Nat.le_refl _) _).setCell (Nat.le_refl _) _⟩

end Go.Proofs.Ytjabklpnohfjpab
