/-
  Contracts of the program's fractions: many of them over one denominator.
-/
import Derived.Test.YtacjejnbomdhbabMpB
import Derived.Test.YtacjejnbomdhbabQBun26
set_option linter.unusedVariables false
namespace Go.Proofs.Ytacjejnbomdhbab
open Go.RowKit

def encF (l : List (Int × Int)) : List Value := l.flatMap fun f => [.int .i64 f.1, .int .i64 f.2]
theorem encF_snoc (l : List (Int × Int)) (f : Int × Int) : encF (l ++ [f]) = encF l ++ [.int .i64 f.1, .int .i64 f.2] := by unfold encF; rw [List.flatMap_append]; rfl
theorem encF_len (l : List (Int × Int)) : (encF l).length = l.length * 2 := by
  unfold encF
  induction l with
  | nil => rfl
  | cons f l ih => rw [List.flatMap_cons, List.length_append, ih, List.length_cons]; simp; omega
theorem encF_at : ∀ (l : List (Int × Int)) (i : Nat), i < l.length → (encF l)[i * 2]? = some (.int .i64 (l.getD i (0, 0)).1) ∧ (encF l)[i * 2 + 1]? = some (.int .i64 (l.getD i (0, 0)).2)
  | [], i, h => absurd h (by simp)
  | f :: l, 0, _ => ⟨rfl, rfl⟩
  | f :: l, i + 1, h => by
    have ih := encF_at l i (by simpa using h)
    have e : encF (f :: l) = .int .i64 f.1 :: .int .i64 f.2 :: encF l := rfl
    rw [e, show (i + 1) * 2 = i * 2 + 1 + 1 by omega, List.getElem?_cons_succ, List.getElem?_cons_succ, show i * 2 + 1 + 1 + 1 = (i * 2 + 1) + 1 + 1 by omega, List.getElem?_cons_succ, List.getElem?_cons_succ]
    simpa using ih
/-- a list of fractions of one's own -/
def OwnF (W : World) (B : Nat) (v : Value) (l : List (Int × Int)) : Prop := World.ownsRow W B 65 2 v l.length (encF l)
/-- a list of fractions to be read -/
def RdF (W : World) (v : Value) (l : List (Int × Int)) : Prop := ∃ (g cap : Nat), v = .slice (some ⟨g, 0, none⟩) l.length cap ∧ l.length ≤ maxLen ∧ g < W.heap.size ∧ ∀ i, i < l.length → W.cell? ⟨g, i * 2, none⟩ = some (.int .i64 (l.getD i (0, 0)).1) ∧ W.cell? ⟨g, i * 2 + 1, none⟩ = some (.int .i64 (l.getD i (0, 0)).2)
theorem RdF.keep {W W' : World} {v : Value} {l : List (Int × Int)} (h : RdF W v l) (hb : Below W.heap.size W W') : RdF W' v l := by
  obtain ⟨g, cap, hv, hm, hg, hc⟩ := h
  refine ⟨g, cap, hv, hm, Nat.lt_of_lt_of_le hg hb.size, fun i hi => ?_⟩
  have hq := hb.block g hg
  have e : ∀ o, W'.cell? ⟨g, o, none⟩ = W.cell? ⟨g, o, none⟩ := fun o => by simp [World.cell?, hq]
  rw [e, e]
  exact hc i hi
theorem OwnF.rd {W : World} {B : Nat} {v : Value} {l : List (Int × Int)} (h : OwnF W B v l) (hf : ∃ g n cap, v = .slice (some ⟨g, 0, none⟩) n cap) : RdF W v l := by
  obtain ⟨g, n, cap, rfl⟩ := hf
  obtain ⟨h1, h2⟩ := h
  rcases h2 with ⟨h2, _⟩ | ⟨g', cap', cur, hv, hBg, hcur, hnc, hcm, hst, hfr⟩
  · cases h2
  · cases hv
    have hrow : World.ownsRow W B 65 2 (.slice (some ⟨g, 0, none⟩) l.length cap) l.length (encF l) := ⟨h1, .inr ⟨g, cap, cur, rfl, hBg, hcur, hnc, hcm, hst, hfr⟩⟩
    refine ⟨g, cap, rfl, by omega, (hrow.lt g rfl).2, fun i hi => ?_⟩
    have e := encF_at l i hi
    exact ⟨(hrow.cellAt (i * 2) (by omega)).trans e.1, (hrow.cellAt (i * 2 + 1) (by omega)).trans e.2⟩

theorem lcmL_next {l : List (Int × Int)} {K : Nat} (h : K < l.length) : lcmL (l.take (K + 1)) = lcmI (lcmL (l.take K)) (l.getD K (0, 0)).2 := by
  rw [List.take_succ_eq_append_getElem h, lcmL_snoc, List.getD_eq_getElem?_getD, List.getElem?_eq_getElem h]; rfl
theorem nums_next {l : List (Int × Int)} {K : Nat} {L : Int} (h : K < l.length) : numsL (l.take (K + 1)) L = numsL (l.take K) L ++ [overF (l.getD K (0, 0)).1 (l.getD K (0, 0)).2 L] := by
  unfold numsL
  rw [List.take_succ_eq_append_getElem h, List.map_append, List.getD_eq_getElem?_getD, List.getElem?_eq_getElem h]; rfl
set_option maxRecDepth 100000 in
set_option maxHeartbeats 4000000 in
theorem together_any (v : Value) (l : List (Int × Int)) (Ns : List Int) (D : Int) (w : World) (hv : RdF w v l) (hn : l.length ≤ 9) (h : Frs l Ns D) (h0 : D ≠ 0) (bD : B14 D) (bN : ∀ i, i < l.length → B14 (Ns.getD i 0)) :
    Calls Try.prog 70 #[v] w fun e w' => ∃ u, e = .returned (.tuple #[u, .int .i64 (lcmL l)]) ∧ Owns w' w.heap.size u (numsL l (lcmL l)) ∧ Below w.heap.size w w' := by
  obtain ⟨i0, hi, hz0, hz1, hz2⟩ := info_parts infoInt
  have HV := hid hv
  obtain ⟨g, cap, rfl, hlm, _, _⟩ := hv
  have hall := lcm_all (l := l) (D := D) (fun f hf => by
    obtain ⟨i, hi, rfl⟩ := List.getElem_of_mem hf
    have e := h.2 i hi
    rw [List.getD_eq_getElem?_getD, List.getElem?_eq_getElem hi] at e
    exact ⟨e.pos, e.den⟩)
  have HL : Hid (∀ K, K ≤ l.length → 1 ≤ lcmL (l.take K) ∧ B14 (lcmL (l.take K))) := hid (fun K hK => ⟨(hall K hK).1, b14_dvd (hall K hK).1 (hall K hK).2.1 h0 bD⟩)
  have HF : Hid (∀ K, K < l.length → 1 ≤ (l.getD K (0, 0)).2 ∧ B14 (l.getD K (0, 0)).2 ∧ B14 (l.getD K (0, 0)).1 ∧ B14 (overF (l.getD K (0, 0)).1 (l.getD K (0, 0)).2 (lcmL l))) := hid (fun K hK => by
    have e := h.2 K hK
    have a := hall l.length (Nat.le_refl _)
    rw [List.take_length] at a
    have hm : l.getD K (0, 0) ∈ l := by rw [List.getD_eq_getElem?_getD, List.getElem?_eq_getElem hK]; exact List.getElem_mem _
    exact ⟨e.pos, e.b14d h0 bD, e.b14n h0 (bN K hK), over_bd e (a.2.2 _ hm) a.2.1 h0 (by omega) (bN K hK).1 (bN K hK).2⟩)
  unfold maxLen at hlm
  clear h hall h0 bD bN
  go_enter Try.func70, Try.ntmps70
  go_wp2_with fail
  go_loopw [4, 12] (fun sL si wr => ∃ K : Nat, si = .int .i64 K ∧ K ≤ l.length ∧ sL = .int .i64 (lcmL (l.take K)) ∧ Hid (Below w.heap.size w wr)) (fun _ si _ => l.length - (intOf si).toNat)
  case atStart => exact ⟨0, rfl, by omega, rfl, hid (Below.refl _ _)⟩
  case round =>
    obtain ⟨K, rfl, hK, rfl, HB⟩ := hrel
    rename World => wr
    by_cases hlt : K < l.length
    · obtain ⟨g', cap', e', _, hg, hc⟩ := HV.out.keep HB.out
      cases e'
      obtain ⟨c0, c1⟩ := hc K hlt
      obtain ⟨p1, p2, p3, _⟩ := HF.out K hlt
      obtain ⟨l1, l2⟩ := HL.out K hK
      obtain ⟨m1, m2⟩ := HL.out (K + 1) hlt
      rw [lcmL_next hlt] at m1 m2
      have HN := hid (lcmL_next hlt)
      obtain ⟨a, ha⟩ : ∃ a, a = (l.getD K (0, 0)).1 := ⟨_, rfl⟩
      obtain ⟨b, hb⟩ : ∃ b, b = (l.getD K (0, 0)).2 := ⟨_, rfl⟩
      obtain ⟨L, hL⟩ : ∃ L, L = lcmL (l.take K) := ⟨_, rfl⟩
      rw [← ha] at c0 p3
      rw [← hb] at c1 p1 p2 m1 m2 HN
      rw [← hL] at l1 l2 m1 m2 HN ⊢
      have HM := hid (fun w => multipleOf_any L b l1 p1 l2.b15 p2.b15 m2.b15 w)
      have hKi : (K : Int) < (l.length : Int) := by omega
      have HLT := hid hlt
      clear hc ha hb hL p1 p2 p3 l1 l2 m1 m2 hlt
      go_wp2_with fail
      refine (HM.out _).mono ?_
      rintro e w2 ⟨rfl, k, rfl⟩
      go_wp2_with fail
      go_roundw
      case measure => simp only [intOf]; have := HLT.out; omega
      case rel => exact ⟨K + 1, by go_num, by have := HLT.out; omega, by rw [HN.out], hid (below_drewN (HB.out.trans ((below_box2 _ _).mono HB.out.size)) _)⟩
    · obtain rfl : K = l.length := by omega
      clear hlt
      rw [List.take_length] at *
      have HO0 : Hid (Owns (wr.alloc (.cells #[] 3)) w.heap.size (.slice (some ⟨wr.heap.size, 0, none⟩) 0 0) []) := hid (World.ownsRow_made (size := 1) wr #[] 0 HB.out.size (by unfold maxLen; omega) rfl)
      have HB0 := hid (HB.out.alloc HB.out.size (.cells #[] 3))
      clear HB
      have hL1 := (HL.out l.length (Nat.le_refl _))
      rw [List.take_length] at hL1
      obtain ⟨L, hL⟩ : ∃ L, L = lcmL l := ⟨_, rfl⟩
      rw [← hL] at hL1 HF ⊢
      obtain ⟨l1, l2⟩ := hL1
      have HLE := hid hL
      clear hL HL
      have HBS := hid HB0.out.size
      go_wp2_with fail
      go_loopw [7, 24] (fun so si wq => ∃ K : Nat, si = .int .i64 K ∧ K ≤ l.length ∧ Hid (Owns wq w.heap.size so (numsL (l.take K) L)) ∧ Hid (Below w.heap.size w wq)) (fun _ si _ => l.length - (intOf si).toNat)
      case atStart => exact ⟨0, rfl, by omega, hid (by simpa [numsL] using HO0.out), HB0⟩
      case round =>
        obtain ⟨K, rfl, hK, HO, HB⟩ := hrel
        rename World => wq
        by_cases hlt : K < l.length
        · obtain ⟨g', cap', e', _, hg, hc⟩ := HV.out.keep HB.out
          cases e'
          obtain ⟨c0, c1⟩ := hc K hlt
          obtain ⟨p1, p2, p3, p4⟩ := HF.out K hlt
          have HSN := hid (nums_next (L := L) hlt)
          obtain ⟨a, ha⟩ : ∃ a, a = (l.getD K (0, 0)).1 := ⟨_, rfl⟩
          obtain ⟨b, hb⟩ : ∃ b, b = (l.getD K (0, 0)).2 := ⟨_, rfl⟩
          rw [← ha] at c0 p3 p4 HSN
          rw [← hb] at c1 p1 p2 p4 HSN
          have HM := hid (fun w => over_any a b L p1 p2.b15 p3.b15 l2.b15 p4.b15 w)
          obtain ⟨o, ho⟩ : ∃ o, o = overF a b L := ⟨_, rfl⟩
          rw [← ho] at HM HSN
          obtain ⟨pre, hpre⟩ : ∃ pre, pre = numsL (l.take K) L := ⟨_, rfl⟩
          have hprel : pre.length ≤ 9 := by rw [hpre]; unfold numsL; rw [List.length_map, List.length_take]; omega
          rw [← hpre] at HO HSN
          have hKi : (K : Int) < (l.length : Int) := by omega
          have HLT := hid hlt
          clear hc ha hb ho hpre p1 p2 p3 p4 hlt
          go_wp2_with fail
          refine (HM.out _).mono ?_
          rintro e w2 ⟨rfl, hb2⟩
          have HB2 := hid (HB.out.trans (((below_box2 _ _).trans (hb2.mono (by simp))).mono HB.out.size))
          have HO2 := hid (HO.out.keep HO.out.lt ((below_box2 _ _).trans (hb2.mono (by simp))))
          have hbs := HB2.out.size
          clear hb2
          go_wp2_with (at_builtin; refine wpList_append_own_at _ rfl _ _ 22 rfl w.heap.size 3 i0 (.int .i64 0) 1 8 Try.underlying22 hi hz0 hz1 hz2 rfl (by decide) _ _ _ rfl ((show World.ownsRow _ _ _ _ _ _ _ from HO2.out).alloc _) ⟨w2.heap.size, 0, none⟩ 1 1 [.int .i64 o] rfl rfl (cell_one_new _ _ _) (by simp [Value.oneCell']) (by unfold maxLen; omega) (by omega) (by simp; omega) ?_; intro v' w3 hown' hgrow _ hat)
          have hsg := hgrow.size
          simp only [World.size_alloc] at hsg
          go_roundw
          case measure => simp only [intOf]; have := HLT.out; omega
          case rel =>
            refine ⟨K + 1, by go_num, by have := HLT.out; omega, hid ?_, hid (HB2.out.alloc hbs _ |>.grown hgrow (by simp; omega) (fun k e => (HO2.out.ge k e)))⟩
            rw [HSN.out]
            unfold Owns
            simpa using hown'
        · obtain rfl : K = l.length := by omega
          have HE : Hid (numsL l L = numsL (l.take l.length) L) := hid (by rw [List.take_length])
          clear hlt
          go_wp2_with fail
          go_ret2
          have hr := HO.out
          rw [← HE.out, HLE.out] at hr
          refine ⟨_, ?_, hr, HB.out⟩
          rw [HLE.out]
          rfl

end Go.Proofs.Ytacjejnbomdhbab
