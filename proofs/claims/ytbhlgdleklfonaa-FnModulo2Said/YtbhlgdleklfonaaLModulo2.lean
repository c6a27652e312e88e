/-
  Proves: for every code: what has a zero up to a power has one up to the power before, and up to 27 and 32 the cores vanish at 3 and 2.
  Conditions: none beyond the given statement's own.
-/
import Derived.Test.YtbhlgdleklfonaaDraws11
import Derived.Test.YtbhlgdleklfonaaBun5
import Derived.BigQuiet
import Derived.Maps.AppendAt
import Derived.Test.YtbhlgdleklfonaaBun32
import Derived.Test.YtbhlgdleklfonaaImp4C
import Derived.Test.YtbhlgdleklfonaaRun
import Derived.Test.YtbhlgdleklfonaaOwn2
import Derived.Deep.LoopGhost
import Derived.Deep.RegionHeld3
import Derived.Test.YtbhlgdleklfonaaBun36
import Derived.Test.YtbhlgdleklfonaaVals5b
import Derived.Test.YtbhlgdleklfonaaZm1
import Derived.Deep.QuietTactic
import Derived.Test.YtbhlgdleklfonaaPow32
import Derived.Test.YtbhlgdleklfonaaVecs2
import Derived.Test.YtbhlgdleklfonaaZp6
import Derived.Test.YtbhlgdleklfonaaFmCls
import Derived.Test.YtbhlgdleklfonaaRows
import Derived.Test.YtbhlgdleklfonaaImp4D
import Derived.ProofKit
import Derived.OpenShut
import Derived.ShutString
import Derived.ChangeOld
set_option linter.unusedVariables false
namespace Go.Proofs.Ytbhlgdleklfonaa
open Go.RowKit

theorem Owns.storedAt {W : World} {B g cap n : Nat} {xs : List Int} (h : Owns W B (.slice (some ⟨g, 0, none⟩) n cap) xs) (j : Nat) (x : Int) :
    Owns (W.setCell ⟨g, j, none⟩ (.int .i64 x)) B (.slice (some ⟨g, 0, none⟩) n cap) (xs.set j x) ∧ W.grownBy (W.setCell ⟨g, j, none⟩ (.int .i64 x)) (some g) := by
  have hn : n = xs.length := by
    rcases h.2 with ⟨h3, _⟩ | ⟨g', cap', cur, h3, _⟩
    · cases h3
    · simp only [Value.slice.injEq] at h3; exact h3.2.1
  subst hn
  have h2 := World.ownsRow.stored h j (.int .i64 x)
  refine ⟨?_, h2.2⟩
  unfold Owns
  rw [List.length_set, List.map_set]
  exact h2.1
theorem Owns.frozenAt' {W : World} {B g cap n : Nat} {xs : List Int} (h : Owns W B (.slice (some ⟨g, 0, none⟩) n cap) xs) (j : Nat) : W.frozen? ⟨g, j, none⟩ = false := by
  have hn : n = xs.length := by
    rcases h.2 with ⟨h3, _⟩ | ⟨g', cap', cur, h3, _⟩
    · cases h3
    · simp only [Value.slice.injEq] at h3; exact h3.2.1
  subst hn
  exact World.ownsRow.frozenAt h j
theorem fv_set {xs : List Int} {x : Int} (h : fvB xs = true) (j : Nat) (h0 : x ≠ 0) (h1 : -30 ≤ x) (h2 : x ≤ 30) : fvB (xs.set j x) = true := by
  obtain ⟨a1, a2, a3⟩ := fvB_iff.1 h
  refine fvB_iff.2 ⟨fun y hy => ?_, by rw [List.length_set]; exact a2, by rw [List.length_set]; exact a3⟩
  rcases List.mem_or_eq_of_mem_set hy with h3 | h3
  · exact a1 y h3
  · rw [h3]; exact ⟨h0, h1, h2⟩
theorem fv_terms {xs : List Int} (h : fvB xs = true) : TermsOk xs := by
  obtain ⟨a1, a2, a3⟩ := fvB_iff.1 h
  exact ⟨by omega, fun x hx => by have := a1 x hx; omega⟩
theorem core_bd {n : Int} (hn : n ≠ 0) : coreG n ≠ 0 ∧ (coreG n).natAbs ≤ n.natAbs := by
  have hc := core_is hn
  refine ⟨hc.ne hn, ?_⟩
  have e : n.natAbs = (coreG n).natAbs * (rootG n * rootG n) := by
    conv => lhs; rw [← hc.eq]
    rw [Int.natAbs_mul, Int.natAbs_mul, Int.natAbs_natCast]
  have := Nat.le_mul_of_pos_right (coreG n).natAbs (Nat.mul_pos hc.pos hc.pos)
  omega
def SamePost (w : World) (B R : Nat) (v : Value) (n p : Nat) (e : Ending) (w' : World) : Prop :=
  ∃ (u : Value) (ys : List Int) (q : Nat), e = .returned u ∧ fvB ys = true ∧ Hid (Owns w' w.heap.size u ys) ∧ q ≤ p + 4 ∧ Hid (Rdr w' B R v n q) ∧ Hid (Only R w w')
theorem SamePost.mk {w : World} {B R : Nat} {v : Value} {n p q : Nat} {u : Value} {ys : List Int} {w' : World} (h : fvB ys = true) (ho : Owns w' w.heap.size u ys) (hq : q ≤ p + 4) (hr : Rdr w' B R v n q) (hn : Only R w w') : SamePost w B R v n p (.returned u) w' :=
  ⟨u, ys, q, rfl, h, hid ho, hq, hid hr, hid hn⟩


end Go.Proofs.Ytbhlgdleklfonaa

set_option linter.unusedVariables false
namespace Go.Proofs.Ytbhlgdleklfonaa
open Go.RowKit

def TwoPost (w : World) (B R : Nat) (v : Value) (n p : Nat) (e : Ending) (w' : World) : Prop :=
  ∃ (u u2 : Value) (xs ys : List Int), e = .returned (.tuple #[u, u2]) ∧ TermsOk xs ∧ TermsOk ys ∧ Hid (Owns w' w.heap.size u xs) ∧ Hid (Rd w' u2 ys) ∧ Firm u2 ∧ Hid (Only R w w')
theorem TwoPost.mk {w : World} {B R : Nat} {v : Value} {n p : Nat} {u u2 : Value} {xs ys : List Int} {w' : World} (h : TermsOk xs) (h2 : TermsOk ys) (ho : Owns w' w.heap.size u xs) (hr : Rd w' u2 ys) (hf : Firm u2) (hn : Only R w w') : TwoPost w B R v n p (.returned (.tuple #[u, u2])) w' :=
  ⟨u, u2, xs, ys, rfl, h, h2, hid ho, hid hr, hf, hid hn⟩



end Go.Proofs.Ytbhlgdleklfonaa

/-! Marks -/
set_option linter.unusedVariables false
namespace Go.Proofs.Ytbhlgdleklfonaa
open Go.RowKit

theorem all_eq_of {xs ys : List Int} (hl : xs.length = ys.length) (h : ∀ j, j < xs.length → xs.getD j 0 = ys.getD j 0) : xs = ys := by
  refine List.ext_getElem hl fun j h1 h2 => ?_
  have := h j h1
  simpa [List.getD, List.getElem?_eq_getElem h1, List.getElem?_eq_getElem h2] using this

theorem eqs_len {a b : Int} (h : a ≠ b) : (a != b) = true := by rw [bne_iff_ne]; exact h
theorem eqs_same {a b : Int} (h : a = b) : (a != b) = false := by rw [h]; simp

/-- k, k + 1, .. -/
def marksL (k : Int) (n : Nat) : List Int := (List.range n).map (fun (i : Nat) => k + (i : Int))
theorem marksL_len (k : Int) (n : Nat) : (marksL k n).length = n := by simp [marksL]
theorem marksL_get (k : Int) (n i : Nat) (h : i < n) : (marksL k n).getD i 0 = k + i := by simp [marksL, List.getD, h]

/-- the first i numbers are marked -/
def halfL (k : Int) (i : Nat) (xs : List Int) : List Int := marksL k i ++ xs.drop i
theorem halfL_len (k : Int) (i : Nat) (xs : List Int) (h : i ≤ xs.length) : (halfL k i xs).length = xs.length := by simp [halfL, marksL_len]; omega
theorem halfL_step (k : Int) (i : Nat) (xs : List Int) (h : i < xs.length) : (halfL k i xs).set i (k + i) = halfL k (i + 1) xs := by
  unfold halfL
  rw [List.set_append_right _ _ (by simp [marksL_len]), marksL_len, Nat.sub_self, List.drop_eq_getElem_cons h, List.set_cons_zero]
  simp [marksL, List.range_succ]
theorem halfL_end (k : Int) (xs : List Int) : halfL k xs.length xs = marksL k xs.length := by simp [halfL]

end Go.Proofs.Ytbhlgdleklfonaa

/-! Same -/
set_option linter.unusedVariables false
namespace Go.Proofs.Ytbhlgdleklfonaa
open Go.RowKit

set_option maxHeartbeats 1000000 in
theorem sameInts_any (v u : Value) (xs ys : List Int) (w : World) (hx : Rd w v xs) (hy : Rd w u ys) :
    Calls Try.prog 21 #[v, u] w fun e w' => e = .returned (.bool (decide (xs = ys))) ∧ ∃ k, w' = w.drewN k := by
  have form : ∀ {z : Value} {zs : List Int}, Rd w z zs → ∃ a cap, z = .slice a zs.length cap ∧ zs.length ≤ maxLen := by
    rintro z zs (⟨a, cap, rfl, rfl⟩ | ⟨b, o, cap, rfl, _, hm, _⟩)
    · exact ⟨a, cap, rfl, by simp⟩
    · exact ⟨_, _, rfl, hm⟩
  by_cases hl : xs.length = ys.length
  · rcases hx with ⟨a, cap, rfl, rfl⟩ | ⟨b, o, cap, rfl, hp, hm, hcx⟩
    · obtain ⟨a', cap', rfl, _⟩ := form hy
      have e : ys = [] := List.length_eq_zero_iff.1 hl.symm
      have HD : Hid (decide (([] : List Int) = ys) = true) := by show _ = _; rw [e]; rfl
      have HL : ys.length = 0 := hl.symm
      rw [HL]
      clear e hl HL hy
      go_enter Try.func21, Try.ntmps21
      go_wp2
      go_loop [5] (fun i => i = .int .i64 0) (fun _ => 0)
      case atStart => rfl
      case round =>
        obtain rfl := hrel
        go_wp2
        go_ret
        exact ⟨retB (by first | exact HD.out.symm | (rw [eq_comm]; exact HD.out.symm) | (have h := HD.out; simp at h; simp [← h])), 0, rfl⟩
    · rcases hy with ⟨a', cap', rfl, rfl⟩ | ⟨b', o', cap', rfl, _, _, hcy⟩
      · exact absurd hl (by simp; intro e; rw [e] at hp; simp at hp)
      · have T : ((xs.length : Int) != ys.length) = false := eqs_same (by omega)
        unfold maxLen at hm
        have HX := hid hcx
        have HY := hid hcy
        have HL := hid hl
        clear hcx hcy
        go_enter Try.func21, Try.ntmps21
        rw [← hl] at T ⊢
        clear hl
        go_wp2
        go_loopw [5] (fun i wr => ∃ K k : Nat, i = .int .i64 K ∧ K ≤ xs.length ∧ Hid (∀ j, j < K → xs.getD j 0 = ys.getD j 0) ∧ wr = w.drewN k) (fun i _ => xs.length - (intOf i).toNat)
        case atStart => exact ⟨0, 0, rfl, by omega, hid (by omega), rfl⟩
        case round =>
          obtain ⟨K, k, rfl, hK, HE, rfl⟩ := hrel
          by_cases hlt : K < xs.length
          · obtain ⟨x, hx⟩ : ∃ x, x = xs.getD K 0 := ⟨_, rfl⟩
            obtain ⟨y, hy⟩ : ∃ y, y = ys.getD K 0 := ⟨_, rfl⟩
            have c1 := HX.out K hlt
            have c2 := HY.out K (by have := HL.out; omega)
            rw [← hx] at c1
            rw [← hy] at c2
            have Hx := hid hx
            have Hy := hid hy
            clear hx hy
            have hi : (K : Int) < (xs.length : Int) := by omega
            by_cases hxy : x = y
            · have T2 : (x != y) = false := eqs_same hxy
              have HXY := hid hxy
              clear hxy
              go_wp2
              go_quiet (fail)
              go_wp2
              go_roundw
              case rel =>
                exact ⟨K + 1, _, by go_num, by omega, hid (by intro j hj; by_cases e : j = K; (· rw [e, ← Hx.out, ← Hy.out, HXY.out]); (· exact HE.out j (by omega))), by first | rfl | exact World.drewN_drewN ..⟩
              case measure => simp only [intOf]; omega
            · have T2 : (x != y) = true := eqs_len hxy
              have HXY := hid hxy
              clear hxy
              go_wp2
              go_quiet (fail)
              go_wp2
              go_ret
              refine ⟨retB (decide_eq_false fun e => HXY.out ?_).symm, _, by first | rfl | exact World.drewN_drewN ..⟩
              rw [Hx.out, Hy.out, e]
          · go_wp2
            go_ret
            refine ⟨retB (decide_eq_true (all_eq_of HL.out fun j hj => HE.out j (by omega))).symm, _, rfl⟩
  · obtain ⟨a, cap, rfl, m1⟩ := form hx
    obtain ⟨a', cap', rfl, m2⟩ := form hy
    have T : ((xs.length : Int) != ys.length) = true := eqs_len (by omega)
    have HD : Hid (decide (xs = ys) = false) := hid (decide_eq_false fun e => hl (by rw [e]))
    clear hl hx hy
    go_enter Try.func21, Try.ntmps21
    go_wp2
    go_ret
    exact ⟨retB HD.out.symm, 0, rfl⟩

theorem rd_one {w : World} {k : Nat} (x : Int) (h : w.cell? ⟨k, 0, none⟩ = some (.int .i64 x)) : Rd w (.slice (some ⟨k, 0, none⟩) 1 1) [x] := by
  right
  refine ⟨k, 0, 1, rfl, by simp, by unfold maxLen; simp, fun i hi => ?_⟩
  obtain rfl : i = 0 := by simp at hi; exact hi
  simpa using h

end Go.Proofs.Ytbhlgdleklfonaa

/-! LawKit -/
set_option linter.unusedVariables false
namespace Go.Proofs.Ytbhlgdleklfonaa
open Go.RowKit

theorem sizeOf_any (n : Int) (h1 : -1000000000000000 ≤ n) (h2 : n ≤ 1000000000000000) (w : World) : Calls Try.prog 26 #[.int .i64 n] w fun e w' => e = .returned (.int .i64 (n.natAbs : Nat)) ∧ w = w' := by
  by_cases h : n < 0
  · have hm : max n (-n) = ((n.natAbs : Nat) : Int) := by omega
    have hm2 : max n (0 - n) = ((n.natAbs : Nat) : Int) := by omega
    go_enter Try.func26, Try.ntmps26
    go_wp2
    go_ret
    exact ⟨retI (by omega), rfl⟩
  · go_enter Try.func26, Try.ntmps26
    go_wp2
    go_ret
    exact ⟨retI (by omega), rfl⟩

end Go.Proofs.Ytbhlgdleklfonaa

/-! LawFm -/
set_option linter.unusedVariables false
namespace Go.Proofs.Ytbhlgdleklfonaa
open Go.RowKit

def MildT (xs : List Int) : Prop := xs.length ≤ 1000 ∧ ∀ x ∈ xs, -1000000 ≤ x ∧ x ≤ 1000000
theorem TermsOk.mild {xs : List Int} (h : TermsOk xs) : MildT xs := ⟨by have := h.1; omega, fun x hx => by have := h.2 x hx; omega⟩
theorem VecGood.mild {m : Nat} {xs : List Int} (h : VecGood m xs) (hm : m ≤ 10) : MildT xs := ⟨by have := h.1; omega, fun x hx => by have := h.2 x hx; omega⟩
theorem MildT.at {xs : List Int} (h : MildT xs) {i : Nat} (hi : i < xs.length) : -1000000 ≤ xs.getD i 0 ∧ xs.getD i 0 ≤ 1000000 := by
  rw [getD_at _ _ hi]; exact h.2 _ (List.getElem_mem _)

set_option maxRecDepth 100000 in
set_option maxHeartbeats 2000000 in
theorem minusOf_any (v : Value) (xs : List Int) (w : World) (h : Rd w v xs) (hf : MildT xs) :
    Calls Try.prog 16 #[v] w fun e w' => ∃ u, e = .returned u ∧ Owns w' w.heap.size u (xs.map (fun x => -x)) ∧ Below w.heap.size w w' := by
  obtain ⟨i0, hi, hz0, hz1, hz2⟩ := info_parts infoInt
  have HB0 := hid ((Below.refl w.heap.size w).alloc (Nat.le_refl _) (.cells #[] 3))
  have HO0 : Hid (Owns (w.alloc (.cells #[] 3)) w.heap.size (.slice (some ⟨w.heap.size, 0, none⟩) 0 0) []) := hid (World.ownsRow_made (size := 1) w #[] 0 (Nat.le_refl _) (by unfold maxLen; omega) rfl)
  have HH := hid h
  obtain ⟨ad, cap, rfl, _⟩ := h.form
  have HF := hid hf
  have hl4 := hf.1
  clear h hf
  go_enter Try.func16, Try.ntmps16
  go_wp2_with fail
  go_loopw [3, 4] (fun so si wr => ∃ K : Nat, si = .int .i64 K ∧ K ≤ xs.length ∧ Hid (Owns wr w.heap.size so ((xs.take K).map (fun x => -x))) ∧ Hid (Below w.heap.size w wr)) (fun _ si _ => xs.length - (intOf si).toNat)
  case atStart => exact ⟨0, rfl, by omega, hid (by simpa using HO0.out), HB0⟩
  case round =>
    obtain ⟨K, rfl, hK, HO, HB⟩ := hrel
    rename World => wr
    by_cases hlt : K < xs.length
    · obtain ⟨a2, cap2, e2, hform⟩ := (HH.out.keep HB.out).form
      cases e2
      obtain ⟨bb, o, rfl, hml, hc⟩ := hform (by omega)
      have hcell := hc K hlt
      have ht := HF.out.at hlt
      obtain ⟨x, hx⟩ : ∃ x, x = xs.getD K 0 := ⟨_, rfl⟩
      rw [← hx] at hcell ht
      have HS : Hid ((xs.take (K + 1)).map (fun x => -x) = (xs.take K).map (fun x => -x) ++ [-x]) := hid (by rw [map_take hlt, hx])
      have hi0 : (K : Int) < (xs.length : Int) := by omega
      have HLT := hid hlt
      obtain ⟨pre, hpre⟩ : ∃ pre, pre = (xs.take K).map (fun x => -x) := ⟨_, rfl⟩
      have hprel : pre.length ≤ 1000 := by rw [hpre, List.length_map, List.length_take]; omega
      rw [← hpre] at HO HS
      have hbs : w.heap.size ≤ wr.heap.size := HB.out.size
      unfold maxLen at hml
      clear hform hc hx hlt hpre
      go_wp2_with (at_builtin; refine wpList_append_own_at _ rfl _ _ 23 rfl w.heap.size 3 i0 (.int .i64 0) 1 8 Try.underlying23 hi hz0 hz1 hz2 rfl (by decide) _ _ _ rfl ((show World.ownsRow _ _ _ _ _ _ _ from HO.out).alloc _) ⟨wr.heap.size, 0, none⟩ 1 1 [.int .i64 (-x)] rfl rfl (cell_one_new _ _ _) (by simp [Value.oneCell']) (by unfold maxLen; omega) (by omega) (by simp; omega) ?_; intro v' w3 hown' hgrow _ hat)
      have hsg := hgrow.size
      simp only [World.size_alloc] at hsg
      go_roundw
      case measure => simp only [intOf]; have := HLT.out; omega
      case rel =>
        refine ⟨K + 1, by go_num, by have := HLT.out; omega, hid ?_, hid (HB.out.alloc hbs _ |>.grown hgrow (by simp; omega) (fun k e => (HO.out.ge k e)))⟩
        rw [HS.out]
        unfold Owns
        simpa using hown'
    · obtain rfl : K = xs.length := by omega
      have HE : Hid (xs.map (fun x => -x) = (xs.take xs.length).map (fun x => -x)) := hid (by rw [List.take_length])
      clear hlt
      go_wp2_with fail
      go_ret
      exact ⟨_, rfl, by rw [HE.out]; exact HO.out, HB.out⟩


end Go.Proofs.Ytbhlgdleklfonaa

/-! LawFm2 -/
set_option linter.unusedVariables false
namespace Go.Proofs.Ytbhlgdleklfonaa
open Go.RowKit

def sg (xs : List Int) : Int := (xs.length : Int) - 2 * (lessN xs : Int)
theorem signs_yes {xs : List Int} (h : fvB xs = true) : signsV xs = .tuple #[.int .i64 (sg xs), .bool true] := by unfold signsV; rw [h]; rfl
theorem signs_no {xs : List Int} (h : fvB xs = false) : signsV xs = .tuple #[.int .i64 0, .bool false] := by unfold signsV; rw [h]; rfl
theorem fv_neg {xs : List Int} (h : fvB xs = true) : fvB (xs.map (fun x => -x)) = true := by
  obtain ⟨h1, h2, h3⟩ := fvB_iff.1 h
  refine fvB_iff.2 ⟨fun y hy => ?_, by rw [List.length_map]; exact h2, by rw [List.length_map]; exact h3⟩
  obtain ⟨x, hx, rfl⟩ := List.mem_map.1 hy
  have := h1 x hx
  omega
theorem less_neg : ∀ {xs : List Int}, NZ xs → lessN (xs.map (fun x => -x)) + lessN xs = xs.length
  | [], _ => rfl
  | x :: xs, h => by
    have ih := less_neg h.tail
    have hx := h.head
    unfold lessN at ih ⊢
    rw [List.map_cons, List.filter_cons, List.filter_cons, List.length_cons]
    by_cases e : x < 0
    · rw [decide_eq_true e, decide_eq_false (show ¬ -x < 0 by omega), if_neg (by decide), if_pos rfl, List.length_cons]; omega
    · rw [decide_eq_false e, decide_eq_true (show -x < 0 by omega), if_pos rfl, if_neg (by decide), List.length_cons]; omega
theorem fv_take {xs : List Int} (h : fvB xs = true) {k : Nat} (h1 : 1 ≤ k) (h2 : k ≤ xs.length) : fvB (xs.take k) = true := by
  obtain ⟨a1, a2, a3⟩ := fvB_iff.1 h
  exact fvB_iff.2 ⟨fun x hx => a1 x (List.mem_of_mem_take hx), by rw [List.length_take]; omega, by rw [List.length_take]; omega⟩
theorem fv_drop {xs : List Int} (h : fvB xs = true) {k : Nat} (h2 : k < xs.length) : fvB (xs.drop k) = true := by
  obtain ⟨a1, a2, a3⟩ := fvB_iff.1 h
  exact fvB_iff.2 ⟨fun x hx => a1 x (List.mem_of_mem_drop hx), by rw [List.length_drop]; omega, by rw [List.length_drop]; omega⟩
theorem less_split (xs : List Int) (k : Nat) : lessN (xs.take k) + lessN (xs.drop k) = lessN xs := by
  rw [← less_app, List.take_append_drop]

theorem sg_neg {xs : List Int} (h : fvB xs = true) : sg (xs.map (fun x => -x)) = -(sg xs) := by
  have := less_neg (fv_nz h)
  unfold sg
  rw [List.length_map]
  omega
theorem sg_split (xs : List Int) (k : Nat) : sg (xs.take k) + sg (xs.drop k) = sg xs := by
  have h1 := less_split xs k
  have h2 : (xs.take k).length + (xs.drop k).length = xs.length := by rw [← List.length_append, List.take_append_drop]
  unfold sg
  omega
theorem sg_bd (xs : List Int) : -(xs.length : Int) ≤ sg xs ∧ sg xs ≤ xs.length ∧ ((xs.length : Int) - sg xs) % 2 = 0 := by
  have := less_le xs
  unfold sg
  omega
theorem sg_one {x : Int} : sg [x] = if x < 0 then -1 else 1 := by
  unfold sg lessN
  by_cases h : x < 0
  · rw [if_pos h, List.filter_cons, decide_eq_true h, if_pos rfl]; rfl
  · rw [if_neg h, List.filter_cons, decide_eq_false h, if_neg (by decide)]; rfl

theorem sg_app (xs ys : List Int) : sg (xs ++ ys) = sg xs + sg ys := by
  unfold sg
  rw [less_app, List.length_append]
  omega
theorem join_yes {a b : List Int} (h : joinOk a b = true) : fvB a = true ∧ fvB b = true ∧ fvB (a ++ b) = true ∧ joinL a b = a ++ b := by
  have h2 := h
  unfold joinOk at h
  rw [Bool.and_eq_true, Bool.and_eq_true] at h
  exact ⟨h.1, h.2.1, h.2.2, by unfold joinL; rw [h2]; rfl⟩
theorem join_no {a b : List Int} (h : joinOk a b = false) : joinL a b = [] := by unfold joinL; rw [h]; rfl
theorem fv_perm {a b : List Int} (hp : a.Perm b) (h : fvB a = true) : fvB b = true := by
  obtain ⟨h1, h2, h3⟩ := fvB_iff.1 h
  exact fvB_iff.2 ⟨fun x hx => h1 x (hp.mem_iff.2 hx), by rw [← hp.length_eq]; exact h2, by rw [← hp.length_eq]; exact h3⟩
theorem join_comm {a b : List Int} (h : joinOk a b = true) : joinOk b a = true := by
  obtain ⟨h1, h2, h3, _⟩ := join_yes h
  unfold joinOk
  rw [h1, h2, fv_perm List.perm_append_comm h3]
  rfl
theorem disc_yes {a : List Int} (h : fvB a = true) : discV a = coreG (prodI a) := by unfold discV; rw [h]; rfl
theorem disc_perm {a b : List Int} (hp : a.Perm b) (h : fvB a = true) : discV a = discV b := by
  rw [disc_yes h, disc_yes (fv_perm hp h), prodI_perm hp]
theorem below_dn {w w' : World} {B k : Nat} (h : Below B w w') : Below B w (w'.drewN k) := below_drewN h k

end Go.Proofs.Ytbhlgdleklfonaa

set_option linter.unusedVariables false
namespace Go.Proofs.Ytbhlgdleklfonaa
open Go.RowKit

theorem coreG_bd {n B : Int} (h0 : n ≠ 0) (h1 : -B ≤ n) (h2 : n ≤ B) : -B ≤ coreG n ∧ coreG n ≤ B := by
  have hcb := core_is h0
  have e : n.natAbs = (coreG n).natAbs * (rootG n * rootG n) := by
    conv => lhs; rw [← hcb.eq]
    rw [Int.natAbs_mul, Int.natAbs_mul, Int.natAbs_natCast]
  have := Nat.le_mul_of_pos_right (coreG n).natAbs (Nat.mul_pos hcb.pos hcb.pos)
  omega

set_option maxRecDepth 100000 in
set_option maxHeartbeats 2000000 in
theorem coresTimes_any (v : Value) (xs : List Int) (n : Int) (n0 : n ≠ 0) (n1 : -5000 ≤ n) (n2 : n ≤ 5000) (w : World) (h : Rd w v xs) (hf : fvB xs = true) :
    Calls Try.prog 96 #[v, .int .i64 n] w fun e w' => ∃ u, e = .returned u ∧ Owns w' w.heap.size u (timesL xs n) ∧ Below w.heap.size w w' := by
  obtain ⟨i0, hi, hz0, hz1, hz2⟩ := info_parts infoInt
  have HB0 := hid ((Below.refl w.heap.size w).alloc (Nat.le_refl _) (.cells #[] 3))
  have HO0 : Hid (Owns (w.alloc (.cells #[] 3)) w.heap.size (.slice (some ⟨w.heap.size, 0, none⟩) 0 0) []) := hid (World.ownsRow_made (size := 1) w #[] 0 (Nat.le_refl _) (by unfold maxLen; omega) rfl)
  have HH := hid h
  obtain ⟨ad, cap, rfl, _⟩ := h.form
  have HF := hid hf
  have HN := hid n0
  have hl4 := (fvB_iff.1 hf).2.2
  clear h hf n0
  go_enter Try.func96, Try.ntmps96
  go_wp2_with fail
  go_loopw [5, 13] (fun so si wr => ∃ K : Nat, si = .int .i64 K ∧ K ≤ xs.length ∧ Hid (Owns wr w.heap.size so ((xs.take K).map (fun x => coreG (n * x)))) ∧ Hid (Below w.heap.size w wr)) (fun _ si _ => xs.length - (intOf si).toNat)
  case atStart => exact ⟨0, rfl, by omega, hid (by simpa using HO0.out), HB0⟩
  case round =>
    obtain ⟨K, rfl, hK, HO, HB⟩ := hrel
    rename World => wr
    by_cases hlt : K < xs.length
    · obtain ⟨a2, cap2, e2, hform⟩ := (HH.out.keep HB.out).form
      cases e2
      obtain ⟨bb, o, rfl, hml, hc⟩ := hform (by omega)
      have hcell := hc K hlt
      have ht := fv_at HF.out hlt
      obtain ⟨x, hx⟩ : ∃ x, x = xs.getD K 0 := ⟨_, rfl⟩
      rw [← hx] at hcell ht
      have hm : (x * n).natAbs ≤ 30 * 5000 := by rw [Int.natAbs_mul]; exact Nat.mul_le_mul (by omega) (by omega)
      have m1 : -150000 ≤ x * n := by omega
      have m2 : x * n ≤ 150000 := by omega
      have HNX := hid (Int.mul_ne_zero ht.1 HN.out)
      have HS : Hid ((xs.take (K + 1)).map (fun x => coreG (n * x)) = (xs.take K).map (fun x => coreG (n * x)) ++ [coreG (x * n)]) := hid (by rw [map_take hlt, hx, Int.mul_comm])
      have hi0 : (K : Int) < (xs.length : Int) := by omega
      have HLT := hid hlt
      obtain ⟨pre, hpre⟩ : ∃ pre, pre = (xs.take K).map (fun x => coreG (n * x)) := ⟨_, rfl⟩
      have hprel : pre.length ≤ 4 := by rw [hpre, List.length_map, List.length_take]; omega
      rw [← hpre] at HO HS
      have hbs : w.heap.size ≤ wr.heap.size := HB.out.size
      have hcbd := coreG_bd HNX.out m1 m2
      obtain ⟨c, hce⟩ : ∃ c, c = coreG (x * n) := ⟨_, rfl⟩
      have HCE : Hid (coreG (x * n) = c) := hid hce.symm
      rw [← hce] at HS hcbd
      have c1 := hcbd.1
      have c2 := hcbd.2
      unfold maxLen at hml
      clear hform hc hx ht hm hlt hpre hce hcbd
      go_wp2_with fail
      refine (numCore_any (x * n) HNX.out (by omega) (by omega) _).mono ?_
      rw [HCE.out]
      rintro e w' ⟨rfl, hb⟩
      rename World => wq
      have HOq := hid (HO.out.keep HO.out.lt hb)
      have HBq := hid (HB.out.trans (hb.mono HB.out.size))
      have hbq : w.heap.size ≤ wq.heap.size := HBq.out.size
      clear hb
      go_wp2_with (at_builtin; refine wpList_append_own_at _ rfl _ _ 23 rfl w.heap.size 3 i0 (.int .i64 0) 1 8 Try.underlying23 hi hz0 hz1 hz2 rfl (by decide) _ _ _ rfl ((show World.ownsRow _ _ _ _ _ _ _ from HOq.out).alloc _) ⟨wq.heap.size, 0, none⟩ 1 1 [.int .i64 c] rfl rfl (cell_one_new _ _ _) (by simp [Value.oneCell']) (by unfold maxLen; omega) (by omega) (by simp; omega) ?_; intro v' w3 hown' hgrow _ hat)
      have hsg := hgrow.size
      simp only [World.size_alloc] at hsg
      go_roundw
      case measure => simp only [intOf]; have := HLT.out; omega
      case rel =>
        refine ⟨K + 1, by go_num, by have := HLT.out; omega, hid ?_, hid (HBq.out.alloc hbq _ |>.grown hgrow (by simp; omega) (fun k e => (HOq.out.ge k e)))⟩
        rw [HS.out]
        unfold Owns
        simpa using hown'
    · obtain rfl : K = xs.length := by omega
      have HE : Hid (timesL xs n = (xs.take xs.length).map (fun x => coreG (n * x))) := hid (by rw [List.take_length]; rfl)
      clear hlt
      go_wp2_with fail
      go_ret
      exact ⟨_, rfl, by rw [HE.out]; exact HO.out, HB.out⟩

theorem formCores_any (v : Value) (xs : List Int) (w : World) (h : Rd w v xs) (hl : xs.length ≤ 1048576) : Calls Try.prog 41 #[v] w fun e w' => ∃ u, e = .returned (.tuple #[u, .bool (fvB xs)]) ∧ Owns w' w.heap.size u (fcoresL xs) ∧ Below w.heap.size w w' := by
  have HH := hid h
  cases hf : fvB xs with
  | false =>
    have HR : Hid (fcoresL xs = []) := hid (by unfold fcoresL; rw [hf]; rfl)
    have HF := hid hf
    clear hf h
    go_enter Try.func41, Try.ntmps41
    go_wp2_with fail
    refine (formValidP_any _ xs _ HH.out).mono ?_
    rw [HF.out]
    rintro e w' ⟨rfl, rfl⟩
    go_wp2_with fail
    go_ret2
    exact ⟨_, rfl, by rw [HR.out]; exact World.ownsRow_made (size := 1) w #[] 0 (Nat.le_refl _) (by unfold maxLen; omega) rfl, (Below.refl _ _).alloc (Nat.le_refl _) _⟩
  | true =>
    have HR : Hid (fcoresL xs = timesL xs 1) := hid (by unfold fcoresL; rw [hf]; rfl)
    have HF := hid hf
    clear hf h
    go_enter Try.func41, Try.ntmps41
    go_wp2_with fail
    refine (formValidP_any _ xs _ HH.out).mono ?_
    rw [HF.out]
    rintro e w' ⟨rfl, rfl⟩
    go_wp2_with fail
    refine (coresTimes_any _ xs 1 (by decide) (by decide) (by decide) _ HH.out HF.out).mono ?_
    rintro e w' ⟨u, rfl, ho, hb⟩
    go_wp2_with fail
    go_ret2
    exact ⟨_, rfl, by rw [HR.out]; exact ho, hb⟩


theorem placesG_short (n : Int) : (placesG n).length ≤ n.natAbs + 3 := by
  have h : placesG n = plcs ((ppowG n.natAbs).map (·.1)) := by unfold plcs placesG; rw [plistG_eq]
  have h1 := plcs_len ((ppowG n.natAbs).map (·.1))
  have h2 := ppowG_len n.natAbs
  rw [List.length_map] at h1
  rw [h]
  omega

theorem Owns.beside {W W' : World} {B m : Nat} {v : Value} {xs : List Int} (h : Owns W B v xs) (hb : Beside m W W') (hne : v.ownBlock ≠ some m) : Owns W' B v xs := by
  have hlt := h.lt
  obtain ⟨h1, h2⟩ := h
  refine ⟨h1, ?_⟩
  rcases h2 with h2 | ⟨g, cap, cur, hv, hg, hh, r⟩
  · exact .inl h2
  · exact .inr ⟨g, cap, cur, hv, hg, by rw [hb.2 g (hlt g (by rw [hv]; rfl)) (fun e => hne (by rw [hv, ← e]; rfl))]; exact hh, r⟩

set_option maxRecDepth 100000 in
set_option maxHeartbeats 4000000 in
theorem formBad_any (v : Value) (xs : List Int) (w : World) (h : Rd w v xs) (hl : xs.length ≤ 1048576) : Calls Try.prog 15 #[v] w fun e w' => ∃ u, e = .returned u ∧ Owns w' w.heap.size u (badL xs) ∧ Below w.heap.size w w' := by
  obtain ⟨i0, hi, hz0, hz1, hz2⟩ := info_parts infoInt
  have HB0 := hid ((Below.refl w.heap.size w).alloc (Nat.le_refl _) (.cells #[] 3))
  have HO0 : Hid (Owns (w.alloc (.cells #[] 3)) w.heap.size (.slice (some ⟨w.heap.size, 0, none⟩) 0 0) []) := hid (World.ownsRow_made (size := 1) w #[] 0 (Nat.le_refl _) (by unfold maxLen; omega) rfl)
  have HH := hid h
  have HH1 := hid (h.keep (w' := w.alloc (.cells #[] 3)) HB0.out)
  have HP : Hid (badL xs = (fplL xs).filter (fun q => !vanB xs q)) := rfl
  cases hf : fvB xs with
  | false =>
    have HF := hid hf
    have HR : Hid (badL xs = []) := hid (by rw [HP.out]; unfold fplL; rw [hf]; rfl)
    clear hf h
    go_enter Try.func15, Try.ntmps15
    go_wp2_with fail
    refine (quadraticOf_no v xs _ HH1.out HF.out).mono ?_
    rintro e w' ⟨rfl, rfl⟩
    go_wp2_with fail
    go_ret
    exact ⟨_, rfl, by rw [HR.out]; exact HO0.out, HB0.out⟩
  | true =>
    have HF := hid hf
    have HPL : Hid (fplL xs = placesG (prodI xs)) := hid (by unfold fplL; rw [hf]; rfl)
    have hpp := (@fpl_all xs).2
    rw [HPL.out] at hpp HP
    have hpl := placesG_short (prodI xs)
    have hprb := prod_full hf
    have HPP := hid hpp
    have HPR := hid (prod_full hf)
    have Q0 := hid (quad_new HH.out hf HB0.out)
    have O0 := hid (HO0.out.keep (C := w.heap.size + 1) (fun g e => by have := HO0.out.lt g e; simpa using this) ((Below.refl (w.heap.size + 1) (w.alloc (.cells #[] 3))).alloc (by simp) (.map #[] 0)))
    replace hpl : (placesG (prodI xs)).length ≤ 900000 := by omega
    clear hpp h hf hprb
    go_enter Try.func15, Try.ntmps15
    go_wp2_with fail
    refine (quadraticOf_yes v xs _ HH1.out HF.out).mono ?_
    rintro e w' ⟨rfl, rfl⟩
    have Q1 : Hid (Quad w ((w.alloc (.cells #[] 3)).alloc (.map #[] 0)) (w.heap.size + 1) 0 v xs) := hid (by simpa using Q0.out)
    unfold quadV
    go_wp2_with fail
    refine (diaProduct_any v xs _ _ Q0.out.read HF.out).mono ?_
    rintro e w' ⟨rfl, hb⟩
    rename World => w2
    have hs2 := hb.size
    simp only [World.size_alloc] at hs2
    have Q2 := hid (Q1.out.step hb)
    have O2 := hid (O0.out.keep O0.out.lt hb)
    clear hb
    go_wp2_with fail
    refine (placesOfG_any _ HPR.out.1 (by have := HPR.out; omega) (by have := HPR.out; omega) _).mono ?_
    rintro e w' ⟨u, rfl, ho, hb⟩
    rename World => w3
    have hs3 := hb.size
    have Q3 := hid (Q2.out.step hb)
    have O3 := hid (O2.out.keep O2.out.lt hb)
    have HG := hid ho.ge
    have HLT := hid ho.lt
    obtain ⟨ps, hps⟩ : ∃ ps, ps = placesG (prodI xs) := ⟨_, rfl⟩
    rw [← hps] at ho hpl HP HPP
    obtain ⟨ad, cap, rfl, hform⟩ := ho.rd.form
    have HFM := hid hform
    have HBG : Hid (∀ bb o, ad = some ⟨bb, o, none⟩ → (w.heap.size + 1) < bb) := hid (fun bb o e => by have := HG.out bb (by rw [e]; rfl); omega)
    clear ho hform hb hps Q0 Q1 Q2 O0 O2
    go_wp2_with fail
    try simp only [Builtin.len_]
    try go_simp
    try go_wp2_with fail
    go_loopw [3, 21] (fun so si wr => ∃ K : Nat, si = .int .i64 K ∧ K ≤ ps.length ∧ Hid (Owns wr w.heap.size so ((ps.take K).filter (fun q => !vanB xs q))) ∧ Hid (so.ownBlock ≠ some (w.heap.size + 1)) ∧
        Hid (∀ bb o, ad = some ⟨bb, o, none⟩ → so.ownBlock ≠ some bb ∧ wr.heap[bb]? = w3.heap[bb]?) ∧ w3.heap.size ≤ wr.heap.size ∧ Hid (Quad w wr (w.heap.size + 1) K v xs)) (fun _ si _ => ps.length - (intOf si).toNat)
    case atStart =>
      refine ⟨0, rfl, by omega, hid (by simpa using O3.out), hid ?_, hid (fun bb o e => ⟨?_, rfl⟩), Nat.le_refl _, Q3⟩
      · show some w.heap.size ≠ some (w.heap.size + 1)
        intro h; have h2 := Option.some.inj h; omega
      · have := HBG.out bb o e
        show some w.heap.size ≠ some bb
        intro h
        cases h
        omega
    case round =>
      obtain ⟨K, rfl, hK, HO, HM, HAs, hsz, HQD⟩ := hrel
      rename World => wr
      by_cases hlt : K < ps.length
      · obtain ⟨bb, o, rfl, hml, hc⟩ := HFM.out (by omega)
        obtain ⟨x, hx⟩ : ∃ x, x = ps.getD K 0 := ⟨_, rfl⟩
        have hxm : x ∈ ps := by rw [hx, getD_at _ _ hlt]; exact List.getElem_mem _
        have hxp := HPP.out x hxm
        have HXP := hid hxp.2
        have hcell := (World.cell?_of_block (HAs.out bb o rfl).2).trans (hc K hlt)
        rw [← hx] at hcell
        have hstep := filter_step (f := fun q => !vanB xs q) hlt
        rw [← hx] at hstep
        have HS := hid hstep
        have HL := hid (filter_len (f := fun q => !vanB xs q) (show K ≤ ps.length by omega))
        have hi0 : (K : Int) < (ps.length : Int) := by omega
        have hlt2 := HLT.out bb rfl
        have hmb := HBG.out bb o rfl
        unfold maxLen at hml
        clear hc hx hxm hxp hstep
        go_wp2_with fail
        refine (vanishesAt_any v xs x (w.heap.size + 1) K w _ HQD.out HXP.out (by omega)).mono ?_
        rintro e w' ⟨rfl, hqd, hbs⟩
        rename World => wq
        have HQq := hid hqd
        have HOq := hid (HO.out.beside hbs HM.out)
        have hsq0 := hbs.1
        have HAq : Hid (∀ b' o', (some (⟨bb, o, none⟩ : Addr)) = some ⟨b', o', none⟩ → u3.ownBlock ≠ some b' ∧ wq.heap[b']? = w3.heap[b']?) := hid (fun b' o' e => ⟨(HAs.out b' o' e).1, (hbs.2 b' (by cases e; omega) (by cases e; omega)).trans (HAs.out b' o' e).2⟩)
        have hcell2 : wq.cell? ⟨bb, o + K, none⟩ = some (.int .i64 x) := (World.cell?_of_block (hbs.2 bb (by omega) (by omega))).trans hcell
        clear hqd hbs
        have hsq : vanB xs x = true ∨ vanB xs x = false := by cases vanB xs x <;> simp
        rcases hsq with hsq | hsq
        · have HE : Hid ((ps.take (K + 1)).filter (fun q => !vanB xs q) = (ps.take K).filter (fun q => !vanB xs q)) := hid (by rw [HS.out, hsq]; simp)
          rw [hsq]
          clear hsq
          go_wp2_with fail
          go_round
          case measure => simp only [intOf]; omega
          case rel => exact ⟨K + 1, by go_num, by omega, hid (by rw [HE.out]; exact HOq.out), HM, HAq, by omega, HQq⟩
        · have HE : Hid ((ps.take (K + 1)).filter (fun q => !vanB xs q) = (ps.take K).filter (fun q => !vanB xs q) ++ [x]) := hid (by rw [HS.out, hsq]; simp)
          obtain ⟨pre, hpre⟩ : ∃ pre, pre = (ps.take K).filter (fun q => !vanB xs q) := ⟨_, rfl⟩
          have hprel : pre.length ≤ 900000 := by rw [hpre]; have := HL.out; omega
          rw [← hpre] at HOq
          have hbs : w.heap.size ≤ wq.heap.size := HQq.out.bel.size
          have hmw := HQq.out.lt
          rw [hsq]
          clear hsq
          go_wp2_with (at_builtin; refine wpList_append_own_at _ rfl _ _ 23 rfl w.heap.size 3 i0 (.int .i64 0) 1 8 Try.underlying23 hi hz0 hz1 hz2 rfl (by decide) _ _ _ rfl ((show World.ownsRow _ _ _ _ _ _ _ from HOq.out).alloc _) ⟨wq.heap.size, 0, none⟩ 1 1 [.int .i64 x] rfl rfl (cell_one_new _ _ _) (by simp [Value.oneCell']) (by unfold maxLen; omega) (by omega) (by simp; omega) ?_; intro v' w4 hown' hgrow _ hat)
          have hsg := hgrow.size
          simp only [World.size_alloc] at hsg
          go_round
          case measure => simp only [intOf]; omega
          case rel =>
            have hB4 : Below w.heap.size w w4 := HQq.out.bel.alloc hbs _ |>.grown hgrow (by simp; omega) (fun k e => (HOq.out.ge k e))
            have hne : v'.ownBlock ≠ some (w.heap.size + 1) := by
              rcases hat with e | e
              · rw [e]; exact HM.out
              · rw [e]; intro h; have h2 := Option.some.inj h; simp at h2; omega
            refine ⟨K + 1, by go_num, by omega, hid ?_, hid hne, hid (fun b' o' e => ?_), by omega, hid ⟨HQq.out.rd, HQq.out.ok, HQq.out.ge, hB4, ?_⟩⟩
            · rw [HE.out, ← hpre]
              unfold Owns
              simpa using hown'
            · cases e
              obtain ⟨q1, q2⟩ := HAq.out bb o rfl
              refine ⟨?_, ?_⟩
              · rcases hat with e | e
                · rw [e]; exact q1
                · rw [e]; intro h; cases h; simp at hlt2; omega
              · rw [hgrow.block bb (by simp; omega) (Ne.symm q1), ← q2, Below.heap_alloc _ _ _ (by omega)]
            · obtain ⟨D, hD, hI⟩ := HQq.out.map
              exact ⟨D, ownsMap_of_block hD ((hgrow.block (w.heap.size + 1) (by simp; omega) (Ne.symm HM.out)).trans (Below.heap_alloc _ _ _ hmw)), hI⟩
      · obtain rfl : K = ps.length := by omega
        have HE : Hid (badL xs = (ps.take ps.length).filter (fun q => !vanB xs q)) := hid (by rw [HP.out, List.take_length])
        clear hlt
        go_wp2_with fail
        go_ret
        exact ⟨_, rfl, by rw [HE.out]; exact HO.out, HQD.out.bel⟩

end Go.Proofs.Ytbhlgdleklfonaa

set_option linter.unusedVariables false
namespace Go.Proofs.Ytbhlgdleklfonaa
open Go.RowKit

/-- the bytes that the reader reads -/
def CodeF (f : Nat → Nat) (W : World) (v : Value) (n : Nat) : Prop :=
  n = 0 ∨ ∃ b o cap, v = .slice (some ⟨b, o, none⟩) n cap ∧ ∀ i, i < n → f i ≤ 255 ∧ W.cell? ⟨b, o + i, none⟩ = some (.int .u8 ((f i : Nat) : Int))
theorem codeF_of {W : World} {B R : Nat} {v : Value} {n p : Nat} (h : Rdr W B R v n p) : ∃ f, CodeF f W v n := by
  obtain ⟨hn, hv⟩ := h.2.1
  rcases hv with ⟨a, cap, rfl, rfl⟩ | ⟨b, o, cap, rfl, hbB, hn0, hc⟩
  · exact ⟨fun _ => 0, .inl rfl⟩
  · refine ⟨fun i => if h : i < n then (Classical.choose (hc i h)).toNat else 0, .inr ⟨b, o, cap, rfl, fun i hi => ?_⟩⟩
    obtain ⟨h1, h2, h3⟩ := Classical.choose_spec (hc i hi)
    simp only [dif_pos hi]
    refine ⟨by omega, ?_⟩
    rw [Int.toNat_of_nonneg h2]
    exact h1
theorem CodeF.only {f : Nat → Nat} {W W' : World} {B R : Nat} {v : Value} {n p : Nat} (h : CodeF f W v n) (hr : Rdr W B R v n p) (ho : Only R W W') : CodeF f W' v n := by
  obtain ⟨hB, ⟨hn, hv⟩, hR⟩ := hr
  rcases h with h | ⟨b, o, cap, rfl, hc⟩
  · exact .inl h
  · rcases hv with ⟨a, cap', e, rfl⟩ | ⟨b', o', cap', e, hbB, hn0, _⟩
    · exact .inl rfl
    · cases e
      have hRs := (Array.getElem?_eq_some_iff.1 hR).1
      exact .inr ⟨b, o, cap, rfl, fun i hi => ⟨(hc i hi).1, (ho.cell (b := b) (o := o + i) (by omega) (by omega)).trans (hc i hi).2⟩⟩
def RdX (f : Nat → Nat) (W : World) (B R : Nat) (v : Value) (n p : Nat) : Prop := Rdr W B R v n p ∧ CodeF f W v n
theorem RdX.next {f : Nat → Nat} {W W' : World} {B R : Nat} {v : Value} {n p q : Nat} (h : RdX f W B R v n p) (ho : Only R W W') (hr : Rdr W' B R v n q) : RdX f W' B R v n q := ⟨hr, h.2.only h.1 ho⟩
theorem RdX.alloc {f : Nat → Nat} {W : World} {B R : Nat} {v : Value} {n p : Nat} (h : RdX f W B R v n p) (hB : B ≤ W.heap.size) (o : Obj) : RdX f (W.alloc o) B R v n p := h.next ((Only.refl R W).alloc o) (h.1.alloc hB o)
theorem RdX.kept {f : Nat → Nat} {W W' : World} {B R C : Nat} {v : Value} {n p : Nat} (h : RdX f W B R v n p) (hb : Below C W W') (hR : R < C) (hBC : B ≤ C) : RdX f W' B R v n p := by
  refine ⟨h.1.kept hb hR hBC, ?_⟩
  obtain ⟨hBR, ⟨hn, hv⟩, hRr⟩ := h.1
  rcases h.2 with h0 | ⟨b, o, cap, rfl, hc⟩
  · exact .inl h0
  · rcases hv with ⟨a, cap', e, rfl⟩ | ⟨b', o', cap', e, hbB, hn0, _⟩
    · exact .inl rfl
    · cases e
      exact .inr ⟨b, o, cap, rfl, fun i hi => ⟨(hc i hi).1, (hb.cell (p := ⟨b, o + i, none⟩) (by show b < C; omega)).trans (hc i hi).2⟩⟩
theorem rdX_of {W : World} {B R : Nat} {v : Value} {n p : Nat} (h : Rdr W B R v n p) : ∃ f, RdX f W B R v n p := by
  obtain ⟨f, hf⟩ := codeF_of h
  exact ⟨f, h, hf⟩
theorem RdX.len {f : Nat → Nat} {W : World} {B R : Nat} {v : Value} {n p : Nat} (h : RdX f W B R v n p) : n ≤ 2000 := h.1.2.1.1

def PickX (f : Nat → Nat) (w : World) (B R : Nat) (v : Value) (n p m : Nat) (e : Ending) (w' : World) : Prop :=
  ∃ x : Int, e = .returned (.int .i64 x) ∧ Hid (x = ((pickV f n p m : Nat) : Int)) ∧ 0 ≤ x ∧ x < m ∧ Hid (RdX f w' B R v n (p + 1)) ∧ Hid (Only R w w')
theorem pickV_lt (f : Nat → Nat) (n k : Nat) {m : Nat} (h : 1 ≤ m) : pickV f n k m < m := by
  unfold pickV
  by_cases h0 : n = 0
  · rw [if_pos h0]; omega
  · rw [if_neg h0]
    by_cases h1 : k < n
    · rw [if_pos h1]; exact Nat.mod_lt _ (by omega)
    · rw [if_neg h1]; exact Nat.mod_lt _ (by omega)
theorem PickX.mk {f : Nat → Nat} {w : World} {B R : Nat} {v : Value} {n p m : Nat} {x : Int} (k : Nat) (hm : 1 ≤ m) (h : RdX f w B R v n p) (hx : x = ((pickV f n p m : Nat) : Int)) :
    PickX f w B R v n p m (.returned (.int .i64 x)) ((w.setCell ⟨R, 1, none⟩ (.int .i64 ((p : Int) + 1))).drewN k) := by
  have ho : Only R w ((w.setCell ⟨R, 1, none⟩ (.int .i64 ((p : Int) + 1))).drewN k) := ⟨rfl, rfl, rfl, by simp [World.setCell], fun i hi hr => heap_setCell_other w ⟨R, 1, none⟩ i _ hr⟩
  have hl := pickV_lt f n p hm
  exact ⟨x, rfl, hid hx, by omega, by omega, hid (h.next ho (h.1.next.drewN k)), hid ho⟩
set_option maxRecDepth 100000 in
set_option maxHeartbeats 2000000 in
theorem pickX_any (f : Nat → Nat) (B R : Nat) (v : Value) (n p m : Nat) (hp : p ≤ 1000000000000000) (hm1 : 1 ≤ m) (hm2 : m ≤ 1000000) (w : World) (h : RdX f w B R v n p) :
    Calls Try.prog 67 #[.pointer (some ⟨R, 0, none⟩), .int .i64 (m : Int)] w (PickX f w B R v n p m) := by
  have c0 := h.1.cell0
  have c1 := h.1.cell1
  have f1 := h.1.frozen 1
  have h2 := h.1.next
  have d0 := h2.cell0
  have d1 := h2.cell1
  have e1 : ((p + 1 : Nat) : Int) = (p : Int) + 1 := by omega
  rw [e1] at d1
  have H2 := hid h2
  have H := hid h
  have HF2 : Hid (CodeF f (w.setCell ⟨R, 1, none⟩ (.int .i64 ((p : Int) + 1))) v n) := hid (h.2.only h.1 ⟨rfl, rfl, rfl, by simp [World.setCell], fun i hi hr => heap_setCell_other w ⟨R, 1, none⟩ i _ hr⟩)
  have hm : ¬ (m : Int) < 1 := by omega
  clear h h2 e1
  obtain ⟨hn, hv⟩ := H2.out.2.1
  rcases hv with ⟨a, cap, rfl, rfl⟩ | ⟨b, o, cap, rfl, hbB, hn0, hc0⟩
  · go_enter Try.func67, Try.ntmps67
    go_wp2
    go_ret
    exact PickX.mk 0 hm1 H.out (by unfold pickV; rw [if_pos rfl]; rfl)
  · have hc : ∀ i, i < n → f i ≤ 255 ∧ (w.setCell ⟨R, 1, none⟩ (.int .i64 ((p : Int) + 1))).cell? ⟨b, o + i, none⟩ = some (.int .u8 ((f i : Nat) : Int)) := by
      rcases HF2.out with h0 | ⟨b', o', cap', e, hc⟩
      · omega
      · cases e; exact hc
    clear hc0
    have T : ((n : Int) == 0) = false := by rw [beq_eq_false_iff_ne]; omega
    by_cases hpn : p < n
    · obtain ⟨hx2, hx⟩ := hc p hpn
      have hi : (p : Int) < (n : Int) := by omega
      obtain ⟨x, hxe⟩ : ∃ x : Int, x = ((f p : Nat) : Int) := ⟨_, rfl⟩
      rw [← hxe] at hx
      have hx1 : 0 ≤ x := by omega
      have hx3 : x ≤ 255 := by omega
      have hmd := Int.emod_lt_of_pos x (show 0 < (m : Int) by omega)
      have hmd0 := Int.emod_nonneg x (show (m : Int) ≠ 0 by omega)
      have HE : Hid (x % (m : Int) = ((pickV f n p m : Nat) : Int)) := hid (by unfold pickV; rw [if_neg (by omega), if_pos hpn, hxe]; push_cast; rfl)
      clear hc hxe hx2
      go_enter Try.func67, Try.ntmps67
      go_wp2
      go_ret
      exact PickX.mk 0 hm1 H.out HE.out
    · obtain ⟨d, hd⟩ : ∃ d, d = p % n := ⟨_, rfl⟩
      obtain ⟨d2, hd2⟩ : ∃ d2, d2 = (p * 7 + 3) % n := ⟨_, rfl⟩
      obtain ⟨d3, hd3⟩ : ∃ d3, d3 = p / n := ⟨_, rfl⟩
      have hdn : d < n := by rw [hd]; exact Nat.mod_lt _ hn0
      have hdn2 : d2 < n := by rw [hd2]; exact Nat.mod_lt _ hn0
      have hdn3 : d3 ≤ 1000000000000000 := by rw [hd3]; exact Nat.le_trans (Nat.div_le_self p n) hp
      obtain ⟨hx2, hx⟩ := hc d hdn
      obtain ⟨hy2, hy⟩ := hc d2 hdn2
      obtain ⟨x, hxe⟩ : ∃ x : Int, x = ((f d : Nat) : Int) := ⟨_, rfl⟩
      obtain ⟨y, hye⟩ : ∃ y : Int, y = ((f d2 : Nat) : Int) := ⟨_, rfl⟩
      rw [← hxe] at hx
      rw [← hye] at hy
      have hx1 : 0 ≤ x := by omega
      have hx3 : x ≤ 255 := by omega
      have hy1 : 0 ≤ y := by omega
      have hy3 : y ≤ 255 := by omega
      have e1 : (p : Int) % n = d := by rw [hd]; push_cast; rfl
      have e2 : ((p : Int) * 7 + 3) % n = d2 := by rw [hd2]; push_cast; rfl
      have e3 : (p : Int) / n = d3 := by rw [hd3]; push_cast; rfl
      have xb := xor_bd (x := x * 131 + y * 1117 + (p : Int) * 29 + (d3 : Int) * 53) (by omega) (by omega)
      obtain ⟨z, hz⟩ : ∃ z, z = bits .xor .i64 (x * 131 + y * 1117 + (p : Int) * 29 + (d3 : Int) * 53) ((x * 131 + y * 1117 + (p : Int) * 29 + (d3 : Int) * 53) / 64) := ⟨_, rfl⟩
      have HE : Hid (z % (m : Int) = ((pickV f n p m : Nat) : Int)) := hid (by
        obtain ⟨M, hM⟩ : ∃ M : Nat, M = f d * 131 + f d2 * 1117 + p * 29 + d3 * 53 := ⟨_, rfl⟩
        have hMi : x * 131 + y * 1117 + (p : Int) * 29 + (d3 : Int) * 53 = (M : Int) := by rw [hM, hxe, hye]; push_cast; rfl
        have hM2 : M < 4611686018427387904 := by omega
        have hz2 : z = ((hsh M : Nat) : Int) := by
          rw [hz, hMi, show (M : Int) / 64 = ((M / 64 : Nat) : Int) by push_cast; rfl, (xor_i64 (a := M) (b := M / 64) hM2 (by omega)).1]
          rfl
        unfold pickV
        rw [if_neg (by omega), if_neg hpn, ← hd, ← hd2, ← hd3, ← hM, hz2]
        push_cast
        rfl)
      rw [← hz] at xb
      have hz' := hz.symm
      have zm := Int.emod_lt_of_pos z (show 0 < (m : Int) by omega)
      have zm0 := Int.emod_nonneg z (show (m : Int) ≠ 0 by omega)
      clear hc hd hd2 hd3 hz hxe hye hx2 hy2
      go_enter Try.func67, Try.ntmps67
      go_wp2
      go_quiet (fail)
      go_wp2
      go_ret
      exact PickX.mk _ hm1 H.out HE.out

def OneX (f : Nat → Nat) (w : World) (B R : Nat) (v : Value) (n p : Nat) (e : Ending) (w' : World) : Prop :=
  ∃ (u : Value) (xs : List Int) (q : Nat), e = .returned u ∧ Hid (TermsOk xs) ∧ Hid ((xs.length = 1 ∧ q ≤ p + 5) ∨ (xs.length = 0 ∧ q = p + 4 ∧ pickV f n (p + 3) 40 = 1)) ∧ Hid (Owns w' w.heap.size u xs) ∧ Hid (RdX f w' B R v n q) ∧ Hid (Only R w w')
theorem OneX.mk {f : Nat → Nat} {w : World} {B R : Nat} {v : Value} {n p q : Nat} {u : Value} {xs : List Int} {w' : World} (h : TermsOk xs) (hq : (xs.length = 1 ∧ q ≤ p + 5) ∨ (xs.length = 0 ∧ q = p + 4 ∧ pickV f n (p + 3) 40 = 1)) (ho : Hid (Owns w' w.heap.size u xs)) (hr : Hid (RdX f w' B R v n q)) (hn : Hid (Only R w w')) : OneX f w B R v n p (.returned u) w' :=
  ⟨u, xs, q, rfl, hid h, hid hq, ho, hr, hn⟩

set_option maxRecDepth 100000 in
set_option maxHeartbeats 4000000 in
theorem formOne_any (f : Nat → Nat) (B R : Nat) (v : Value) (n p : Nat) (hp : p ≤ 700000000000000) (w : World) (HR : Hid (RdX f w B R v n p)) (hB : B ≤ w.heap.size) :
    Calls Try.prog 68 #[.pointer (some ⟨R, 0, none⟩), .int .i64 1] w (OneX f w B R v n p) := by
  obtain ⟨i0, hi, hz0, hz1, hz2⟩ := info_parts infoInt
  have hRs := HR.out.1.lt
  have hBR := HR.out.1.1
  have HO0 : Hid (Owns (w.alloc (.cells #[] 3)) w.heap.size (.slice (some ⟨w.heap.size, 0, none⟩) 0 0) []) := hid (World.ownsRow_made (size := 1) w #[] 0 (Nat.le_refl _) (by unfold maxLen; omega) rfl)
  go_enter Try.func68, Try.ntmps68
  go_wp2_with fail
  refine (pickX_any f _ _ _ _ p 1 (by omega) (by omega) (by omega) _ (HR.out.alloc (by omega) _)).mono ?_
  rintro e wHA ⟨y, rfl, _, hy0, hy1, HA, HO⟩
  obtain rfl : y = 0 := by omega
  have HON := hid (((Only.refl R w).alloc (.cells #[] 3)).trans HO.out)
  have HOW := hid (HO0.out.only HO.out hRs)
  have hs1 := HON.out.size
  clear HO0 HO hy0 hy1
  go_wp2_with fail
  go_loopw [5, 7] (fun so si wr => ∃ (K r : Nat) (xs : List Int), si = .int .i64 K ∧ K ≤ 1 ∧ r = p + 1 + 2 * K ∧ xs.length = K ∧ Hid (TermsOk xs) ∧ Hid (Owns wr w.heap.size so xs) ∧ Hid (RdX f wr B R v n r) ∧ Hid (Only R w wr)) (fun _ si _ => 10 - (intOf si).toNat)
  case atStart => exact ⟨0, p + 1, [], rfl, by omega, by omega, rfl, hid ⟨by simp, fun x hx => by cases hx⟩, HOW, HA, HON⟩
  case round =>
    obtain ⟨K, r, xs, rfl, hK, hr, hxl, HT, HOr, HRr, HNr⟩ := hrel
    rename World => wr
    have hsr := HNr.out.size
    by_cases hlt : K < 1
    · have hKi : (K : Int) < 1 := by omega
      have hRr := HRr.out.1.lt
      go_wp2_with fail
      refine (pickX_any f _ _ _ _ r 16 (by omega) (by omega) (by omega) _ (HRr.out.alloc (by omega) _)).mono ?_
      rintro e wHC ⟨k, rfl, _, hk0, hk1, HC, HP⟩
      obtain ⟨x, hx, hx1, hx2⟩ := litT_at hk0 hk1
      have c := lit_cell (fr := (0, 0)) HP.out hRr k.toNat
      have hc : wHC.cell? ⟨wr.heap.size, k.toNat, none⟩ = some (.int .i64 x) := c.trans hx
      have HN2 := hid ((HNr.out.alloc (.cells litT 3)).trans HP.out)
      have HO2 := hid ((Owns.only (W' := wHC) (show Owns (wr.alloc (.cells litT 3)) w.heap.size u5 xs from HOr.out.alloc _) HP.out (by omega)))
      have hs2 := HN2.out.size
      clear HOr HRr HNr HP hx c
      go_wp2_with fail
      refine (pickX_any f _ _ _ _ (r + 1) 5 (by omega) (by omega) (by omega) _ HC.out).mono ?_
      rintro e wHD ⟨k2, rfl, _, hk20, hk21, HD, HQ⟩
      have HN3 := hid (HN2.out.trans HQ.out)
      have HO3 := hid (HO2.out.only HQ.out (by omega))
      have hs3 := HN3.out.size
      clear HO2 HN2 HQ HC hc
      by_cases hneg : k2 < 2
      · skip
        go_wp2_with (at_builtin; refine wpList_append_own_at _ rfl _ _ 23 rfl w.heap.size 3 i0 (.int .i64 0) 1 8 Try.underlying23 hi hz0 hz1 hz2 rfl (by decide) _ _ _ rfl ((show World.ownsRow _ _ _ _ _ _ _ from HO3.out).alloc _) ⟨wHD.heap.size, 0, none⟩ 1 1 [.int .i64 (-x)] rfl rfl (cell_one_new _ _ _) (by simp [Value.oneCell']) (by unfold maxLen; omega) (by omega) (by simp; omega) ?_; intro v' w3 hown' hgrow _ hat)
        have hsg := hgrow.size
        simp only [World.size_alloc] at hsg
        have HN4 := hid ((HN3.out.alloc (.cells #[.int .i64 (-x)] 3)).grown hgrow (fun k e => (HO3.out.ge k e)))
        have HR4 := hid (((HD.out.alloc (by omega) (.cells #[.int .i64 (-x)] 3)).kept (((Below.refl w.heap.size _).grown hgrow (by simp; omega) (fun k e => (HO3.out.ge k e)))) (by omega) (by omega)))
        go_roundw
        case measure => simp only [intOf]; omega
        case rel =>
          exact ⟨K + 1, r + 1 + 1, xs ++ [-x], by go_num, by omega, by omega, by rw [List.length_append]; simp; exact hxl, hid (HT.out.snoc (by omega) (by omega) (by omega)), hid (by unfold Owns; simpa using hown'), HR4, HN4⟩
      · skip
        go_wp2_with (at_builtin; refine wpList_append_own_at _ rfl _ _ 23 rfl w.heap.size 3 i0 (.int .i64 0) 1 8 Try.underlying23 hi hz0 hz1 hz2 rfl (by decide) _ _ _ rfl ((show World.ownsRow _ _ _ _ _ _ _ from HO3.out).alloc _) ⟨wHD.heap.size, 0, none⟩ 1 1 [.int .i64 x] rfl rfl (cell_one_new _ _ _) (by simp [Value.oneCell']) (by unfold maxLen; omega) (by omega) (by simp; omega) ?_; intro v' w3 hown' hgrow _ hat)
        have hsg := hgrow.size
        simp only [World.size_alloc] at hsg
        have HN4 := hid ((HN3.out.alloc (.cells #[.int .i64 x] 3)).grown hgrow (fun k e => (HO3.out.ge k e)))
        have HR4 := hid (((HD.out.alloc (by omega) (.cells #[.int .i64 x] 3)).kept (((Below.refl w.heap.size _).grown hgrow (by simp; omega) (fun k e => (HO3.out.ge k e)))) (by omega) (by omega)))
        go_roundw
        case measure => simp only [intOf]; omega
        case rel =>
          exact ⟨K + 1, r + 1 + 1, xs ++ [x], by go_num, by omega, by omega, by rw [List.length_append]; simp; exact hxl, hid (HT.out.snoc (by omega) (by omega) (by omega)), hid (by unfold Owns; simpa using hown'), HR4, HN4⟩
    · obtain rfl : K = 1 := by omega
      obtain rfl : r = p + 3 := by omega
      have hKi : ¬ ((1 : Nat) : Int) < 1 := by omega
      go_wp2_with fail
      refine (pickX_any f _ _ _ _ (p + 3) 40 (by omega) (by omega) (by omega) _ HRr.out).mono ?_
      rintro e wHC ⟨k, rfl, HK, hk0, hk1, HC, HP⟩
      have HN2 := hid (HNr.out.trans HP.out)
      have HO2 := hid (HOr.out.only HP.out (by omega))
      have hs2 := HN2.out.size
      clear HOr HNr HP
      by_cases hk : k = 0
      · subst hk
        obtain ⟨g, cap, rfl⟩ := HO2.out.slice_of (by omega)
        have hg := HO2.out.ge g rfl
        have hgl := HO2.out.lt g rfl
        have hRw := HC.out.1.lt
        go_wp2_with fail
        refine (pickX_any f _ _ _ _ (p + 3 + 1) 2 (by omega) (by omega) (by omega) _ (HC.out.alloc (by omega) _)).mono ?_
        rintro e wHD ⟨k2, rfl, _, hk20, hk21, HD, HQ⟩
        have HO3 := hid (Owns.only (W' := wHD) (show Owns (wHC.alloc (.cells #[.int .i64 0, .int .i64 31] 3)) w.heap.size (.slice (some ⟨g, 0, none⟩) xs.length cap) xs from HO2.out.alloc _) HQ.out (by omega))
        have HN3 := hid ((HN2.out.alloc (.cells #[.int .i64 0, .int .i64 31] 3)).trans HQ.out)
        have hs3 := HN3.out.size
        have hk2c : k2 = 0 ∨ k2 = 1 := by omega
        have f1 := World.ownsRow.frozenAt HO3.out 0
        have c1 : ∃ x0, wHD.cell? ⟨g, 0, none⟩ = some (.int .i64 x0) := by
          have hK2 : 0 < xs.length := by omega
          refine ⟨xs[0], ?_⟩
          rw [World.ownsRow.cellAt HO3.out 0 (by omega), List.getElem?_map, List.getElem?_eq_getElem hK2]
          rfl
        obtain ⟨x0, c1⟩ := c1
        rcases hk2c with rfl | rfl
        · have c := lit_cell (fr := (0, 0)) HQ.out hRw 0
          simp at c
          have HS := hid (HO3.out.stored0 0)
          have HZ := hid (HT.out.set0 (x := 0) (by omega) (by omega))
          have hi0 : (0 : Int) < (xs.length : Int) := by omega
          go_wp2
          go_ret
          have HS1 := HS.out.1
          rw [hxl] at HS1
          exact OneX.mk HZ.out (.inl ⟨by rw [List.length_set]; exact hxl, by omega⟩) (hid HS1) (hid (HD.out.kept ((Below.refl w.heap.size _).grown HS.out.2 hs3 (fun k e => by cases e; exact hg)) (by omega) (by omega))) (hid (HN3.out.grown HS.out.2 (fun k e => by cases e; exact hg)))
        · have c := lit_cell (fr := (0, 0)) HQ.out hRw 1
          simp at c
          have HS := hid (HO3.out.stored0 31)
          have HZ := hid (HT.out.set0 (x := 31) (by omega) (by omega))
          have hi0 : (0 : Int) < (xs.length : Int) := by omega
          go_wp2
          go_ret
          have HS1 := HS.out.1
          rw [hxl] at HS1
          exact OneX.mk HZ.out (.inl ⟨by rw [List.length_set]; exact hxl, by omega⟩) (hid HS1) (hid (HD.out.kept ((Below.refl w.heap.size _).grown HS.out.2 hs3 (fun k e => by cases e; exact hg)) (by omega) (by omega))) (hid (HN3.out.grown HS.out.2 (fun k e => by cases e; exact hg)))
      · by_cases hk : k = 1
        · subst hk
          go_wp2
          go_ret
          exact OneX.mk (xs := []) (q := p + 3 + 1) ⟨by simp, fun x hx => by cases hx⟩ (.inr ⟨rfl, by omega, by have := HK.out; omega⟩) (hid (World.ownsRow_made (size := 1) wHC #[] 0 (by omega) (by unfold maxLen; omega) rfl)) (hid (HC.out.alloc (by omega) _)) (hid (HN2.out.alloc _))
        · go_wp2
          go_ret
          exact OneX.mk HT.out (.inl ⟨hxl, by omega⟩) HO2 HC HN2

end Go.Proofs.Ytbhlgdleklfonaa

set_option linter.unusedVariables false
namespace Go.Proofs.Ytbhlgdleklfonaa
open Go.RowKit

def Form5 (m : Nat) (w : World) (B R : Nat) (v : Value) (n p : Nat) (e : Ending) (w' : World) : Prop :=
  ∃ (u : Value) (xs : List Int) (q : Nat), e = .returned u ∧ Hid (TermsOk xs ∧ xs.length ≤ m) ∧ Hid (Owns w' w.heap.size u xs) ∧ q ≤ p + 300000000 ∧ Hid (Rdr w' B R v n q) ∧ Hid (Only R w w')
theorem Form5.mk {m : Nat} {w : World} {B R : Nat} {v : Value} {n p q : Nat} {u : Value} {xs : List Int} {w' : World} (h : TermsOk xs) (hm : xs.length ≤ m) (ho : Hid (Owns w' w.heap.size u xs)) (hq : q ≤ p + 300000000) (hr : Hid (Rdr w' B R v n q)) (hn : Hid (Only R w w')) : Form5 m w B R v n p (.returned u) w' :=
  ⟨u, xs, q, rfl, hid ⟨h, hm⟩, ho, hq, hr, hn⟩
theorem TermsOk.app {xs ys : List Int} (h : TermsOk xs) (k : TermsOk ys) (hl : xs.length + ys.length ≤ 6) : TermsOk (xs ++ ys) :=
  ⟨by rw [List.length_append]; exact hl, fun y hy => (List.mem_append.1 hy).elim (h.2 y) (k.2 y)⟩
theorem TermsOk.setAt {xs : List Int} {x : Int} (i : Nat) (h : TermsOk xs) (h1 : -31 ≤ x) (h2 : x ≤ 31) : TermsOk (xs.set i x) :=
  ⟨by rw [List.length_set]; exact h.1, fun y hy => by
    rcases List.mem_or_eq_of_mem_set hy with h3 | h3
    · exact h.2 y h3
    · omega⟩
/-- how many rounds are left: the form's terms, and the draws that hand out nothing -/
def FormLeft (f : Nat → Nat) (n p m g0 g L r : Nat) : Prop := ∃ i, g = (m - L) * 9000000 + i ∧ i ≤ 8500000 ∧ pickV f n (r + 4 * i + 3) 40 ≠ 1 ∧ r + 5 * g ≤ p + 5 * g0
theorem FormLeft.none {f : Nat → Nat} {n p m g0 g L r : Nat} (h : FormLeft f n p m g0 g L r) (he : pickV f n (r + 3) 40 = 1) : ∃ g', g' < g ∧ FormLeft f n p m g0 g' L (r + 4) := by
  obtain ⟨i, h1, h2, h3, h4⟩ := h
  have hi : i ≠ 0 := by
    rintro rfl
    exact h3 (by rw [Nat.mul_zero, Nat.add_zero]; exact he)
  refine ⟨g - 1, by omega, i - 1, by omega, by omega, ?_, by omega⟩
  rw [show r + 4 + 4 * (i - 1) + 3 = r + 4 * i + 3 by omega]
  exact h3
theorem FormLeft.more {f : Nat → Nat} {n p m g0 g L r q : Nat} (h : FormLeft f n p m g0 g L r) (hn : n ≤ 2000) (hL : L < m) (hq : q ≤ r + 5) : ∃ g', g' < g ∧ FormLeft f n p m g0 g' (L + 1) q := by
  obtain ⟨i, h1, h2, h3, h4⟩ := h
  obtain ⟨j, hj, hne⟩ := pick_run f hn q
  have e : (m - L) * 9000000 = (m - (L + 1)) * 9000000 + 9000000 := by
    rw [show m - L = (m - (L + 1)) + 1 by omega, Nat.succ_mul]
  exact ⟨(m - (L + 1)) * 9000000 + j, by omega, j, rfl, hj, hne, by omega⟩
def FormRel (f : Nat → Nat) (n p m g0 : Nat) (w : World) (B R : Nat) (v : Value) (g : Nat) (so : Value) (wr : World) : Prop :=
  ∃ (xs : List Int) (r : Nat), Hid (FormLeft f n p m g0 g xs.length r) ∧ xs.length ≤ m ∧ Hid (TermsOk xs) ∧ Hid (Owns wr w.heap.size so xs) ∧ r ≤ p + 5 * g0 ∧ Hid (RdX f wr B R v n r) ∧ Hid (Only R w wr)
theorem wrap_9 {x : Int} (h1 : -1000000000 ≤ x) (h2 : x ≤ 1000000000) : IntKind.i64.wrap x = x := by rw [IntKind.wrap_i64]; omega
theorem mul12 {a k : Int} (h1 : -30 ≤ a) (h2 : a ≤ 30) (h3 : 0 ≤ k) (h4 : k < 2) : -60 ≤ a * (1 + k) ∧ a * (1 + k) ≤ 60 := by
  have : k = 0 ∨ k = 1 := by omega
  rcases this with rfl | rfl <;> omega
theorem three_of {xs : List Int} (h : xs.length = 3) : ∃ a b c, xs = [a, b, c] := by
  match xs, h with
  | [a, b, c], _ => exact ⟨a, b, c, rfl⟩

set_option maxRecDepth 100000 in
set_option maxHeartbeats 4000000 in
theorem form5_any (B R : Nat) (v : Value) (n p m : Nat) (hp : p ≤ 1000000000) (hm1 : 1 ≤ m) (hm2 : m ≤ 4) (w : World) (HR : Hid (Rdr w B R v n p)) (hB : B ≤ w.heap.size) :
    Calls Try.prog 69 #[.pointer (some ⟨R, 0, none⟩), .int .i64 (m : Int)] w (Form5 m w B R v n p) := by
  obtain ⟨f, hrx⟩ := rdX_of HR.out
  have HX := hid hrx
  have hn := hrx.len
  have hRs := HR.out.lt
  have hBR := HR.out.1
  clear hrx
  go_enter Try.func69, Try.ntmps69
  go_wp2_with fail
  refine (formOne_any f _ _ _ _ p (by omega) _ HX hB).mono ?_
  rintro e wA ⟨u, xs, q, rfl, HT, HQ, HO, HA, HN⟩
  have hsA := HN.out.size
  obtain ⟨i, hi, hne⟩ := pick_run f hn q
  have hxl : xs.length ≤ 1 := by rcases HQ.out with h | h <;> omega
  have hq5 : q ≤ p + 5 := by rcases HQ.out with h | h <;> omega
  obtain ⟨g0, hg0⟩ : ∃ g0, g0 = (m - xs.length) * 9000000 + i := ⟨_, rfl⟩
  have hg4 : g0 ≤ 44500000 := by
    have : (m - xs.length) * 9000000 ≤ 4 * 9000000 := Nat.mul_le_mul_right _ (by omega)
    omega
  have HL : Hid (FormLeft f n q m g0 g0 xs.length q) := hid ⟨i, hg0, hi, hne, by omega⟩
  clear hi hne hg0 HQ HX HR
  go_wp2_with fail
  go_loopg [5] g0 (FormRel f n q m g0 w B R v)
  case atStart => exact ⟨xs, q, HL, by omega, HT, HO, by omega, HA, HN⟩
  case round =>
    obtain ⟨ys, r, HLr, hyl, HTr, HOr, hr, HRr, HNr⟩ := hrel
    rename World => wr
    have hsr := HNr.out.size
    obtain ⟨ao, co, rfl⟩ := HOr.out.reads
    have hr9 : r ≤ 2000000000 := by omega
    by_cases h0 : ys.length = 0
    · have T0 : ¬ (0 : Int) < (ys.length : Int) := by omega
      have TM : (ys.length : Int) < (m : Int) := by omega
      have T3 : ((ys.length : Int) == 3) = false := by rw [beq_eq_false_iff_ne]; omega
      clear h0
      go_wp2_with fail
      go_ret
      exact Form5.mk HTr.out hyl HOr (by omega) (hid HRr.out.1) HNr
    · have T0 : (0 : Int) < (ys.length : Int) := by omega
      by_cases hlt : ys.length < m
      · have TM : (ys.length : Int) < (m : Int) := by omega
        have HF := hid HOr.out.firm
        clear h0 hlt
        go_wp2_with (first | (have m5 := hc5; at_builtin; refine append_rd rfl _ _ rfl w.heap.size _ ys rfl HO2.out _ zs rfl HOz.out.rd HOz.out.firm (by omega) (by omega) ?_; intro v2 w2 o2 g2; have HO3 := hid o2; have HG3 := hid g2; clear o2 g2) | (go_at_call 68; refine (formOne_any f _ _ _ _ r (by omega) _ HRr (by omega)).mono ?_; rintro e wB ⟨u2, zs, q2, rfl, HTz, HQz, HOz, HRz, HNz⟩; have hc5 : True := trivial; have hsB := HNz.out.size; have HO2 := hid (HOr.out.only HNz.out (by omega)); have hzl : zs.length ≤ 1 := by (rcases HQz.out with h | h <;> omega)))
        have hown : ∀ k, (Value.slice ao ys.length co).ownBlock = some k → w.heap.size ≤ k := fun k e => HO2.out.ge k e
        have HR3 := hid (HRz.out.kept ((Below.refl w.heap.size _).grown HG3.out (by omega) hown) (by omega) (by omega))
        have HN3 := hid ((HNr.out.trans HNz.out).grown HG3.out hown)
        have hst : ∃ g', g' < gk ∧ FormLeft f n q m g0 g' (ys ++ zs).length q2 ∧ (ys ++ zs).length ≤ m := by
          rw [List.length_append]
          rcases HQz.out with ⟨h1, h2⟩ | ⟨h1, h2, h3⟩
          · obtain ⟨g', hg', hl⟩ := HLr.out.more hn (by omega) h2
            exact ⟨g', hg', by rw [h1]; exact hl, by omega⟩
          · obtain ⟨g', hg', hl⟩ := HLr.out.none h3
            exact ⟨g', hg', by rw [h1, h2]; exact hl, by omega⟩
        obtain ⟨g', hg', hl', hlm⟩ := hst
        have hl2 := hl'
        obtain ⟨_, _, _, _, hq2⟩ := hl2
        go_roundg g'
        case measure => exact hg'
        case rel => exact ⟨ys ++ zs, q2, hid hl', hlm, hid (HTr.out.app HTz.out (by omega)), HO3, by omega, HR3, HN3⟩
      · have TM : ¬ (ys.length : Int) < (m : Int) := by omega
        clear h0 hlt
        by_cases h3 : ys.length = 3
        · have T3 : ((ys.length : Int) == 3) = true := by rw [beq_iff_eq]; omega
          obtain ⟨a, b, c, rfl⟩ := three_of h3
          clear h3
          have hnl : ([a, b, c] : List Int).length = 3 := rfl
          obtain ⟨g, cap2, hv2⟩ := HOr.out.slice_of (by simp)
          simp only [Value.slice.injEq, true_and] at hv2
          obtain ⟨rfl, rfl⟩ := hv2
          go_wp2_with fail
          refine (pick_any _ _ _ _ r 2 (by omega) (by omega) (by omega) _ (HRr.out.1)).mono ?_
          rintro e wHC ⟨k, s, rfl, hk0, hk1, _, hs, HC, HP⟩
          replace hk1 := hk1 (by omega)
          have HN2 := hid (HNr.out.trans HP.out)
          have HO2 := hid (HOr.out.only HP.out (by omega))
          have hs2 := HN2.out.size
          clear HOr HNr HP
          by_cases hk : k = 0
          · subst hk
            cases hf : fvB [a, b, c] with
            | false =>
              have HF := hid hf
              clear hf
              go_wp2_with (go_at_call 73; refine (formValidS_any _ [a, b, c] _ HO2.out.rd).mono ?_; rw [HF.out]; rintro e w' ⟨rfl, rfl⟩)
              go_ret
              exact Form5.mk HTr.out hyl HO2 (by omega) HC HN2
            | true =>
              have HF := hid hf
              obtain ⟨ha0, ha1, ha2⟩ := (fvB_iff.1 hf).1 a (by simp)
              obtain ⟨hb0, hb1, hb2⟩ := (fvB_iff.1 hf).1 b (by simp)
              have c0 : wHC.cell? ⟨g, 0, none⟩ = some (.int .i64 a) := HO2.out.elem (i := 0) (by simp)
              have c1 : wHC.cell? ⟨g, 1, none⟩ = some (.int .i64 b) := HO2.out.elem (i := 1) (by simp)
              clear hf
              go_wp2_with (go_at_call 73; refine (formValidS_any _ [a, b, c] _ HO2.out.rd).mono ?_; rw [HF.out]; rintro e w' ⟨rfl, rfl⟩)
              go_region_held3 (fun wx => wx.cell? ⟨g, 0, none⟩ = some (.int .i64 a) ∧ wx.cell? ⟨g, 1, none⟩ = some (.int .i64 b)) (first | exact ⟨d0, d1⟩ | exact ⟨c0, c1⟩)
                (first | (go_at_call 67; refine (pick_any _ _ _ _ s 2 (by omega) (by omega) (by omega) _ HC.out.drew').mono ?_; rintro e wD ⟨k2, s2, rfl, hk20, hk21, _, hs2, HD, HQ⟩; replace hk21 := hk21 (by omega); have HQ2 := hid HQ.out.of_drew'; have HO3 := hid (HO2.out.only HQ2.out (by omega)); have d0 : wD.cell? ⟨g, 0, none⟩ = some (.int .i64 a) := HO3.out.elem (i := 0) (by simp); have d1 : wD.cell? ⟨g, 1, none⟩ = some (.int .i64 b) := HO3.out.elem (i := 1) (by simp); obtain ⟨m1, m2⟩ := mul12 ha1 ha2 hk20 hk21))
              have e1 := wrap_9 (x := 1 + k2) (by omega) (by omega)
              have e2 := wrap_9 (x := a * (1 + k2)) (by omega) (by omega)
              have e3 := wrap_9 (x := -(a * (1 + k2))) (by omega) (by omega)
              have e4 := wrap_9 (x := -(a * (1 + k2)) - b) (by omega) (by omega)
              rw [e1, e2, e3, e4]
              obtain ⟨T, hT⟩ : ∃ T, T = -(a * (1 + k2)) - b := ⟨_, rfl⟩
              have t1 : -90 ≤ T := by omega
              have t2 : T ≤ 90 := by omega
              rw [← hT]
              have hs3 := HQ2.out.size
              have HN3 := hid (HN2.out.trans HQ2.out)
              clear e1 e2 e3 e4 m1 m2 c0 c1 d0 d1 hT HO2
              by_cases h0 : T = 0
              · subst h0
                go_wp2_with fail
                go_ret
                exact Form5.mk HTr.out hyl HO3 (by omega) HD HN3
              · have TZ : (T != 0) = true := by rw [bne_iff_ne]; exact h0
                by_cases h30 : T.natAbs ≤ 30
                · have h30i : (T.natAbs : Int) ≤ 30 := by omega
                  have hf2 := HO3.out.thaw 2
                  have d2 : wD.cell? ⟨g, 2, none⟩ = some (.int .i64 c) := HO3.out.elem (i := 2) (by simp)
                  have HSE := hid (HO3.out.storeAt 2 T)
                  have hT1 : -31 ≤ T := by omega
                  have hT2 : T ≤ 31 := by omega
                  have HTS := hid (HTr.out.setAt 2 hT1 hT2)
                  clear h0
                  go_wp2_with (go_at_call 98; refine (l1Size_any T (by omega) (by omega) _).mono ?_; rintro e w' ⟨rfl, rfl⟩)
                  go_ret
                  exact Form5.mk HTS.out (by rw [List.length_set]; exact hyl) (hid HSE.out.1) (by omega) (hid (HD.out.kept ((Below.refl w.heap.size _).grown HSE.out.2 (by omega) (fun k e => by cases e; exact HO3.out.ge g rfl)) (by omega) (by omega))) (hid (HN3.out.grown HSE.out.2 (fun k e => by cases e; exact HO3.out.ge g rfl)))
                · have h30i : ¬ (T.natAbs : Int) ≤ 30 := by omega
                  clear h0
                  go_wp2_with (go_at_call 98; refine (l1Size_any T (by omega) (by omega) _).mono ?_; rintro e w' ⟨rfl, rfl⟩)
                  go_ret
                  exact Form5.mk HTr.out hyl HO3 (by omega) HD HN3
          · go_wp2_with fail
            go_ret
            exact Form5.mk HTr.out hyl HO2 (by omega) HC HN2
        · have T3 : ((ys.length : Int) == 3) = false := by rw [beq_eq_false_iff_ne]; omega
          clear h3
          go_wp2_with fail
          go_ret
          exact Form5.mk HTr.out hyl HOr (by omega) (hid HRr.out.1) HNr

end Go.Proofs.Ytbhlgdleklfonaa

set_option linter.unusedVariables false
namespace Go.Proofs.Ytbhlgdleklfonaa
open Go.RowKit

def newt (n : Nat) : Nat → Nat → Nat
  | 0, x => x
  | f + 1, x => if (x + n / x) / 2 < x then newt n f ((x + n / x) / 2) else x
def sqrtK (n : Nat) : Nat := newt n 20 (2 ^ (Nat.log2 n / 2 + 1))
def hitZ (t : T3) (x y : Int) : Bool :=
  (-(t.a * x * x) - t.b * y * y) % t.c == 0 && (decide (0 ≤ (-(t.a * x * x) - t.b * y * y).tdiv t.c) &&
    (let q := ((-(t.a * x * x) - t.b * y * y).tdiv t.c).toNat
     let z : Int := sqrtK q
     t.a * x * x + t.b * y * y + t.c * z * z == 0 && (decide (x * x ≤ ((t.b * t.c).natAbs : Int)) && (decide (y * y ≤ ((t.a * t.c).natAbs : Int)) && !(x == 0 && y == 0)))))
def hitYs (t : T3) (x : Int) : Nat → Int → Bool
  | 0, _ => false
  | k + 1, y => hitZ t x y || hitYs t x k (y + 1)
def hitXs (t : T3) (ny : Nat) : Nat → Int → Bool
  | 0, _ => false
  | k + 1, x => hitYs t x ny 0 || hitXs t ny k (x + 1)
def oddL : List Nat := [3, 5, 7, 11, 13, 17, 19, 23, 29]
def lgT (t : T3) : Bool :=
  (decide (0 < t.a) && (decide (0 < t.b) && decide (0 < t.c))) || ((decide (t.a < 0) && (decide (t.b < 0) && decide (t.c < 0))) || (oddL.any (badP t) || hitXs t (sqrtK (t.a * t.c).natAbs + 1) (sqrtK (t.b * t.c).natAbs + 1) 0))
def freeL : List Int := [1, 2, 3, 5, 6, 7, 10, 11, 13, 14, 15, 17, 19, 21, 22, 23, 26, 29, 30]
def free2 : List Int := freeL ++ freeL.map (fun x => -x)
def lgN (t : T3) : Bool := twoD (normT 20 t).a (normT 20 t).b (normT 20 t).c == 1 && lgT (normT 20 t)
def lgA (l : List Int) : Bool := l.all (fun a => free2.all (fun b => free2.all (fun c => lgN ⟨a, b, c⟩)))
set_option maxRecDepth 100000 in
theorem lgA_1 : lgA [1, 2, 3, 5, 6] = true := by decide +kernel

end Go.Proofs.Ytbhlgdleklfonaa

set_option linter.unusedVariables false
namespace Go.Proofs.Ytbhlgdleklfonaa
open Go.RowKit

set_option maxRecDepth 100000 in
theorem lgA_2 : lgA [7, 10, 11, 13, 14] = true := by decide +kernel

end Go.Proofs.Ytbhlgdleklfonaa

set_option linter.unusedVariables false
namespace Go.Proofs.Ytbhlgdleklfonaa
open Go.RowKit

set_option maxRecDepth 100000 in
theorem lgA_3 : lgA [15, 17, 19, 21, 22] = true := by decide +kernel

end Go.Proofs.Ytbhlgdleklfonaa

set_option linter.unusedVariables false
namespace Go.Proofs.Ytbhlgdleklfonaa
open Go.RowKit

set_option maxRecDepth 100000 in
theorem lgA_4 : lgA [23, 26, 29, 30] = true := by decide +kernel

end Go.Proofs.Ytbhlgdleklfonaa

set_option linter.unusedVariables false
namespace Go.Proofs.Ytbhlgdleklfonaa
open Go.RowKit

def T3.neg (t : T3) : T3 := ⟨-t.a, -t.b, -t.c⟩
theorem twoD_neg (a b c : Int) : twoD (-a) (-b) (-c) = twoD a b c ∧ twoK (-a) (-b) (-c) = twoK a b c := by
  unfold twoD twoK
  simp only [Int.gcd_neg, Int.neg_gcd, and_self]
theorem third_neg (c : Int) (p : Nat) : thirdI (-c) p = -thirdI c p := by
  unfold thirdI
  by_cases h : c % (p : Int) = 0
  · rw [if_pos h, if_pos (Int.emod_eq_zero_of_dvd (Int.dvd_neg.2 (Int.dvd_of_emod_eq_zero h))), Int.neg_tdiv]
  · rw [if_neg h, if_neg (fun e => h (Int.emod_eq_zero_of_dvd (Int.dvd_neg.1 (Int.dvd_of_emod_eq_zero e)))), Int.neg_mul]
theorem step_neg (t : T3) : stepI t.neg = (stepI t).neg := by
  obtain ⟨a, b, c⟩ := t
  unfold stepI T3.neg
  dsimp only
  rw [(twoD_neg a b c).1, (twoD_neg a b c).2]
  by_cases h2 : twoK a b c = 2
  · simp only [if_pos h2, third_neg, Int.neg_tdiv]
  · by_cases h1 : twoK a b c = 1
    · simp only [if_neg h2, if_pos h1, third_neg, Int.neg_tdiv]
    · simp only [if_neg h2, if_neg h1, third_neg, Int.neg_tdiv]
theorem norm_neg : ∀ (f : Nat) (t : T3), normT f t.neg = (normT f t).neg
  | 0, _ => rfl
  | f + 1, t => by
    unfold normT
    rw [show twoD t.neg.a t.neg.b t.neg.c = twoD t.a t.b t.c from (twoD_neg t.a t.b t.c).1]
    by_cases h : twoD t.a t.b t.c = 1
    · rw [if_pos h, if_pos h]
    · rw [if_neg h, if_neg h, step_neg, norm_neg f]

/-- a small zero -/
def Wit (t : T3) : Prop := ∃ x y z : Nat, t.a * x * x + t.b * y * y + t.c * z * z = 0 ∧ (x : Int) * x ≤ ((t.b * t.c).natAbs : Int) ∧ (y : Int) * y ≤ ((t.a * t.c).natAbs : Int) ∧ ¬ (x = 0 ∧ y = 0)
theorem wit_neg {t : T3} (h : Wit t.neg) : Wit t := by
  obtain ⟨x, y, z, h1, h2, h3, h4⟩ := h
  unfold T3.neg at h1 h2 h3
  dsimp only at h1 h2 h3
  refine ⟨x, y, z, ?_, by rwa [Int.neg_mul_neg] at h2, by rwa [Int.neg_mul_neg] at h3, h4⟩
  simp only [Int.neg_mul] at h1
  omega
theorem hitZ_wit {t : T3} {x y : Int} (h : hitZ t x y = true) : Wit t := by
  unfold hitZ at h
  simp only [Bool.and_eq_true, beq_iff_eq, decide_eq_true_eq, Bool.not_eq_true', Bool.and_eq_false_iff, beq_eq_false_iff_ne] at h
  obtain ⟨_, _, h1, h2, h3, h4⟩ := h
  have e : ∀ k v : Int, k * (v.natAbs : Int) * (v.natAbs : Int) = k * v * v := fun k v => by
    rw [Int.mul_assoc, Int.mul_assoc, ← Int.natCast_mul, Int.natAbs_mul_self]
  refine ⟨x.natAbs, y.natAbs, sqrtK ((-(t.a * x * x) - t.b * y * y).tdiv t.c).toNat, ?_, ?_, ?_, ?_⟩
  · rw [e, e]; exact h1
  · rw [← Int.natCast_mul, Int.natAbs_mul_self]; exact h2
  · rw [← Int.natCast_mul, Int.natAbs_mul_self]; exact h3
  · rintro ⟨a, b⟩
    rcases h4 with h | h <;> omega
theorem hitYs_wit {t : T3} {x : Int} : ∀ {k : Nat} {y : Int}, hitYs t x k y = true → Wit t
  | 0, _, h => by cases h
  | k + 1, y, h => by
    unfold hitYs at h
    rcases Bool.or_eq_true _ _ ▸ h with h | h
    · exact hitZ_wit h
    · exact hitYs_wit h
theorem hitXs_wit {t : T3} {ny : Nat} : ∀ {k : Nat} {x : Int}, hitXs t ny k x = true → Wit t
  | 0, _, h => by cases h
  | k + 1, x, h => by
    unfold hitXs at h
    rcases Bool.or_eq_true _ _ ▸ h with h | h
    · exact hitYs_wit h
    · exact hitXs_wit h

theorem van_real3 {t : T3} (h : (0 < t.a ∧ 0 < t.b ∧ 0 < t.c) ∨ (t.a < 0 ∧ t.b < 0 ∧ t.c < 0)) : vanT t 0 = false := by
  unfold vanT vanB
  rw [if_pos rfl]
  unfold lessN
  rcases h with ⟨h1, h2, h3⟩ | ⟨h1, h2, h3⟩
  · simp [show ¬ t.a < 0 by omega, show ¬ t.b < 0 by omega, show ¬ t.c < 0 by omega]
  · simp [h1, h2, h3]
theorem odd_pl : oddL.all (fun p => primeN p && decide (3 ≤ p)) = true := by decide +kernel
theorem lgT_ok {t : T3} (h : t.nz) (hk : lgT t = true) : (∃ q, plI q = true ∧ vanT t q = false) ∨ Wit t := by
  unfold lgT at hk
  simp only [Bool.or_eq_true, Bool.and_eq_true, decide_eq_true_eq] at hk
  rcases hk with ⟨h1, h2, h3⟩ | ⟨h1, h2, h3⟩ | hk | hk
  · exact .inl ⟨0, rfl, van_real3 (.inl ⟨h1, h2, h3⟩)⟩
  · exact .inl ⟨0, rfl, van_real3 (.inr ⟨h1, h2, h3⟩)⟩
  · obtain ⟨p, hp, hb⟩ := List.any_eq_true.1 hk
    have := List.all_eq_true.1 odd_pl p hp
    rw [Bool.and_eq_true, decide_eq_true_eq] at this
    exact .inl ⟨(p : Int), by unfold plI primeI; rw [Int.toNat_natCast, this.1, Bool.or_true], badP_van this.1 this.2 h hb⟩
  · exact .inr (hitXs_wit hk)

theorem free_tab : (List.range 31).all (fun k => decide (k = 0) || (decide (k % 4 = 0) || (decide (k % 9 = 0) || (decide (k % 25 = 0) || freeL.contains (k : Int))))) = true := by decide +kernel
theorem free_in {n : Nat} (h0 : n ≠ 0) (hb : n ≤ 30) (hf : SqFree n) : (n : Int) ∈ freeL := by
  have := List.all_eq_true.1 free_tab n (List.mem_range.2 (by omega))
  simp only [Bool.or_eq_true, decide_eq_true_eq] at this
  rcases this with h | h | h | h | h
  · exact absurd h h0
  · exact absurd (Nat.dvd_of_mod_eq_zero h) (hf 2 (by decide))
  · exact absurd (Nat.dvd_of_mod_eq_zero h) (hf 3 (by decide))
  · exact absurd (Nat.dvd_of_mod_eq_zero h) (hf 5 (by decide))
  · exact List.contains_iff_mem.1 h
theorem free2_in {n : Int} (h0 : n ≠ 0) (h1 : -30 ≤ n) (h2 : n ≤ 30) (hf : SqFree n.natAbs) : n ∈ free2 := by
  have h := free_in (n := n.natAbs) (by omega) (by omega) hf
  unfold free2
  rw [List.mem_append]
  rcases Int.le_total 0 n with hn | hn
  · left; rwa [Int.natAbs_of_nonneg hn] at h
  · right; exact List.mem_map.2 ⟨_, h, by rw [Int.ofNat_natAbs_of_nonpos hn, Int.neg_neg]⟩
theorem lgA_at {l : List Int} (h : lgA l = true) {a b c : Int} (ha : a ∈ l) (hb : b ∈ free2) (hc : c ∈ free2) : lgN ⟨a, b, c⟩ = true :=
  List.all_eq_true.1 (List.all_eq_true.1 (List.all_eq_true.1 h a ha) b hb) c hc
theorem lgN_pos {a b c : Int} (ha : a ∈ freeL) (hb : b ∈ free2) (hc : c ∈ free2) : lgN ⟨a, b, c⟩ = true := by
  have hm : a ∈ [1, 2, 3, 5, 6] ++ ([7, 10, 11, 13, 14] ++ ([15, 17, 19, 21, 22] ++ [23, 26, 29, 30])) := ha
  rcases List.mem_append.1 hm with h | h
  · exact lgA_at lgA_1 h hb hc
  · rcases List.mem_append.1 h with h | h
    · exact lgA_at lgA_2 h hb hc
    · rcases List.mem_append.1 h with h | h
      · exact lgA_at lgA_3 h hb hc
      · exact lgA_at lgA_4 h hb hc
def T3.small (t : T3) : Prop := ∀ x ∈ [t.a, t.b, t.c], x ≠ 0 ∧ -30 ≤ x ∧ x ≤ 30 ∧ SqFree x.natAbs
theorem T3.small.nz {t : T3} (h : t.small) : t.nz := ⟨(h _ (by simp)).1, (h _ (by simp)).1, (h _ (by simp)).1⟩
theorem leg_pos {t : T3} (h : t.small) (ha : 0 < t.a) : twoD (normT 20 t).a (normT 20 t).b (normT 20 t).c = 1 ∧ ((∃ q, plI q = true ∧ vanT t q = false) ∨ Wit (normT 20 t)) := by
  obtain ⟨a, b, c⟩ := t
  have h1 := h a (by simp)
  have h2 := h b (by simp)
  have h3 := h c (by simp)
  dsimp only at ha
  have hf := free_in (n := a.natAbs) (by omega) (by omega) h1.2.2.2
  rw [Int.natAbs_of_nonneg (by omega)] at hf
  have hk := lgN_pos hf (free2_in h2.1 h2.2.1 h2.2.2.1 h2.2.2.2) (free2_in h3.1 h3.2.1 h3.2.2.1 h3.2.2.2)
  unfold lgN at hk
  rw [Bool.and_eq_true, beq_iff_eq] at hk
  obtain ⟨n1, n2⟩ := norm_ok 20 h.nz
  refine ⟨hk.1, ?_⟩
  rcases lgT_ok n1 hk.2 with ⟨q, hq, hv⟩ | hw
  · exact .inl ⟨q, hq, by rw [← n2 q hq]; exact hv⟩
  · exact .inr hw
/-- THREE TERMS THAT VANISH EVERYWHERE HAVE A SMALL ZERO -/
theorem leg {t : T3} (h : t.small) : twoD (normT 20 t).a (normT 20 t).b (normT 20 t).c = 1 ∧ ((∃ q, plI q = true ∧ vanT t q = false) ∨ Wit (normT 20 t)) := by
  rcases Int.lt_or_gt_of_ne h.nz.1 with ha | ha
  · have hs : t.neg.small := fun x hx => by
      unfold T3.neg at hx
      simp only [List.mem_cons, List.not_mem_nil, or_false] at hx
      have g : ∀ y ∈ [t.a, t.b, t.c], -y ≠ 0 ∧ -30 ≤ -y ∧ -y ≤ 30 ∧ SqFree (-y).natAbs := fun y hy => by
        have := h y hy
        rw [Int.natAbs_neg]
        exact ⟨by omega, by omega, by omega, this.2.2.2⟩
      rcases hx with rfl | rfl | rfl <;> exact g _ (by simp)
    obtain ⟨h1, h2⟩ := leg_pos hs (show 0 < -t.a by omega)
    rw [norm_neg] at h1 h2
    refine ⟨by rw [← h1]; exact (twoD_neg _ _ _).1.symm, ?_⟩
    rcases h2 with ⟨q, hq, hv⟩ | hw
    · refine .inl ⟨q, hq, ?_⟩
      rw [← hv]
      obtain ⟨n1, n2, n3⟩ := h.nz
      have := van_scale hq (n := -1) (by decide) (nz3 n1 n2 n3) (by simp) (by simp)
      unfold vanT T3.neg
      rw [← this]
      show vanB [-1 * t.a, -1 * t.b, -1 * t.c] q = _
      rw [Int.neg_one_mul, Int.neg_one_mul, Int.neg_one_mul]
    · exact .inr (wit_neg hw)
  · exact leg_pos h ha

end Go.Proofs.Ytbhlgdleklfonaa

set_option linter.unusedVariables false
namespace Go.Proofs.Ytbhlgdleklfonaa
open Go.RowKit

theorem core_small {x : Int} (h0 : x ≠ 0) : coreG x ≠ 0 ∧ (coreG x).natAbs * (rootG x * rootG x) = x.natAbs ∧ (coreG x).natAbs ≤ x.natAbs ∧ SqFree (coreG x).natAbs ∧ 1 ≤ rootG x := by
  have h := core_is h0
  have e : (coreG x).natAbs * (rootG x * rootG x) = x.natAbs := by
    conv => rhs; rw [← h.eq]
    rw [Int.natAbs_mul, Int.natAbs_mul, Int.natAbs_natCast]
  refine ⟨h.ne h0, e, ?_, h.free, h.pos⟩
  rw [← e]
  exact Nat.le_mul_of_pos_right _ (Nat.mul_pos h.pos h.pos)
theorem root_free {c : Int} (h0 : c ≠ 0) (h : SqFree c.natAbs) : rootG c = 1 ∧ coreG c = c := by
  have hi : IsCore c 1 c := ⟨by rw [Int.natCast_one, Int.mul_one, Int.mul_one], Nat.le_refl _, h⟩
  have := core_eq h0 hi
  exact ⟨this.2, this.1⟩
theorem free_root {c : Int} (h0 : c ≠ 0) (h : rootG c = 1) : SqFree c.natAbs := by
  have h1 := core_is h0
  have e := h1.eq
  rw [h] at e
  have e2 : coreG c = c := by simpa using e
  have := h1.free
  rwa [e2] at this

/-- three terms and three factors, as the first step leaves them -/
def coreT (a b c : Int) : T3 := ⟨coreG a, coreG b, coreG c⟩
def rootM (a b c : Int) : T3 := ⟨(rootG b : Int) * rootG c, (rootG a : Int) * rootG c, (rootG a : Int) * rootG b⟩
def nT (a b c : Int) : T3 := normT 20 (coreT a b c)
def nM (a b c : Int) : T3 := normM 20 (coreT a b c) (rootM a b c)
def T3.toL (t : T3) : List Int := [t.a, t.b, t.c]
structure Ok3 (a b c : Int) : Prop where
  a0 : a ≠ 0
  b0 : b ≠ 0
  c0 : c ≠ 0
  a1 : -30 ≤ a
  a2 : a ≤ 30
  b1 : -30 ≤ b
  b2 : b ≤ 30
  c1 : -30 ≤ c
  c2 : c ≤ 30
theorem ok3_of {a b c : Int} (h : fvB [a, b, c] = true) : Ok3 a b c := by
  have h1 := (fvB_iff.1 h).1
  have ha := h1 a (by simp)
  have hb := h1 b (by simp)
  have hc := h1 c (by simp)
  exact ⟨ha.1, hb.1, hc.1, ha.2.1, ha.2.2, hb.2.1, hb.2.2, hc.2.1, hc.2.2⟩
theorem ok3_fv {a b c : Int} (h : Ok3 a b c) : fvB [a, b, c] = true := by
  refine fvB_iff.2 ⟨fun x hx => ?_, by simp, by simp⟩
  simp only [List.mem_cons, List.not_mem_nil, or_false] at hx
  rcases hx with rfl | rfl | rfl
  · exact ⟨h.a0, h.a1, h.a2⟩
  · exact ⟨h.b0, h.b1, h.b2⟩
  · exact ⟨h.c0, h.c1, h.c2⟩
theorem Ok3.small {a b c : Int} (h : Ok3 a b c) : (coreT a b c).small := by
  have S : ∀ x : Int, x ≠ 0 → -30 ≤ x → x ≤ 30 → coreG x ≠ 0 ∧ -30 ≤ coreG x ∧ coreG x ≤ 30 ∧ SqFree (coreG x).natAbs := fun x h0 h1 h2 => by
    obtain ⟨k0, _, k2, k3, _⟩ := core_small h0
    exact ⟨k0, by omega, by omega, k3⟩
  intro x hx
  unfold coreT at hx
  simp only [List.mem_cons, List.not_mem_nil, or_false] at hx
  rcases hx with rfl | rfl | rfl
  · exact S _ h.a0 h.a1 h.a2
  · exact S _ h.b0 h.b1 h.b2
  · exact S _ h.c0 h.c1 h.c2
theorem Ok3.free {a b c : Int} (h : Ok3 a b c) : (coreT a b c).free := ⟨(core_small h.a0).2.2.2.1, (core_small h.b0).2.2.2.1, (core_small h.c0).2.2.2.1⟩
theorem prod3_le {a b c n : Nat} (ha : a ≤ n) (hb : b ≤ n) (hc : c ≤ n) : a * b * c ≤ n * n * n := Nat.mul_le_mul (Nat.mul_le_mul ha hb) hc
theorem Ok3.prod {a b c : Int} (h : Ok3 a b c) : (coreT a b c).prod ≤ a.natAbs * b.natAbs * c.natAbs ∧ a.natAbs * b.natAbs * c.natAbs ≤ 27000 := by
  refine ⟨?_, ?_⟩
  · exact Nat.mul_le_mul (Nat.mul_le_mul (core_small h.a0).2.2.1 (core_small h.b0).2.2.1) (core_small h.c0).2.2.1
  · have := h.a1; have := h.a2; have := h.b1; have := h.b2; have := h.c1; have := h.c2
    exact prod3_le (n := 30) (by omega) (by omega) (by omega)
theorem mm_id (x y u v : Nat) : x * y * (x * y) * (u * v) = (u * (x * x)) * (v * (y * y)) := by
  simp only [Nat.mul_comm, Nat.mul_left_comm]
theorem Ok3.minv {a b c : Int} (h : Ok3 a b c) : MInv 900 (coreT a b c) (rootM a b c) := by
  obtain ⟨_, ea, _, _, pa⟩ := core_small h.a0
  obtain ⟨_, eb, _, _, pb⟩ := core_small h.b0
  obtain ⟨_, ec, _, _, pc⟩ := core_small h.c0
  have := h.a1; have := h.a2; have := h.b1; have := h.b2; have := h.c1; have := h.c2
  have one : ∀ m n : Nat, 1 ≤ m → 1 ≤ n → 1 ≤ (m : Int) * n := fun m n hm hn => by
    have := Nat.mul_le_mul hm hn
    have e : (m : Int) * n = ((m * n : Nat) : Int) := by push_cast; rfl
    rw [e]; omega
  have K : ∀ (m n u v x y : Nat), u * (m * m) = x → v * (n * n) = y → x ≤ 30 → y ≤ 30 → ((m : Int) * n).natAbs * ((m : Int) * n).natAbs * (u * v) ≤ 900 := fun m n u v x y hx hy h1 h2 => by
    rw [Int.natAbs_mul, Int.natAbs_natCast, Int.natAbs_natCast, mm_id, hx, hy]
    exact Nat.mul_le_mul h1 h2
  refine ⟨one _ _ pb pc, one _ _ pa pc, one _ _ pa pb, K _ _ _ _ _ _ eb ec (by omega) (by omega), K _ _ _ _ _ _ ea ec (by omega) (by omega), K _ _ _ _ _ _ ea eb (by omega) (by omega)⟩
theorem Ok3.carry {a b c : Int} (h : Ok3 a b c) : Carry ⟨a, b, c⟩ (coreT a b c) (rootM a b c) := fun x y z hz => by
  have ea := (core_is h.a0).eq
  have eb := (core_is h.b0).eq
  have ec := (core_is h.c0).eq
  unfold Zero3 at hz ⊢
  unfold coreT at hz
  unfold rootM
  obtain ⟨A, hA⟩ : ∃ A, A = coreG a := ⟨_, rfl⟩
  obtain ⟨B, hB⟩ : ∃ B, B = coreG b := ⟨_, rfl⟩
  obtain ⟨C, hC⟩ : ∃ C, C = coreG c := ⟨_, rfl⟩
  obtain ⟨r, hr⟩ : ∃ r : Int, r = rootG a := ⟨_, rfl⟩
  obtain ⟨s, hs⟩ : ∃ s : Int, s = rootG b := ⟨_, rfl⟩
  obtain ⟨t, ht⟩ : ∃ t : Int, t = rootG c := ⟨_, rfl⟩
  dsimp only at hz ⊢
  rw [← hA] at ea hz
  rw [← hB] at eb hz
  rw [← hC] at ec hz
  rw [← hr] at ea ⊢
  rw [← hs] at eb ⊢
  rw [← ht] at ec ⊢
  rw [← ea, ← eb, ← ec]
  have e : A * (r * r) * (s * t * x) * (s * t * x) + B * (s * s) * (r * t * y) * (r * t * y) + C * (t * t) * (r * s * z) * (r * s * z) = (r * r * (s * s) * (t * t)) * (A * x * x + B * y * y + C * z * z) := by
    simp only [Int.mul_add, Int.mul_comm, Int.mul_left_comm]
  rw [e, hz, Int.mul_zero]

/-- what normal terms are -/
structure Nrm (a b c : Int) : Prop where
  nz : (nT a b c).nz
  two : twoD (nT a b c).a (nT a b c).b (nT a b c).c = 1
  free : (nT a b c).free
  prod : (nT a b c).prod ≤ a.natAbs * b.natAbs * c.natAbs
  lim : (nT a b c).prod ≤ 27000
  minv : MInv 900 (nT a b c) (nM a b c)
  carry : Carry ⟨a, b, c⟩ (nT a b c) (nM a b c)
theorem Ok3.nrm {a b c : Int} (h : Ok3 a b c) : Nrm a b c := by
  have hp := norm_prod 20 (coreT a b c)
  have h1 := h.prod
  exact ⟨(norm_ok 20 h.small.nz).1, (leg h.small).1, norm_free 20 h.free, Nat.le_trans hp h1.1, Nat.le_trans hp (Nat.le_trans h1.1 h1.2), norm_minv 20 h.minv, norm_carry 20 h.carry⟩

/-- a root, if there is one -/
def rootO (n : Int) : Option Nat := if n < 0 then none else (List.range (n.toNat + 1)).find? (fun z : Nat => decide ((z : Int) * z = n))
theorem sq_inj {x y : Nat} (h : (x : Int) * x = (y : Int) * y) : x = y := by
  have h2 : x * x = y * y := by exact_mod_cast h
  rcases Nat.lt_trichotomy x y with h1 | h1 | h1
  · have := Nat.mul_lt_mul_of_lt_of_le h1 (Nat.le_of_lt h1) (by omega); omega
  · exact h1
  · have := Nat.mul_lt_mul_of_lt_of_le h1 (Nat.le_of_lt h1) (by omega); omega
theorem rootO_of {n : Int} {z : Nat} (h : (z : Int) * z = n) : rootO n = some z := by
  have hn : ¬ n < 0 := by have := Int.mul_nonneg (Int.natCast_nonneg z) (Int.natCast_nonneg z); omega
  unfold rootO
  rw [if_neg hn]
  have hz : z < n.toNat + 1 := by
    have h1 : z ≤ z * z := by
      rcases Nat.eq_zero_or_pos z with e | e
      · rw [e]; exact Nat.zero_le _
      · exact Nat.le_mul_of_pos_left _ e
    have h2 : ((z * z : Nat) : Int) = n := by push_cast; exact h
    omega
  cases hf : (List.range (n.toNat + 1)).find? (fun z : Nat => decide ((z : Int) * z = n)) with
  | none =>
    have := List.find?_eq_none.1 hf z (List.mem_range.2 hz)
    rw [decide_eq_true h] at this
    exact absurd rfl this
  | some y =>
    have := List.find?_some hf
    rw [decide_eq_true_eq] at this
    rw [sq_inj (this.trans h.symm)]
theorem rootO_some {n : Int} {z : Nat} (h : rootO n = some z) : (z : Int) * z = n := by
  unfold rootO at h
  by_cases hn : n < 0
  · rw [if_pos hn] at h; cases h
  · rw [if_neg hn] at h
    have := List.find?_some h
    rwa [decide_eq_true_eq] at this
theorem rootO_none {n : Int} (h : ∀ z : Nat, (z : Int) * z ≠ n) : rootO n = none := by
  cases hr : rootO n with
  | none => rfl
  | some z => exact absurd (rootO_some hr) (h z)

/-- the search -/
def topI (t : T3) (x y : Nat) : Int := 0 - t.a * x * x - t.b * y * y
def hitO (t : T3) (x y : Nat) : Option (List Int) := if x = 0 ∧ y = 0 then none else if topI t x y % t.c = 0 then (rootO ((topI t x y).tdiv t.c)).map (fun z => [(x : Int), (y : Int), (z : Int)]) else none
def firstO {α : Type} (f : Nat → Option α) (N : Nat) : Option α := (List.range (N + 1)).findSome? (fun i => if i * i ≤ N then f i else none)
theorem first_none {α : Type} {f : Nat → Option α} {N k : Nat} (h : ∀ i, i < k → f i = none) (hk : ¬ k * k ≤ N) : firstO f N = none := by
  unfold firstO
  rw [List.findSome?_eq_none_iff]
  intro i _
  by_cases hi : i * i ≤ N
  · rw [if_pos hi]
    refine h i ?_
    rcases Nat.lt_or_ge i k with h1 | h1
    · exact h1
    · have := Nat.mul_le_mul h1 h1; omega
  · rw [if_neg hi]
theorem first_some {α : Type} {f : Nat → Option α} {N k : Nat} {a : α} (h : ∀ i, i < k → f i = none) (hk : k * k ≤ N) (ha : f k = some a) : firstO f N = some a := by
  have hkN : k ≤ N := by
    rcases Nat.eq_zero_or_pos k with e | e
    · omega
    · have := Nat.le_mul_of_pos_left k e; omega
  unfold firstO
  rw [show N + 1 = k + (1 + (N - k)) by omega, List.range_add, List.findSome?_append, List.findSome?_eq_none_iff.2 (fun i hi => by rw [h i (List.mem_range.1 hi), ite_self]), Option.none_or, List.range_add, List.map_append, List.findSome?_append]
  simp [hk, ha]
theorem first_mem {α : Type} {f : Nat → Option α} {N : Nat} {a : α} (h : firstO f N = some a) : ∃ k, k * k ≤ N ∧ f k = some a := by
  unfold firstO at h
  obtain ⟨k, _, hk⟩ := List.exists_of_findSome?_eq_some h
  by_cases h1 : k * k ≤ N
  · rw [if_pos h1] at hk; exact ⟨k, h1, hk⟩
  · rw [if_neg h1] at hk; cases hk
theorem first_there {α : Type} {f : Nat → Option α} {N k : Nat} {a : α} (hk : k * k ≤ N) (ha : f k = some a) : ∃ b, firstO f N = some b := by
  cases hf : firstO f N with
  | some b => exact ⟨b, rfl⟩
  | none =>
    unfold firstO at hf
    have hkN : k ≤ N := by
      rcases Nat.eq_zero_or_pos k with e | e
      · omega
      · have := Nat.le_mul_of_pos_left k e; omega
    have := List.findSome?_eq_none_iff.1 hf k (List.mem_range.2 (by omega))
    rw [if_pos hk, ha] at this
    cases this
def rowO (t : T3) (x : Nat) : Option (List Int) := firstO (hitO t x) (t.a * t.c).natAbs
def searchO (t : T3) : Option (List Int) := firstO (rowO t) (t.b * t.c).natAbs
/-- what it finds -/
structure Found (t : T3) (x y z : Nat) : Prop where
  zero : t.a * x * x + t.b * y * y + t.c * z * z = 0
  xle : x * x ≤ (t.b * t.c).natAbs
  yle : y * y ≤ (t.a * t.c).natAbs
  some : ¬ (x = 0 ∧ y = 0)
theorem hit_found {t : T3} {x y : Nat} {l : List Int} (h : hitO t x y = some l) : ∃ z : Nat, l = [(x : Int), (y : Int), (z : Int)] ∧ t.a * x * x + t.b * y * y + t.c * z * z = 0 ∧ ¬ (x = 0 ∧ y = 0) := by
  unfold hitO at h
  by_cases h0 : x = 0 ∧ y = 0
  · rw [if_pos h0] at h; cases h
  · rw [if_neg h0] at h
    by_cases hd : topI t x y % t.c = 0
    · rw [if_pos hd] at h
      cases hr : rootO ((topI t x y).tdiv t.c) with
      | none => rw [hr] at h; cases h
      | some z =>
        rw [hr] at h
        cases h
        refine ⟨z, rfl, ?_, h0⟩
        have h1 := rootO_some hr
        have h2 := Int.mul_tdiv_cancel' (Int.dvd_of_emod_eq_zero hd)
        rw [← h1] at h2
        unfold topI at h2
        rw [← Int.mul_assoc] at h2
        omega
    · rw [if_neg hd] at h; cases h
theorem search_found {t : T3} {l : List Int} (h : searchO t = some l) : ∃ x y z : Nat, l = [(x : Int), (y : Int), (z : Int)] ∧ Found t x y z := by
  obtain ⟨x, hx, h1⟩ := first_mem h
  obtain ⟨y, hy, h2⟩ := first_mem h1
  obtain ⟨z, hl, h3, h4⟩ := hit_found h2
  exact ⟨x, y, z, hl, h3, hx, hy, h4⟩
theorem found_search {t : T3} {x y z : Nat} (hc : t.c ≠ 0) (h : Found t x y z) : ∃ l, searchO t = some l := by
  have e : topI t x y = t.c * ((z : Int) * z) := by unfold topI; have := h.zero; rw [← Int.mul_assoc]; omega
  have hh : hitO t x y = some [(x : Int), (y : Int), (z : Int)] := by
    unfold hitO
    rw [if_neg h.some, if_pos (by rw [e]; exact Int.mul_emod_right _ _), e, Int.mul_tdiv_cancel_left _ hc, rootO_of rfl]
    rfl
  obtain ⟨l1, h1⟩ := first_there (f := hitO t x) h.yle hh
  exact first_there (f := rowO t) h.xle h1
theorem wit_search {t : T3} (hc : t.c ≠ 0) (h : Wit t) : ∃ l, searchO t = some l := by
  obtain ⟨x, y, z, h1, h2, h3, h4⟩ := h
  exact found_search hc ⟨h1, by exact_mod_cast h2, by exact_mod_cast h3, h4⟩

/-- are three terms normal and small? -/
def nrmB (xs : List Int) : Bool := decide (xs.length = 3) && (xs.all (fun x => !(x == 0) && (inR x (-30000) 30000 && decide (rootG x = 1))) && (decide ((prodI xs).natAbs ≤ 30000) && decide (twoD (xs.getD 0 0) (xs.getD 1 0) (xs.getD 2 0) = 1)))
def T3.of (xs : List Int) : T3 := ⟨xs.getD 0 0, xs.getD 1 0, xs.getD 2 0⟩
def zsearchO (xs : List Int) : Option (List Int) := if nrmB xs then searchO (T3.of xs) else none
theorem nrmB_iff {a b c : Int} : nrmB [a, b, c] = true ↔ (a ≠ 0 ∧ b ≠ 0 ∧ c ≠ 0) ∧ ((-30000 ≤ a ∧ a ≤ 30000) ∧ (-30000 ≤ b ∧ b ≤ 30000) ∧ (-30000 ≤ c ∧ c ≤ 30000)) ∧ (rootG a = 1 ∧ rootG b = 1 ∧ rootG c = 1) ∧ (a * b * c).natAbs ≤ 30000 ∧ twoD a b c = 1 := by
  have e : prodI [a, b, c] = a * b * c := by show a * (b * (c * 1)) = _; rw [Int.mul_one, Int.mul_assoc]
  unfold nrmB inR
  rw [e]
  simp only [List.length_cons, List.length_nil, List.all_cons, List.all_nil, Bool.and_true, List.getD_cons_zero, List.getD_cons_succ, Bool.and_eq_true, Bool.not_eq_true', beq_eq_false_iff_ne, decide_eq_true_eq]
  constructor
  · rintro ⟨_, ⟨⟨a0, ⟨a1, a2⟩, a3⟩, ⟨b0, ⟨b1, b2⟩, b3⟩, c0, ⟨c1, c2⟩, c3⟩, h1, h2⟩
    exact ⟨⟨a0, b0, c0⟩, ⟨⟨a1, a2⟩, ⟨b1, b2⟩, c1, c2⟩, ⟨a3, b3, c3⟩, h1, h2⟩
  · rintro ⟨⟨a0, b0, c0⟩, ⟨⟨a1, a2⟩, ⟨b1, b2⟩, c1, c2⟩, ⟨a3, b3, c3⟩, h1, h2⟩
    exact ⟨trivial, ⟨⟨a0, ⟨a1, a2⟩, a3⟩, ⟨b0, ⟨b1, b2⟩, b3⟩, c0, ⟨c1, c2⟩, c3⟩, h1, h2⟩
theorem nrm_len {xs : List Int} (h : xs.length ≠ 3) : nrmB xs = false := by unfold nrmB; rw [decide_eq_false h]; rfl
theorem T3.bd {t : T3} (h : t.nz) {N : Nat} (hp : t.prod ≤ N) : t.a.natAbs ≤ N ∧ t.b.natAbs ≤ N ∧ t.c.natAbs ≤ N ∧ (t.b * t.c).natAbs ≤ N ∧ (t.a * t.c).natAbs ≤ N ∧ (t.a * t.b).natAbs ≤ N := by
  obtain ⟨ha, hb, hc⟩ := h
  unfold T3.prod at hp
  have a1 : 1 ≤ t.a.natAbs := by omega
  have b1 : 1 ≤ t.b.natAbs := by omega
  have c1 : 1 ≤ t.c.natAbs := by omega
  rw [Int.natAbs_mul, Int.natAbs_mul, Int.natAbs_mul]
  have e1 : t.a.natAbs * t.b.natAbs * t.c.natAbs = t.a.natAbs * (t.b.natAbs * t.c.natAbs) := Nat.mul_assoc ..
  have e2 : t.a.natAbs * t.b.natAbs * t.c.natAbs = t.b.natAbs * (t.a.natAbs * t.c.natAbs) := by rw [Nat.mul_assoc, Nat.mul_left_comm]
  have m1 := Nat.le_mul_of_pos_left (t.b.natAbs * t.c.natAbs) a1
  have m2 := Nat.le_mul_of_pos_left (t.a.natAbs * t.c.natAbs) b1
  have m3 := Nat.le_mul_of_pos_right (t.a.natAbs * t.b.natAbs) c1
  have m4 := Nat.le_mul_of_pos_right t.b.natAbs c1
  have m5 := Nat.le_mul_of_pos_right t.a.natAbs c1
  have m6 := Nat.le_mul_of_pos_left t.c.natAbs b1
  omega
theorem Nrm.is {a b c : Int} (h : Nrm a b c) : nrmB (nT a b c).toL = true := by
  obtain ⟨ha, hb, hc⟩ := h.nz
  have hbd := T3.bd h.nz h.lim
  unfold T3.toL
  rw [nrmB_iff]
  refine ⟨⟨ha, hb, hc⟩, by omega, ⟨(root_free ha h.free.1).1, (root_free hb h.free.2.1).1, (root_free hc h.free.2.2).1⟩, ?_, h.two⟩
  rw [Int.natAbs_mul, Int.natAbs_mul]
  have := h.lim
  unfold T3.prod at this
  omega

end Go.Proofs.Ytbhlgdleklfonaa

set_option linter.unusedVariables false
namespace Go.Proofs.Ytbhlgdleklfonaa
open Go.RowKit

theorem wrap5 : IntKind.i64.wrap 0 = 0 ∧ IntKind.i64.wrap 1 = 1 ∧ IntKind.i64.wrap 2 = 2 ∧ IntKind.i64.wrap 3 = 3 ∧ IntKind.i64.wrap 4 = 4 := by decide
/-- the cells of a list of three -/
theorem rd_three {w : World} {v : Value} {a b c : Int} (h : Rd w v [a, b, c]) : ∃ g o cap, v = .slice (some ⟨g, o, none⟩) 3 cap ∧ w.cell? ⟨g, o, none⟩ = some (.int .i64 a) ∧ w.cell? ⟨g, o + 1, none⟩ = some (.int .i64 b) ∧ w.cell? ⟨g, o + 2, none⟩ = some (.int .i64 c) := by
  obtain ⟨ad, cap, rfl, hform⟩ := h.form
  obtain ⟨g, o, rfl, _, hc⟩ := hform (by simp)
  exact ⟨g, o, cap, rfl, hc 0 (by simp), hc 1 (by simp), hc 2 (by simp)⟩
theorem lp_head {g : Nat} (h : 1 < g) : 0 < (natsI (plistG g)).length ∧ (natsI (plistG g)).getD 0 0 = ((lpG g : Nat) : Int) := by
  obtain ⟨_, h2⟩ := lpG_spec h
  unfold lpG at h2 ⊢
  cases hl : plistG g with
  | nil =>
    exfalso
    obtain ⟨s1, s2, s3⟩ := plistG_spec (show 0 < g by omega)
    obtain ⟨p1, p2⟩ := lpG_spec h
    have := s3 _ p1 p2
    rw [hl] at this
    cases this
  | cons x t => exact ⟨by simp [natsI], rfl⟩
theorem lp_bd {g : Nat} (h : 1 < g) : lpG g ≤ g := Nat.le_of_dvd (by omega) (lpG_spec h).2
theorem lp_two {g : Nat} (h : 1 < g) : 2 ≤ lpG g := (lpG_spec h).1.1
theorem gcd_le3 {a b : Int} (h0 : a ≠ 0) (h1 : -100000 ≤ a) (h2 : a ≤ 100000) : Nat.gcd a.natAbs b.natAbs ≤ 100000 :=
  Nat.le_trans (Nat.le_of_dvd (by omega) (Nat.gcd_dvd_left _ _)) (by omega)
/-- what tells two of three terms -/
def TwoDPost (a b c : Int) (w : World) (e : Ending) (w' : World) : Prop := e = .returned (.tuple #[.int .i64 (twoD a b c : Nat), .int .i64 (twoK a b c : Nat)]) ∧ Below w.heap.size w w'
set_option maxRecDepth 100000 in
set_option maxHeartbeats 4000000 in
theorem l5Two_any (v : Value) (a b c : Int) (a0 : a ≠ 0) (b0 : b ≠ 0) (c0 : c ≠ 0) (a1 : -100000 ≤ a) (a2 : a ≤ 100000) (b1 : -100000 ≤ b) (b2 : b ≤ 100000) (c1 : -100000 ≤ c) (c2 : c ≤ 100000) (w : World) (h : Rd w v [a, b, c]) :
    Calls Try.prog 110 #[v] w (TwoDPost a b c w) := by
  obtain ⟨g, o, cap, rfl, k0, k1, k2⟩ := rd_three h
  obtain ⟨wr0, wr1, wr2, wr3, wr4⟩ := wrap5
  have GA := hid (gcd_le3 (b := b) a0 a1 a2)
  have GB := hid (gcd_le3 (b := a) c0 c1 c2)
  have GC := hid (gcd_le3 (b := c) b0 b1 b2)
  have QG : Hid (∀ (x y : Int), -100000 ≤ x → x ≤ 100000 → -100000 ≤ y → y ≤ 100000 → ∀ (w : World) (n : Nat), Calls Try.prog 108 #[.int .i64 x, .int .i64 y] (w.drewN n) fun e w'' => e = .returned (.int .i64 (Nat.gcd x.natAbs y.natAbs : Nat)) ∧ ∃ m, w'' = w.drewN m) :=
    hid (fun x y x1 x2 y1 y2 w n => Calls.quiet_of_same ((l1Gcd_any x y (by omega) (by omega) (by omega) (by omega) _).mono fun _ _ h => ⟨h.1, h.2.symm⟩))
  have E1 : Hid (∀ G : Nat, G = Nat.gcd a.natAbs b.natAbs → 1 < G → twoD a b c = lpG G ∧ twoK a b c = 2) := hid (fun G hG h1 => by
    have e : Int.gcd a b = G := hG.symm
    unfold twoD twoK
    rw [e, if_pos h1, if_pos h1]
    exact ⟨rfl, rfl⟩)
  have E2 : Hid (∀ G : Nat, G = Nat.gcd c.natAbs a.natAbs → ¬ 1 < Nat.gcd a.natAbs b.natAbs → 1 < G → twoD a b c = lpG G ∧ twoK a b c = 1) := hid (fun G hG h0 h1 => by
    have e : Int.gcd c a = G := hG.symm
    have h0 : ¬ 1 < Int.gcd a b := h0
    unfold twoD twoK
    rw [if_neg h0, if_neg h0, e, if_pos h1, if_pos h1]
    exact ⟨rfl, rfl⟩)
  have E3 : Hid (∀ G : Nat, G = Nat.gcd b.natAbs c.natAbs → ¬ 1 < Nat.gcd a.natAbs b.natAbs → ¬ 1 < Nat.gcd c.natAbs a.natAbs → 1 < G → twoD a b c = lpG G ∧ twoK a b c = 0) := hid (fun G hG h0 h2 h1 => by
    have e : Int.gcd b c = G := hG.symm
    have h0 : ¬ 1 < Int.gcd a b := h0
    have h2 : ¬ 1 < Int.gcd c a := h2
    unfold twoD twoK
    rw [if_neg h0, if_neg h0, if_neg h2, if_neg h2, e, if_pos h1]
    exact ⟨rfl, rfl⟩)
  have E4 : Hid (¬ 1 < Nat.gcd a.natAbs b.natAbs → ¬ 1 < Nat.gcd c.natAbs a.natAbs → ¬ 1 < Nat.gcd b.natAbs c.natAbs → twoD a b c = 1 ∧ twoK a b c = 0) := hid (fun h0 h1 h2 => by
    have h0 : ¬ 1 < Int.gcd a b := h0
    have h1 : ¬ 1 < Int.gcd c a := h1
    have h2 : ¬ 1 < Int.gcd b c := h2
    unfold twoD twoK
    exact ⟨by rw [if_neg h0, if_neg h1, if_neg h2], by rw [if_neg h0, if_neg h1]⟩)
  clear h a0 b0 c0
  go_enter Try.func110, Try.ntmps110
  go_wp2_with fail
  go_loopw [4] (fun st wr => ∃ (T : Int), st = .int .i64 T ∧ Hid (∃ k, wr = w.drewN k) ∧ (T = 2 ∨ (T = 1 ∧ Hid (¬ 1 < Nat.gcd a.natAbs b.natAbs)) ∨ (T = 0 ∧ Hid (¬ 1 < Nat.gcd a.natAbs b.natAbs) ∧ Hid (¬ 1 < Nat.gcd c.natAbs a.natAbs)) ∨ (T = -1 ∧ Hid (¬ 1 < Nat.gcd a.natAbs b.natAbs) ∧ Hid (¬ 1 < Nat.gcd c.natAbs a.natAbs) ∧ Hid (¬ 1 < Nat.gcd b.natAbs c.natAbs)))) (fun st _ => (intOf st + 1).toNat)
  case atStart => exact ⟨2, rfl, hid ⟨0, rfl⟩, .inl rfl⟩
  case round =>
    obtain ⟨T, rfl, HW, hT⟩ := hrel
    rename World => wB
    have q0 : wB.cell? ⟨g, o, none⟩ = some (.int .i64 a) := by obtain ⟨k, rfl⟩ := HW.out; exact k0
    have q1 : wB.cell? ⟨g, o + 1, none⟩ = some (.int .i64 b) := by obtain ⟨k, rfl⟩ := HW.out; exact k1
    have q2 : wB.cell? ⟨g, o + 2, none⟩ = some (.int .i64 c) := by obtain ⟨k, rfl⟩ := HW.out; exact k2
    have HBW : Hid (∀ n, Below w.heap.size w (wB.drewN n)) := hid (fun n => by obtain ⟨k, hk⟩ := HW.out; rw [hk]; exact below_drewN (below_drewN (Below.refl _ _) _) _)
    rcases hT with rfl | ⟨rfl, H0⟩ | ⟨rfl, H0, H1⟩ | ⟨rfl, H0, H1, H2⟩
    · go_wp2_with fail
      go_quiet ((go_at_call 108; exact QG.out _ _ (by omega) (by omega) (by omega) (by omega) _ _))
      obtain ⟨G, hG⟩ : ∃ G, G = Nat.gcd a.natAbs b.natAbs := ⟨_, rfl⟩
      rw [← hG] at GA ⊢
      have hGb := GA.out
      by_cases h1 : 1 < G
      · have hp := lp_head h1
        have hpb := lp_bd h1
        have hE := E1.out G hG h1
        have HE := hid hE
        have h1i : (1 : Int) < (G : Int) := by omega
        have eg : ((G : Int).natAbs) = G := Int.natAbs_natCast G
        have hl := hp.1
        have hlz : (0 : Int) < ((natsI (plistG G)).length : Int) := by omega
        have HP := hid hp.2
        clear hG hp hE
        go_wp2_with fail
        refine (l1PrimesG_any (G : Int) (by omega) (by omega) (by omega) _).mono ?_
        rw [eg]
        rintro e w2 ⟨u, rfl, ho, hb⟩
        obtain ⟨g2, cap2, rfl, _, _⟩ := ho.block_of hl
        have hce := ho.elem hl
        rw [HP.out] at hce
        clear ho
        go_wp2_with fail
        go_ret2
        exact ⟨retV (by rw [HE.out.1, HE.out.2]; rfl), (HBW.out _).trans (hb.mono (HBW.out _).size)⟩
      · have HN := hid h1
        have h1i : ¬ (1 : Int) < (G : Int) := by omega
        have hGE := hid hG
        clear hG
        go_wp2_with fail
        go_roundw
        case measure => simp only [intOf]; omega
        case rel => exact ⟨1, rfl, hid (by obtain ⟨k, hk⟩ := HW.out; exact ⟨k + nq, by rw [hk, World.drewN_drewN]⟩), .inr (.inl ⟨rfl, hid (by rw [← hGE.out]; exact HN.out)⟩)⟩
    · go_wp2_with fail
      go_quiet ((go_at_call 108; exact QG.out _ _ (by omega) (by omega) (by omega) (by omega) _ _))
      obtain ⟨G, hG⟩ : ∃ G, G = Nat.gcd c.natAbs a.natAbs := ⟨_, rfl⟩
      rw [← hG] at GB ⊢
      have hGb := GB.out
      by_cases h1 : 1 < G
      · have hp := lp_head h1
        have hpb := lp_bd h1
        have hE := E2.out G hG H0.out h1
        have HE := hid hE
        have h1i : (1 : Int) < (G : Int) := by omega
        have eg : ((G : Int).natAbs) = G := Int.natAbs_natCast G
        have hl := hp.1
        have hlz : (0 : Int) < ((natsI (plistG G)).length : Int) := by omega
        have HP := hid hp.2
        clear hG hp hE
        go_wp2_with fail
        refine (l1PrimesG_any (G : Int) (by omega) (by omega) (by omega) _).mono ?_
        rw [eg]
        rintro e w2 ⟨u, rfl, ho, hb⟩
        obtain ⟨g2, cap2, rfl, _, _⟩ := ho.block_of hl
        have hce := ho.elem hl
        rw [HP.out] at hce
        clear ho
        go_wp2_with fail
        go_ret2
        exact ⟨retV (by rw [HE.out.1, HE.out.2]; rfl), (HBW.out _).trans (hb.mono (HBW.out _).size)⟩
      · have HN := hid h1
        have h1i : ¬ (1 : Int) < (G : Int) := by omega
        have hGE := hid hG
        clear hG
        go_wp2_with fail
        go_roundw
        case measure => simp only [intOf]; omega
        case rel => exact ⟨0, rfl, hid (by obtain ⟨k, hk⟩ := HW.out; exact ⟨k + nq, by rw [hk, World.drewN_drewN]⟩), .inr (.inr (.inl ⟨rfl, H0, hid (by rw [← hGE.out]; exact HN.out)⟩))⟩
    · go_wp2_with fail
      go_quiet ((go_at_call 108; exact QG.out _ _ (by omega) (by omega) (by omega) (by omega) _ _))
      obtain ⟨G, hG⟩ : ∃ G, G = Nat.gcd b.natAbs c.natAbs := ⟨_, rfl⟩
      rw [← hG] at GC ⊢
      have hGb := GC.out
      by_cases h1 : 1 < G
      · have hp := lp_head h1
        have hpb := lp_bd h1
        have hE := E3.out G hG H0.out H1.out h1
        have HE := hid hE
        have h1i : (1 : Int) < (G : Int) := by omega
        have eg : ((G : Int).natAbs) = G := Int.natAbs_natCast G
        have hl := hp.1
        have hlz : (0 : Int) < ((natsI (plistG G)).length : Int) := by omega
        have HP := hid hp.2
        clear hG hp hE
        go_wp2_with fail
        refine (l1PrimesG_any (G : Int) (by omega) (by omega) (by omega) _).mono ?_
        rw [eg]
        rintro e w2 ⟨u, rfl, ho, hb⟩
        obtain ⟨g2, cap2, rfl, _, _⟩ := ho.block_of hl
        have hce := ho.elem hl
        rw [HP.out] at hce
        clear ho
        go_wp2_with fail
        go_ret2
        exact ⟨retV (by rw [HE.out.1, HE.out.2]; rfl), (HBW.out _).trans (hb.mono (HBW.out _).size)⟩
      · have HN := hid h1
        have h1i : ¬ (1 : Int) < (G : Int) := by omega
        have hGE := hid hG
        clear hG
        go_wp2_with fail
        go_roundw
        case measure => simp only [intOf]; omega
        case rel => exact ⟨-1, rfl, hid (by obtain ⟨k, hk⟩ := HW.out; exact ⟨k + nq, by rw [hk, World.drewN_drewN]⟩), .inr (.inr (.inr ⟨rfl, H0, H1, hid (by rw [← hGE.out]; exact HN.out)⟩))⟩
    · have hE := hid (E4.out H0.out H1.out H2.out)
      go_wp2_with fail
      go_ret2
      exact ⟨retV (by rw [hE.out.1, hE.out.2]; rfl), HBW.out 0⟩

set_option maxRecDepth 100000 in
set_option maxHeartbeats 1000000 in
theorem l5Root_any (n : Int) (n0 : 0 ≤ n) (n1 : n ≤ 1000000000000) (w : World) : Calls Try.prog 111 #[.int .i64 n] w fun e w' => ((∃ z : Nat, rootO n = some z ∧ z ≤ 1048576 ∧ e = .returned (.int .i64 z)) ∨ (rootO n = none ∧ e = .returned (.int .i64 (-1)))) ∧ w = w' := by
  go_enter Try.func111, Try.ntmps111
  go_wp2
  go_loop [3, 4] (fun sl sh => ∃ L H : Nat, sl = .int .i64 L ∧ sh = .int .i64 H ∧ L ≤ H ∧ H ≤ 1048576 ∧ Hid (∀ r : Nat, r < L → (r : Int) * r < n) ∧ Hid (n ≤ (H : Int) * H)) (fun sl sh => (intOf sh - intOf sl).toNat)
  case atStart => exact ⟨0, 1048576, rfl, rfl, by omega, by omega, hid (fun r hr => by omega), hid (by omega)⟩
  case round =>
    obtain ⟨L, H, rfl, rfl, hLH, hH, HL, HH⟩ := hrel
    by_cases hlt : L < H
    · have hi : (L : Int) < (H : Int) := by omega
      obtain ⟨M, hM⟩ : ∃ M, M = (L + H) / 2 := ⟨_, rfl⟩
      have eM : ((L : Int) + (H : Int)) / 2 = (M : Int) := by omega
      have eM2 : ((L : Int) + (H : Int)).tdiv 2 = (M : Int) := by rw [Int.tdiv_eq_ediv_of_nonneg (by omega)]; exact eM
      have hM1 : L ≤ M := by omega
      have hM2 : M < H := by omega
      have hMM := mul_bd (show M ≤ 1048576 by omega) (show M ≤ 1048576 by omega)
      clear hM
      by_cases hm : (M : Int) * M < n
      · have HM := hid hm
        go_wp2
        go_round
        case measure => simp only [intOf]; omega
        case rel => exact ⟨M + 1, H, by go_num, rfl, by omega, hH, hid (fun r hr => by
          have := sq_mono (show r ≤ M by omega)
          have := HM.out
          omega), HH⟩
      · have HM := hid hm
        go_wp2
        go_round
        case measure => simp only [intOf]; omega
        case rel => exact ⟨L, M, rfl, rfl, hM1, by omega, HL, hid (by have := HM.out; omega)⟩
    · obtain rfl : L = H := by omega
      have hMM := mul_bd (show L ≤ 1048576 by omega) (show L ≤ 1048576 by omega)
      by_cases he : (L : Int) * L = n
      · have T : ((L : Int) * L == n) = true := by rw [beq_iff_eq]; exact he
        have HR := hid (rootO_of he)
        clear he
        go_wp2
        go_ret
        exact ⟨.inl ⟨L, HR.out, hH, rfl⟩, rfl⟩
      · have T : ((L : Int) * L == n) = false := by rw [beq_eq_false_iff_ne]; exact he
        have HR : Hid (rootO n = none) := hid (rootO_none fun z hz => by
          rcases Nat.lt_trichotomy z L with h | h | h
          · have := HL.out z h; omega
          · subst h; exact he hz
          · have h2 := sq_mono (Nat.le_of_lt h)
            have := HH.out
            omega)
        clear he
        go_wp2
        go_ret
        exact ⟨.inr ⟨HR.out, rfl⟩, rfl⟩

end Go.Proofs.Ytbhlgdleklfonaa

set_option linter.unusedVariables false
namespace Go.Proofs.Ytbhlgdleklfonaa
open Go.RowKit

theorem sqz_mul {a : Int} {x : Nat} {A X : Nat} (ha : a.natAbs ≤ A) (hx : x * x ≤ X) (hX : X ≤ 1000000) : (a * (x : Int)).natAbs ≤ A * 1000 ∧ (a * (x : Int) * (x : Int)).natAbs ≤ A * X := by
  have hx1 : x ≤ 1000 := by
    refine Classical.byContradiction fun h => ?_
    have := Nat.mul_le_mul (show 1001 ≤ x by omega) (show 1001 ≤ x by omega)
    omega
  refine ⟨?_, ?_⟩
  · rw [Int.natAbs_mul, Int.natAbs_natCast]; exact Nat.mul_le_mul ha hx1
  · rw [Int.natAbs_mul, Int.natAbs_mul, Int.natAbs_natCast, Nat.mul_assoc]; exact Nat.mul_le_mul ha hx
/-- bounds of what is searched -/
structure T3.Lim (t : T3) : Prop where
  nz : t.nz
  a : t.a.natAbs ≤ 30000
  b : t.b.natAbs ≤ 30000
  c : t.c.natAbs ≤ 30000
  bc : (t.b * t.c).natAbs ≤ 30000
  ac : (t.a * t.c).natAbs ≤ 30000
theorem T3.lim_of {t : T3} (h : t.nz) (hp : t.prod ≤ 30000) : t.Lim := by
  obtain ⟨h1, h2, h3, h4, h5, _⟩ := T3.bd h hp
  exact ⟨h, h1, h2, h3, h4, h5⟩
theorem hit_zero {t : T3} {x y : Nat} (h : x = 0 ∧ y = 0) : hitO t x y = none := by unfold hitO; rw [if_pos h]
theorem hit_rest {t : T3} {x y : Nat} (h : topI t x y % t.c ≠ 0) : hitO t x y = none := by
  unfold hitO
  by_cases h0 : x = 0 ∧ y = 0
  · rw [if_pos h0]
  · rw [if_neg h0, if_neg h]
theorem hit_root {t : T3} {x y : Nat} (h0 : ¬ (x = 0 ∧ y = 0)) (h : topI t x y % t.c = 0) : hitO t x y = (rootO ((topI t x y).tdiv t.c)).map (fun z => [(x : Int), (y : Int), (z : Int)]) := by
  unfold hitO; rw [if_neg h0, if_pos h]
theorem hit_neg {t : T3} {x y : Nat} (h : (topI t x y).tdiv t.c < 0) : hitO t x y = none := by
  unfold hitO
  split
  · rfl
  · split
    · rw [show rootO ((topI t x y).tdiv t.c) = none by unfold rootO; rw [if_pos h]]; rfl
    · rfl
theorem tmod_zero {n c : Int} : n.tmod c = 0 ↔ n % c = 0 :=
  ⟨fun h => Int.emod_eq_zero_of_dvd (Int.dvd_of_tmod_eq_zero h), fun h => Int.tmod_eq_zero_of_dvd (Int.dvd_of_emod_eq_zero h)⟩

/-- what a search hands back -/
def SearchPost (o : Option (List Int)) (w : World) (e : Ending) (w' : World) : Prop := ∃ u, e = .returned (.tuple #[u, .bool o.isSome]) ∧ Owns w' w.heap.size u (o.getD []) ∧ Below w.heap.size w w'
set_option maxRecDepth 100000 in
set_option maxHeartbeats 4000000 in
theorem l5Search_any (v : Value) (t : T3) (hl : t.Lim) (w : World) (h : Rd w v t.toL) : Calls Try.prog 83 #[v] w (SearchPost (searchO t) w) := by
  obtain ⟨a, b, c⟩ := t
  obtain ⟨g, o, cap, rfl, k0, k1, k2⟩ := rd_three h
  obtain ⟨⟨a0, b0, c0⟩, ha, hb, hc, hbc, hac⟩ := hl
  dsimp only at a0 b0 c0 ha hb hc hbc hac
  have HC0 := hid c0
  have C0 : (c == 0) = false := by rw [beq_eq_false_iff_ne]; exact c0
  obtain ⟨N, hN⟩ : ∃ N, N = (b * c).natAbs := ⟨_, rfl⟩
  obtain ⟨M, hM⟩ : ∃ M, M = (a * c).natAbs := ⟨_, rfl⟩
  rw [← hN] at hbc
  rw [← hM] at hac
  have HN := hid hN
  have HM := hid hM
  have eN : Hid (searchO ⟨a, b, c⟩ = firstO (rowO ⟨a, b, c⟩) N) := hid (by unfold searchO; rw [hN])
  have eM : Hid (∀ x, rowO ⟨a, b, c⟩ x = firstO (hitO ⟨a, b, c⟩ x) M) := hid (fun x => by unfold rowO; rw [hM])
  have n1 : -30000 ≤ b * c := by omega
  have n2 : b * c ≤ 30000 := by omega
  have m1 : -30000 ≤ a * c := by omega
  have m2 : a * c ≤ 30000 := by omega
  clear h a0 b0 c0 hN hM
  go_enter Try.func83, Try.ntmps83
  go_wp2_with fail
  go_loop [7] (fun sx => ∃ X : Nat, sx = .int .i64 X ∧ X ≤ 1000 ∧ Hid (∀ i, i < X → rowO ⟨a, b, c⟩ i = none)) (fun sx => 1001 - (intOf sx).toNat)
  case atStart => exact ⟨0, rfl, by omega, hid (fun i hi => by omega)⟩
  case round =>
    obtain ⟨X, rfl, hX, HX⟩ := hrel
    have hXX := Nat.mul_le_mul hX hX
    have eXX : (X : Int) * X = ((X * X : Nat) : Int) := by push_cast; rfl
    have x1 : 0 ≤ (X : Int) * X := by rw [eXX]; omega
    have x2 : (X : Int) * X ≤ 1000000 := by rw [eXX]; omega
    by_cases hle : X * X ≤ N
    · have hle' : (X : Int) * X ≤ (N : Int) := by rw [eXX]; omega
      have hXL : X ≤ 999 := by
        refine Classical.byContradiction fun h => ?_
        have := Nat.mul_le_mul (show 1000 ≤ X by omega) (show 1000 ≤ X by omega)
        omega
      have hsx := sqz_mul ha hle (by omega)
      have HLE := hid hle
      have ax := hsx.1
      have axx : (a * (X : Int) * (X : Int)).natAbs ≤ 900000000 := Nat.le_trans hsx.2 (Nat.mul_le_mul (Nat.le_refl _) hbc)
      have ax1 : -30000000 ≤ a * (X : Int) := by omega
      have ax2 : a * (X : Int) ≤ 30000000 := by omega
      have axx1 : -900000000 ≤ a * (X : Int) * (X : Int) := by omega
      have axx2 : a * (X : Int) * (X : Int) ≤ 900000000 := by omega
      clear hsx ax axx hle eXX hXX
      go_wp2_with (go_at_call 98; refine (l1Size_any _ (by omega) (by omega) _).mono ?_; rw [← HN.out]; rintro e w' ⟨rfl, rfl⟩)
      go_loop [8] (fun sy => ∃ Y : Nat, sy = .int .i64 Y ∧ Y ≤ 1000 ∧ Hid (∀ i, i < Y → hitO ⟨a, b, c⟩ X i = none)) (fun sy => 1001 - (intOf sy).toNat)
      case atStart => exact ⟨0, rfl, by omega, hid (fun i hi => by omega)⟩
      case round =>
        obtain ⟨Y, rfl, hY, HY⟩ := hrel
        have hYY := Nat.mul_le_mul hY hY
        have eYY : (Y : Int) * Y = ((Y * Y : Nat) : Int) := by push_cast; rfl
        have y1 : 0 ≤ (Y : Int) * Y := by rw [eYY]; omega
        have y2 : (Y : Int) * Y ≤ 1000000 := by rw [eYY]; omega
        by_cases hle2 : Y * Y ≤ M
        · have hle2' : (Y : Int) * Y ≤ (M : Int) := by rw [eYY]; omega
          have hYL : Y ≤ 999 := by
            refine Classical.byContradiction fun h => ?_
            have := Nat.mul_le_mul (show 1000 ≤ Y by omega) (show 1000 ≤ Y by omega)
            omega
          have hsy := sqz_mul hb hle2 (by omega)
          have HLE2 := hid hle2
          have by' := hsy.1
          have byy : (b * (Y : Int) * (Y : Int)).natAbs ≤ 900000000 := Nat.le_trans hsy.2 (Nat.mul_le_mul (Nat.le_refl _) hac)
          have by1 : -30000000 ≤ b * (Y : Int) := by omega
          have by2 : b * (Y : Int) ≤ 30000000 := by omega
          have byy1 : -900000000 ≤ b * (Y : Int) * (Y : Int) := by omega
          have byy2 : b * (Y : Int) * (Y : Int) ≤ 900000000 := by omega
          have NEXT : Hid (hitO ⟨a, b, c⟩ X Y = none → ∀ i, i < Y + 1 → hitO ⟨a, b, c⟩ X i = none) := hid (fun h i hi => by
            by_cases e : i = Y
            · rw [e]; exact h
            · exact HY.out i (by omega))
          have HT : topI ⟨a, b, c⟩ X Y = -(a * (X : Int) * (X : Int)) - b * (Y : Int) * (Y : Int) := by unfold topI; rw [Int.zero_sub]
          obtain ⟨q, hq⟩ : ∃ q, q = (-(a * (X : Int) * (X : Int)) - b * (Y : Int) * (Y : Int)).tdiv c := ⟨_, rfl⟩
          have hqb : q.natAbs ≤ 2000000000 := by
            rw [hq, Int.natAbs_tdiv]
            exact Nat.le_trans (Nat.div_le_self _ _) (by omega)
          have hqe := hq.symm
          have HR : hitO ⟨a, b, c⟩ X Y = hitO ⟨a, b, c⟩ X Y := rfl
          clear hsy by' byy hle2 eYY hYY HR
          by_cases hd : (-(a * (X : Int) * (X : Int)) - b * (Y : Int) * (Y : Int)).tmod c = 0
          · have T1 : ((-(a * (X : Int) * (X : Int)) - b * (Y : Int) * (Y : Int)).tmod c != 0) = false := by rw [bne_eq_false_iff_eq]; exact hd
            have hd2 : topI ⟨a, b, c⟩ X Y % (T3.mk a b c).c = 0 := by rw [HT]; exact tmod_zero.1 hd
            by_cases hqn : q < 0
            · have HN2 := hid (NEXT.out (hit_neg (by rw [HT, ← hq]; exact hqn)))
              clear hd2 HT hq
              go_wp2_with (go_at_call 98; refine (l1Size_any _ (by omega) (by omega) _).mono ?_; rw [← HM.out]; rintro e w' ⟨rfl, rfl⟩)
              go_round
              case measure => simp only [intOf]; omega
              case rel => exact ⟨Y + 1, by go_num, by omega, HN2⟩
            · by_cases hz : X = 0 ∧ Y = 0
              · have HN2 := hid (NEXT.out (hit_zero hz))
                obtain ⟨hX0, hY0⟩ := hz
                have X0 : ((X : Int) == 0) = true := by rw [beq_iff_eq]; omega
                have Y0 : ((Y : Int) == 0) = true := by rw [beq_iff_eq]; omega
                clear hd2 HT hq hX0 hY0
                go_wp2_with (go_at_call 98; refine (l1Size_any _ (by omega) (by omega) _).mono ?_; rw [← HM.out]; rintro e w' ⟨rfl, rfl⟩)
                go_round
                case measure => simp only [intOf]; omega
                case rel => exact ⟨Y + 1, by go_num, by omega, HN2⟩
              · have hr := hit_root (t := ⟨a, b, c⟩) hz hd2
                rw [HT, show (T3.mk a b c).c = c from rfl, ← hq] at hr
                have HRT := hid hr
                have hz2 : (X : Int) = 0 → ¬ (Y : Int) = 0 := fun h1 h2 => hz ⟨by omega, by omega⟩
                have hq0 : 0 ≤ q := by omega
                clear hd2 HT hq hr hz
                by_cases hX0 : X = 0
                · have X0 : ((X : Int) == 0) = true := by rw [beq_iff_eq]; omega
                  have Y0 : ((Y : Int) == 0) = false := by rw [beq_eq_false_iff_ne]; exact hz2 (by omega)
                  clear hX0 hz2
                  go_wp2_with (first | (go_at_call 98; refine (l1Size_any _ (by omega) (by omega) _).mono ?_; rw [← HM.out]; rintro e w' ⟨rfl, rfl⟩))
                  refine (l5Root_any q hq0 (by omega) _).mono ?_
                  rintro e w' ⟨⟨z, hzr, hzb, rfl⟩ | ⟨hzn, rfl⟩, rfl⟩
                  · have hz0 : (0 : Int) ≤ (z : Int) := by omega
                    have HS : Hid (searchO ⟨a, b, c⟩ = some [(X : Int), (Y : Int), (z : Int)]) := hid (by
                      rw [eN.out]
                      refine first_some HX.out HLE.out ?_
                      rw [eM.out]
                      refine first_some HY.out HLE2.out ?_
                      rw [HRT.out, hzr]; rfl)
                    clear hzr
                    go_wp2_with fail
                    go_ret2
                    refine ⟨_, by rw [HS.out]; rfl, ?_, (Below.refl _ _).alloc (Nat.le_refl _) _⟩
                    rw [HS.out]
                    exact owns_lit [(X : Int), (Y : Int), (z : Int)] _ rfl (Nat.le_refl _) (by unfold maxLen; simp)
                  · have HN2 := hid (NEXT.out (by rw [HRT.out, hzn]; rfl))
                    clear hzn
                    go_wp2_with fail
                    go_round
                    case measure => simp only [intOf]; omega
                    case rel => exact ⟨Y + 1, by go_num, by omega, HN2⟩
                · have X0 : ((X : Int) == 0) = false := by rw [beq_eq_false_iff_ne]; omega
                  clear hX0 hz2
                  go_wp2_with (first | (go_at_call 98; refine (l1Size_any _ (by omega) (by omega) _).mono ?_; rw [← HM.out]; rintro e w' ⟨rfl, rfl⟩))
                  refine (l5Root_any q hq0 (by omega) _).mono ?_
                  rintro e w' ⟨⟨z, hzr, hzb, rfl⟩ | ⟨hzn, rfl⟩, rfl⟩
                  · have hz0 : (0 : Int) ≤ (z : Int) := by omega
                    have HS : Hid (searchO ⟨a, b, c⟩ = some [(X : Int), (Y : Int), (z : Int)]) := hid (by
                      rw [eN.out]
                      refine first_some HX.out HLE.out ?_
                      rw [eM.out]
                      refine first_some HY.out HLE2.out ?_
                      rw [HRT.out, hzr]; rfl)
                    clear hzr
                    go_wp2_with fail
                    go_ret2
                    refine ⟨_, by rw [HS.out]; rfl, ?_, (Below.refl _ _).alloc (Nat.le_refl _) _⟩
                    rw [HS.out]
                    exact owns_lit [(X : Int), (Y : Int), (z : Int)] _ rfl (Nat.le_refl _) (by unfold maxLen; simp)
                  · have HN2 := hid (NEXT.out (by rw [HRT.out, hzn]; rfl))
                    clear hzn
                    go_wp2_with fail
                    go_round
                    case measure => simp only [intOf]; omega
                    case rel => exact ⟨Y + 1, by go_num, by omega, HN2⟩
          · have T1 : ((-(a * (X : Int) * (X : Int)) - b * (Y : Int) * (Y : Int)).tmod c != 0) = true := by rw [bne_iff_ne]; exact hd
            have HN2 := hid (NEXT.out (hit_rest (by rw [HT]; exact fun h => hd (tmod_zero.2 h))))
            clear HT hq hqe hd
            go_wp2_with (go_at_call 98; refine (l1Size_any _ (by omega) (by omega) _).mono ?_; rw [← HM.out]; rintro e w' ⟨rfl, rfl⟩)
            go_round
            case measure => simp only [intOf]; omega
            case rel => exact ⟨Y + 1, by go_num, by omega, HN2⟩
        · have hle2' : ¬ (Y : Int) * Y ≤ (M : Int) := by rw [eYY]; omega
          have HR : Hid (rowO ⟨a, b, c⟩ X = none) := hid (by rw [eM.out]; exact first_none HY.out hle2)
          clear hle2 eYY hYY
          go_wp2_with (go_at_call 98; refine (l1Size_any _ (by omega) (by omega) _).mono ?_; rw [← HM.out]; rintro e w' ⟨rfl, rfl⟩)
          go_round
          case measure => simp only [intOf]; omega
          case rel => exact ⟨X + 1, by go_num, by omega, hid (fun i hi => by
            by_cases e : i = X
            · rw [e]; exact HR.out
            · exact HX.out i (by omega))⟩
    · have hle' : ¬ (X : Int) * X ≤ (N : Int) := by rw [eXX]; omega
      have HS : Hid (searchO ⟨a, b, c⟩ = none) := hid (by rw [eN.out]; exact first_none HX.out hle)
      clear hle eXX hXX
      go_wp2_with (go_at_call 98; refine (l1Size_any _ (by omega) (by omega) _).mono ?_; rw [← HN.out]; rintro e w' ⟨rfl, rfl⟩)
      go_ret2
      refine ⟨_, by rw [HS.out]; rfl, ?_, (Below.refl _ _).alloc (Nat.le_refl _) _⟩
      rw [HS.out]
      exact World.ownsRow_made (size := 1) _ #[] 0 (Nat.le_refl _) (by unfold maxLen; omega) rfl

end Go.Proofs.Ytbhlgdleklfonaa

set_option linter.unusedVariables false
namespace Go.Proofs.Ytbhlgdleklfonaa
open Go.RowKit

def nrm1 (x : Int) : Bool := !(x == 0) && (inR x (-30000) 30000 && decide (rootG x = 1))
theorem nrm1_iff {x : Int} : nrm1 x = true ↔ x ≠ 0 ∧ (-30000 ≤ x ∧ x ≤ 30000) ∧ rootG x = 1 := by
  unfold nrm1 inR
  rw [Bool.and_eq_true, Bool.and_eq_true, Bool.and_eq_true, Bool.not_eq_true', beq_eq_false_iff_ne, decide_eq_true_eq, decide_eq_true_eq, decide_eq_true_eq]
theorem nrmB_all {xs : List Int} (h : nrmB xs = true) : (∀ x ∈ xs, nrm1 x = true) ∧ (prodI xs).natAbs ≤ 30000 := by
  unfold nrmB at h
  rw [Bool.and_eq_true, Bool.and_eq_true, Bool.and_eq_true, decide_eq_true_eq, decide_eq_true_eq, decide_eq_true_eq] at h
  exact ⟨List.all_eq_true.1 h.2.1, h.2.2.1⟩
theorem nrmB_term {xs : List Int} {x : Int} (hm : x ∈ xs) (h : nrm1 x = false) : nrmB xs = false := by
  cases hb : nrmB xs with
  | false => rfl
  | true =>
    have := (nrmB_all hb).1 x hm
    rw [h] at this
    cases this
theorem prod_part {xs : List Int} (h : ∀ x ∈ xs, x ≠ 0) (K : Nat) : (prodI (xs.take K)).natAbs ≤ (prodI xs).natAbs := by
  have e : prodI xs = prodI (xs.take K) * prodI (xs.drop K) := by rw [← prodI_app, List.take_append_drop]
  have h2 : prodI (xs.drop K) ≠ 0 := prodI_ne fun x hx => h x (List.mem_of_mem_drop hx)
  rw [e, Int.natAbs_mul]
  exact Nat.le_mul_of_pos_right _ (by omega)
theorem nrmB_prod {xs : List Int} {K : Nat} (h : 30000 < (prodI (xs.take K)).natAbs) : nrmB xs = false := by
  cases hb : nrmB xs with
  | false => rfl
  | true =>
    obtain ⟨h1, h2⟩ := nrmB_all hb
    have := prod_part (fun x hx => (nrm1_iff.1 (h1 x hx)).1) K
    omega
theorem nrmB_end {a b c : Int} (h : ∀ i, i < 3 → nrm1 ([a, b, c].getD i 0) = true) (hp : (prodI [a, b, c]).natAbs ≤ 30000) : nrmB [a, b, c] = decide (twoD a b c = 1) := by
  have h0 : nrm1 a = true := h 0 (by omega)
  have h1 : nrm1 b = true := h 1 (by omega)
  have h2 : nrm1 c = true := h 2 (by omega)
  have e : nrmB [a, b, c] = (decide (([a, b, c] : List Int).length = 3) && ((nrm1 a && (nrm1 b && (nrm1 c && true))) && (decide ((prodI [a, b, c]).natAbs ≤ 30000) && decide (twoD a b c = 1)))) := rfl
  rw [e, h0, h1, h2, decide_eq_true hp]
  rfl
theorem nrmB_lim {xs : List Int} (h : nrmB xs = true) : ∃ a b c, xs = [a, b, c] ∧ (T3.of xs).Lim := by
  by_cases hl : xs.length = 3
  · obtain ⟨a, b, c, rfl⟩ := list_three hl
    have hn := nrmB_iff.1 h
    refine ⟨a, b, c, rfl, T3.lim_of (t := ⟨a, b, c⟩) hn.1 ?_⟩
    have := hn.2.2.2.1
    rw [Int.natAbs_mul, Int.natAbs_mul] at this
    exact this
  · rw [nrm_len hl] at h; cases h

set_option maxRecDepth 100000 in
set_option maxHeartbeats 4000000 in
theorem l5Ok_any (v : Value) (xs : List Int) (w : World) (h : Rd w v xs) : Calls Try.prog 82 #[v] w fun e w' => e = .returned (.bool (nrmB xs)) ∧ Below w.heap.size w w' := by
  have hmx := rd_max h
  have HH := hid h
  obtain ⟨ad, cap, rfl, hform⟩ := h.form
  have HFM := hid hform
  clear h hform
  by_cases hl : xs.length = 3
  · have hli : (xs.length : Int) = 3 := by omega
    have T3' : ((xs.length : Int) != 3) = false := by rw [bne_eq_false_iff_eq]; exact hli
    have HL := hid hl
    obtain ⟨NB, hNB⟩ : ∃ NB, NB = nrmB xs := ⟨_, rfl⟩
    have HNB := hid hNB
    rw [← hNB]
    clear hl hNB
    go_enter Try.func82, Try.ntmps82
    go_wp2_with fail
    go_loop [3, 4] (fun sp si => ∃ (K : Nat) (p : Int), si = .int .i64 K ∧ K ≤ 3 ∧ sp = .int .i64 p ∧ -30000 ≤ p ∧ p ≤ 30000 ∧ Hid (p = prodI (xs.take K)) ∧ Hid (∀ i, i < K → nrm1 (xs.getD i 0) = true)) (fun _ si => 3 - (intOf si).toNat)
    case atStart => exact ⟨0, 1, rfl, by omega, rfl, by omega, by omega, hid (by simp [prodI]), hid (fun i hi => by omega)⟩
    case round =>
      obtain ⟨K, p, rfl, hK, rfl, p1, p2, HP, HG⟩ := hrel
      by_cases hlt : K < 3
      · have hKl : K < xs.length := by have := HL.out; omega
        obtain ⟨b, o, rfl, hml, hc⟩ := HFM.out (by omega)
        have hcell := hc K hKl
        obtain ⟨x, hx⟩ : ∃ x, x = xs.getD K 0 := ⟨_, rfl⟩
        have hmem : x ∈ xs := by rw [hx, getD_at _ _ hKl]; exact List.getElem_mem _
        rw [← hx] at hcell
        have HX := hid hx
        have HNO : Hid (nrm1 x = false → NB = false) := hid (fun e => by rw [HNB.out]; exact nrmB_term hmem e)
        have HPN : Hid (prodI (xs.take (K + 1)) = p * x) := hid (by rw [prodI_take hKl, ← HP.out, hx])
        have hKi : (K : Int) < (xs.length : Int) := by omega
        have hK3 : (K : Int) < 3 := by omega
        clear hx hc hml hmem hKl
        by_cases x0 : x = 0
        · have T : (x == 0) = true := by rw [beq_iff_eq]; exact x0
          have HR := hid (HNO.out (by unfold nrm1; rw [beq_iff_eq.2 x0]; rfl))
          clear x0
          go_wp2_with fail
          go_ret
          exact ⟨retB HR.out.symm, Below.refl _ _⟩
        · have T : (x == 0) = false := by rw [beq_eq_false_iff_ne]; exact x0
          have HX0 := hid x0
          cases hr : inR x (-30000) 30000 with
          | false =>
            have HR := hid (HNO.out (by unfold nrm1; rw [hr, Bool.false_and, Bool.and_false]))
            have HIN := hid hr
            clear x0 hr
            go_wp2_with (go_at_call 91; refine (l6In_any _ _ _ _).mono ?_; rw [HIN.out]; rintro e w' ⟨rfl, rfl⟩)
            go_ret
            exact ⟨retB HR.out.symm, Below.refl _ _⟩
          | true =>
            have HIN := hid hr
            have hxb : -30000 ≤ x ∧ x ≤ 30000 := by
              unfold inR at hr
              rwa [Bool.and_eq_true, decide_eq_true_eq, decide_eq_true_eq] at hr
            have xb1 := hxb.1
            have xb2 := hxb.2
            have hcs := core_small x0
            have hrp := hcs.2.2.2.2
            have hrle : rootG x ≤ 30000 := by
              have h1 := hcs.2.1
              have h2 : 1 ≤ (coreG x).natAbs := by have := hcs.1; omega
              have h3 := Nat.le_mul_of_pos_left (rootG x * rootG x) h2
              have h4 := Nat.le_mul_of_pos_left (rootG x) hrp
              omega
            obtain ⟨R, hR⟩ : ∃ R, R = rootG x := ⟨_, rfl⟩
            rw [← hR] at hrp hrle
            have HRE : Hid (rootG x = R) := hid hR.symm
            by_cases hr1 : R = 1
            · have hri : ¬ (1 : Int) < (R : Int) := by omega
              have HG1 : Hid (nrm1 x = true) := hid (nrm1_iff.2 ⟨x0, hxb, by rw [← hR]; exact hr1⟩)
              have hpx : (p * x).natAbs ≤ 30000 * 30000 := by rw [Int.natAbs_mul]; exact Nat.mul_le_mul (by omega) (by omega)
              have px1 : -900000000 ≤ p * x := by omega
              have px2 : p * x ≤ 900000000 := by omega
              obtain ⟨S, hS⟩ : ∃ S, S = (p * x).natAbs := ⟨_, rfl⟩
              have HS : Hid ((p * x).natAbs = S) := hid hS.symm
              clear hcs hR hxb hr x0
              by_cases hbig : 30000 < S
              · have hbi : (30000 : Int) < (S : Int) := by omega
                have HR : Hid (NB = false) := hid (by rw [HNB.out]; exact nrmB_prod (K := K + 1) (by rw [HPN.out, ← hS]; exact hbig))
                clear hS
                go_wp2_with (first | (go_at_call 91; refine (l6In_any _ _ _ _).mono ?_; rw [HIN.out]; rintro e w' ⟨rfl, rfl⟩) | (go_at_call 87; refine (l1CoreG_any _ HX0.out (by omega) (by omega) _).mono ?_; rw [HRE.out]; rintro e w' ⟨rfl, rfl⟩) | (go_at_call 98; refine (l1Size_any _ (by omega) (by omega) _).mono ?_; rw [HS.out]; rintro e w' ⟨rfl, rfl⟩))
                go_ret
                exact ⟨retB HR.out.symm, Below.refl _ _⟩
              · have hbi : ¬ (30000 : Int) < (S : Int) := by omega
                have pb1 : -30000 ≤ p * x := by omega
                have pb2 : p * x ≤ 30000 := by omega
                clear hS
                go_wp2_with (first | (go_at_call 91; refine (l6In_any _ _ _ _).mono ?_; rw [HIN.out]; rintro e w' ⟨rfl, rfl⟩) | (go_at_call 87; refine (l1CoreG_any _ HX0.out (by omega) (by omega) _).mono ?_; rw [HRE.out]; rintro e w' ⟨rfl, rfl⟩) | (go_at_call 98; refine (l1Size_any _ (by omega) (by omega) _).mono ?_; rw [HS.out]; rintro e w' ⟨rfl, rfl⟩))
                go_round
                case measure => simp only [intOf]; omega
                case rel => exact ⟨K + 1, p * x, by go_num, by omega, rfl, pb1, pb2, hid HPN.out.symm, hid (fun i hi => by
                  by_cases e : i = K
                  · rw [e, ← HX.out]; exact HG1.out
                  · exact HG.out i (by omega))⟩
            · have hri : (1 : Int) < (R : Int) := by omega
              have HR := hid (HNO.out (by
                cases hn : nrm1 x with
                | false => rfl
                | true => exact absurd ((nrm1_iff.1 hn).2.2) (by rw [← hR]; exact hr1)))
              clear hcs hR hxb hr x0 hr1
              go_wp2_with (first | (go_at_call 91; refine (l6In_any _ _ _ _).mono ?_; rw [HIN.out]; rintro e w' ⟨rfl, rfl⟩) | (go_at_call 87; refine (l1CoreG_any _ HX0.out (by omega) (by omega) _).mono ?_; rw [HRE.out]; rintro e w' ⟨rfl, rfl⟩))
              go_ret
              exact ⟨retB HR.out.symm, Below.refl _ _⟩
      · obtain rfl : K = 3 := by omega
        obtain ⟨a, b, c, rfl⟩ := list_three HL.out
        have ha := nrm1_iff.1 (HG.out 0 (by omega))
        have hb := nrm1_iff.1 (HG.out 1 (by omega))
        have hc := nrm1_iff.1 (HG.out 2 (by omega))
        have hpe : (prodI [a, b, c]).natAbs ≤ 30000 := by
          have := HP.out
          rw [show [a, b, c].take 3 = [a, b, c] from rfl] at this
          omega
        have HE : Hid (NB = decide (twoD a b c = 1)) := hid (by rw [HNB.out]; exact nrmB_end HG.out hpe)
        have HTW : Hid (Calls Try.prog 110 #[.slice ad [a, b, c].length cap] w (TwoDPost a b c w)) := hid (l5Two_any _ a b c ha.1 hb.1 hc.1 (by have := ha.2.1; simp at this; omega) (by have := ha.2.1; simp at this; omega) (by have := hb.2.1; simp at this; omega) (by have := hb.2.1; simp at this; omega) (by have := hc.2.1; simp at this; omega) (by have := hc.2.1; simp at this; omega) w HH.out)
        clear ha hb hc hpe HFM HG HP hli T3' hlt hK
        go_wp2_with fail
        refine (HTW.out).mono ?_
        rintro e w2 ⟨rfl, hb2⟩
        obtain ⟨P, hP⟩ : ∃ P, P = twoD a b c := ⟨_, rfl⟩
        rw [← hP] at HE ⊢
        clear hP
        by_cases hp1 : P = 1
        · have T : ((P : Int) == 1) = true := by rw [beq_iff_eq]; omega
          rw [decide_eq_true hp1] at HE
          clear hp1
          go_wp2_with fail
          go_ret
          exact ⟨retB (by rw [HE.out]), hb2⟩
        · have T : ((P : Int) == 1) = false := by rw [beq_eq_false_iff_ne]; omega
          rw [decide_eq_false hp1] at HE
          clear hp1
          go_wp2_with fail
          go_ret
          exact ⟨retB (by rw [HE.out]), hb2⟩
  · have HR := hid (nrm_len hl)
    have T3' : ((xs.length : Int) != 3) = true := by rw [bne_iff_ne]; omega
    clear hl
    go_enter Try.func82, Try.ntmps82
    go_wp2_with fail
    go_ret
    exact ⟨retB HR.out.symm, Below.refl _ _⟩

set_option maxRecDepth 100000 in
set_option maxHeartbeats 1000000 in
theorem zeroSearchS_any (v : Value) (xs : List Int) (w : World) (h : Rd w v xs) : Calls Try.prog 31 #[v] w (SearchPost (zsearchO xs) w) := by
  have HH := hid h
  obtain ⟨ad, cap, rfl, _⟩ := h.form
  clear h
  cases hn : nrmB xs with
  | false =>
    have HN := hid hn
    have HR : Hid (zsearchO xs = none) := hid (by unfold zsearchO; rw [hn]; rfl)
    clear hn
    go_enter Try.func31, Try.ntmps31
    go_wp2_with (go_at_call 82; refine (l5Ok_any _ xs _ HH.out).mono ?_; rw [HN.out]; rintro e w2 ⟨rfl, hb2⟩)
    go_ret2
    refine ⟨_, by rw [HR.out]; rfl, ?_, hb2.alloc hb2.size _⟩
    rw [HR.out]
    exact World.ownsRow_made (size := 1) _ #[] 0 hb2.size (by unfold maxLen; omega) rfl
  | true =>
    have HN := hid hn
    have HR : Hid (zsearchO xs = searchO (T3.of xs)) := hid (by unfold zsearchO; rw [hn]; rfl)
    obtain ⟨a, b, c, rfl, hlim⟩ := nrmB_lim hn
    have HLIM := hid hlim
    clear hn hlim
    go_enter Try.func31, Try.ntmps31
    go_wp2_with fail
    refine (l5Ok_any _ [a, b, c] _ HH.out).mono ?_
    rw [HN.out]
    rintro e w2 ⟨rfl, hb2⟩
    have H2 := hid (HH.out.keep hb2)
    go_wp2_with fail
    refine (l5Search_any _ (T3.of [a, b, c]) HLIM.out _ H2.out).mono ?_
    rintro e w3 ⟨u, rfl, ho, hb3⟩
    go_wp2_with fail
    go_ret2
    exact ⟨u, by rw [HR.out]; rfl, by rw [HR.out]; exact ho.down hb2.size, hb2.trans (hb3.mono hb2.size)⟩

end Go.Proofs.Ytbhlgdleklfonaa

set_option linter.unusedVariables false
namespace Go.Proofs.Ytbhlgdleklfonaa
open Go.RowKit

/-- a list that owns its memory apart from one block -/
def Apart (v : Value) (g : Nat) : Prop := ∀ k, v.ownBlock = some k → k ≠ g
theorem root_le {x : Int} (h0 : x ≠ 0) (h1 : -30 ≤ x) (h2 : x ≤ 30) : rootG x ≤ 5 := by
  obtain ⟨c0, e, _, _, r1⟩ := core_small h0
  refine Classical.byContradiction fun h => ?_
  have h3 := Nat.mul_le_mul (show 6 ≤ rootG x by omega) (show 6 ≤ rootG x by omega)
  have h4 := Nat.le_mul_of_pos_left (rootG x * rootG x) (show 0 < (coreG x).natAbs by omega)
  omega
theorem rr_le {r s : Nat} (hr : r ≤ 5) (hs : s ≤ 5) : 0 ≤ (r : Int) * s ∧ (r : Int) * s ≤ 25 := by
  have h := Nat.mul_le_mul hr hs
  have e : (r : Int) * s = ((r * s : Nat) : Int) := by push_cast; rfl
  rw [e]; omega
theorem norm_step {f : Nat} {t : T3} (h : twoD t.a t.b t.c ≠ 1) : normT (f + 1) t = normT f (stepI t) := by
  show (if twoD t.a t.b t.c = 1 then t else normT f (stepI t)) = _
  rw [if_neg h]
theorem normM_step {f : Nat} {t m : T3} (h : twoD t.a t.b t.c ≠ 1) : normM (f + 1) t m = normM f (stepI t) (stepM t m) := by
  show (if twoD t.a t.b t.c = 1 then m else normM f (stepI t) (stepM t m)) = _
  rw [if_neg h]
theorem norm_stop : ∀ {f : Nat} {t : T3}, twoD t.a t.b t.c = 1 → normT f t = t
  | 0, _, _ => rfl
  | f + 1, t, h => by show (if twoD t.a t.b t.c = 1 then t else _) = t; rw [if_pos h]
theorem normM_stop : ∀ {f : Nat} {t m : T3}, twoD t.a t.b t.c = 1 → normM f t m = m
  | 0, _, _, _ => rfl
  | f + 1, t, m, h => by show (if twoD t.a t.b t.c = 1 then m else _) = m; rw [if_pos h]
/-- what the descent keeps -/
structure Desc (N M : T3) (f : Nat) (t m : T3) : Prop where
  eqn : N = normT f t
  eqm : M = normM f t m
  two : twoD N.a N.b N.c = 1
  nz : t.nz
  prod : t.prod ≤ 27000
  inv : MInv 900 t m
theorem Desc.step {N M : T3} {f : Nat} {t m : T3} (h : Desc N M f t m) (h1 : twoD t.a t.b t.c ≠ 1) : ∃ f', f = f' + 1 ∧ Desc N M f' (stepI t) (stepM t m) := by
  cases f with
  | zero =>
    have := h.two
    rw [h.eqn] at this
    exact absurd this h1
  | succ f =>
    refine ⟨f, rfl, h.eqn.trans (norm_step h1), h.eqm.trans (normM_step h1), h.two, (step_ok h.nz h1).1, ?_, step_minv h1 h.inv⟩
    obtain ⟨h2, h3⟩ := step_prod h1
    have h4 := Nat.le_mul_of_pos_right (stepI t).prod (show 0 < twoD t.a t.b t.c by omega)
    exact Nat.le_trans h4 (Nat.le_trans h2 h.prod)
theorem Desc.stop {N M : T3} {f : Nat} {t m : T3} (h : Desc N M f t m) (h1 : twoD t.a t.b t.c = 1) : N = t ∧ M = m := ⟨h.eqn.trans (norm_stop h1), h.eqm.trans (normM_stop h1)⟩
theorem Ok3.desc {a b c : Int} (h : Ok3 a b c) : Desc (nT a b c) (nM a b c) 20 (coreT a b c) (rootM a b c) :=
  ⟨rfl, rfl, h.nrm.two, h.small.nz, Nat.le_trans h.prod.1 h.prod.2, h.minv⟩
theorem m_le {K m p : Nat} (hp : 1 ≤ p) (h : m * m * p ≤ K) (hK : K ≤ 900) : m ≤ 30 := by
  refine Classical.byContradiction fun h2 => ?_
  have h3 := Nat.mul_le_mul (show 31 ≤ m by omega) (show 31 ≤ m by omega)
  have h4 := Nat.le_mul_of_pos_right (m * m) (show 0 < p by omega)
  omega
theorem MInv.le {t m : T3} (h : MInv 900 t m) (ht : t.nz) : (1 ≤ m.a ∧ m.a ≤ 30) ∧ (1 ≤ m.b ∧ m.b ≤ 30) ∧ (1 ≤ m.c ∧ m.c ≤ 30) := by
  obtain ⟨h1, h2, h3, h4, h5, h6⟩ := h
  obtain ⟨ta, tb, tc⟩ := ht
  have pos : ∀ x y : Int, x ≠ 0 → y ≠ 0 → 1 ≤ x.natAbs * y.natAbs := fun x y hx hy => Nat.mul_pos (by omega) (by omega)
  have a1 := m_le (pos _ _ tb tc) h4 (Nat.le_refl _)
  have b1 := m_le (pos _ _ ta tc) h5 (Nat.le_refl _)
  have c1 := m_le (pos _ _ ta tb) h6 (Nat.le_refl _)
  omega
theorem T3.le {t : T3} (h : t.nz) (hp : t.prod ≤ 27000) : (-27000 ≤ t.a ∧ t.a ≤ 27000) ∧ (-27000 ≤ t.b ∧ t.b ≤ 27000) ∧ (-27000 ≤ t.c ∧ t.c ≤ 27000) := by
  obtain ⟨h1, h2, h3, _⟩ := T3.bd h hp
  omega
theorem tdiv_le {x : Int} {p : Nat} (h1 : -27000 ≤ x) (h2 : x ≤ 27000) : -27000 ≤ x.tdiv (p : Int) ∧ x.tdiv (p : Int) ≤ 27000 := by
  have : (x.tdiv (p : Int)).natAbs ≤ 27000 := by
    rw [Int.natAbs_tdiv]
    exact Nat.le_trans (Nat.div_le_self _ _) (by omega)
  omega
theorem mulp_le {x : Int} {p : Nat} (h1 : -27000 ≤ x) (h2 : x ≤ 27000) (hp : p ≤ 27000) : -729000000 ≤ x * (p : Int) ∧ x * (p : Int) ≤ 729000000 := by
  have : (x * (p : Int)).natAbs ≤ 27000 * 27000 := by rw [Int.natAbs_mul, Int.natAbs_natCast]; exact Nat.mul_le_mul (by omega) hp
  omega
theorem step_k2 {t m : T3} (h : twoK t.a t.b t.c = 2) : stepI t = ⟨t.a.tdiv (twoD t.a t.b t.c), t.b.tdiv (twoD t.a t.b t.c), thirdI t.c (twoD t.a t.b t.c)⟩ ∧ stepM t m = ⟨m.a, m.b, thirdM t.c (twoD t.a t.b t.c) m.c⟩ := by
  unfold stepI stepM; rw [if_pos h, if_pos h]; exact ⟨rfl, rfl⟩
theorem step_k1 {t m : T3} (h : twoK t.a t.b t.c = 1) : stepI t = ⟨t.a.tdiv (twoD t.a t.b t.c), thirdI t.b (twoD t.a t.b t.c), t.c.tdiv (twoD t.a t.b t.c)⟩ ∧ stepM t m = ⟨m.a, thirdM t.b (twoD t.a t.b t.c) m.b, m.c⟩ := by
  have h2 : ¬ twoK t.a t.b t.c = 2 := by omega
  unfold stepI stepM; rw [if_neg h2, if_neg h2, if_pos h, if_pos h]; exact ⟨rfl, rfl⟩
theorem step_k0 {t m : T3} (h : twoK t.a t.b t.c = 0) : stepI t = ⟨thirdI t.a (twoD t.a t.b t.c), t.b.tdiv (twoD t.a t.b t.c), t.c.tdiv (twoD t.a t.b t.c)⟩ ∧ stepM t m = ⟨thirdM t.a (twoD t.a t.b t.c) m.a, m.b, m.c⟩ := by
  have h2 : ¬ twoK t.a t.b t.c = 2 := by omega
  have h1 : ¬ twoK t.a t.b t.c = 1 := by omega
  unfold stepI stepM; rw [if_neg h2, if_neg h2, if_neg h1, if_neg h1]; exact ⟨rfl, rfl⟩
theorem two_le {t : T3} (h : t.nz) (hp : t.prod ≤ 27000) : twoD t.a t.b t.c ≤ 27000 := by
  obtain ⟨⟨a1, a2⟩, ⟨b1, b2⟩, c1, c2⟩ := T3.le h hp
  obtain ⟨ta, tb, tc⟩ := h
  have D : ∀ {p : Nat} {x : Int}, (p : Int) ∣ x → x ≠ 0 → -27000 ≤ x → x ≤ 27000 → p ≤ 27000 := fun {p x} hd h0 h1 h2 => by
    have := Nat.le_of_dvd (by omega) (Int.ofNat_dvd_left.1 hd)
    omega
  rcases two_cases t.a t.b t.c with ⟨e, _⟩ | ⟨_, ⟨_, h1, _⟩ | ⟨_, h1, _⟩ | ⟨_, h1, _⟩⟩
  · omega
  · exact D h1 ta a1 a2
  · exact D h1 ta a1 a2
  · exact D h1 tb b1 b2

/-- what the rounds of the descent keep in memory -/
def NormRel (a b c : Int) (w : World) (gt ct gm cm : Nat) (f : Nat) (sp sk : Value) (wr : World) : Prop :=
  ∃ t m : T3, sp = .int .i64 (twoD t.a t.b t.c : Nat) ∧ sk = .int .i64 (twoK t.a t.b t.c : Nat) ∧ Hid (Desc (nT a b c) (nM a b c) f t m) ∧ Hid (Owns wr w.heap.size (.slice (some ⟨gt, 0, none⟩) 3 ct) t.toL) ∧ Hid (Owns wr w.heap.size (.slice (some ⟨gm, 0, none⟩) 3 cm) m.toL) ∧ Hid (Below w.heap.size w wr)
set_option maxRecDepth 100000 in
set_option maxHeartbeats 8000000 in
theorem l5Normal_any (v : Value) (a b c : Int) (ok : Ok3 a b c) (w : World) (h : Rd w v [a, b, c]) : Calls Try.prog 74 #[v] w fun e w' => ∃ u z, e = .returned (.tuple #[u, z]) ∧ Owns w' w.heap.size u (nT a b c).toL ∧ Owns w' w.heap.size z (nM a b c).toL ∧ (∃ g k, u.ownBlock = some g ∧ z.ownBlock = some k ∧ g ≠ k) ∧ Below w.heap.size w w' := by
  obtain ⟨i0, hi, hz0, hz1, hz2⟩ := info_parts infoInt
  obtain ⟨wr0, wr1, wr2, wr3, wr4⟩ := wrap5
  have HH := hid h
  have HOK := hid ok
  have HA0 := hid ok.a0
  have HB0 := hid ok.b0
  have HC0 := hid ok.c0
  have a1 := ok.a1
  have a2 := ok.a2
  have b1 := ok.b1
  have b2 := ok.b2
  have c1 := ok.c1
  have c2 := ok.c2
  have ra := root_le ok.a0 a1 a2
  have rb := root_le ok.b0 b1 b2
  have rc := root_le ok.c0 c1 c2
  have ca := (core_small ok.a0).2.2.1
  have cb := (core_small ok.b0).2.2.1
  have cc := (core_small ok.c0).2.2.1
  have EM : Hid (rootM a b c = ⟨(rootG b : Int) * rootG c, (rootG a : Int) * rootG c, (rootG a : Int) * rootG b⟩) := hid rfl
  have ET : Hid (coreT a b c = ⟨coreG a, coreG b, coreG c⟩) := hid rfl
  obtain ⟨A, hA⟩ : ∃ A, A = coreG a := ⟨_, rfl⟩
  obtain ⟨B, hB⟩ : ∃ B, B = coreG b := ⟨_, rfl⟩
  obtain ⟨C, hC⟩ : ∃ C, C = coreG c := ⟨_, rfl⟩
  obtain ⟨r, hr⟩ : ∃ r, r = rootG a := ⟨_, rfl⟩
  obtain ⟨s, hs⟩ : ∃ s, s = rootG b := ⟨_, rfl⟩
  obtain ⟨q, hq⟩ : ∃ q, q = rootG c := ⟨_, rfl⟩
  have QA := hid hA.symm
  have QB := hid hB.symm
  have QC := hid hC.symm
  have QR := hid hr.symm
  have QS := hid hs.symm
  have QQ := hid hq.symm
  rw [← hA] at ca ET
  rw [← hB] at cb ET
  rw [← hC] at cc ET
  rw [← hr] at ra EM
  rw [← hs] at rb EM
  rw [← hq] at rc EM
  have rs := rr_le ra rb
  have rq := rr_le ra rc
  have sq := rr_le rb rc
  have rs1 := rs.1
  have rs2 := rs.2
  have rq1 := rq.1
  have rq2 := rq.2
  have sq1 := sq.1
  have sq2 := sq.2
  obtain ⟨gv, ov, cap, rfl, k0, k1, k2⟩ := rd_three h
  have HK : Hid (∀ W : World, Below w.heap.size w W → W.cell? ⟨gv, ov, none⟩ = some (.int .i64 a) ∧ W.cell? ⟨gv, ov + 1, none⟩ = some (.int .i64 b) ∧ W.cell? ⟨gv, ov + 2, none⟩ = some (.int .i64 c)) := hid (fun W hW => by
    obtain ⟨g2, o2, cap2, e, j0, j1, j2⟩ := rd_three (HH.out.keep hW)
    cases e
    exact ⟨j0, j1, j2⟩)
  have hb0 : Below w.heap.size w ((w.alloc (.cells #[] 3)).alloc (.cells #[.int .i64 1, .int .i64 1, .int .i64 1] 3)) := ((Below.refl _ _).alloc (Nat.le_refl _) _).alloc (by simp) _
  have ho0 : Owns ((w.alloc (.cells #[] 3)).alloc (.cells #[.int .i64 1, .int .i64 1, .int .i64 1] 3)) w.heap.size (.slice (some ⟨w.heap.size, 0, none⟩) 0 0) [] := by
    have : Owns (w.alloc (.cells #[] 3)) w.heap.size (.slice (some ⟨w.heap.size, 0, none⟩) 0 0) [] := World.ownsRow_made (size := 1) w #[] 0 (Nat.le_refl _) (by unfold maxLen; omega) rfl
    exact this.alloc _
  have hm0 : Owns ((w.alloc (.cells #[] 3)).alloc (.cells #[.int .i64 1, .int .i64 1, .int .i64 1] 3)) w.heap.size (.slice (some ⟨w.heap.size + 1, 0, none⟩) 3 3) [1, 1, 1] := by
    have := owns_lit (W := w.alloc (.cells #[] 3)) (B := w.heap.size) [1, 1, 1] _ rfl (by simp) (by unfold maxLen; simp)
    simpa using this
  have HB00 := hid hb0
  have HO00 := hid ho0
  have HM00 := hid hm0
  clear h ok hA hB hC hr hs hq rs rq sq hb0 ho0 hm0
  go_enter Try.func74, Try.ntmps74
  go_wp2_with fail
  go_loopw [4, 6] (fun sst si wr => ∃ (K : Nat) (L Z : List Int) (st : Value), st = sst ∧ si = .int .i64 K ∧ ((K = 0 ∧ L = [] ∧ Z = [1, 1, 1]) ∨ (K = 1 ∧ L = [A] ∧ Z = [1, (r : Int), (r : Int)]) ∨ (K = 2 ∧ L = [A, B] ∧ Z = [(s : Int), (r : Int), (r : Int) * s]) ∨ (K = 3 ∧ L = [A, B, C] ∧ Z = [(s : Int) * q, (r : Int) * q, (r : Int) * s])) ∧ Hid (Owns wr w.heap.size st L) ∧ Hid (Apart st (w.heap.size + 1)) ∧ Hid (Owns wr w.heap.size (.slice (some ⟨w.heap.size + 1, 0, none⟩) 3 3) Z) ∧ Hid (Below w.heap.size w wr)) (fun _ si _ => 3 - (intOf si).toNat)
  case atStart => exact ⟨0, [], [1, 1, 1], _, rfl, rfl, .inl ⟨rfl, rfl, rfl⟩, HO00, hid (fun k e => by have : k = w.heap.size := (Option.some.inj e).symm; omega), HM00, HB00⟩
  case round =>
    obtain ⟨K, L, Z, st, rfl, rfl, hK, HO, HAP, HM, HB⟩ := hrel
    rename World => wr
    have hsz := HB.out.size
    have hgm := HM.out.lt (w.heap.size + 1) rfl
    obtain ⟨j0, j1, j2⟩ := HK.out wr HB.out
    rcases hK with ⟨rfl, hL, rfl⟩ | ⟨rfl, hL, rfl⟩ | ⟨rfl, hL, rfl⟩ | ⟨rfl, rfl, rfl⟩
    · have hll : L.length = 0 := by rw [hL]; rfl
      have HL := hid hL
      have FACT : ∀ (v' : Value) (w3 : World), w3.ownsRow w.heap.size 3 1 v' (L.length + 1) (L.map (Value.int .i64) ++ [.int .i64 A]) → (wr.alloc (.cells #[.int .i64 A] 3)).grownBy w3 st.ownBlock → (v'.ownBlock = st.ownBlock ∨ v'.ownBlock = some (wr.alloc (.cells #[.int .i64 A] 3)).heap.size) →
          w3.cell? ⟨w.heap.size + 1, 1, none⟩ = some (.int .i64 (1)) ∧ w3.frozen? ⟨w.heap.size + 1, 1, none⟩ = false ∧ (w3.setCell ⟨w.heap.size + 1, 1, none⟩ (.int .i64 ((r : Int)))).cell? ⟨w.heap.size + 1, 2, none⟩ = some (.int .i64 (1)) ∧ (w3.setCell ⟨w.heap.size + 1, 1, none⟩ (.int .i64 ((r : Int)))).frozen? ⟨w.heap.size + 1, 2, none⟩ = false ∧ w.heap.size + 1 < w3.heap.size ∧ Hid (Owns ((w3.setCell ⟨w.heap.size + 1, 1, none⟩ (.int .i64 ((r : Int)))).setCell ⟨w.heap.size + 1, 2, none⟩ (.int .i64 ((r : Int)))) w.heap.size v' [A]) ∧ Hid (Apart v' (w.heap.size + 1)) ∧ Hid (Owns ((w3.setCell ⟨w.heap.size + 1, 1, none⟩ (.int .i64 ((r : Int)))).setCell ⟨w.heap.size + 1, 2, none⟩ (.int .i64 ((r : Int)))) w.heap.size (.slice (some ⟨w.heap.size + 1, 0, none⟩) 3 3) [1, (r : Int), (r : Int)]) ∧ Hid (Below w.heap.size w ((w3.setCell ⟨w.heap.size + 1, 1, none⟩ (.int .i64 ((r : Int)))).setCell ⟨w.heap.size + 1, 2, none⟩ (.int .i64 ((r : Int))))) := fun v' w3 hown' hgrow hat => by
        have hsg := hgrow.size
        simp only [World.size_alloc] at hsg
        have HO2' : Owns w3 w.heap.size v' (L ++ [A]) := by unfold Owns; simpa using hown'
        have HO2 : Owns w3 w.heap.size v' [A] := by have h := HO2'; rw [hL] at h; exact h
        have HAP2 : Apart v' (w.heap.size + 1) := fun k e => by
          rcases hat with h | h
          · exact HAP.out k (h.symm.trans e)
          · have : k = (wr.alloc (.cells #[.int .i64 A] 3)).heap.size := Option.some.inj (e.symm.trans h)
            rw [this]; simp; omega
        have HM2 : Owns w3 w.heap.size (.slice (some ⟨w.heap.size + 1, 0, none⟩) 3 3) [1, 1, 1] := (World.ownsRow.kept (show World.ownsRow _ _ _ _ _ _ _ from HM.out.alloc (.cells #[.int .i64 A] 3)) hgrow (.inr (fun e2 => HAP.out (w.heap.size + 1) e2.symm rfl)))
        have HB2 := (HB.out.alloc hsz (.cells #[.int .i64 A] 3)).grown hgrow (by simp; omega) (fun k e => (HO.out.ge k e))
        have q1 : w3.cell? ⟨w.heap.size + 1, 1, none⟩ = some (.int .i64 (1)) := HM2.elem (i := 1) (by simp)
        have f1 := HM2.thaw 1
        have HS1 := HM2.storeAt 1 ((r : Int))
        have HM3 : Owns (w3.setCell ⟨w.heap.size + 1, 1, none⟩ (.int .i64 ((r : Int)))) w.heap.size (.slice (some ⟨w.heap.size + 1, 0, none⟩) 3 3) [1, (r : Int), 1] := HS1.1
        have q2 : (w3.setCell ⟨w.heap.size + 1, 1, none⟩ (.int .i64 ((r : Int)))).cell? ⟨w.heap.size + 1, 2, none⟩ = some (.int .i64 (1)) := HM3.elem (i := 2) (by simp)
        have f2 := HM3.thaw 2
        have HS2 := HM3.storeAt 2 ((r : Int))
        have HM4 : Owns ((w3.setCell ⟨w.heap.size + 1, 1, none⟩ (.int .i64 ((r : Int)))).setCell ⟨w.heap.size + 1, 2, none⟩ (.int .i64 ((r : Int)))) w.heap.size (.slice (some ⟨w.heap.size + 1, 0, none⟩) 3 3) [1, (r : Int), (r : Int)] := HS2.1
        have HO4 := (HO2.other HS1.2 HAP2).other HS2.2 HAP2
        have HB3 := HB2.grown HS1.2 HB2.size (fun k e => by cases e; omega)
        have HB4 := HB3.grown HS2.2 HB3.size (fun k e => by cases e; omega)
        exact ⟨q1, f1, q2, f2, by omega, hid HO4, hid HAP2, hid HM4, hid HB4⟩
      have HF := hid FACT
      clear hL FACT
      go_wp2_with (first | (go_at_call 87; refine (l1CoreG_any _ HA0.out (by omega) (by omega) _).mono ?_; rw [QA.out, QR.out]; rintro e w' ⟨rfl, rfl⟩) | (at_builtin; refine wpList_append_own_at _ rfl _ _ 23 rfl w.heap.size 3 i0 (.int .i64 0) 1 8 Try.underlying23 hi hz0 hz1 hz2 rfl (by decide) _ _ _ rfl ((show World.ownsRow _ _ _ _ _ _ _ from HO.out).alloc _) ⟨wr.heap.size, 0, none⟩ 1 1 [.int .i64 A] rfl rfl (cell_one_new _ _ _) (by simp [Value.oneCell']) (by unfold maxLen; omega) (by omega) (by simp; omega) ?_; intro v' w3 hown' hgrow _ hat; obtain ⟨q1, f1, q2, f2, hgl3, HO4, HAP2, HM4, HB4⟩ := HF.out _ _ hown' hgrow hat; clear hown' hgrow hat))
      go_roundw
      case measure => simp only [intOf]; omega
      case rel => exact ⟨1, [A], [1, (r : Int), (r : Int)], _, rfl, by first | rfl | go_num, .inr (.inl ⟨rfl, rfl, rfl⟩), HO4, HAP2, HM4, HB4⟩
    · have hll : L.length = 1 := by rw [hL]; rfl
      have HL := hid hL
      have FACT : ∀ (v' : Value) (w3 : World), w3.ownsRow w.heap.size 3 1 v' (L.length + 1) (L.map (Value.int .i64) ++ [.int .i64 B]) → (wr.alloc (.cells #[.int .i64 B] 3)).grownBy w3 st.ownBlock → (v'.ownBlock = st.ownBlock ∨ v'.ownBlock = some (wr.alloc (.cells #[.int .i64 B] 3)).heap.size) →
          w3.cell? ⟨w.heap.size + 1, 2, none⟩ = some (.int .i64 ((r : Int))) ∧ w3.frozen? ⟨w.heap.size + 1, 2, none⟩ = false ∧ (w3.setCell ⟨w.heap.size + 1, 2, none⟩ (.int .i64 ((r : Int) * s))).cell? ⟨w.heap.size + 1, 0, none⟩ = some (.int .i64 (1)) ∧ (w3.setCell ⟨w.heap.size + 1, 2, none⟩ (.int .i64 ((r : Int) * s))).frozen? ⟨w.heap.size + 1, 0, none⟩ = false ∧ w.heap.size + 1 < w3.heap.size ∧ Hid (Owns ((w3.setCell ⟨w.heap.size + 1, 2, none⟩ (.int .i64 ((r : Int) * s))).setCell ⟨w.heap.size + 1, 0, none⟩ (.int .i64 ((s : Int)))) w.heap.size v' [A, B]) ∧ Hid (Apart v' (w.heap.size + 1)) ∧ Hid (Owns ((w3.setCell ⟨w.heap.size + 1, 2, none⟩ (.int .i64 ((r : Int) * s))).setCell ⟨w.heap.size + 1, 0, none⟩ (.int .i64 ((s : Int)))) w.heap.size (.slice (some ⟨w.heap.size + 1, 0, none⟩) 3 3) [(s : Int), (r : Int), (r : Int) * s]) ∧ Hid (Below w.heap.size w ((w3.setCell ⟨w.heap.size + 1, 2, none⟩ (.int .i64 ((r : Int) * s))).setCell ⟨w.heap.size + 1, 0, none⟩ (.int .i64 ((s : Int))))) := fun v' w3 hown' hgrow hat => by
        have hsg := hgrow.size
        simp only [World.size_alloc] at hsg
        have HO2' : Owns w3 w.heap.size v' (L ++ [B]) := by unfold Owns; simpa using hown'
        have HO2 : Owns w3 w.heap.size v' [A, B] := by have h := HO2'; rw [hL] at h; exact h
        have HAP2 : Apart v' (w.heap.size + 1) := fun k e => by
          rcases hat with h | h
          · exact HAP.out k (h.symm.trans e)
          · have : k = (wr.alloc (.cells #[.int .i64 B] 3)).heap.size := Option.some.inj (e.symm.trans h)
            rw [this]; simp; omega
        have HM2 : Owns w3 w.heap.size (.slice (some ⟨w.heap.size + 1, 0, none⟩) 3 3) [1, (r : Int), (r : Int)] := (World.ownsRow.kept (show World.ownsRow _ _ _ _ _ _ _ from HM.out.alloc (.cells #[.int .i64 B] 3)) hgrow (.inr (fun e2 => HAP.out (w.heap.size + 1) e2.symm rfl)))
        have HB2 := (HB.out.alloc hsz (.cells #[.int .i64 B] 3)).grown hgrow (by simp; omega) (fun k e => (HO.out.ge k e))
        have q1 : w3.cell? ⟨w.heap.size + 1, 2, none⟩ = some (.int .i64 ((r : Int))) := HM2.elem (i := 2) (by simp)
        have f1 := HM2.thaw 2
        have HS1 := HM2.storeAt 2 ((r : Int) * s)
        have HM3 : Owns (w3.setCell ⟨w.heap.size + 1, 2, none⟩ (.int .i64 ((r : Int) * s))) w.heap.size (.slice (some ⟨w.heap.size + 1, 0, none⟩) 3 3) [1, (r : Int), (r : Int) * s] := HS1.1
        have q2 : (w3.setCell ⟨w.heap.size + 1, 2, none⟩ (.int .i64 ((r : Int) * s))).cell? ⟨w.heap.size + 1, 0, none⟩ = some (.int .i64 (1)) := HM3.elem (i := 0) (by simp)
        have f2 := HM3.thaw 0
        have HS2 := HM3.storeAt 0 ((s : Int))
        have HM4 : Owns ((w3.setCell ⟨w.heap.size + 1, 2, none⟩ (.int .i64 ((r : Int) * s))).setCell ⟨w.heap.size + 1, 0, none⟩ (.int .i64 ((s : Int)))) w.heap.size (.slice (some ⟨w.heap.size + 1, 0, none⟩) 3 3) [(s : Int), (r : Int), (r : Int) * s] := HS2.1
        have HO4 := (HO2.other HS1.2 HAP2).other HS2.2 HAP2
        have HB3 := HB2.grown HS1.2 HB2.size (fun k e => by cases e; omega)
        have HB4 := HB3.grown HS2.2 HB3.size (fun k e => by cases e; omega)
        exact ⟨q1, f1, q2, f2, by omega, hid HO4, hid HAP2, hid HM4, hid HB4⟩
      have HF := hid FACT
      clear hL FACT
      go_wp2_with (first | (go_at_call 87; refine (l1CoreG_any _ HB0.out (by omega) (by omega) _).mono ?_; rw [QB.out, QS.out]; rintro e w' ⟨rfl, rfl⟩) | (at_builtin; refine wpList_append_own_at _ rfl _ _ 23 rfl w.heap.size 3 i0 (.int .i64 0) 1 8 Try.underlying23 hi hz0 hz1 hz2 rfl (by decide) _ _ _ rfl ((show World.ownsRow _ _ _ _ _ _ _ from HO.out).alloc _) ⟨wr.heap.size, 0, none⟩ 1 1 [.int .i64 B] rfl rfl (cell_one_new _ _ _) (by simp [Value.oneCell']) (by unfold maxLen; omega) (by omega) (by simp; omega) ?_; intro v' w3 hown' hgrow _ hat; obtain ⟨q1, f1, q2, f2, hgl3, HO4, HAP2, HM4, HB4⟩ := HF.out _ _ hown' hgrow hat; clear hown' hgrow hat))
      go_roundw
      case measure => simp only [intOf]; omega
      case rel => exact ⟨2, [A, B], [(s : Int), (r : Int), (r : Int) * s], _, rfl, by first | rfl | go_num, .inr (.inr (.inl ⟨rfl, rfl, rfl⟩)), HO4, HAP2, HM4, HB4⟩
    · have hll : L.length = 2 := by rw [hL]; rfl
      have HL := hid hL
      have FACT : ∀ (v' : Value) (w3 : World), w3.ownsRow w.heap.size 3 1 v' (L.length + 1) (L.map (Value.int .i64) ++ [.int .i64 C]) → (wr.alloc (.cells #[.int .i64 C] 3)).grownBy w3 st.ownBlock → (v'.ownBlock = st.ownBlock ∨ v'.ownBlock = some (wr.alloc (.cells #[.int .i64 C] 3)).heap.size) →
          w3.cell? ⟨w.heap.size + 1, 0, none⟩ = some (.int .i64 ((s : Int))) ∧ w3.frozen? ⟨w.heap.size + 1, 0, none⟩ = false ∧ (w3.setCell ⟨w.heap.size + 1, 0, none⟩ (.int .i64 ((s : Int) * q))).cell? ⟨w.heap.size + 1, 1, none⟩ = some (.int .i64 ((r : Int))) ∧ (w3.setCell ⟨w.heap.size + 1, 0, none⟩ (.int .i64 ((s : Int) * q))).frozen? ⟨w.heap.size + 1, 1, none⟩ = false ∧ w.heap.size + 1 < w3.heap.size ∧ Hid (Owns ((w3.setCell ⟨w.heap.size + 1, 0, none⟩ (.int .i64 ((s : Int) * q))).setCell ⟨w.heap.size + 1, 1, none⟩ (.int .i64 ((r : Int) * q))) w.heap.size v' [A, B, C]) ∧ Hid (Apart v' (w.heap.size + 1)) ∧ Hid (Owns ((w3.setCell ⟨w.heap.size + 1, 0, none⟩ (.int .i64 ((s : Int) * q))).setCell ⟨w.heap.size + 1, 1, none⟩ (.int .i64 ((r : Int) * q))) w.heap.size (.slice (some ⟨w.heap.size + 1, 0, none⟩) 3 3) [(s : Int) * q, (r : Int) * q, (r : Int) * s]) ∧ Hid (Below w.heap.size w ((w3.setCell ⟨w.heap.size + 1, 0, none⟩ (.int .i64 ((s : Int) * q))).setCell ⟨w.heap.size + 1, 1, none⟩ (.int .i64 ((r : Int) * q)))) := fun v' w3 hown' hgrow hat => by
        have hsg := hgrow.size
        simp only [World.size_alloc] at hsg
        have HO2' : Owns w3 w.heap.size v' (L ++ [C]) := by unfold Owns; simpa using hown'
        have HO2 : Owns w3 w.heap.size v' [A, B, C] := by have h := HO2'; rw [hL] at h; exact h
        have HAP2 : Apart v' (w.heap.size + 1) := fun k e => by
          rcases hat with h | h
          · exact HAP.out k (h.symm.trans e)
          · have : k = (wr.alloc (.cells #[.int .i64 C] 3)).heap.size := Option.some.inj (e.symm.trans h)
            rw [this]; simp; omega
        have HM2 : Owns w3 w.heap.size (.slice (some ⟨w.heap.size + 1, 0, none⟩) 3 3) [(s : Int), (r : Int), (r : Int) * s] := (World.ownsRow.kept (show World.ownsRow _ _ _ _ _ _ _ from HM.out.alloc (.cells #[.int .i64 C] 3)) hgrow (.inr (fun e2 => HAP.out (w.heap.size + 1) e2.symm rfl)))
        have HB2 := (HB.out.alloc hsz (.cells #[.int .i64 C] 3)).grown hgrow (by simp; omega) (fun k e => (HO.out.ge k e))
        have q1 : w3.cell? ⟨w.heap.size + 1, 0, none⟩ = some (.int .i64 ((s : Int))) := HM2.elem (i := 0) (by simp)
        have f1 := HM2.thaw 0
        have HS1 := HM2.storeAt 0 ((s : Int) * q)
        have HM3 : Owns (w3.setCell ⟨w.heap.size + 1, 0, none⟩ (.int .i64 ((s : Int) * q))) w.heap.size (.slice (some ⟨w.heap.size + 1, 0, none⟩) 3 3) [(s : Int) * q, (r : Int), (r : Int) * s] := HS1.1
        have q2 : (w3.setCell ⟨w.heap.size + 1, 0, none⟩ (.int .i64 ((s : Int) * q))).cell? ⟨w.heap.size + 1, 1, none⟩ = some (.int .i64 ((r : Int))) := HM3.elem (i := 1) (by simp)
        have f2 := HM3.thaw 1
        have HS2 := HM3.storeAt 1 ((r : Int) * q)
        have HM4 : Owns ((w3.setCell ⟨w.heap.size + 1, 0, none⟩ (.int .i64 ((s : Int) * q))).setCell ⟨w.heap.size + 1, 1, none⟩ (.int .i64 ((r : Int) * q))) w.heap.size (.slice (some ⟨w.heap.size + 1, 0, none⟩) 3 3) [(s : Int) * q, (r : Int) * q, (r : Int) * s] := HS2.1
        have HO4 := (HO2.other HS1.2 HAP2).other HS2.2 HAP2
        have HB3 := HB2.grown HS1.2 HB2.size (fun k e => by cases e; omega)
        have HB4 := HB3.grown HS2.2 HB3.size (fun k e => by cases e; omega)
        exact ⟨q1, f1, q2, f2, by omega, hid HO4, hid HAP2, hid HM4, hid HB4⟩
      have HF := hid FACT
      clear hL FACT
      go_wp2_with (first | (go_at_call 87; refine (l1CoreG_any _ HC0.out (by omega) (by omega) _).mono ?_; rw [QC.out, QQ.out]; rintro e w' ⟨rfl, rfl⟩) | (at_builtin; refine wpList_append_own_at _ rfl _ _ 23 rfl w.heap.size 3 i0 (.int .i64 0) 1 8 Try.underlying23 hi hz0 hz1 hz2 rfl (by decide) _ _ _ rfl ((show World.ownsRow _ _ _ _ _ _ _ from HO.out).alloc _) ⟨wr.heap.size, 0, none⟩ 1 1 [.int .i64 C] rfl rfl (cell_one_new _ _ _) (by simp [Value.oneCell']) (by unfold maxLen; omega) (by omega) (by simp; omega) ?_; intro v' w3 hown' hgrow _ hat; obtain ⟨q1, f1, q2, f2, hgl3, HO4, HAP2, HM4, HB4⟩ := HF.out _ _ hown' hgrow hat; clear hown' hgrow hat))
      go_roundw
      case measure => simp only [intOf]; omega
      case rel => exact ⟨3, [A, B, C], [(s : Int) * q, (r : Int) * q, (r : Int) * s], _, rfl, by first | rfl | go_num, .inr (.inr (.inr (⟨rfl, rfl, rfl⟩))), HO4, HAP2, HM4, HB4⟩
    · obtain ⟨gt, ct, rfl, hgt, hgl⟩ := HO.out.block_of (by simp)
      have HNE : Hid (gt ≠ w.heap.size + 1) := hid (HAP.out gt rfl)
      have HD := hid HOK.out.desc
      rw [ET.out, EM.out] at HD
      have HDZ := hid HD.out.nz
      have HDL := hid (T3.le HD.out.nz HD.out.prod)
      have HTW := hid (l5Two_any _ A B C HDZ.out.1 HDZ.out.2.1 HDZ.out.2.2 (by have := HDL.out.1; dsimp only at this; omega) (by have := HDL.out.1; dsimp only at this; omega) (by have := HDL.out.2.1; dsimp only at this; omega) (by have := HDL.out.2.1; dsimp only at this; omega) (by have := HDL.out.2.2; dsimp only at this; omega) (by have := HDL.out.2.2; dsimp only at this; omega) wr HO.out.rd)
      go_wp2_with fail
      refine (HTW.out).mono ?_
      rintro e w2 ⟨rfl, hb2⟩
      have HO2 := hid (HO.out.keep HO.out.lt hb2)
      have HM2 := hid (HM.out.keep HM.out.lt hb2)
      have HB2 := hid (HB.out.trans (hb2.mono hsz))
      clear hb2 HTW HDZ HDL HO HM HB HAP
      go_wp2_with fail
      go_loopg [9, 10] 20 (NormRel a b c w gt ct (w.heap.size + 1) 3)
      case atStart => exact ⟨⟨A, B, C⟩, ⟨(s : Int) * q, (r : Int) * q, (r : Int) * s⟩, rfl, rfl, HD, HO2, HM2, HB2⟩
      case round =>
        obtain ⟨t, m, rfl, rfl, HD, HO, HM, HB⟩ := hrel
        rename World => wx
        have hsx := HB.out.size
        have hgtx := HO.out.lt gt rfl
        have hgmx := HM.out.lt (w.heap.size + 1) rfl
        by_cases h1 : twoD t.a t.b t.c = 1
        · have hst := HD.out.stop h1
          have HO3 : Hid (Owns wx w.heap.size (.slice (some ⟨gt, 0, none⟩) 3 ct) (nT a b c).toL) := hid (by rw [hst.1]; exact HO.out)
          have HM3 : Hid (Owns wx w.heap.size (.slice (some ⟨w.heap.size + 1, 0, none⟩) 3 3) (nM a b c).toL) := hid (by rw [hst.2]; exact HM.out)
          rw [h1]
          clear hst h1
          go_wp2_with fail
          go_ret2
          exact ⟨_, _, rfl, HO3.out, HM3.out, ⟨gt, w.heap.size + 1, rfl, rfl, HNE.out⟩, HB.out⟩
        · obtain ⟨f', rfl, hds⟩ := HD.out.step h1
          have hle := T3.le HD.out.nz HD.out.prod
          have hml := HD.out.inv.le HD.out.nz
          have hpl := two_le HD.out.nz HD.out.prod
          have hcs := two_cases t.a t.b t.c
          have hk2 := step_k2 (t := t) (m := m)
          have hk1 := step_k1 (t := t) (m := m)
          have hk0 := step_k0 (t := t) (m := m)
          have hst := (step_prod h1).2
          have HZ2 := hid (hds.nz)
          have HL2 := hid (T3.le hds.nz hds.prod)
          have HDS := hid hds
          obtain ⟨p, hp⟩ : ∃ p, p = twoD t.a t.b t.c := ⟨_, rfl⟩
          rw [← hp] at hpl hcs hk2 hk1 hk0 hst h1 ⊢
          obtain ⟨ta, tb, tc⟩ := t
          obtain ⟨ma, mb, mc⟩ := m
          dsimp only at hle hml hcs hk2 hk1 hk0 hp ⊢
          obtain ⟨⟨ta1, ta2⟩, ⟨tb1, tb2⟩, tc1, tc2⟩ := hle
          obtain ⟨⟨ma1, ma2⟩, ⟨mb1, mb2⟩, mc1, mc2⟩ := hml
          have hp1 : (1 : Int) < (p : Int) := by omega
          have P0 : ((p : Int) == 0) = false := by rw [beq_eq_false_iff_ne]; omega
          have HO' : Owns wx w.heap.size (.slice (some ⟨gt, 0, none⟩) 3 ct) [ta, tb, tc] := HO.out
          have HM' : Owns wx w.heap.size (.slice (some ⟨w.heap.size + 1, 0, none⟩) 3 3) [ma, mb, mc] := HM.out
          have da := tdiv_le (p := p) ta1 ta2
          have db := tdiv_le (p := p) tb1 tb2
          have dc := tdiv_le (p := p) tc1 tc2
          have da1 := da.1
          have da2 := da.2
          have db1 := db.1
          have db2 := db.2
          have dc1 := dc.1
          have dc2 := dc.2
          have mpa := mulp_le (p := p) ta1 ta2 hpl
          have mpb := mulp_le (p := p) tb1 tb2 hpl
          have mpc := mulp_le (p := p) tc1 tc2 hpl
          have nma := mulp_le (p := p) (x := ma) (by omega) (by omega) hpl
          have nmb := mulp_le (p := p) (x := mb) (by omega) (by omega) hpl
          have nmc := mulp_le (p := p) (x := mc) (by omega) (by omega) hpl
          have mpa1 := mpa.1
          have mpa2 := mpa.2
          have mpb1 := mpb.1
          have mpb2 := mpb.2
          have mpc1 := mpc.1
          have mpc2 := mpc.2
          have nma1 := nma.1
          have nma2 := nma.2
          have nmb1 := nmb.1
          have nmb2 := nmb.2
          have nmc1 := nmc.1
          have nmc2 := nmc.2
          have HHP := hid hp
          have HNE1 := HNE.out
          have HOO := hid HO'
          have HMM := hid HM'
          clear da db dc mpa mpb mpc nma nmb nmc hds hp HO HM HO' HM' HD
          rcases hcs with ⟨e, _⟩ | ⟨_, hcs⟩
          · exact absurd e h1
          have hcs2 : twoK ta tb tc = 2 ∨ twoK ta tb tc = 1 ∨ twoK ta tb tc = 0 := by
            rcases hcs with ⟨h, _⟩ | ⟨h, _⟩ | ⟨h, _⟩
            · exact .inl h
            · exact .inr (.inl h)
            · exact .inr (.inr h)
          clear hcs h1 hst
          rcases hcs2 with hk | hk | hk
          · have hE := hk2 hk
            rw [hk]
            clear hk hk0 hk1 hk2
            rw [hE.1, hE.2] at HDS
            rw [hE.1] at HZ2 HL2
            clear hE
            have o1 := HOO.out.elem (i := 0) (by simp)
            have f1 := HOO.out.thaw 0
            have HS1 := hid (HOO.out.storeAt 0 (ta.tdiv (p : Int)))
            obtain ⟨w1, hw1⟩ : ∃ w1, w1 = wx.setCell ⟨gt, 0, none⟩ (.int .i64 (ta.tdiv (p : Int))) := ⟨_, rfl⟩
            rw [← hw1] at HS1
            have o2 := HS1.out.1.elem (i := 1) (by simp)
            have f2 := HS1.out.1.thaw 1
            have HS2 := hid (HS1.out.1.storeAt 1 (tb.tdiv (p : Int)))
            have HMA := hid (HMM.out.other HS1.out.2 (fun k e => by cases e; exact fun h => HNE1 h.symm))
            have HBA := hid (HB.out.grown HS1.out.2 HB.out.size (fun k e => by cases e; exact hgt))
            obtain ⟨w2, hw2⟩ : ∃ w2, w2 = w1.setCell ⟨gt, 1, none⟩ (.int .i64 (tb.tdiv (p : Int))) := ⟨_, rfl⟩
            rw [← hw2] at HS2
            have o3 := HS2.out.1.elem (i := 2) (by simp)
            have f3 := HS2.out.1.thaw 2
            have HMB := hid (HMA.out.other HS2.out.2 (fun k e => by cases e; exact fun h => HNE1 h.symm))
            have HBB := hid (HBA.out.grown HS2.out.2 HBA.out.size (fun k e => by cases e; exact hgt))
            have z3 := HMB.out.elem (i := 2) (by simp)
            have g3 := HMB.out.thaw 2
            simp only [List.set_cons_zero, List.set_cons_succ, List.getD_cons_zero, List.getD_cons_succ] at o1 o2 o3 z3
            have TZ := tmod_zero (n := tc) (c := (p : Int))
            have hsw1 : wx.setCell ⟨gt, 0, none⟩ (.int .i64 (ta.tdiv (p : Int))) = w1 := hw1.symm
            have hsw2 : w1.setCell ⟨gt, 1, none⟩ (.int .i64 (tb.tdiv (p : Int))) = w2 := hw2.symm
            have hgt2 : gt < w2.heap.size := HS2.out.1.lt gt rfl
            by_cases hd : tc.tmod (p : Int) = 0
            · have TD : (tc.tmod (p : Int) == 0) = true := by rw [beq_iff_eq]; exact hd
              have E3 : thirdI tc p = tc.tdiv (p : Int) := by unfold thirdI; rw [if_pos (TZ.1 hd)]
              have E4 : thirdM tc p mc = mc := by unfold thirdM; rw [if_pos (TZ.1 hd)]
              rw [E3, E4] at HDS
              rw [E3] at HZ2 HL2
              have HS3 := hid (HS2.out.1.storeAt 2 (tc.tdiv (p : Int)))
              have HMC := hid (HMB.out.other HS3.out.2 (fun k e => by cases e; exact fun h => HNE1 h.symm))
              have HBC := hid (HBB.out.grown HS3.out.2 HBB.out.size (fun k e => by cases e; exact hgt))
              obtain ⟨w3, hw3⟩ : ∃ w3, w3 = w2.setCell ⟨gt, 2, none⟩ (.int .i64 (tc.tdiv (p : Int))) := ⟨_, rfl⟩
              rw [← hw3] at HS3 HMC HBC
              have hsw3 : w2.setCell ⟨gt, 2, none⟩ (.int .i64 (tc.tdiv (p : Int))) = w3 := hw3.symm
              have HTW := hid (l5Two_any _ (ta.tdiv (p : Int)) (tb.tdiv (p : Int)) (tc.tdiv (p : Int)) HZ2.out.1 HZ2.out.2.1 HZ2.out.2.2 (by have h : -27000 ≤ (ta.tdiv (p : Int)) := HL2.out.1.1; omega) (by have h : (ta.tdiv (p : Int)) ≤ 27000 := HL2.out.1.2; omega) (by have h : -27000 ≤ (tb.tdiv (p : Int)) := HL2.out.2.1.1; omega) (by have h : (tb.tdiv (p : Int)) ≤ 27000 := HL2.out.2.1.2; omega) (by have h : -27000 ≤ (tc.tdiv (p : Int)) := HL2.out.2.2.1; omega) (by have h : (tc.tdiv (p : Int)) ≤ 27000 := HL2.out.2.2.2; omega) w3 HS3.out.1.rd)
              have HSO := hid HS3.out.1
              have hs3 := HBC.out.size
              clear hw1 hw2 hw3 HS1 HS2 HS3 HMA HMB HBA HBB E3 E4 TZ hd
              go_wp2_with fail
              refine (HTW.out).mono ?_
              rintro e w4 ⟨rfl, hb4⟩
              have HO4 := hid (HSO.out.keep HSO.out.lt hb4)
              have HM4 := hid (HMC.out.keep HMC.out.lt hb4)
              have HB4 := hid (HBC.out.trans (hb4.mono hs3))
              clear hb4 HTW
              go_wp2_with fail
              go_roundg f'
              case measure => omega
              case rel => exact ⟨_, _, rfl, rfl, HDS, HO4, HM4, HB4⟩
            · have TD : (tc.tmod (p : Int) == 0) = false := by rw [beq_eq_false_iff_ne]; exact hd
              have E3 : thirdI tc p = tc * (p : Int) := by unfold thirdI; rw [if_neg (fun h => hd (TZ.2 h))]
              have E4 : thirdM tc p mc = mc * (p : Int) := by unfold thirdM; rw [if_neg (fun h => hd (TZ.2 h))]
              rw [E3, E4] at HDS
              rw [E3] at HZ2 HL2
              have HS3 := hid (HS2.out.1.storeAt 2 (tc * (p : Int)))
              have HMC := hid (HMB.out.other HS3.out.2 (fun k e => by cases e; exact fun h => HNE1 h.symm))
              have HBC := hid (HBB.out.grown HS3.out.2 HBB.out.size (fun k e => by cases e; exact hgt))
              obtain ⟨w3, hw3⟩ : ∃ w3, w3 = w2.setCell ⟨gt, 2, none⟩ (.int .i64 (tc * (p : Int))) := ⟨_, rfl⟩
              rw [← hw3] at HS3 HMC HBC
              have hsw3 : w2.setCell ⟨gt, 2, none⟩ (.int .i64 (tc * (p : Int))) = w3 := hw3.symm
              have z4 : w3.cell? ⟨w.heap.size + 1, 2, none⟩ = some (.int .i64 mc) := HMC.out.elem (i := 2) (by simp)
              have g4 := HMC.out.thaw 2
              have HS4 := hid (HMC.out.storeAt 2 (mc * (p : Int)))
              have HOD := hid (HS3.out.1.other HS4.out.2 (fun k e => by cases e; exact HNE1))
              have HBD := hid (HBC.out.grown HS4.out.2 HBC.out.size (fun k e => by cases e; omega))
              obtain ⟨w5, hw5⟩ : ∃ w5, w5 = w3.setCell ⟨w.heap.size + 1, 2, none⟩ (.int .i64 (mc * (p : Int))) := ⟨_, rfl⟩
              rw [← hw5] at HS4 HOD HBD
              have hsw5 : w3.setCell ⟨w.heap.size + 1, 2, none⟩ (.int .i64 (mc * (p : Int))) = w5 := hw5.symm
              have HTW := hid (l5Two_any _ (ta.tdiv (p : Int)) (tb.tdiv (p : Int)) (tc * (p : Int)) HZ2.out.1 HZ2.out.2.1 HZ2.out.2.2 (by have h : -27000 ≤ (ta.tdiv (p : Int)) := HL2.out.1.1; omega) (by have h : (ta.tdiv (p : Int)) ≤ 27000 := HL2.out.1.2; omega) (by have h : -27000 ≤ (tb.tdiv (p : Int)) := HL2.out.2.1.1; omega) (by have h : (tb.tdiv (p : Int)) ≤ 27000 := HL2.out.2.1.2; omega) (by have h : -27000 ≤ (tc * (p : Int)) := HL2.out.2.2.1; omega) (by have h : (tc * (p : Int)) ≤ 27000 := HL2.out.2.2.2; omega) w5 HOD.out.rd)
              have HSM := hid HS4.out.1
              have hs5 := HBD.out.size
              clear hw1 hw2 hw3 hw5 HS1 HS2 HS3 HS4 HMA HMB HBA HBB HMC HBC E3 E4 TZ hd
              go_wp2_with fail
              refine (HTW.out).mono ?_
              rintro e w4 ⟨rfl, hb4⟩
              have HO4 := hid (HOD.out.keep HOD.out.lt hb4)
              have HM4 := hid (HSM.out.keep HSM.out.lt hb4)
              have HB4 := hid (HBD.out.trans (hb4.mono hs5))
              clear hb4 HTW
              go_wp2_with fail
              go_roundg f'
              case measure => omega
              case rel => exact ⟨_, _, rfl, rfl, HDS, HO4, HM4, HB4⟩
          · have hE := hk1 hk
            rw [hk]
            clear hk hk0 hk1 hk2
            rw [hE.1, hE.2] at HDS
            rw [hE.1] at HZ2 HL2
            clear hE
            have o1 := HOO.out.elem (i := 2) (by simp)
            have f1 := HOO.out.thaw 2
            have HS1 := hid (HOO.out.storeAt 2 (tc.tdiv (p : Int)))
            obtain ⟨w1, hw1⟩ : ∃ w1, w1 = wx.setCell ⟨gt, 2, none⟩ (.int .i64 (tc.tdiv (p : Int))) := ⟨_, rfl⟩
            rw [← hw1] at HS1
            have o2 := HS1.out.1.elem (i := 0) (by simp)
            have f2 := HS1.out.1.thaw 0
            have HS2 := hid (HS1.out.1.storeAt 0 (ta.tdiv (p : Int)))
            have HMA := hid (HMM.out.other HS1.out.2 (fun k e => by cases e; exact fun h => HNE1 h.symm))
            have HBA := hid (HB.out.grown HS1.out.2 HB.out.size (fun k e => by cases e; exact hgt))
            obtain ⟨w2, hw2⟩ : ∃ w2, w2 = w1.setCell ⟨gt, 0, none⟩ (.int .i64 (ta.tdiv (p : Int))) := ⟨_, rfl⟩
            rw [← hw2] at HS2
            have o3 := HS2.out.1.elem (i := 1) (by simp)
            have f3 := HS2.out.1.thaw 1
            have HMB := hid (HMA.out.other HS2.out.2 (fun k e => by cases e; exact fun h => HNE1 h.symm))
            have HBB := hid (HBA.out.grown HS2.out.2 HBA.out.size (fun k e => by cases e; exact hgt))
            have z3 := HMB.out.elem (i := 1) (by simp)
            have g3 := HMB.out.thaw 1
            simp only [List.set_cons_zero, List.set_cons_succ, List.getD_cons_zero, List.getD_cons_succ] at o1 o2 o3 z3
            have TZ := tmod_zero (n := tb) (c := (p : Int))
            have hsw1 : wx.setCell ⟨gt, 2, none⟩ (.int .i64 (tc.tdiv (p : Int))) = w1 := hw1.symm
            have hsw2 : w1.setCell ⟨gt, 0, none⟩ (.int .i64 (ta.tdiv (p : Int))) = w2 := hw2.symm
            have hgt2 : gt < w2.heap.size := HS2.out.1.lt gt rfl
            by_cases hd : tb.tmod (p : Int) = 0
            · have TD : (tb.tmod (p : Int) == 0) = true := by rw [beq_iff_eq]; exact hd
              have E3 : thirdI tb p = tb.tdiv (p : Int) := by unfold thirdI; rw [if_pos (TZ.1 hd)]
              have E4 : thirdM tb p mb = mb := by unfold thirdM; rw [if_pos (TZ.1 hd)]
              rw [E3, E4] at HDS
              rw [E3] at HZ2 HL2
              have HS3 := hid (HS2.out.1.storeAt 1 (tb.tdiv (p : Int)))
              have HMC := hid (HMB.out.other HS3.out.2 (fun k e => by cases e; exact fun h => HNE1 h.symm))
              have HBC := hid (HBB.out.grown HS3.out.2 HBB.out.size (fun k e => by cases e; exact hgt))
              obtain ⟨w3, hw3⟩ : ∃ w3, w3 = w2.setCell ⟨gt, 1, none⟩ (.int .i64 (tb.tdiv (p : Int))) := ⟨_, rfl⟩
              rw [← hw3] at HS3 HMC HBC
              have hsw3 : w2.setCell ⟨gt, 1, none⟩ (.int .i64 (tb.tdiv (p : Int))) = w3 := hw3.symm
              have HTW := hid (l5Two_any _ (ta.tdiv (p : Int)) (tb.tdiv (p : Int)) (tc.tdiv (p : Int)) HZ2.out.1 HZ2.out.2.1 HZ2.out.2.2 (by have h : -27000 ≤ (ta.tdiv (p : Int)) := HL2.out.1.1; omega) (by have h : (ta.tdiv (p : Int)) ≤ 27000 := HL2.out.1.2; omega) (by have h : -27000 ≤ (tb.tdiv (p : Int)) := HL2.out.2.1.1; omega) (by have h : (tb.tdiv (p : Int)) ≤ 27000 := HL2.out.2.1.2; omega) (by have h : -27000 ≤ (tc.tdiv (p : Int)) := HL2.out.2.2.1; omega) (by have h : (tc.tdiv (p : Int)) ≤ 27000 := HL2.out.2.2.2; omega) w3 HS3.out.1.rd)
              have HSO := hid HS3.out.1
              have hs3 := HBC.out.size
              clear hw1 hw2 hw3 HS1 HS2 HS3 HMA HMB HBA HBB E3 E4 TZ hd
              go_wp2_with fail
              refine (HTW.out).mono ?_
              rintro e w4 ⟨rfl, hb4⟩
              have HO4 := hid (HSO.out.keep HSO.out.lt hb4)
              have HM4 := hid (HMC.out.keep HMC.out.lt hb4)
              have HB4 := hid (HBC.out.trans (hb4.mono hs3))
              clear hb4 HTW
              go_wp2_with fail
              go_roundg f'
              case measure => omega
              case rel => exact ⟨_, _, rfl, rfl, HDS, HO4, HM4, HB4⟩
            · have TD : (tb.tmod (p : Int) == 0) = false := by rw [beq_eq_false_iff_ne]; exact hd
              have E3 : thirdI tb p = tb * (p : Int) := by unfold thirdI; rw [if_neg (fun h => hd (TZ.2 h))]
              have E4 : thirdM tb p mb = mb * (p : Int) := by unfold thirdM; rw [if_neg (fun h => hd (TZ.2 h))]
              rw [E3, E4] at HDS
              rw [E3] at HZ2 HL2
              have HS3 := hid (HS2.out.1.storeAt 1 (tb * (p : Int)))
              have HMC := hid (HMB.out.other HS3.out.2 (fun k e => by cases e; exact fun h => HNE1 h.symm))
              have HBC := hid (HBB.out.grown HS3.out.2 HBB.out.size (fun k e => by cases e; exact hgt))
              obtain ⟨w3, hw3⟩ : ∃ w3, w3 = w2.setCell ⟨gt, 1, none⟩ (.int .i64 (tb * (p : Int))) := ⟨_, rfl⟩
              rw [← hw3] at HS3 HMC HBC
              have hsw3 : w2.setCell ⟨gt, 1, none⟩ (.int .i64 (tb * (p : Int))) = w3 := hw3.symm
              have z4 : w3.cell? ⟨w.heap.size + 1, 1, none⟩ = some (.int .i64 mb) := HMC.out.elem (i := 1) (by simp)
              have g4 := HMC.out.thaw 1
              have HS4 := hid (HMC.out.storeAt 1 (mb * (p : Int)))
              have HOD := hid (HS3.out.1.other HS4.out.2 (fun k e => by cases e; exact HNE1))
              have HBD := hid (HBC.out.grown HS4.out.2 HBC.out.size (fun k e => by cases e; omega))
              obtain ⟨w5, hw5⟩ : ∃ w5, w5 = w3.setCell ⟨w.heap.size + 1, 1, none⟩ (.int .i64 (mb * (p : Int))) := ⟨_, rfl⟩
              rw [← hw5] at HS4 HOD HBD
              have hsw5 : w3.setCell ⟨w.heap.size + 1, 1, none⟩ (.int .i64 (mb * (p : Int))) = w5 := hw5.symm
              have HTW := hid (l5Two_any _ (ta.tdiv (p : Int)) (tb * (p : Int)) (tc.tdiv (p : Int)) HZ2.out.1 HZ2.out.2.1 HZ2.out.2.2 (by have h : -27000 ≤ (ta.tdiv (p : Int)) := HL2.out.1.1; omega) (by have h : (ta.tdiv (p : Int)) ≤ 27000 := HL2.out.1.2; omega) (by have h : -27000 ≤ (tb * (p : Int)) := HL2.out.2.1.1; omega) (by have h : (tb * (p : Int)) ≤ 27000 := HL2.out.2.1.2; omega) (by have h : -27000 ≤ (tc.tdiv (p : Int)) := HL2.out.2.2.1; omega) (by have h : (tc.tdiv (p : Int)) ≤ 27000 := HL2.out.2.2.2; omega) w5 HOD.out.rd)
              have HSM := hid HS4.out.1
              have hs5 := HBD.out.size
              clear hw1 hw2 hw3 hw5 HS1 HS2 HS3 HS4 HMA HMB HBA HBB HMC HBC E3 E4 TZ hd
              go_wp2_with fail
              refine (HTW.out).mono ?_
              rintro e w4 ⟨rfl, hb4⟩
              have HO4 := hid (HOD.out.keep HOD.out.lt hb4)
              have HM4 := hid (HSM.out.keep HSM.out.lt hb4)
              have HB4 := hid (HBD.out.trans (hb4.mono hs5))
              clear hb4 HTW
              go_wp2_with fail
              go_roundg f'
              case measure => omega
              case rel => exact ⟨_, _, rfl, rfl, HDS, HO4, HM4, HB4⟩
          · have hE := hk0 hk
            rw [hk]
            clear hk hk0 hk1 hk2
            rw [hE.1, hE.2] at HDS
            rw [hE.1] at HZ2 HL2
            clear hE
            have o1 := HOO.out.elem (i := 1) (by simp)
            have f1 := HOO.out.thaw 1
            have HS1 := hid (HOO.out.storeAt 1 (tb.tdiv (p : Int)))
            obtain ⟨w1, hw1⟩ : ∃ w1, w1 = wx.setCell ⟨gt, 1, none⟩ (.int .i64 (tb.tdiv (p : Int))) := ⟨_, rfl⟩
            rw [← hw1] at HS1
            have o2 := HS1.out.1.elem (i := 2) (by simp)
            have f2 := HS1.out.1.thaw 2
            have HS2 := hid (HS1.out.1.storeAt 2 (tc.tdiv (p : Int)))
            have HMA := hid (HMM.out.other HS1.out.2 (fun k e => by cases e; exact fun h => HNE1 h.symm))
            have HBA := hid (HB.out.grown HS1.out.2 HB.out.size (fun k e => by cases e; exact hgt))
            obtain ⟨w2, hw2⟩ : ∃ w2, w2 = w1.setCell ⟨gt, 2, none⟩ (.int .i64 (tc.tdiv (p : Int))) := ⟨_, rfl⟩
            rw [← hw2] at HS2
            have o3 := HS2.out.1.elem (i := 0) (by simp)
            have f3 := HS2.out.1.thaw 0
            have HMB := hid (HMA.out.other HS2.out.2 (fun k e => by cases e; exact fun h => HNE1 h.symm))
            have HBB := hid (HBA.out.grown HS2.out.2 HBA.out.size (fun k e => by cases e; exact hgt))
            have z3 := HMB.out.elem (i := 0) (by simp)
            have g3 := HMB.out.thaw 0
            simp only [List.set_cons_zero, List.set_cons_succ, List.getD_cons_zero, List.getD_cons_succ] at o1 o2 o3 z3
            have TZ := tmod_zero (n := ta) (c := (p : Int))
            have hsw1 : wx.setCell ⟨gt, 1, none⟩ (.int .i64 (tb.tdiv (p : Int))) = w1 := hw1.symm
            have hsw2 : w1.setCell ⟨gt, 2, none⟩ (.int .i64 (tc.tdiv (p : Int))) = w2 := hw2.symm
            have hgt2 : gt < w2.heap.size := HS2.out.1.lt gt rfl
            by_cases hd : ta.tmod (p : Int) = 0
            · have TD : (ta.tmod (p : Int) == 0) = true := by rw [beq_iff_eq]; exact hd
              have E3 : thirdI ta p = ta.tdiv (p : Int) := by unfold thirdI; rw [if_pos (TZ.1 hd)]
              have E4 : thirdM ta p ma = ma := by unfold thirdM; rw [if_pos (TZ.1 hd)]
              rw [E3, E4] at HDS
              rw [E3] at HZ2 HL2
              have HS3 := hid (HS2.out.1.storeAt 0 (ta.tdiv (p : Int)))
              have HMC := hid (HMB.out.other HS3.out.2 (fun k e => by cases e; exact fun h => HNE1 h.symm))
              have HBC := hid (HBB.out.grown HS3.out.2 HBB.out.size (fun k e => by cases e; exact hgt))
              obtain ⟨w3, hw3⟩ : ∃ w3, w3 = w2.setCell ⟨gt, 0, none⟩ (.int .i64 (ta.tdiv (p : Int))) := ⟨_, rfl⟩
              rw [← hw3] at HS3 HMC HBC
              have hsw3 : w2.setCell ⟨gt, 0, none⟩ (.int .i64 (ta.tdiv (p : Int))) = w3 := hw3.symm
              have HTW := hid (l5Two_any _ (ta.tdiv (p : Int)) (tb.tdiv (p : Int)) (tc.tdiv (p : Int)) HZ2.out.1 HZ2.out.2.1 HZ2.out.2.2 (by have h : -27000 ≤ (ta.tdiv (p : Int)) := HL2.out.1.1; omega) (by have h : (ta.tdiv (p : Int)) ≤ 27000 := HL2.out.1.2; omega) (by have h : -27000 ≤ (tb.tdiv (p : Int)) := HL2.out.2.1.1; omega) (by have h : (tb.tdiv (p : Int)) ≤ 27000 := HL2.out.2.1.2; omega) (by have h : -27000 ≤ (tc.tdiv (p : Int)) := HL2.out.2.2.1; omega) (by have h : (tc.tdiv (p : Int)) ≤ 27000 := HL2.out.2.2.2; omega) w3 HS3.out.1.rd)
              have HSO := hid HS3.out.1
              have hs3 := HBC.out.size
              clear hw1 hw2 hw3 HS1 HS2 HS3 HMA HMB HBA HBB E3 E4 TZ hd
              go_wp2_with fail
              refine (HTW.out).mono ?_
              rintro e w4 ⟨rfl, hb4⟩
              have HO4 := hid (HSO.out.keep HSO.out.lt hb4)
              have HM4 := hid (HMC.out.keep HMC.out.lt hb4)
              have HB4 := hid (HBC.out.trans (hb4.mono hs3))
              clear hb4 HTW
              go_wp2_with fail
              go_roundg f'
              case measure => omega
              case rel => exact ⟨_, _, rfl, rfl, HDS, HO4, HM4, HB4⟩
            · have TD : (ta.tmod (p : Int) == 0) = false := by rw [beq_eq_false_iff_ne]; exact hd
              have E3 : thirdI ta p = ta * (p : Int) := by unfold thirdI; rw [if_neg (fun h => hd (TZ.2 h))]
              have E4 : thirdM ta p ma = ma * (p : Int) := by unfold thirdM; rw [if_neg (fun h => hd (TZ.2 h))]
              rw [E3, E4] at HDS
              rw [E3] at HZ2 HL2
              have HS3 := hid (HS2.out.1.storeAt 0 (ta * (p : Int)))
              have HMC := hid (HMB.out.other HS3.out.2 (fun k e => by cases e; exact fun h => HNE1 h.symm))
              have HBC := hid (HBB.out.grown HS3.out.2 HBB.out.size (fun k e => by cases e; exact hgt))
              obtain ⟨w3, hw3⟩ : ∃ w3, w3 = w2.setCell ⟨gt, 0, none⟩ (.int .i64 (ta * (p : Int))) := ⟨_, rfl⟩
              rw [← hw3] at HS3 HMC HBC
              have hsw3 : w2.setCell ⟨gt, 0, none⟩ (.int .i64 (ta * (p : Int))) = w3 := hw3.symm
              have z4 : w3.cell? ⟨w.heap.size + 1, 0, none⟩ = some (.int .i64 ma) := HMC.out.elem (i := 0) (by simp)
              have g4 := HMC.out.thaw 0
              have HS4 := hid (HMC.out.storeAt 0 (ma * (p : Int)))
              have HOD := hid (HS3.out.1.other HS4.out.2 (fun k e => by cases e; exact HNE1))
              have HBD := hid (HBC.out.grown HS4.out.2 HBC.out.size (fun k e => by cases e; omega))
              obtain ⟨w5, hw5⟩ : ∃ w5, w5 = w3.setCell ⟨w.heap.size + 1, 0, none⟩ (.int .i64 (ma * (p : Int))) := ⟨_, rfl⟩
              rw [← hw5] at HS4 HOD HBD
              have hsw5 : w3.setCell ⟨w.heap.size + 1, 0, none⟩ (.int .i64 (ma * (p : Int))) = w5 := hw5.symm
              have HTW := hid (l5Two_any _ (ta * (p : Int)) (tb.tdiv (p : Int)) (tc.tdiv (p : Int)) HZ2.out.1 HZ2.out.2.1 HZ2.out.2.2 (by have h : -27000 ≤ (ta * (p : Int)) := HL2.out.1.1; omega) (by have h : (ta * (p : Int)) ≤ 27000 := HL2.out.1.2; omega) (by have h : -27000 ≤ (tb.tdiv (p : Int)) := HL2.out.2.1.1; omega) (by have h : (tb.tdiv (p : Int)) ≤ 27000 := HL2.out.2.1.2; omega) (by have h : -27000 ≤ (tc.tdiv (p : Int)) := HL2.out.2.2.1; omega) (by have h : (tc.tdiv (p : Int)) ≤ 27000 := HL2.out.2.2.2; omega) w5 HOD.out.rd)
              have HSM := hid HS4.out.1
              have hs5 := HBD.out.size
              clear hw1 hw2 hw3 hw5 HS1 HS2 HS3 HS4 HMA HMB HBA HBB HMC HBC E3 E4 TZ hd
              go_wp2_with fail
              refine (HTW.out).mono ?_
              rintro e w4 ⟨rfl, hb4⟩
              have HO4 := hid (HOD.out.keep HOD.out.lt hb4)
              have HM4 := hid (HSM.out.keep HSM.out.lt hb4)
              have HB4 := hid (HBD.out.trans (hb4.mono hs5))
              clear hb4 HTW
              go_wp2_with fail
              go_roundg f'
              case measure => omega
              case rel => exact ⟨_, _, rfl, rfl, HDS, HO4, HM4, HB4⟩

/-- what ZeroNormal answers -/
def z3B (xs : List Int) : Bool := fvB xs && decide (xs.length = 3)
def znT (xs : List Int) : List Int := if z3B xs then (nT (xs.getD 0 0) (xs.getD 1 0) (xs.getD 2 0)).toL else []
def znM (xs : List Int) : List Int := if z3B xs then (nM (xs.getD 0 0) (xs.getD 1 0) (xs.getD 2 0)).toL else []
def NormPost (xs : List Int) (w : World) (e : Ending) (w' : World) : Prop := ∃ u z, e = .returned (.tuple #[u, z, .bool (z3B xs)]) ∧ Owns w' w.heap.size u (znT xs) ∧ Owns w' w.heap.size z (znM xs) ∧ (∃ g k, u.ownBlock = some g ∧ z.ownBlock = some k ∧ g ≠ k) ∧ Below w.heap.size w w'
theorem norm_empty {w w2 : World} (hb : Below w.heap.size w w2) : Owns ((w2.alloc (.cells #[] 3)).alloc (.cells #[] 3)) w.heap.size (.slice (some ⟨w2.heap.size, 0, none⟩) 0 0) [] ∧ Owns ((w2.alloc (.cells #[] 3)).alloc (.cells #[] 3)) w.heap.size (.slice (some ⟨w2.heap.size + 1, 0, none⟩) 0 0) [] ∧ Below w.heap.size w ((w2.alloc (.cells #[] 3)).alloc (.cells #[] 3)) := by
  have hs := hb.size
  refine ⟨?_, ?_, (hb.alloc hs _).alloc (by simp; omega) _⟩
  · have : Owns (w2.alloc (.cells #[] 3)) w.heap.size (.slice (some ⟨w2.heap.size, 0, none⟩) 0 0) [] := World.ownsRow_made (size := 1) w2 #[] 0 hs (by unfold maxLen; omega) rfl
    exact this.alloc _
  · have := World.ownsRow_made (size := 1) (w2.alloc (.cells #[] 3)) #[] 0 (base := w.heap.size) (by simp; omega) (by unfold maxLen; omega) (e := 3) rfl
    simp only [World.size_alloc] at this
    exact this
set_option maxRecDepth 100000 in
set_option maxHeartbeats 1000000 in
theorem zeroNormalS_any (v : Value) (xs : List Int) (w : World) (h : Rd w v xs) : Calls Try.prog 25 #[v] w (NormPost xs w) := by
  have HH := hid h
  have hmx := rd_max h
  obtain ⟨ad, cap, rfl, _⟩ := h.form
  have HE := hid (norm_empty (Below.refl w.heap.size w))
  have hno : z3B xs = false → znT xs = [] ∧ znM xs = [] := fun e => by unfold znT znM; rw [e]; exact ⟨rfl, rfl⟩
  clear h
  cases hf : fvB xs with
  | false =>
    have HF := hid hf
    have hz : z3B xs = false := by unfold z3B; rw [hf]; rfl
    have HZ := hid hz
    have HN := hid (hno hz)
    clear hf hz hno
    go_enter Try.func25, Try.ntmps25
    go_wp2_with (go_at_call 73; refine (formValidS_any _ xs _ HH.out).mono ?_; rw [HF.out]; rintro e w' ⟨rfl, rfl⟩)
    go_ret3
    exact ⟨_, _, by rw [HZ.out]; rfl, by rw [HN.out.1]; exact HE.out.1, by rw [HN.out.2]; exact HE.out.2.1, ⟨w.heap.size, w.heap.size + 1, rfl, rfl, by omega⟩, HE.out.2.2⟩
  | true =>
    have HF := hid hf
    by_cases hl : xs.length = 3
    · have hli : (xs.length : Int) = 3 := by omega
      have T : ((xs.length : Int) != 3) = false := by rw [bne_eq_false_iff_eq]; exact hli
      obtain ⟨a, b, c, rfl⟩ := list_three hl
      have HZ : Hid (z3B [a, b, c] = true) := hid (by unfold z3B; rw [hf]; rfl)
      have HN : Hid (znT [a, b, c] = (nT a b c).toL ∧ znM [a, b, c] = (nM a b c).toL) := hid (by unfold znT znM; rw [HZ.out]; exact ⟨rfl, rfl⟩)
      have HOK := hid (ok3_of hf)
      clear hf hno hl hli HE
      go_enter Try.func25, Try.ntmps25
      go_wp2_with (go_at_call 73; refine (formValidS_any _ _ _ HH.out).mono ?_; rw [HF.out]; rintro e w' ⟨rfl, rfl⟩)
      refine (l5Normal_any _ a b c HOK.out _ HH.out).mono ?_
      rintro e w2 ⟨u, z, rfl, ho, hm, hne, hb2⟩
      have HX := hid hne
      clear hne
      go_wp2_with fail
      go_ret3
      exact ⟨u, z, by rw [HZ.out]; rfl, by rw [HN.out.1]; exact ho, by rw [HN.out.2]; exact hm, HX.out, hb2⟩
    · have T : ((xs.length : Int) != 3) = true := by rw [bne_iff_ne]; omega
      have hz : z3B xs = false := by unfold z3B; rw [decide_eq_false hl, Bool.and_false]
      have HZ := hid hz
      have HN := hid (hno hz)
      clear hf hz hno hl
      go_enter Try.func25, Try.ntmps25
      go_wp2_with (go_at_call 73; refine (formValidS_any _ xs _ HH.out).mono ?_; rw [HF.out]; rintro e w' ⟨rfl, rfl⟩)
      go_ret3
      exact ⟨_, _, by rw [HZ.out]; rfl, by rw [HN.out.1]; exact HE.out.1, by rw [HN.out.2]; exact HE.out.2.1, ⟨w.heap.size, w.heap.size + 1, rfl, rfl, by omega⟩, HE.out.2.2⟩

end Go.Proofs.Ytbhlgdleklfonaa

set_option linter.unusedVariables false
namespace Go.Proofs.Ytbhlgdleklfonaa
open Go.RowKit

def DrewFFF (P : List Int → List Int → List Int → Prop) (w : World) (e : Ending) (w' : World) : Prop := ∃ (u v z : Value) (xs ys zs : List Int), e = .returned (.tuple #[u, v, z]) ∧ P xs ys zs ∧ Hid (Owns w' w.heap.size u xs) ∧ Hid (Rd w' v ys) ∧ Hid (Rd w' z zs) ∧ Below w.heap.size w w'
theorem DrewFFF.mk {P : List Int → List Int → List Int → Prop} {w w' : World} {u v z : Value} {xs ys zs : List Int} (h : P xs ys zs) (ho : Owns w' w.heap.size u xs) (hr : Rd w' v ys) (hz : Rd w' z zs) (hb : Below w.heap.size w w') : DrewFFF P w (.returned (.tuple #[u, v, z])) w' := ⟨u, v, z, xs, ys, zs, rfl, h, hid ho, hid hr, hid hz, hb⟩
def DrewFII (P : List Int → Int → Int → Prop) (w : World) (e : Ending) (w' : World) : Prop := ∃ (u : Value) (xs : List Int) (y z : Int), e = .returned (.tuple #[u, .int .i64 y, .int .i64 z]) ∧ P xs y z ∧ Hid (Owns w' w.heap.size u xs) ∧ Below w.heap.size w w'
theorem DrewFII.mk {P : List Int → Int → Int → Prop} {w w' : World} {u : Value} {xs : List Int} {y z : Int} (h : P xs y z) (ho : Owns w' w.heap.size u xs) (hb : Below w.heap.size w w') : DrewFII P w (.returned (.tuple #[u, .int .i64 y, .int .i64 z])) w' := ⟨u, xs, y, z, rfl, h, hid ho, hb⟩

set_option maxRecDepth 100000 in
set_option maxHeartbeats 4000000 in
theorem drawZeroPair_any (v : Value) (n : Nat) (w : World) (h : CodeIn w v n) : Calls Try.prog 45 #[v] w (DrewFFF (fun xs ys zs => TermsOk xs ∧ VecGood xs.length ys ∧ VecGood xs.length zs) w) := by
  go_enter Try.func45, Try.ntmps45
  go_wp2_with fail
  refine (open_any v n _ h).mono ?_
  rintro e w1 ⟨v1, n1, rfl, HR, HB⟩
  have hsz := HB.size
  go_wp2_with fail
  refine (formDraw_any _ _ _ _ 0 4 (by omega) (by omega) (by omega) _ HR hsz).mono ?_
  rintro e w2 ⟨u, xs, q, rfl, HT, HO, hq, HA, HN⟩
  have hs2 := HN.out.size
  have hlt := HR.out.lt
  obtain ⟨a, cap, rfl⟩ := HO.out.reads
  have hml := HT.1
  go_wp2_with fail
  refine (vector_any _ _ _ _ q xs.length (by omega) (by omega) a cap _ HA (by omega)).mono ?_
  rintro e w3 ⟨uv, ys, r, rfl, HV, HOv, hr, HC, HP⟩
  have hs3 := HP.out.size
  have HO2 := hid (HO.out.only HP.out hlt)
  have HN2 := hid (HN.out.trans HP.out)
  clear HO HN HP
  go_wp2_with fail
  refine (vector_any _ _ _ _ r xs.length (by omega) (by omega) a cap _ HC (by omega)).mono ?_
  rintro e w4 ⟨uz, zs, s, rfl, HVz, HOz, hs, HD, HQ⟩
  have hs4 := HQ.out.size
  have HO3 := hid (HO2.out.only HQ.out hlt)
  have HOw := hid (HOv.out.only HQ.out (by omega))
  have HN3 := hid (HN2.out.trans HQ.out)
  have HVG := hid HV.good
  have HZG := hid HVz.good
  clear HO2 HOv HN2 HQ HV HVz
  obtain ⟨b, capv, rfl⟩ := HOw.out.reads
  by_cases h0 : ys.length = 0
  · have h0i : ¬ ((ys.length : Nat) : Int) > 0 := by omega
    clear h0
    go_wp2
    go_ret3
    exact DrewFFF.mk ⟨HT, HVG.out, HZG.out⟩ (HO3.out.base hsz) HOw.out.rd HOz.out.rd (only_below HB HN3.out)
  · have hyp : ((ys.length : Nat) : Int) > 0 := by omega
    have hyp1 : (1 : Int) ≤ ((ys.length : Nat) : Int) := by omega
    obtain ⟨g, cap2, hv2⟩ := HOw.out.slice_of (by omega)
    simp only [Value.slice.injEq, true_and] at hv2
    obtain ⟨rfl, rfl⟩ := hv2
    go_wp2_with fail
    refine (pick_any _ _ _ _ s 20 (by omega) (by omega) (by omega) _ (HD.out)).mono ?_
    rintro e wHE ⟨k, t, rfl, hk0, hk1, _, ht, HE, HS⟩
    replace hk1 := hk1 (by omega)
    have HN4 := hid (HN3.out.trans HS.out)
    have HO4 := hid (HO3.out.only HS.out hlt)
    have HOx := hid (HOw.out.only HS.out (by omega))
    have HOy := hid (HOz.out.only HS.out (by omega))
    have HRd := hid HOx.out.rd
    clear HN3 HO3 HOw HOz HS
    by_cases hk : k = 0
    · subst hk
      have HCut := hid (HRd.out.cut (k := 1) (by omega) rfl HOx.out.room)
      by_cases hcv : capv = 1
      · subst hcv
        have HC0 := HCut.out
        rw [if_pos rfl] at HC0
        replace HC0 := hid HC0
        clear HCut
        go_wp2_with fail
        go_quiet (fail)
        go_wp2
        go_ret3
        exact DrewFFF.mk (w' := wHE.drewN nq) ⟨HT, HVG.out.drop (k := 1), HZG.out⟩ ((HO4.out.base hsz).drewN nq) HC0.out HOy.out.rd (Below.trans (only_below HB HN4.out) ⟨rfl, rfl, rfl, Nat.le_refl _, fun _ _ => rfl⟩)
      · have HC0 := HCut.out
        rw [if_neg hcv] at HC0
        replace HC0 := hid HC0
        clear HCut
        go_wp2_with fail
        go_quiet (fail)
        go_wp2
        go_ret3
        exact DrewFFF.mk (w' := wHE.drewN nq) ⟨HT, HVG.out.drop (k := 1), HZG.out⟩ ((HO4.out.base hsz).drewN nq) HC0.out HOy.out.rd (Below.trans (only_below HB HN4.out) ⟨rfl, rfl, rfl, Nat.le_refl _, fun _ _ => rfl⟩)
    · go_wp2
      go_ret3
      exact DrewFFF.mk ⟨HT, HVG.out, HZG.out⟩ (HO4.out.base hsz) HRd.out HOy.out.rd (only_below HB HN4.out)

set_option maxRecDepth 100000 in
set_option maxHeartbeats 4000000 in
theorem drawZeroNormal_any (v : Value) (n : Nat) (w : World) (h : CodeIn w v n) : Calls Try.prog 23 #[v] w (DrewF TermsOk w) := by
  go_enter Try.func23, Try.ntmps23
  go_wp2_with fail
  refine (open_any v n _ h).mono ?_
  rintro e w1 ⟨v1, n1, rfl, HR, HB⟩
  have hsz := HB.size
  have hlt := HR.out.lt
  go_wp2_with fail
  refine (pick_any _ _ _ _ 0 16 (by omega) (by omega) (by omega) _ (HR.out)).mono ?_
  rintro e wHC ⟨k, r, rfl, hk0, hk1, _, hr, HC, HP⟩
  replace hk1 := hk1 (by omega)
  have hs2 := HP.out.size
  by_cases hk : k = 0
  · subst hk
    go_wp2_with fail
    refine (formDraw_any _ _ _ _ r 4 (by omega) (by omega) (by omega) _ HC (by omega)).mono ?_
    rintro e w2 ⟨u, xs, q, rfl, HT, HO, hq, HA, HN⟩
    go_wp2
    go_ret
    exact DrewF.mk HT (HO.out.base (by omega)) (only_below HB (HP.out.trans HN.out))
  · go_wp2_with fail
    refine (form5_any _ _ _ _ r 3 (by omega) (by omega) (by omega) _ HC (by omega)).mono ?_
    rintro e w2 ⟨u, xs, q, rfl, HT, HO, hq, HA, HN⟩
    go_wp2
    go_ret
    exact DrewF.mk HT.out.1 (HO.out.base (by omega)) (only_below HB (HP.out.trans HN.out))

set_option maxRecDepth 100000 in
set_option maxHeartbeats 4000000 in
theorem drawZeroFind_any (v : Value) (n : Nat) (w : World) (h : CodeIn w v n) : Calls Try.prog 32 #[v] w (DrewF TermsOk w) := by
  go_enter Try.func32, Try.ntmps32
  go_wp2_with fail
  refine (open_any v n _ h).mono ?_
  rintro e w1 ⟨v1, n1, rfl, HR, HB⟩
  have hsz := HB.size
  have hlt := HR.out.lt
  go_wp2_with fail
  refine (pick_any _ _ _ _ 0 4 (by omega) (by omega) (by omega) _ (HR.out)).mono ?_
  rintro e wHC ⟨k, r, rfl, hk0, hk1, _, hr, HC, HP⟩
  replace hk1 := hk1 (by omega)
  have hs2 := HP.out.size
  obtain ⟨m, hm⟩ : ∃ m : Nat, 1 + k = (m : Int) := ⟨(1 + k).toNat, by omega⟩
  go_wp2_with fail
  refine (form5_any _ _ _ _ r m (by omega) (by omega) (by omega) _ HC (by omega)).mono ?_
  rintro e w2 ⟨u, xs, q, rfl, HT, HO, hq, HA, HN⟩
  go_wp2
  go_ret
  exact DrewF.mk HT.out.1 (HO.out.base (by omega)) (only_below HB (HP.out.trans HN.out))

set_option maxRecDepth 100000 in
set_option maxHeartbeats 4000000 in
theorem drawZeroSearch_any (v : Value) (n : Nat) (w : World) (h : CodeIn w v n) : Calls Try.prog 30 #[v] w (DrewF (fun xs => xs.length ≤ 6) w) := by
  go_enter Try.func30, Try.ntmps30
  go_wp2_with fail
  refine (open_any v n _ h).mono ?_
  rintro e w1 ⟨v1, n1, rfl, HR, HB⟩
  have hsz := HB.size
  have hlt := HR.out.lt
  go_wp2_with fail
  refine (form5_any _ _ _ _ 0 3 (by omega) (by omega) (by omega) _ HR (by omega)).mono ?_
  rintro e w2 ⟨u, xs, q, rfl, HT, HO, hq, HA, HN⟩
  have hs2 := HN.out.size
  have hxl := HT.out.1.1
  go_wp2_with fail
  refine (zeroNormalS_any _ xs _ HO.out.rd).mono ?_
  rintro e w3 ⟨ut, um, rfl, hot, hom, _, hb3⟩
  have hs3 := hb3.size
  have HO3 := hid (HO.out.keep HO.out.lt hb3)
  have HT3 := hid hot
  have HN3 := hid (HN.out.trans (Only.of_below (R := w.heap.size) hb3))
  have HC3 := hid (HA.out.kept hb3 (by have := HA.out.lt; omega) (by omega))
  have hzl : (znT xs).length ≤ 6 := by
    unfold znT
    cases z3B xs with
    | false => simp
    | true => exact (show 3 ≤ 6 by omega)
  clear hot hom hb3 HO HN HA
  cases hz : z3B xs with
  | false =>
    go_wp2_with fail
    go_ret
    exact DrewF.mk hxl (HO3.out.base hsz) (only_below HB HN3.out)
  | true =>
    go_wp2_with fail
    refine (pick_any _ _ _ _ q 6 (by omega) (by omega) (by omega) _ (HC3.out)).mono ?_
    rintro e wHC ⟨k, r, rfl, hk0, hk1, _, hr, HC, HP⟩
    replace hk1 := hk1 (by omega)
    have HO4 := hid (HO3.out.only HP.out hlt)
    have HT4 := hid (HT3.out.only HP.out (by omega))
    have HN4 := hid (HN3.out.trans HP.out)
    by_cases hk : k > 0
    · go_wp2_with fail
      go_ret
      exact DrewF.mk hzl (HT4.out.base (by omega)) (only_below HB HN4.out)
    · go_wp2_with fail
      go_ret
      exact DrewF.mk hxl (HO4.out.base hsz) (only_below HB HN4.out)

def manyOk (xs : List Int) (y : Int) : Prop := TermsOk xs ∧ -10 ≤ y ∧ y ≤ 20
set_option maxRecDepth 100000 in
set_option maxHeartbeats 4000000 in
theorem drawZeroMany_any (v : Value) (n : Nat) (w : World) (h : CodeIn w v n) : Calls Try.prog 36 #[v] w (DrewFI manyOk w) := by
  go_enter Try.func36, Try.ntmps36
  go_wp2_with fail
  refine (open_any v n _ h).mono ?_
  rintro e w1 ⟨v1, n1, rfl, HR, HB⟩
  have hsz := HB.size
  have hlt := HR.out.lt
  go_wp2_with fail
  refine (pick_any _ _ _ _ 0 3 (by omega) (by omega) (by omega) _ (HR.out)).mono ?_
  rintro e wHC ⟨k, r, rfl, hk0, hk1, _, hr, HC, HP⟩
  replace hk1 := hk1 (by omega)
  have hs2 := HP.out.size
  obtain ⟨m, hm⟩ : ∃ m : Nat, 1 + k = (m : Int) := ⟨(1 + k).toNat, by omega⟩
  go_wp2_with fail
  refine (form5_any _ _ _ _ r m (by omega) (by omega) (by omega) _ HC (by omega)).mono ?_
  rintro e w2 ⟨u, xs, q, rfl, HT, HO, hq, HA, HN⟩
  have HN2 := hid (HP.out.trans HN.out)
  have HO2 := hid (HO.out.base (B := w.heap.size) (by omega))
  have HO2b := HO
  clear HN hm HO
  go_wp2_with fail
  refine (pick_any _ _ _ _ q 4 (by omega) (by omega) (by omega) _ (HA.out)).mono ?_
  rintro e wHD ⟨k2, s, rfl, hk20, hk21, _, hs, HD, HQ⟩
  replace hk21 := hk21 (by omega)
  go_wp2_with fail
  refine (pick_any _ _ _ _ s 20 (by omega) (by omega) (by omega) _ (HD.out)).mono ?_
  rintro e wHE ⟨k3, t, rfl, hk30, hk31, _, ht, HE, HS⟩
  replace hk31 := hk31 (by omega)
  go_wp2_with fail
  refine (pick_any _ _ _ _ t 20 (by omega) (by omega) (by omega) _ (HE.out)).mono ?_
  rintro e wHF ⟨k4, t2, rfl, hk40, hk41, _, ht2, HF, HU⟩
  replace hk41 := hk41 (by omega)
  have HO3 := hid ((((HO2b.out.only HQ.out (by omega)).only HS.out (by omega)).only HU.out (by omega)))
  have HN3 := hid (((HN2.out.trans HQ.out).trans HS.out).trans HU.out)
  go_wp2
  go_ret2
  exact DrewFI.mk ⟨HT.out.1, by omega, by omega⟩ (HO3.out.base (by omega)) (only_below HB HN3.out)

def mdlOk (xs : List Int) (y z : Int) : Prop := TermsOk xs ∧ prOk y ∧ 0 ≤ z ∧ z ≤ 6
set_option maxRecDepth 100000 in
set_option maxHeartbeats 4000000 in
theorem drawZeroModulo_any (v : Value) (n : Nat) (w : World) (h : CodeIn w v n) : Calls Try.prog 39 #[v] w (DrewFII mdlOk w) := by
  go_enter Try.func39, Try.ntmps39
  go_wp2_with fail
  refine (open_any v n _ h).mono ?_
  rintro e w1 ⟨v1, n1, rfl, HR, HB⟩
  have hsz := HB.size
  have hlt := HR.out.lt
  go_wp2_with fail
  refine (pick_any _ _ _ _ 0 3 (by omega) (by omega) (by omega) _ (HR.out)).mono ?_
  rintro e wHC ⟨k, r, rfl, hk0, hk1, _, hr, HC, HP⟩
  replace hk1 := hk1 (by omega)
  have hs2 := HP.out.size
  go_wp2_with fail
  refine (pick_any _ _ _ _ r 12 (by omega) (by omega) (by omega) _ (HC.out)).mono ?_
  rintro e wHC2 ⟨k0, r2, rfl, hk00, hk01, _, hr2, HC2, HP2⟩
  replace hk01 := hk01 (by omega)
  have hs3 := HP2.out.size
  obtain ⟨m, hm, hm1, hm4⟩ : ∃ m : Nat, 1 + k + k0 / 11 = (m : Int) ∧ 1 ≤ m ∧ m ≤ 4 := ⟨(1 + k + k0 / 11).toNat, by omega, by omega, by omega⟩
  go_wp2_with fail
  refine (form5_any _ _ _ _ r2 m (by omega) (by omega) (by omega) _ HC2 (by omega)).mono ?_
  rintro e w2 ⟨u, xs, q, rfl, HT, HO, hq, HA, HN⟩
  have HN2 := hid ((HP.out.trans HP2.out).trans HN.out)
  have HT1 := HT.out.1
  clear HN hm HP HP2 HC HC2 HR
  go_wp2_with fail
  refine (pick_any _ _ _ _ q 6 (by omega) (by omega) (by omega) _ (HA.out)).mono ?_
  rintro e wHD ⟨j, s, rfl, hj0, hj1, _, hs, HD, HQ⟩
  replace hj1 := hj1 (by omega)
  have HO3 := hid (HO.out.only HQ.out (by omega))
  have HN3 := hid (HN2.out.trans HQ.out)
  have hs4 := HN3.out.size
  clear HO HN2 HQ HA
  by_cases hj : j = 0
  · have T : (j == 0) = true := by rw [beq_iff_eq]; exact hj
    clear hj
    go_wp2_with fail
    refine (pick_any _ _ _ _ s 6 (by omega) (by omega) (by omega) _ (HD.out)).mono ?_
    rintro e wHE ⟨k2, t, rfl, hk20, hk21, _, ht, HE, HS⟩
    replace hk21 := hk21 (by omega)
    have HO4 := hid (HO3.out.only HS.out (by omega))
    go_wp2
    go_ret3
    exact DrewFII.mk ⟨HT1, by unfold prOk; omega, by omega, by omega⟩ (HO4.out.base (by omega)) (only_below HB (HN3.out.trans HS.out))
  · have T : (j == 0) = false := by rw [beq_eq_false_iff_ne]; exact hj
    clear hj
    by_cases hj1 : j = 1
    · have T1 : (j == 1) = true := by rw [beq_iff_eq]; exact hj1
      clear hj1
      go_wp2_with fail
      refine (drawnPrime_any _ _ _ _ s (by omega) _ HD (by omega)).mono ?_
      rintro e w3 ⟨x, t, rfl, hx, ht, HE, HS⟩
      have HXO := hid hx
      clear hx
      have HO4 := hid (HO3.out.only HS (by omega))
      go_wp2_with fail
      refine (pick_any _ _ _ _ t 3 (by omega) (by omega) (by omega) _ (HE.out)).mono ?_
      rintro e wHF ⟨k2, t2, rfl, hk20, hk21, _, ht2, HF, HU⟩
      replace hk21 := hk21 (by omega)
      have HO5 := hid (HO4.out.only HU.out (by omega))
      go_wp2
      go_ret3
      exact DrewFII.mk ⟨HT1, HXO.out, by omega, by omega⟩ (HO5.out.base (by omega)) (only_below HB ((HN3.out.trans HS).trans HU.out))
    · have T1 : (j == 1) = false := by rw [beq_eq_false_iff_ne]; exact hj1
      clear hj1
      go_wp2_with fail
      refine (pick_any _ _ _ _ s 3 (by omega) (by omega) (by omega) _ (HD.out)).mono ?_
      rintro e wHE ⟨k2, t, rfl, hk20, hk21, _, ht, HE, HS⟩
      replace hk21 := hk21 (by omega)
      have HO4 := hid (HO3.out.only HS.out (by omega))
      go_wp2
      go_ret3
      exact DrewFII.mk ⟨HT1, by unfold prOk; omega, by omega, by omega⟩ (HO4.out.base (by omega)) (only_below HB (HN3.out.trans HS.out))

end Go.Proofs.Ytbhlgdleklfonaa

set_option linter.unusedVariables false
namespace Go.Proofs.Ytbhlgdleklfonaa
open Go.RowKit

/-- a list that has been made longer by one, in new memory -/
def Longer (w wr w2 : World) (v2 : Value) (vs : List Int) (x : Int) : Prop := Owns w2 wr.heap.size v2 (vs ++ [x]) ∧ Below w.heap.size w w2
theorem longer_ok {w wr w1 w2 : World} {v1 v2 : Value} {vs : List Int} {x : Int} (HB : Below w.heap.size w wr) (o1 : Owns w1 wr.heap.size v1 ([] ++ vs)) (g1 : (wr.alloc (.cells #[] 3)).grownBy w1 (some wr.heap.size)) (o2 : Owns w2 wr.heap.size v2 (vs ++ [x])) (g2 : (w1.alloc (.cells #[.int .i64 x] 3)).grownBy w2 v1.ownBlock) : Longer w wr w2 v2 vs x := by
  have hs := HB.size
  have b1 := (HB.alloc hs (.cells #[] 3)).grown g1 (by simp; omega) (fun k e => by cases e; exact hs)
  have b2 := b1.alloc b1.size (.cells #[.int .i64 x] 3)
  exact ⟨o2, b2.grown g2 b2.size (fun k e => Nat.le_trans hs (o1.ge k e))⟩

theorem good_no1 {xs vs : List Int} (h : someB vs = false) : goodB xs vs = false := by unfold goodB; rw [h]; rfl
theorem good_no2 {xs vs : List Int} (h : valI xs vs vs.length ≠ 0) : goodB xs vs = false := by unfold goodB; rw [decide_eq_false h]; simp
theorem good_no3 {xs vs : List Int} (h : plainL vs ≠ vs) : goodB xs vs = false := by unfold goodB; rw [decide_eq_false h]; simp
theorem good_yes {xs vs : List Int} (h : someB vs = true) (h2 : valI xs vs vs.length = 0) (h3 : plainL vs = vs) : goodB xs vs = true := by unfold goodB; rw [h, decide_eq_true h2, decide_eq_true h3]; rfl
theorem manyR_zero (xs : List Int) (n : Int) (vs : List Int) : manyR xs n 0 vs = if goodB xs vs then 1 else 0 := rfl
theorem pow13 {k : Nat} (h : k ≤ 4) : 13 ^ k ≤ 28561 := Nat.pow_le_pow_right (by decide) h
set_option maxRecDepth 100000 in
set_option maxHeartbeats 4000000 in
theorem l5Many_any (xs : List Int) (n : Int) (hf : fvB xs = true) (n1 : 1 ≤ n) (n2 : n ≤ 6) : ∀ (k : Nat) (vf vv : Value) (vs : List Int) (w : World), Rd w vf xs → Rd w vv vs → Firm vv → vs.length + k = xs.length → (∀ v ∈ vs, -n ≤ v ∧ v ≤ n) →
    Calls Try.prog 92 #[vf, vv, .int .i64 n] w fun e w' => e = .returned (.int .i64 (manyR xs n k vs)) ∧ Below w.heap.size w w' := by
  intro k
  induction k with
  | zero =>
    intro vf vv vs w hx hv fv hl hb
    have HX := hid hx
    have HV := hid hv
    obtain ⟨a, cap, rfl, _⟩ := hx.form
    obtain ⟨a', cap', rfl, _⟩ := hv.form
    have hl0 : vs.length = xs.length := by omega
    have hli : (vs.length : Int) = (xs.length : Int) := by omega
    have TL : (((vs.length : Nat) : Int) == ((xs.length : Nat) : Int)) = true := by rw [beq_iff_eq]; exact hli
    have hl4 := (fvB_iff.1 hf).2.2
    have hv4 : vs.length ≤ 4 := by omega
    have H6 : Hid (Vec6 vs) := hid (fun v hv => by have := hb v hv; omega)
    have HF := hid hf
    have HL := hid hl0
    rw [manyR_zero]
    clear hx hv fv hl hb hf hl0 hli
    cases hs : someB vs with
    | false =>
      have HR := hid (good_no1 (xs := xs) hs)
      have HS := hid hs
      rw [HR.out, if_neg (by decide)]
      clear hs
      go_enter Try.func92, Try.ntmps92
      go_wp2_with (go_at_call 55; refine (l5Some_any _ vs _ HV.out hv4).mono ?_; rw [HS.out]; rintro e w' ⟨rfl, rfl⟩)
      go_ret
      exact ⟨rfl, Below.refl _ _⟩
    | true =>
      have HS := hid hs
      have HSM := hid (someB_iff.1 hs)
      by_cases hz : valI xs vs xs.length = 0
      · have hz2 : valI xs vs vs.length = 0 := by rw [HL.out]; exact hz
        have HZ := hid hz
        have HP3 : Hid (plainL vs ≠ vs → (if goodB xs vs then 1 else 0 : Int) = 0) := hid (fun h => by rw [good_no3 h]; rfl)
        have HP4 : Hid (plainL vs = vs → (if goodB xs vs then 1 else 0 : Int) = 1) := hid (fun h => by rw [good_yes hs hz2 h]; rfl)
        obtain ⟨G, hG⟩ : ∃ G : Int, G = if goodB xs vs then 1 else 0 := ⟨_, rfl⟩
        rw [← hG] at HP3 HP4 ⊢
        clear hs hz hz2 hG
        go_enter Try.func92, Try.ntmps92
        go_wp2_with (first | (go_at_call 55; refine (l5Some_any _ vs _ HV.out hv4).mono ?_; rw [HS.out]; rintro e w' ⟨rfl, rfl⟩) | (go_at_call 56; refine (l4Value6_any _ _ xs vs _ HX.out HV.out HF.out H6.out HL.out).mono ?_; rw [HZ.out]; rintro e w' ⟨rfl, kq, rfl⟩))
        refine (l5Plain_any _ vs _ (HV.out.drewN kq) hv4 H6.out HSM.out).mono ?_
        rintro e w2 ⟨u, rfl, ho, hb2⟩
        have HO := hid ho
        have HB2 := hid ((below_drewN (Below.refl w.heap.size w) kq).trans hb2)
        have HV2 := hid (HV.out.keep HB2.out)
        obtain ⟨au, cu, rfl, hfu⟩ := ho.rd.form
        obtain ⟨a2, c2, e2, hfv⟩ := HV2.out.form
        cases e2
        have hpl := plainL_len vs
        rw [hpl] at hfu
        have HFU := hid hfu
        have HFV := hid hfv
        have HPL := hid hpl
        rw [hpl]
        clear ho hb2 hfu hfv hpl
        go_wp2_with fail
        go_loopw [8] (fun si wr => ∃ K : Nat, si = .int .i64 K ∧ K ≤ vs.length ∧ Hid (∀ i, i < K → (plainL vs).getD i 0 = vs.getD i 0) ∧ Hid (∃ q, wr = w2.drewN q)) (fun si _ => vs.length - (intOf si).toNat)
        case atStart => exact ⟨0, rfl, by omega, hid (fun i hi => by omega), hid ⟨0, rfl⟩⟩
        case round =>
          obtain ⟨K, rfl, hK, HE, HW⟩ := hrel
          rename World => wq
          have HBQ : Hid (∀ j, Below w.heap.size w (wq.drewN j)) := hid (fun j => by obtain ⟨q, hq⟩ := HW.out; rw [hq]; exact below_drewN (below_drewN HB2.out q) j)
          by_cases hlt : K < vs.length
          · obtain ⟨b, o, rfl, hml, hc⟩ := HFU.out (by have := HPL.out; omega)
            obtain ⟨b', o', rfl, hml', hc'⟩ := HFV.out (by omega)
            have c1 : wq.cell? ⟨b, o + K, none⟩ = some (.int .i64 ((plainL vs).getD K 0)) := by obtain ⟨q, rfl⟩ := HW.out; exact hc K (by have := HPL.out; omega)
            have c2' : wq.cell? ⟨b', o' + K, none⟩ = some (.int .i64 (vs.getD K 0)) := by obtain ⟨q, rfl⟩ := HW.out; exact hc' K hlt
            obtain ⟨x, hx⟩ : ∃ x, x = (plainL vs).getD K 0 := ⟨_, rfl⟩
            obtain ⟨y, hy⟩ : ∃ y, y = vs.getD K 0 := ⟨_, rfl⟩
            rw [← hx] at c1
            rw [← hy] at c2'
            have HXE := hid hx
            have HYE := hid hy
            have HLT := hid hlt
            have hKi : (K : Int) < (vs.length : Int) := by omega
            clear hx hy hc hc' hml hml' hlt
            by_cases hxy : x = y
            · have T : (x != y) = false := by rw [bne_eq_false_iff_eq]; exact hxy
              have HXY := hid hxy
              clear hxy
              go_wp2_with fail
              go_quiet (fail)
              go_wp2_with fail
              go_roundw
              case measure => simp only [intOf]; have := HLT.out; omega
              case rel => exact ⟨K + 1, by go_num, by have := HLT.out; omega, hid (fun i hi => by
                by_cases e : i = K
                · rw [e, ← HXE.out, ← HYE.out]; exact HXY.out
                · exact HE.out i (by omega)), hid (by obtain ⟨q, hq⟩ := HW.out; exact ⟨q + nq, by rw [hq, World.drewN_drewN]⟩)⟩
            · have T : (x != y) = true := by rw [bne_iff_ne]; exact hxy
              have HG : Hid (G = 0) := hid (HP3.out fun e => hxy (by rw [HXE.out, HYE.out, e]))
              clear hxy
              go_wp2_with fail
              go_quiet (fail)
              go_wp2_with fail
              go_ret
              exact ⟨retI HG.out.symm, HBQ.out nq⟩
          · obtain rfl : K = vs.length := by omega
            have HG : Hid (G = 1) := hid (HP4.out (by
              refine List.ext_getElem HPL.out fun i h1 h2 => ?_
              have := HE.out i h2
              rwa [getD_at _ _ h1, getD_at _ _ h2] at this))
            clear hlt
            go_wp2_with fail
            go_ret
            exact ⟨retI HG.out.symm, HBQ.out 0⟩
      · have HR := hid (good_no2 (xs := xs) (vs := vs) (by rw [HL.out]; exact hz))
        rw [HR.out, if_neg (by decide)]
        obtain ⟨z, hze⟩ : ∃ z, z = valI xs vs xs.length := ⟨_, rfl⟩
        have HZ : Hid (valI xs vs xs.length = z) := hid hze.symm
        rw [← hze] at hz
        have TZ : (z != 0) = true := by rw [bne_iff_ne]; exact hz
        clear hs hz hze
        go_enter Try.func92, Try.ntmps92
        go_wp2_with (first | (go_at_call 55; refine (l5Some_any _ vs _ HV.out hv4).mono ?_; rw [HS.out]; rintro e w' ⟨rfl, rfl⟩) | (go_at_call 56; refine (l4Value6_any _ _ xs vs _ HX.out HV.out HF.out H6.out HL.out).mono ?_; rw [HZ.out]; rintro e w' ⟨rfl, kq, rfl⟩))
        go_ret
        exact ⟨rfl, below_drewN (Below.refl _ _) _⟩
  | succ k ih =>
    intro vf vv vs w hx hv fv hl hb
    have HX := hid hx
    have HV := hid hv
    have HFV := hid fv
    obtain ⟨a, cap, rfl, _⟩ := hx.form
    obtain ⟨a', cap', rfl, _⟩ := hv.form
    have hl4 := (fvB_iff.1 hf).2.2
    have hli : ¬ (vs.length : Int) = (xs.length : Int) := by omega
    have TL : (((vs.length : Nat) : Int) == ((xs.length : Nat) : Int)) = false := by rw [beq_eq_false_iff_ne]; exact hli
    have HB0 := hid hb
    have HL := hid hl
    have IH := hid ih
    obtain ⟨N, rfl⟩ := Int.eq_ofNat_of_zero_le (show 0 ≤ n by omega)
    have hk4 : k ≤ 4 := by omega
    have HMB : Hid (∀ us, 0 ≤ manyR xs N k us ∧ manyR xs N k us ≤ 28561) := hid (fun us => ⟨many_nn xs N k us, by have h1 := many_bd xs (show (0 : Int) ≤ N by omega) n2 k us; have h2 := pow13 hk4; omega⟩)
    have HSB : Hid (∀ K : Nat, 0 ≤ sumZ (fun x => manyR xs N k (vs ++ [x])) (-(N : Int)) K ∧ sumZ (fun x => manyR xs N k (vs ++ [x])) (-(N : Int)) K ≤ 28561 * K) := hid (fun K => ⟨sumZ_nn (fun x => (HMB.out _).1) _, sumZ_bd (fun x => (HMB.out _).2) _⟩)
    have hv4 : vs.length ≤ 3 := by omega
    clear ih hx hv fv hb hl hf hli
    show Calls _ _ _ _ fun e w' => e = .returned (.int .i64 (sumZ (fun x => manyR xs N k (vs ++ [x])) (-(N : Int)) (2 * (N : Int) + 1).toNat)) ∧ _
    go_enter Try.func92, Try.ntmps92
    go_wp2_with fail
    go_loopw [9, 10] (fun ss sx wr => ∃ (K : Nat) (s x : Int), sx = .int .i64 x ∧ Hid (x = -(N : Int) + (K : Int)) ∧ -(N : Int) ≤ x ∧ x ≤ (N : Int) + 1 ∧ ss = .int .i64 s ∧ 0 ≤ s ∧ s ≤ 28561 * K ∧ Hid (s = sumZ (fun x => manyR xs N k (vs ++ [x])) (-(N : Int)) K) ∧ Hid (Below w.heap.size w wr)) (fun _ sx _ => (N + 1 - intOf sx).toNat)
    case atStart => exact ⟨0, 0, -(N : Int), rfl, hid (by omega), by omega, by omega, rfl, by omega, by omega, hid rfl, hid (Below.refl _ _)⟩
    case round =>
      obtain ⟨K, s, x, rfl, HXE, hx1, hx2, rfl, s1, s2, HS, HB⟩ := hrel
      rename World => wr
      by_cases hlt : x ≤ (N : Int)
      · have hxe := HXE.out
        have hKb : K ≤ 12 := by omega
        have hsz := HB.out.size
        have HO0 : Hid (Owns (wr.alloc (.cells #[] 3)) wr.heap.size (.slice (some ⟨wr.heap.size, 0, none⟩) 0 0) []) := hid (World.ownsRow_made (size := 1) wr #[] 0 (Nat.le_refl _) (by unfold maxLen; omega) rfl)
        have HV0 : Hid (Rd (wr.alloc (.cells #[] 3)) (.slice a' vs.length cap') vs) := hid (HV.out.keep (HB.out.alloc hsz _))
        have HSTEP : Hid (sumZ (fun x => manyR xs N k (vs ++ [x])) (-(N : Int)) (K + 1) = s + manyR xs N k (vs ++ [x])) := hid (by rw [HS.out, hxe]; rfl)
        have HBV : Hid (∀ v ∈ vs ++ [x], -(N : Int) ≤ v ∧ v ≤ (N : Int)) := hid (fun v hv => by
          rcases List.mem_append.1 hv with h | h
          · exact HB0.out v h
          · rw [List.mem_singleton] at h; omega)
        have HLN : Hid ((vs ++ [x]).length + k = xs.length) := hid (by rw [List.length_append, List.length_singleton]; have := HL.out; omega)
        have hm := HMB.out (vs ++ [x])
        obtain ⟨M, hM⟩ : ∃ M, M = manyR xs N k (vs ++ [x]) := ⟨_, rfl⟩
        have HM : Hid (manyR xs N k (vs ++ [x]) = M) := hid hM.symm
        rw [← hM] at hm HSTEP
        have m1 := hm.1
        have m2 := hm.2
        clear hM hm hxe
        have F1 : Hid (∀ (v1 : Value) (w1 : World), Owns w1 wr.heap.size v1 ([] ++ vs) → (wr.alloc (.cells #[] 3)).grownBy w1 (some wr.heap.size) → Owns (w1.alloc (.cells #[.int .i64 x] 3)) wr.heap.size v1 vs ∧ wr.heap.size ≤ (w1.alloc (.cells #[.int .i64 x] 3)).heap.size ∧ Rd (w1.alloc (.cells #[.int .i64 x] 3)) (.slice (some ⟨w1.heap.size, 0, none⟩) 1 1) [x]) := hid (fun v1 w1 o1 g1 => by
          refine ⟨(show Owns w1 wr.heap.size v1 vs from o1).alloc _, ?_, (owns_lit (W := w1) (B := w1.heap.size) [x] _ rfl (Nat.le_refl _) (by unfold maxLen; simp)).rd⟩
          have := g1.size
          simp only [World.size_alloc] at this ⊢
          omega)
        have hvl : vs.length + [x].length ≤ 10000000 := by simp; omega
        go_wp2_with (first | (at_builtin; refine append_rd rfl _ _ rfl wr.heap.size _ vs rfl (F1.out _ _ HO1A.out HG1.out).1 _ [x] rfl (F1.out _ _ HO1A.out HG1.out).2.2 (.inr ⟨_, _, _, rfl⟩) hvl (F1.out _ _ HO1A.out HG1.out).2.1 ?_; intro v2 w2 o2 g2; have HL2 := hid (longer_ok HB.out HO1A.out HG1.out o2 g2); clear o2 g2) | (at_builtin; go_loud (refine append_rd rfl _ _ rfl wr.heap.size _ [] rfl HO0.out _ vs rfl HV0.out HFV.out (by simp; omega) (by simp) ?_; intro v1 w1 o1 g1; have HO1A := hid o1; have HG1 : Hid ((wr.alloc (.cells #[] 3)).grownBy w1 (some wr.heap.size)) := hid g1; clear o1 g1)))
        refine (IH.out _ _ (vs ++ [x]) _ (HX.out.keep HL2.out.2) HL2.out.1.rd HL2.out.1.firm HLN.out HBV.out).mono ?_
        rw [HM.out]
        rintro e w3 ⟨rfl, hb3⟩
        have HB3 := hid (HL2.out.2.trans (hb3.mono HL2.out.2.size))
        clear hb3
        go_wp2_with fail
        go_roundw
        case measure => simp only [intOf]; omega
        case rel => exact ⟨K + 1, s + M, x + 1, rfl, hid (by have := HXE.out; omega), by omega, by omega, rfl, by omega, by omega, hid HSTEP.out.symm, HB3⟩
      · have e : K = (2 * (N : Int) + 1).toNat := by have := HXE.out; omega
        have HR : Hid (s = sumZ (fun x => manyR xs N k (vs ++ [x])) (-(N : Int)) (2 * (N : Int) + 1).toNat) := hid (by rw [← e]; exact HS.out)
        clear e
        go_wp2_with fail
        go_ret
        exact ⟨retI HR.out, HB.out⟩

set_option maxRecDepth 100000 in
set_option maxHeartbeats 1000000 in
theorem zeroManyS_any (vf : Value) (xs : List Int) (n : Int) (w : World) (hx : Rd w vf xs) : Calls Try.prog 38 #[vf, .int .i64 n] w fun e w' => e = .returned (.int .i64 (zmanyV xs n)) ∧ Below w.heap.size w w' := by
  have HX := hid hx
  obtain ⟨a, cap, rfl, _⟩ := hx.form
  clear hx
  have hno : zmanyOk xs n = false → zmanyV xs n = -1 := fun h => by unfold zmanyV; rw [h]; rfl
  cases hf : fvB xs with
  | false =>
    have HF := hid hf
    have HR := hid (hno (by unfold zmanyOk; rw [hf]; rfl))
    clear hf hno
    go_enter Try.func38, Try.ntmps38
    go_wp2_with (go_at_call 73; refine (formValidS_any _ xs _ HX.out).mono ?_; rw [HF.out]; rintro e w' ⟨rfl, rfl⟩)
    go_ret
    exact ⟨retI HR.out.symm, Below.refl _ _⟩
  | true =>
    have HF := hid hf
    cases hn : inR n 1 6 with
    | false =>
      have HN := hid hn
      have HR := hid (hno (by unfold zmanyOk; rw [hn, Bool.and_false]))
      clear hf hno hn
      go_enter Try.func38, Try.ntmps38
      go_wp2_with (first | (go_at_call 73; refine (formValidS_any _ xs _ HX.out).mono ?_; rw [HF.out]; rintro e w' ⟨rfl, rfl⟩) | (go_at_call 91; refine (l6In_any _ _ _ _).mono ?_; rw [HN.out]; rintro e w' ⟨rfl, rfl⟩))
      go_ret
      exact ⟨retI HR.out.symm, Below.refl _ _⟩
    | true =>
      have HN := hid hn
      have hnb : 1 ≤ n ∧ n ≤ 6 := by
        unfold inR at hn
        rwa [Bool.and_eq_true, decide_eq_true_eq, decide_eq_true_eq] at hn
      have HR : Hid (zmanyV xs n = manyR xs n xs.length []) := hid (by unfold zmanyV zmanyOk; rw [hf, hn]; rfl)
      have HB0 := hid ((Below.refl w.heap.size w).alloc (Nat.le_refl _) (.cells #[] 3))
      have HO0 : Hid (Owns (w.alloc (.cells #[] 3)) w.heap.size (.slice (some ⟨w.heap.size, 0, none⟩) 0 0) []) := hid (World.ownsRow_made (size := 1) w #[] 0 (Nat.le_refl _) (by unfold maxLen; omega) rfl)
      have HM := hid (l5Many_any xs n hf hnb.1 hnb.2 xs.length _ _ [] _ (HX.out.keep HB0.out) HO0.out.rd HO0.out.firm (by simp) (fun v hv => by cases hv))
      clear hf hno hn hnb
      go_enter Try.func38, Try.ntmps38
      go_wp2_with (first | (go_at_call 73; refine (formValidS_any _ xs _ HX.out).mono ?_; rw [HF.out]; rintro e w' ⟨rfl, rfl⟩) | (go_at_call 91; refine (l6In_any _ _ _ _).mono ?_; rw [HN.out]; rintro e w' ⟨rfl, rfl⟩) | (go_at_call 92; refine (HM.out).mono ?_; rintro e w2 ⟨rfl, hb2⟩))
      go_ret
      exact ⟨retI HR.out.symm, HB0.out.trans (hb2.mono HB0.out.size)⟩

end Go.Proofs.Ytbhlgdleklfonaa

set_option linter.unusedVariables false
namespace Go.Proofs.Ytbhlgdleklfonaa
open Go.RowKit

theorem unit_snoc (P : Nat) (vs : List Int) (v : Int) : unitB P (vs ++ [v]) = (unitB P vs || !(v % (P : Int) == 0)) := by unfold unitB; simp
theorem any_yes {f : Nat → Bool} {m x : Nat} (hx : x < m) (h : f x = true) : (List.range m).any f = true := List.any_eq_true.2 ⟨x, List.mem_range.2 hx, h⟩
theorem any_no {f : Nat → Bool} {m : Nat} (h : ∀ x, x < m → f x = false) : (List.range m).any f = false := by
  rw [List.any_eq_false]
  intro x hx
  rw [h x (List.mem_range.1 hx)]
  decide
set_option maxRecDepth 100000 in
set_option maxHeartbeats 4000000 in
theorem l5Modulo_any (xs : List Int) (P m : Nat) (hf : fvB xs = true) (P1 : 2 ≤ P) (P2 : P ≤ 31) (m1 : 1 ≤ m) (m2 : m ≤ 32) : ∀ (k : Nat) (vf vv : Value) (vs : List Int) (w : World), Rd w vf xs → Rd w vv vs → Firm vv → vs.length + k = xs.length → (∀ v ∈ vs, 0 ≤ v ∧ v < (m : Int)) →
    Calls Try.prog 95 #[vf, vv, .int .i64 P, .int .i64 m] w fun e w' => e = .returned (.bool (modR xs P m k vs)) ∧ Below w.heap.size w w' := by
  have PZ : ((P : Int) == 0) = false := by rw [beq_eq_false_iff_ne]; omega
  intro k
  induction k with
  | zero =>
    intro vf vv vs w hx hv fv hl hb
    have HX := hid hx
    have HV := hid hv
    obtain ⟨a, cap, rfl, _⟩ := hx.form
    obtain ⟨a', cap', rfl, hform⟩ := hv.form
    have HFM := hid hform
    have hl0 : vs.length = xs.length := by omega
    have hli : (vs.length : Int) = (xs.length : Int) := by omega
    have TL : (((vs.length : Nat) : Int) == ((xs.length : Nat) : Int)) = true := by rw [beq_iff_eq]; exact hli
    have hl4 := (fvB_iff.1 hf).2.2
    have hv4 : vs.length ≤ 4 := by omega
    have HB := hid hb
    have H6 : Hid (Vec6 vs) := hid (fun v hv => by have := hb v hv; omega)
    have HF := hid hf
    have HL := hid hl0
    have hvb := valI_bd6 hf H6.out hl0 xs.length (Nat.le_refl _)
    have ER : Hid (modR xs P m 0 vs = (unitB P vs && (valI xs vs xs.length % (m : Int) == 0))) := hid (by show (unitB P vs && (valI xs vs vs.length % (m : Int) == 0)) = _; rw [hl0])
    obtain ⟨V, hV⟩ : ∃ V, V = valI xs vs xs.length := ⟨_, rfl⟩
    have HVE : Hid (valI xs vs xs.length = V) := hid hV.symm
    rw [← hV] at hvb ER
    have v1 := hvb.1
    have v2 := hvb.2
    obtain ⟨R, hR⟩ : ∃ R, R = modR xs P m 0 vs := ⟨_, rfl⟩
    rw [← hR] at ER ⊢
    clear hx hv fv hl hb hf hl0 hli hvb hV hR hform
    go_enter Try.func95, Try.ntmps95
    go_wp2_with fail
    go_loop [9, 10] (fun su si => ∃ (K : Nat) (z : Bool), si = .int .i64 K ∧ K ≤ vs.length ∧ su = .bool z ∧ Hid (z = unitB P (vs.take K))) (fun _ si => vs.length - (intOf si).toNat)
    case atStart => exact ⟨0, false, rfl, by omega, rfl, hid rfl⟩
    case round =>
      obtain ⟨K, z, rfl, hK, rfl, HZ⟩ := hrel
      by_cases hlt : K < vs.length
      · obtain ⟨b, o, rfl, hml, hc⟩ := HFM.out (by omega)
        have hcell := hc K hlt
        have hxb := HB.out (vs.getD K 0) (by rw [getD_at _ _ hlt]; exact List.getElem_mem _)
        have HSN : Hid (unitB P (vs.take (K + 1)) = (z || !(vs.getD K 0 % (P : Int) == 0))) := hid (by rw [takeD_snoc hlt, unit_snoc, ← HZ.out])
        obtain ⟨x, hx⟩ : ∃ x, x = vs.getD K 0 := ⟨_, rfl⟩
        rw [← hx] at hcell hxb HSN
        have x1 := hxb.1
        have x2 := hxb.2
        have HLT := hid hlt
        have hKi : (K : Int) < (vs.length : Int) := by omega
        have hmod : x.tmod (P : Int) = x % (P : Int) := Int.tmod_eq_emod_of_nonneg x1
        have hr1 := Int.emod_nonneg x (show (P : Int) ≠ 0 by omega)
        have hr2 := Int.emod_lt_of_pos x (show (0 : Int) < P by omega)
        clear hx hc hml hlt hxb
        cases z with
        | true =>
          have HS2 : Hid (unitB P (vs.take (K + 1)) = true) := hid (by rw [HSN.out]; rfl)
          go_wp2_with fail
          go_round
          case measure => simp only [intOf]; have := HLT.out; omega
          case rel => exact ⟨K + 1, true, by go_num, by have := HLT.out; omega, rfl, hid HS2.out.symm⟩
        | false =>
          by_cases hd : x % (P : Int) = 0
          · have T : (x % (P : Int) != 0) = false := by rw [bne_eq_false_iff_eq]; exact hd
            have HS2 : Hid (unitB P (vs.take (K + 1)) = false) := hid (by rw [HSN.out, beq_iff_eq.2 hd]; rfl)
            clear hmod hd
            go_wp2_with fail
            go_round
            case measure => simp only [intOf]; have := HLT.out; omega
            case rel => exact ⟨K + 1, false, by go_num, by have := HLT.out; omega, rfl, hid HS2.out.symm⟩
          · have T : (x % (P : Int) != 0) = true := by rw [bne_iff_ne]; exact hd
            have HS2 : Hid (unitB P (vs.take (K + 1)) = true) := hid (by rw [HSN.out, beq_eq_false_iff_ne.2 hd]; rfl)
            clear hmod hd
            go_wp2_with fail
            go_round
            case measure => simp only [intOf]; have := HLT.out; omega
            case rel => exact ⟨K + 1, true, by go_num, by have := HLT.out; omega, rfl, hid HS2.out.symm⟩
      · obtain rfl : K = vs.length := by omega
        have hz : z = unitB P vs := by rw [HZ.out, List.take_length]
        rw [← hz] at ER
        clear hlt hz HZ
        cases z with
        | false =>
          have HR : Hid (R = false) := hid (by rw [ER.out]; rfl)
          go_wp2_with fail
          go_ret
          exact ⟨retB HR.out.symm, Below.refl _ _⟩
        | true =>
          have HR : Hid (R = (V % (m : Int) == 0)) := hid (by rw [ER.out]; rfl)
          go_wp2_with (first | (go_at_call 56; refine (l4Value6_any _ _ xs vs _ HX.out HV.out HF.out H6.out HL.out).mono ?_; rw [HVE.out]; rintro e w' ⟨rfl, kq, rfl⟩) | (go_at_call 113; refine (l1Mod_any _ _ (by omega) (by omega) (by omega) (by omega) _).mono ?_; rintro e w' ⟨rfl, rfl⟩))
          go_ret
          exact ⟨retB HR.out.symm, below_drewN (Below.refl _ _) _⟩
  | succ k ih =>
    intro vf vv vs w hx hv fv hl hb
    have HX := hid hx
    have HV := hid hv
    have HFV := hid fv
    obtain ⟨a, cap, rfl, _⟩ := hx.form
    obtain ⟨a', cap', rfl, _⟩ := hv.form
    have hl4 := (fvB_iff.1 hf).2.2
    have hli : ¬ (vs.length : Int) = (xs.length : Int) := by omega
    have TL : (((vs.length : Nat) : Int) == ((xs.length : Nat) : Int)) = false := by rw [beq_eq_false_iff_ne]; exact hli
    have HB0 := hid hb
    have HL := hid hl
    have IH := hid ih
    have hv4 : vs.length ≤ 3 := by omega
    have ER : Hid (modR xs P m (k + 1) vs = (List.range m).any (fun x => modR xs P m k (vs ++ [(x : Int)]))) := hid rfl
    obtain ⟨R, hR⟩ : ∃ R, R = modR xs P m (k + 1) vs := ⟨_, rfl⟩
    rw [← hR] at ER ⊢
    clear ih hx hv fv hb hl hf hli hR
    go_enter Try.func95, Try.ntmps95
    go_wp2_with fail
    go_loopw [11] (fun sx wr => ∃ X : Nat, sx = .int .i64 X ∧ X ≤ m ∧ Hid (∀ i, i < X → modR xs P m k (vs ++ [(i : Int)]) = false) ∧ Hid (Below w.heap.size w wr)) (fun sx _ => m - (intOf sx).toNat)
    case atStart => exact ⟨0, rfl, by omega, hid (fun i hi => by omega), hid (Below.refl _ _)⟩
    case round =>
      obtain ⟨X, rfl, hX, HE, HB⟩ := hrel
      rename World => wr
      by_cases hlt : X < m
      · have hXi : (X : Int) < (m : Int) := by omega
        have hsz := HB.out.size
        have HO0 : Hid (Owns (wr.alloc (.cells #[] 3)) wr.heap.size (.slice (some ⟨wr.heap.size, 0, none⟩) 0 0) []) := hid (World.ownsRow_made (size := 1) wr #[] 0 (Nat.le_refl _) (by unfold maxLen; omega) rfl)
        have HV0 : Hid (Rd (wr.alloc (.cells #[] 3)) (.slice a' vs.length cap') vs) := hid (HV.out.keep (HB.out.alloc hsz _))
        have HBV : Hid (∀ v ∈ vs ++ [(X : Int)], 0 ≤ v ∧ v < (m : Int)) := hid (fun v hv => by
          rcases List.mem_append.1 hv with h | h
          · exact HB0.out v h
          · rw [List.mem_singleton] at h; omega)
        have HLN : Hid ((vs ++ [(X : Int)]).length + k = xs.length) := hid (by rw [List.length_append, List.length_singleton]; have := HL.out; omega)
        have F1 : Hid (∀ (v1 : Value) (w1 : World), Owns w1 wr.heap.size v1 ([] ++ vs) → (wr.alloc (.cells #[] 3)).grownBy w1 (some wr.heap.size) → Owns (w1.alloc (.cells #[.int .i64 (X : Int)] 3)) wr.heap.size v1 vs ∧ wr.heap.size ≤ (w1.alloc (.cells #[.int .i64 (X : Int)] 3)).heap.size ∧ Rd (w1.alloc (.cells #[.int .i64 (X : Int)] 3)) (.slice (some ⟨w1.heap.size, 0, none⟩) 1 1) [(X : Int)]) := hid (fun v1 w1 o1 g1 => by
          refine ⟨(show Owns w1 wr.heap.size v1 vs from o1).alloc _, ?_, (owns_lit (W := w1) (B := w1.heap.size) [(X : Int)] _ rfl (Nat.le_refl _) (by unfold maxLen; simp)).rd⟩
          have := g1.size
          simp only [World.size_alloc] at this ⊢
          omega)
        have hvl : vs.length + [(X : Int)].length ≤ 10000000 := by simp; omega
        go_wp2_with (first | (at_builtin; refine append_rd rfl _ _ rfl wr.heap.size _ vs rfl (F1.out _ _ HO1A.out HG1.out).1 _ [(X : Int)] rfl (F1.out _ _ HO1A.out HG1.out).2.2 (.inr ⟨_, _, _, rfl⟩) hvl (F1.out _ _ HO1A.out HG1.out).2.1 ?_; intro v2 w2 o2 g2; have HL2 := hid (longer_ok HB.out HO1A.out HG1.out o2 g2); clear o2 g2) | (at_builtin; refine append_rd rfl _ _ rfl wr.heap.size _ [] rfl HO0.out _ vs rfl HV0.out HFV.out (by simp; omega) (by simp) ?_; intro v1 w1 o1 g1; have HO1A := hid o1; have HG1 : Hid ((wr.alloc (.cells #[] 3)).grownBy w1 (some wr.heap.size)) := hid g1; clear o1 g1))
        refine (IH.out _ _ (vs ++ [(X : Int)]) _ (HX.out.keep HL2.out.2) HL2.out.1.rd HL2.out.1.firm HLN.out HBV.out).mono ?_
        rintro e w3 ⟨rfl, hb3⟩
        have HB3 := hid (HL2.out.2.trans (hb3.mono HL2.out.2.size))
        clear hb3
        cases hm : modR xs P m k (vs ++ [(X : Int)]) with
        | true =>
          have HR : Hid (R = true) := hid (by rw [ER.out]; exact any_yes hlt hm)
          clear hm
          go_wp2_with fail
          go_ret
          exact ⟨retB HR.out.symm, HB3.out⟩
        | false =>
          have HM := hid hm
          clear hm
          go_wp2_with fail
          go_roundw
          case measure => simp only [intOf]; omega
          case rel => exact ⟨X + 1, by go_num, by omega, hid (fun i hi => by
            by_cases e : i = X
            · rw [e]; exact HM.out
            · exact HE.out i (by omega)), HB3⟩
      · have HR : Hid (R = false) := hid (by rw [ER.out]; exact any_no fun x hx => HE.out x (by omega))
        go_wp2_with fail
        go_ret
        exact ⟨retB HR.out.symm, HB.out⟩

theorem pow31 {P k : Nat} (hP : P ≤ 31) (hk : k ≤ 5) : P ^ k ≤ 28629151 :=
  Nat.le_trans (Nat.pow_le_pow_left hP k) (Nat.pow_le_pow_right (by decide) hk)
set_option maxRecDepth 100000 in
set_option maxHeartbeats 2000000 in
theorem zeroModuloS_any (vf : Value) (xs : List Int) (p k : Int) (w : World) (hx : Rd w vf xs) : Calls Try.prog 40 #[vf, .int .i64 p, .int .i64 k] w fun e w' => e = .returned (.bool (zmodV xs p k)) ∧ Below w.heap.size w w' := by
  have HX := hid hx
  obtain ⟨a, cap, rfl, _⟩ := hx.form
  clear hx
  have hno : zmodOk xs p k = false → zmodV xs p k = false := fun h => by unfold zmodV; rw [h]; rfl
  cases hf : fvB xs with
  | false =>
    have HF := hid hf
    have HR := hid (hno (by unfold zmodOk; rw [hf]; rfl))
    clear hf hno
    go_enter Try.func40, Try.ntmps40
    go_wp2_with (go_at_call 73; refine (formValidS_any _ xs _ HX.out).mono ?_; rw [HF.out]; rintro e w' ⟨rfl, rfl⟩)
    go_ret
    exact ⟨retB HR.out.symm, Below.refl _ _⟩
  | true =>
    have HF := hid hf
    have hl4 := (fvB_iff.1 hf).2.2
    by_cases h3 : xs.length ≤ 3
    · have h3i : ¬ (3 : Int) < (xs.length : Int) := by omega
      cases hp : primeI p with
      | false =>
        have HP := hid hp
        have HR := hid (hno (by unfold zmodOk; rw [hp, Bool.false_and, Bool.and_false, Bool.and_false]))
        clear hf hno hp
        go_enter Try.func40, Try.ntmps40
        go_wp2_with (first | (go_at_call 73; refine (formValidS_any _ xs _ HX.out).mono ?_; rw [HF.out]; rintro e w' ⟨rfl, rfl⟩) | (go_at_call 94; refine (primeIsS_any _ _).mono ?_; rw [HP.out]; rintro e w' ⟨rfl, rfl⟩))
        go_ret
        exact ⟨retB HR.out.symm, Below.refl _ _⟩
      | true =>
        have HP := hid hp
        have hp2 := (primeI_bd hp).1
        by_cases hp31 : p ≤ 31
        · have hpi : ¬ (31 : Int) < p := by omega
          cases hk : inR k 1 5 with
          | false =>
            have HK := hid hk
            have HR := hid (hno (by unfold zmodOk; rw [hk, Bool.and_false, Bool.and_false, Bool.and_false, Bool.and_false]))
            clear hf hno hp hk
            go_enter Try.func40, Try.ntmps40
            go_wp2_with (first | (go_at_call 73; refine (formValidS_any _ xs _ HX.out).mono ?_; rw [HF.out]; rintro e w' ⟨rfl, rfl⟩) | (go_at_call 94; refine (primeIsS_any _ _).mono ?_; rw [HP.out]; rintro e w' ⟨rfl, rfl⟩) | (go_at_call 91; refine (l6In_any _ _ _ _).mono ?_; rw [HK.out]; rintro e w' ⟨rfl, rfl⟩))
            go_ret
            exact ⟨retB HR.out.symm, Below.refl _ _⟩
          | true =>
            have HK := hid hk
            have hkb : 1 ≤ k ∧ k ≤ 5 := by
              unfold inR at hk
              rwa [Bool.and_eq_true, decide_eq_true_eq, decide_eq_true_eq] at hk
            obtain ⟨P, rfl⟩ := Int.eq_ofNat_of_zero_le (show 0 ≤ p by omega)
            obtain ⟨k', rfl⟩ := Int.eq_ofNat_of_zero_le (show 0 ≤ k by omega)
            have k1 := hkb.1
            have k2 := hkb.2
            have ER : Hid (zmodV xs (P : Int) (k' : Int) = (decide (P ^ k' ≤ 32) && modR xs P (P ^ k') xs.length [])) := hid (by
              unfold zmodV zmodOk
              rw [hf, hp, hk, decide_eq_true h3, decide_eq_true hp31, Int.toNat_natCast, Int.toNat_natCast]
              rfl)
            obtain ⟨R, hR⟩ : ∃ R, R = zmodV xs (P : Int) (k' : Int) := ⟨_, rfl⟩
            rw [← hR] at ER ⊢
            clear hno hp hk hkb hR
            go_enter Try.func40, Try.ntmps40
            go_wp2_with (first | (go_at_call 73; refine (formValidS_any _ xs _ HX.out).mono ?_; rw [HF.out]; rintro e w' ⟨rfl, rfl⟩) | (go_at_call 94; refine (primeIsS_any _ _).mono ?_; rw [HP.out]; rintro e w' ⟨rfl, rfl⟩) | (go_at_call 91; refine (l6In_any _ _ _ _).mono ?_; rw [HK.out]; rintro e w' ⟨rfl, rfl⟩))
            go_loop [7, 8] (fun sm si => ∃ (I A : Nat), si = .int .i64 I ∧ I ≤ k' ∧ sm = .int .i64 A ∧ A ≤ 28629151 ∧ Hid (A = P ^ I)) (fun _ si => k' - (intOf si).toNat)
            case atStart => exact ⟨0, 1, rfl, by omega, rfl, by omega, hid rfl⟩
            case round =>
              obtain ⟨I, A, rfl, hI, rfl, hA, HA⟩ := hrel
              by_cases hlt : I < k'
              · have hIi : (I : Int) < (k' : Int) := by omega
                have HS : Hid (A * P = P ^ (I + 1)) := hid (by rw [HA.out, Nat.pow_succ])
                have hAP : A * P ≤ 28629151 := by rw [HS.out]; exact pow31 (by omega) (by omega)
                have eAP : (A : Int) * (P : Int) = ((A * P : Nat) : Int) := by push_cast; rfl
                have ap1 : 0 ≤ (A : Int) * (P : Int) := by rw [eAP]; omega
                have ap2 : (A : Int) * (P : Int) ≤ 28629151 := by rw [eAP]; omega
                have HE := hid eAP
                clear eAP
                go_wp2_with fail
                go_round
                case measure => simp only [intOf]; omega
                case rel => exact ⟨I + 1, A * P, by go_num, by omega, vI HE.out, hAP, HS⟩
              · obtain rfl : I = k' := by omega
                have hA1 : 1 ≤ A := by rw [HA.out]; exact Nat.pow_pos (by omega)
                rw [← HA.out] at ER
                by_cases h32 : A ≤ 32
                · have h32i : (A : Int) ≤ 32 := by omega
                  have HR : Hid (R = modR xs P A xs.length []) := hid (by rw [ER.out, decide_eq_true h32, Bool.true_and])
                  have HB0 := hid ((Below.refl w.heap.size w).alloc (Nat.le_refl _) (.cells #[] 3))
                  have HO0 : Hid (Owns (w.alloc (.cells #[] 3)) w.heap.size (.slice (some ⟨w.heap.size, 0, none⟩) 0 0) []) := hid (World.ownsRow_made (size := 1) w #[] 0 (Nat.le_refl _) (by unfold maxLen; omega) rfl)
                  have HM := hid (l5Modulo_any xs P A hf (by omega) (by omega) hA1 h32 xs.length _ _ [] _ (HX.out.keep HB0.out) HO0.out.rd HO0.out.firm (by simp) (fun v hv => by cases hv))
                  clear hlt ER HA hf
                  go_wp2_with (go_at_call 95; refine (HM.out).mono ?_; rw [← HR.out]; rintro e w2 ⟨rfl, hb2⟩)
                  go_ret
                  exact ⟨rfl, HB0.out.trans (hb2.mono HB0.out.size)⟩
                · have h32i : ¬ (A : Int) ≤ 32 := by omega
                  have HR : Hid (R = false) := hid (by rw [ER.out, decide_eq_false h32, Bool.false_and])
                  clear hlt ER HA hf
                  go_wp2_with fail
                  go_ret
                  exact ⟨retB HR.out.symm, Below.refl _ _⟩
        · have hpi : (31 : Int) < p := by omega
          have HR := hid (hno (by unfold zmodOk; rw [decide_eq_false hp31, Bool.false_and, Bool.and_false, Bool.and_false, Bool.and_false]))
          clear hf hno hp hp31
          go_enter Try.func40, Try.ntmps40
          go_wp2_with (first | (go_at_call 73; refine (formValidS_any _ xs _ HX.out).mono ?_; rw [HF.out]; rintro e w' ⟨rfl, rfl⟩) | (go_at_call 94; refine (primeIsS_any _ _).mono ?_; rw [HP.out]; rintro e w' ⟨rfl, rfl⟩))
          go_ret
          exact ⟨retB HR.out.symm, Below.refl _ _⟩
    · have h3i : (3 : Int) < (xs.length : Int) := by omega
      have HR := hid (hno (by unfold zmodOk; rw [decide_eq_false h3, Bool.false_and, Bool.and_false]))
      clear hf hno h3
      go_enter Try.func40, Try.ntmps40
      go_wp2_with (go_at_call 73; refine (formValidS_any _ xs _ HX.out).mono ?_; rw [HF.out]; rintro e w' ⟨rfl, rfl⟩)
      go_ret
      exact ⟨retB HR.out.symm, Below.refl _ _⟩

end Go.Proofs.Ytbhlgdleklfonaa

set_option linter.unusedVariables false
namespace Go.Proofs.Ytbhlgdleklfonaa
open Go.RowKit

theorem zmod_pw {xs : List Int} {P : Nat} {k : Int} (hf : fvB xs = true) (hl : xs.length ≤ 3) (hP : primeN P = true) : zmodV xs (P : Int) k = (pw32 P k && (vecsL 0 (P ^ k.toNat) xs.length).any (modHit xs P (P ^ k.toNat))) := by
  have hp := primeN_bd hP
  have hm : zmodOk xs (P : Int) k = (decide (P ≤ 31) && inR k 1 5) := by
    unfold zmodOk
    rw [hf, decide_eq_true hl, show primeI (P : Int) = true from hP, Bool.true_and, Bool.true_and, Bool.true_and]
    congr 1
    rw [Bool.eq_iff_iff, decide_eq_true_eq, decide_eq_true_eq]
    omega
  unfold zmodV
  rw [hm, Int.toNat_natCast, mod_vecs xs P _ _ (Nat.pow_pos (by omega))]
  cases h : pw32 P k with
  | true =>
    unfold pw32 at h
    rw [Bool.and_eq_true, decide_eq_true_eq, decide_eq_true_eq] at h
    obtain ⟨h1, h2⟩ := h
    have h3 : P ^ 1 ≤ P ^ k.toNat := Nat.pow_le_pow_right (by omega) (by omega)
    rw [Nat.pow_one] at h3
    have h4 : P ≠ 32 := by rintro rfl; revert hP; decide
    have h5 : k ≤ 5 := by
      refine Classical.byContradiction fun hc => ?_
      have g1 : 2 ^ 6 ≤ P ^ 6 := Nat.pow_le_pow_left hp.1 6
      have g2 : P ^ 6 ≤ P ^ k.toNat := Nat.pow_le_pow_right (by omega) (by omega)
      omega
    rw [decide_eq_true (show P ≤ 31 by omega), show inR k 1 5 = true from by unfold inR; rw [decide_eq_true h1, decide_eq_true h5]; rfl, decide_eq_true h2]
    rfl
  | false =>
    rw [Bool.false_and]
    unfold pw32 at h
    by_cases h1 : 1 ≤ k
    · rw [decide_eq_true h1, Bool.true_and] at h
      rw [h, Bool.false_and, Bool.and_false]
    · have : inR k 1 5 = false := by unfold inR; rw [decide_eq_false h1, Bool.false_and]
      rw [this, Bool.and_false, Bool.false_and]
theorem zmod_no {xs : List Int} {p k : Int} (h : zmodOk xs p k = false) : zmodV xs p k = false := by unfold zmodV; rw [h, Bool.false_and]



end Go.Proofs.Ytbhlgdleklfonaa

set_option linter.unusedVariables false
namespace Go.Proofs.Ytbhlgdleklfonaa
open Go.RowKit Go.Shelf
attribute [local go_sem] Oper.semAt_some

set_option maxRecDepth 100000 in
set_option maxHeartbeats 1000000 in
theorem zeroModulo_any (vf : Value) (xs : List Int) (p k : Int) (w : World) (hx : Rd w vf xs) :
    Calls Try.prog 17 #[vf, .int .i64 p, .int .i64 k] w fun e w' => e = .returned (.bool (zmodV xs p k)) ∧ Below w.heap.size w w' := by
  have HX := hid hx
  obtain ⟨a, cap, rfl, _⟩ := hx.form
  have bF := ((Boxed.new w 23 (.slice a xs.length cap)).alloc (.cells #[.int .i64 p] 3)).alloc (.cells #[.bool false] 4)
  have bP := (Boxed.new (w.alloc (.cells #[.slice a xs.length cap] 23)) 3 (.int .i64 p)).alloc (.cells #[.bool false] 4)
  have bR := Boxed.new ((w.alloc (.cells #[.slice a xs.length cap] 23)).alloc (.cells #[.int .i64 p] 3)) 4 (.bool false)
  simp only [World.size_alloc] at bP bR
  have cF := bF.cell
  have cP := bP.cell
  have cR := bR.cell
  have fR := bR.frozen
  have HB1 := hid (below_three (Below.refl w.heap.size w) (Nat.le_refl _) (.cells #[.slice a xs.length cap] 23) (.cells #[.int .i64 p] 3) (.cells #[.bool false] 4))
  have HX1 := hid (HX.out.keep HB1.out)
  have hlo : w.heap.size ≤ w.heap.size + 1 + 1 := by omega
  have HLO := hid hlo
  clear hx hlo
  cases hf : fvB xs with
  | false =>
    have HP := hid (zmod_no (xs := xs) (p := p) (k := k) (by unfold zmodOk; rw [hf, Bool.false_and]))
    have HF := hid hf
    clear hf
    go_enter Try.func17, Try.ntmps17
    go_wp2_with (go_at_call 35; refine (formValidP_any _ xs _ HX1.out).mono ?_; rw [HF.out]; rintro e w' ⟨rfl, rfl⟩)
    have cS := (bR.set (.bool false)).cell
    refine bodyPost_ret (v := .bool false) (by simp [results, Try.results17, go_sem] <;> go_simp) rfl ?_
    exact ⟨retB HP.out.symm, HB1.out⟩
  | true =>
    by_cases hl : xs.length ≤ 3
    · cases hPR : primeI p with
      | false =>
        have HP := hid (zmod_no (xs := xs) (p := p) (k := k) (by unfold zmodOk; rw [hPR, Bool.false_and, Bool.and_false, Bool.and_false]))
        have HF := hid hf
        have HPR := hid hPR
        clear hf hPR
        go_enter Try.func17, Try.ntmps17
        go_wp2_with (first | (go_at_call 35; refine (formValidP_any _ xs _ HX1.out).mono ?_; rw [HF.out]; rintro e w' ⟨rfl, rfl⟩) | (go_at_call 60; refine (prime_any _ _).mono ?_; rw [HPR.out]; rintro e w2 ⟨rfl, hb2⟩; have bR2 := boxed_lo bR hb2; have cR2 := bR2.cell; have fR2 := bR2.frozen))
        have cS := (bR2.set (.bool false)).cell
        refine bodyPost_ret (v := .bool false) (by simp [results, Try.results17, go_sem] <;> go_simp) rfl ?_
        exact ⟨retB HP.out.symm, (HB1.out.trans (hb2.mono HB1.out.size)).setCell (p := ⟨w.heap.size + 1 + 1, 0, none⟩) HLO.out _⟩
      | true =>
        have hp2 := (primeI_bd hPR).1
        obtain ⟨P, rfl⟩ := Int.eq_ofNat_of_zero_le (show 0 ≤ p by omega)
        have hP : primeN P = true := hPR
        have hpp2 := (primeN_bd hP).1
        have hpp5 := (primeN_bd hP).2.1
        cases hW : pw32 P k with
        | true =>
          have e9 := zmod_pw (k := k) hf hl hP
          rw [hW, Bool.true_and] at e9
          rw [e9]
          exact zeroModulo_main (.slice a xs.length cap) xs P _ k hf hl hP hW rfl w HX.out
        | false =>
          have HP : Hid (zmodV xs (P : Int) k = false) := hid (by rw [zmod_pw hf hl hP, hW, Bool.false_and])
          have HF := hid hf
          have HPR := hid hPR
          have HW := hid hW
          clear hf hPR hP hW
          go_enter Try.func17, Try.ntmps17
          go_wp2_with (first | (go_at_call 35; refine (formValidP_any _ xs _ HX1.out).mono ?_; rw [HF.out]; rintro e w' ⟨rfl, rfl⟩) | (go_at_call 60; refine (prime_any _ _).mono ?_; rw [HPR.out]; rintro e w2 ⟨rfl, hb2⟩; have bR2 := boxed_lo bR hb2; have bP2 := boxed_lo bP hb2; have cP2 := bP2.cell; have cR2 := bR2.cell; have fR2 := bR2.frozen) | (go_at_call 61; refine (powerWithin32_any P k hpp2 hpp5 _).mono ?_; rw [HW.out]; rintro e w' ⟨⟨xw, rfl, hxw⟩, rfl⟩; have bR3 := bR2.alloc (.cells #[.int .i64 xw] 3); have cR3 := bR3.cell; have fR3 := bR3.frozen))
          have cS := (bR3.set (.bool false)).cell
          refine bodyPost_ret (v := .bool false) (by simp [results, Try.results17, go_sem] <;> go_simp) rfl ?_
          exact ⟨retB HP.out.symm, ((HB1.out.trans (hb2.mono HB1.out.size)).alloc (HB1.out.trans (hb2.mono HB1.out.size)).size (.cells #[.int .i64 xw] 3)).setCell (p := ⟨w.heap.size + 1 + 1, 0, none⟩) HLO.out _⟩
    · have HP := hid (zmod_no (xs := xs) (p := p) (k := k) (by unfold zmodOk; rw [decide_eq_false hl, Bool.false_and, Bool.and_false]))
      have HF := hid hf
      have hgt : (3 : Int) < (xs.length : Int) := by omega
      clear hf hl
      go_enter Try.func17, Try.ntmps17
      go_wp2_with (go_at_call 35; refine (formValidP_any _ xs _ HX1.out).mono ?_; rw [HF.out]; rintro e w' ⟨rfl, rfl⟩)
      have cS := (bR.set (.bool false)).cell
      refine bodyPost_ret (v := .bool false) (by simp [results, Try.results17, go_sem] <;> go_simp) rfl ?_
      exact ⟨retB HP.out.symm, HB1.out⟩

end Go.Proofs.Ytbhlgdleklfonaa

set_option linter.unusedVariables false
namespace Go.Proofs.Ytbhlgdleklfonaa
open Go.RowKit

theorem core_idem {n : Int} (hn : n ≠ 0) : coreG (coreG n) = coreG n := by
  have h := core_is hn
  exact (core_eq (r := 1) (h.ne hn) ⟨by simp, Nat.le_refl _, h.free⟩).1
theorem core_bd2 {n : Int} (hn : n ≠ 0) : coreG n ≠ 0 ∧ (coreG n).natAbs ≤ n.natAbs := core_bd hn
/-- n times the core of n times x has the core of x -/
theorem core_twice {n x : Int} (hn : n ≠ 0) (hx : x ≠ 0) : coreG (n * coreG (n * x)) = coreG x := by
  have hnx := Int.mul_ne_zero hn hx
  have h := core_is hnx
  have hc := h.ne hnx
  rw [← core_sq (t := (rootG (n * x) : Int)) (Int.mul_ne_zero hn hc) (by have := h.pos; omega), Int.mul_assoc, h.eq,
    show n * (n * x) = x * (n * n) by simp only [Int.mul_comm, Int.mul_left_comm]]
  exact core_sq hx hn
theorem prod_cores : ∀ {xs : List Int}, NZ xs → NZ (xs.map coreG) ∧ ∃ s : Int, s ≠ 0 ∧ prodI (xs.map coreG) * (s * s) = prodI xs
  | [], _ => ⟨fun x hx => by simp at hx, 1, by decide, rfl⟩
  | x :: xs, h => by
    obtain ⟨h1, s, hs, e⟩ := prod_cores h.tail
    have hc := core_is h.head
    have hn := hc.ne h.head
    refine ⟨fun y hy => ?_, s * (rootG x : Int), Int.mul_ne_zero hs (by have := hc.pos; omega), ?_⟩
    · rw [List.map_cons, List.mem_cons] at hy
      rcases hy with rfl | hy
      · exact hn
      · exact h1 y hy
    · show coreG x * prodI (xs.map coreG) * _ = x * prodI xs
      conv => rhs; rw [← hc.eq, ← e]
      simp only [Int.mul_assoc, Int.mul_comm, Int.mul_left_comm]
theorem nz_scale {n : Int} (hn : n ≠ 0) {xs : List Int} (h : NZ xs) : NZ (xs.map (n * ·)) := fun y hy => by
  obtain ⟨x, hx, rfl⟩ := List.mem_map.1 hy
  exact Int.mul_ne_zero hn (h x hx)
theorem times_map (xs : List Int) (n : Int) : timesL xs n = (xs.map (n * ·)).map coreG := by
  unfold timesL
  rw [List.map_map]
  rfl
theorem times_one (xs : List Int) : timesL xs 1 = xs.map coreG := by
  unfold timesL
  congr 1
  funext x
  rw [Int.one_mul]
theorem fv_cores {xs : List Int} (h : fvB xs = true) : fvB (xs.map coreG) = true := by
  obtain ⟨h1, h2, h3⟩ := fvB_iff.1 h
  refine fvB_iff.2 ⟨fun y hy => ?_, by rw [List.length_map]; exact h2, by rw [List.length_map]; exact h3⟩
  obtain ⟨x, hx, rfl⟩ := List.mem_map.1 hy
  have h4 := h1 x hx
  have h5 := core_bd2 h4.1
  exact ⟨h5.1, by omega, by omega⟩
theorem cores_yes {xs : List Int} (h : fvB xs = true) : fcoresL xs = xs.map coreG := by unfold fcoresL; rw [h, if_pos rfl, times_one]
theorem cores_no {xs : List Int} (h : fvB xs = false) : fcoresL xs = [] := by unfold fcoresL; rw [h]; rfl
theorem cores_twice {xs : List Int} (h : fvB xs = true) : fcoresL (xs.map coreG) = xs.map coreG := by
  rw [cores_yes (fv_cores h), List.map_map]
  refine List.map_congr_left fun x hx => ?_
  exact core_idem ((fvB_iff.1 h).1 x hx).1
theorem van_yes {xs : List Int} {q : Int} (h : fvB xs = true) (hq : plI q = true) : fvanV xs q = vanB xs q := by unfold fvanV; rw [h, hq]; rfl
theorem van_no {xs : List Int} {q : Int} (hq : plI q = false) : fvanV xs q = false := by unfold fvanV; rw [hq]; simp
theorem van_cores {xs : List Int} (h : fvB xs = true) (q : Int) : fvanV (xs.map coreG) q = fvanV xs q := by
  cases hq : plI q with
  | false => rw [van_no hq, van_no hq]
  | true =>
    obtain ⟨h1, h2, h3⟩ := fvB_iff.1 h
    rw [van_yes h hq, van_yes (fv_cores h) hq]
    exact van_cls hq (fun x hx => core_cls hx hq) (fv_nz h) h2 h3
theorem less_cores : ∀ {xs : List Int}, NZ xs → lessN (xs.map coreG) = lessN xs
  | [], _ => rfl
  | x :: xs, h => by
    have ih := less_cores h.tail
    have hx := core_sign h.head
    unfold lessN at ih ⊢
    rw [List.map_cons, List.filter_cons, List.filter_cons]
    by_cases e : x < 0
    · rw [decide_eq_true e, decide_eq_true (hx.2 e), if_pos rfl, if_pos rfl, List.length_cons, List.length_cons, ih]
    · rw [decide_eq_false e, decide_eq_false (fun h => e (hx.1 h)), if_neg (by decide), if_neg (by decide), ih]
theorem cores_same {xs : List Int} (h : fvB xs = true) : fsameV (xs.map coreG) xs = true := by
  have hz := fv_nz h
  obtain ⟨h1, s, hs, e⟩ := prod_cores hz
  refine (same_iff (fv_cores h) h).2 ⟨by rw [List.length_map], ?_, fun q hq => ?_⟩
  · rw [← e]; exact (core_sq h1.prod hs).symm
  · by_cases h0 : q = 0
    · unfold alikeB
      rw [if_pos h0, less_cores hz]
      simp
    · rw [alike_def hq h1 hz h0, hasC_cls hq (fun x hx => core_cls hx hq) hz, (sq_cls h1.prod hz.prod hq).2 (prod_cls hq (fun x hx => core_cls hx hq) hz).2]
      simp
theorem scale_prod {n : Int} (hn : n ≠ 0) : ∀ {xs : List Int}, NZ xs → ∃ m : Int, m ≠ 0 ∧ (xs.length % 2 = 0 → prodI (xs.map (n * ·)) = prodI xs * (m * m)) ∧ (xs.length % 2 = 1 → prodI (xs.map (n * ·)) = n * (prodI xs * (m * m)))
  | [], _ => ⟨1, by decide, fun _ => rfl, fun h => by simp at h⟩
  | x :: xs, h => by
    obtain ⟨m, hm, h2, h3⟩ := scale_prod hn h.tail
    by_cases e : xs.length % 2 = 0
    · refine ⟨m, hm, fun hl => by rw [List.length_cons] at hl; omega, fun _ => ?_⟩
      show n * x * prodI (xs.map (n * ·)) = n * (x * prodI xs * (m * m))
      rw [h2 e]
      simp only [Int.mul_assoc]
    · refine ⟨n * m, Int.mul_ne_zero hn hm, fun _ => ?_, fun hl => by rw [List.length_cons] at hl; omega⟩
      show n * x * prodI (xs.map (n * ·)) = x * prodI xs * (n * m * (n * m))
      rw [h3 (by omega)]
      simp only [Int.mul_assoc, Int.mul_comm, Int.mul_left_comm]
theorem disc_times {xs : List Int} {n : Int} (hn : n ≠ 0) (h : fvB xs = true) (ht : fvB (timesL xs n) = true) (hl : xs.length % 2 = 0) : discV (timesL xs n) = discV xs := by
  have hz := fv_nz h
  obtain ⟨m, hm, e1, _⟩ := scale_prod hn hz
  obtain ⟨_, s, hs, e2⟩ := prod_cores (nz_scale hn hz)
  rw [disc_yes h, disc_yes ht]
  have hp := (fv_nz ht).prod
  rw [times_map] at hp ⊢
  rw [← core_sq hp hs, e2, e1 hl]
  exact core_sq hz.prod hm
theorem van_times {xs : List Int} {n : Int} (hn : n ≠ 0) (h : fvB xs = true) (ht : fvB (timesL xs n) = true) (q : Int) : fvanV (timesL xs n) q = fvanV xs q := by
  cases hq : plI q with
  | false => rw [van_no hq, van_no hq]
  | true =>
    obtain ⟨h1, h2, h3⟩ := fvB_iff.1 h
    rw [van_yes h hq, van_yes ht hq, times_map, van_cls hq (fun x hx => core_cls hx hq) (nz_scale hn (fv_nz h)) (by rw [List.length_map]; exact h2) (by rw [List.length_map]; exact h3)]
    exact van_scale hq hn (fv_nz h) h2 h3
theorem times_yes {xs : List Int} {n : Int} (h : timesOk xs n = true) : fvB xs = true ∧ factB n = true ∧ fvB (timesL xs n) = true ∧ ftimesL xs n = timesL xs n := by
  have h2 := h
  unfold timesOk at h
  rw [Bool.and_eq_true, Bool.and_eq_true] at h
  exact ⟨h.1, h.2.1, h.2.2, by unfold ftimesL; rw [h2]; rfl⟩
theorem times_no {xs : List Int} {n : Int} (h : timesOk xs n = false) : ftimesL xs n = [] := by unfold ftimesL; rw [h]; rfl
theorem times_twice {xs : List Int} {n : Int} (hn : n ≠ 0) (h : fvB xs = true) : timesL (timesL xs n) n = xs.map coreG := by
  unfold timesL
  rw [List.map_map]
  exact List.map_congr_left fun x hx => core_twice hn ((fvB_iff.1 h).1 x hx).1
theorem times_again {xs : List Int} {n : Int} (hn : n ≠ 0) (h : timesOk xs n = true) : timesOk (timesL xs n) n = true ∧ ftimesL (timesL xs n) n = xs.map coreG := by
  obtain ⟨h1, h2, h3, _⟩ := times_yes h
  have e := times_twice hn h1
  have ok : timesOk (timesL xs n) n = true := by
    unfold timesOk
    rw [h3, h2, e, fv_cores h1]
    rfl
  exact ⟨ok, by rw [(times_yes ok).2.2.2, e]⟩

end Go.Proofs.Ytbhlgdleklfonaa

set_option linter.unusedVariables false
namespace Go.Proofs.Ytbhlgdleklfonaa
open Go.RowKit

theorem prime2' : primeN 2 = true := by decide
theorem prime3' : primeN 3 = true := by decide
theorem zmod_yes {xs vs : List Int} {P : Nat} {k : Int} (h : zeroB xs vs = true) (hl : xs.length ≤ 3) (hP : primeN P = true) (hk : pw32 P k = true) (hd : P ∣ P ^ k.toNat) : zmodV xs (P : Int) k = true := by
  have hp := (primeN_bd hP).1
  rw [zmod_pw (zeroB_iff.1 h).2.1 hl hP, hk, Bool.true_and, ← mod_vecs xs P _ _ (Nat.pow_pos (by omega))]
  exact zero_mod hp (Nat.pow_pos (by omega)) hd h
theorem zmod_get {xs : List Int} {p k : Int} (h : zmodV xs p k = true) : fvB xs = true ∧ xs.length ≤ 3 ∧ (2 ≤ p ∧ p ≤ 31) ∧ (1 ≤ k ∧ k ≤ 5) ∧ ∃ P : Nat, p = (P : Int) ∧ primeN P = true ∧ P ^ k.toNat ≤ 32 ∧ modR xs P (P ^ k.toNat) xs.length [] = true := by
  unfold zmodV zmodOk at h
  rw [Bool.and_eq_true, Bool.and_eq_true, Bool.and_eq_true, Bool.and_eq_true, Bool.and_eq_true, Bool.and_eq_true, decide_eq_true_eq, decide_eq_true_eq, decide_eq_true_eq] at h
  obtain ⟨⟨h1, h2, h3, h4, h5⟩, h6, h7⟩ := h
  have hb := primeI_bd h3
  unfold inR at h5
  rw [Bool.and_eq_true, decide_eq_true_eq, decide_eq_true_eq] at h5
  refine ⟨h1, h2, ⟨hb.1, h4⟩, h5, p.toNat, by omega, h3, h6, h7⟩
theorem zmod_less {xs : List Int} {p k : Int} (h : zmodV xs p k = true) (hk : k ≠ 1) : zmodV xs p (k - 1) = true := by
  obtain ⟨h1, h2, h3, h4, P, rfl, h5, h6, h7⟩ := zmod_get h
  have hp := (primeN_bd h5).1
  obtain ⟨K, hK⟩ : ∃ K : Nat, k = ((K + 2 : Nat) : Int) := ⟨(k - 2).toNat, by omega⟩
  subst hK
  have e : (((K + 2 : Nat) : Int) - 1).toNat = K + 1 := by omega
  rw [Int.toNat_natCast] at h6 h7
  have hle : P ^ (K + 1) ≤ P ^ (K + 2) := Nat.pow_le_pow_right (by omega) (by omega)
  rw [zmod_pw h1 h2 h5, show pw32 P (((K + 2 : Nat) : Int) - 1) = true from by
    unfold pw32
    rw [e, Bool.and_eq_true, decide_eq_true_eq, decide_eq_true_eq]
    omega, Bool.true_and, e, ← mod_vecs xs P _ _ (Nat.pow_pos (by omega))]
  exact modR_less (Nat.pow_pos (by omega)) ⟨P ^ K, by rw [Nat.pow_succ, Nat.mul_comm]⟩ ⟨P, by rw [Nat.pow_succ P (K + 1)]⟩ h7
theorem unit_at {P : Nat} {vs : List Int} (h : unitB P vs = true) : ∃ v ∈ vs, ¬ (P : Int) ∣ v := by
  obtain ⟨v, hv, e⟩ := List.any_eq_true.1 h
  refine ⟨v, hv, fun hd => ?_⟩
  rw [Int.emod_eq_zero_of_dvd hd] at e
  cases e
theorem mod_van {xs : List Int} {P m : Nat} (hf : fvB xs = true) (hl : xs.length ≤ 3) (H : NearOk (P : Int) (m : Int) (P : Int)) (hq : plI (P : Int) = true) (hfr : ∀ x ∈ xs, ¬ (P : Int) * P ∣ x) (h : modR xs P m xs.length [] = true) : fvanV xs (P : Int) = true := by
  obtain ⟨vs, h1, h2, h3⟩ := modR_to h
  have hb := fvB_iff.1 hf
  have nz := fv_nz hf
  rw [van_yes hf hq]
  have hd := Int.dvd_of_emod_eq_zero h3
  obtain ⟨v, hv, hn⟩ := unit_at h2
  have hc : xs.length = 1 ∨ xs.length = 2 ∨ xs.length = 3 := by omega
  rcases hc with e | e | e
  · exfalso
    obtain ⟨a, rfl⟩ := list_one e
    obtain ⟨x, rfl⟩ := list_one (h1.trans e)
    have hx : ¬ (P : Int) ∣ x := by rw [List.mem_singleton] at hv; rwa [← hv]
    refine mod_one H (nz a (by simp)) (hfr a (by simp)) hx ?_
    have e1 : valI [a] [x] [a].length = a * x * x := by show 0 + a * x * x = _; rw [Int.zero_add]
    rwa [e1] at hd
  · obtain ⟨a, b, rfl⟩ := list_two e
    obtain ⟨x, y, rfl⟩ := list_two (h1.trans e)
    have hx : ¬ (P : Int) ∣ x ∨ ¬ (P : Int) ∣ y := by
      simp only [List.mem_cons, List.not_mem_nil, or_false] at hv
      rcases hv with rfl | rfl
      · exact .inl hn
      · exact .inr hn
    refine mod_two hq H (nz a (by simp)) (nz b (by simp)) (hfr a (by simp)) (hfr b (by simp)) hx ?_
    have e1 : valI [a, b] [x, y] [a, b].length = a * x * x + b * y * y := val2 a b x y
    rwa [e1] at hd
  · obtain ⟨a, b, c, rfl⟩ := list_three e
    obtain ⟨x, y, z, rfl⟩ := list_three (h1.trans e)
    have hx : ¬ (P : Int) ∣ x ∨ ¬ (P : Int) ∣ y ∨ ¬ (P : Int) ∣ z := by
      simp only [List.mem_cons, List.not_mem_nil, or_false] at hv
      rcases hv with rfl | rfl | rfl
      · exact .inl hn
      · exact .inr (.inl hn)
      · exact .inr (.inr hn)
    refine mod_three hq H (nz a (by simp)) (nz b (by simp)) (nz c (by simp)) (hfr a (by simp)) (hfr b (by simp)) (hfr c (by simp)) hx ?_
    have e1 : valI [a, b, c] [x, y, z] [a, b, c].length = a * x * x + b * y * y + c * z * z := val3 a b c x y z
    rwa [e1] at hd
theorem core_free {xs : List Int} (hf : fvB xs = true) (hc : fcoresL xs = xs) {P : Nat} (hP : 2 ≤ P) : ∀ x ∈ xs, ¬ (P : Int) * P ∣ x := by
  have nz := fv_nz hf
  unfold fcoresL timesL at hc
  rw [hf, if_pos rfl] at hc
  have h2 : xs.map (fun x => coreG (1 * x)) = xs.map id := by rw [hc, List.map_id]
  have h3 := List.map_inj_left.1 h2
  intro x hx hd
  have h4 := h3 x hx
  rw [Int.one_mul] at h4
  have h5 := (core_small (nz x hx)).2.2.2.1
  rw [h4] at h5
  refine h5 P hP ?_
  have := Int.natAbs_dvd_natAbs.2 hd
  rwa [Int.natAbs_mul, Int.natAbs_natCast] at this
theorem zmod_high {xs : List Int} {p k : Int} (h : zmodV xs p k = true) (hc : fcoresL xs = xs) (hh : p = 3 ∧ k = 3 ∨ p = 2 ∧ k = 5) : fvanV xs p = true := by
  obtain ⟨h1, h2, _, _, P, hp, h5, h6, h7⟩ := zmod_get h
  rcases hh with ⟨rfl, rfl⟩ | ⟨rfl, rfl⟩
  · obtain rfl : P = 3 := by omega
    exact mod_van (P := 3) (m := 27) h1 h2 near3_ok plThree (core_free h1 hc (by decide)) h7
  · obtain rfl : P = 2 := by omega
    exact mod_van (P := 2) (m := 32) h1 h2 near2_ok plTwo (core_free h1 hc (by decide)) h7

end Go.Proofs.Ytbhlgdleklfonaa

namespace Go.Proofs.Ytbhlgdleklfonaa.fnModulo2
open Go.ChangeShapes Go.WideShapes Go.ChangeAt Go.RowKit
open Go.ChangeMaps (open_string shut_string)
set_option linter.unusedVariables false
set_option maxRecDepth 100000 in
set_option maxHeartbeats 4000000 in
theorem walk  (a0 : Option Addr) (len0 cap0 : Nat) (z0 : List Int) (w : World) (w0 : IsRow .u8 w a0 len0 cap0 z0) :
    Calls Try.prog 9 #[.slice a0 len0 cap0] w fun e w' => e = .returned (.bool true) ∧ Below w.heap.size w w' := by
  have HC := hid (codeIn_of w0)
  clear w0
  by_cases hl0 : (1048576 : Int) < (len0 : Int)
  · go_enter Try.func9, Try.ntmps9
    go_wp2
    go_ret
    exact ⟨rfl, Below.refl _ _⟩
  · go_enter Try.func9, Try.ntmps9
    go_wp2_with fail
    refine (drawZeroModulo_any _ len0 _ HC.out).mono ?_
    rintro e d1 ⟨u, xs, p, k, rfl, HT, HXo, hb0⟩
    have HB1 := hid hb0
    clear hb0
    have hxl := HT.1.1
    clear HT
    cases hz : zmodV xs p k with
    | false =>
      have HZ := hid hz
      clear hz
      go_wp2_with fail
      refine (zeroModulo_any u xs p k _ HXo.out.rd).mono ?_
      rw [HZ.out]
      rintro e d2 ⟨rfl, hb2⟩
      have HB2 := hid (HB1.out.trans (hb2.mono HB1.out.size))
      have X_2 := hid (HXo.out.keep HXo.out.lt hb2)
      clear hb2
      go_wp2_with fail
      refine (zeroModuloS_any u xs p k _ X_2.out.rd).mono ?_
      rw [HZ.out]
      rintro e d3 ⟨rfl, hb3⟩
      have HB3 := hid (HB2.out.trans (hb3.mono HB2.out.size))
      have X_3 := hid (X_2.out.keep X_2.out.lt hb3)
      clear hb3
      go_wp2
      go_ret
      exact ⟨rfl, HB3.out⟩
    | true =>
      have HZ := hid hz
      obtain ⟨hf, _, ⟨hp1, hp2⟩, ⟨hk1, hk2⟩, _⟩ := zmod_get hz
      have HF := hid hf
      have HLS := hid (zmod_less hz)
      have HHI := hid (zmod_high hz)
      obtain ⟨J, hJ⟩ : ∃ J, J = fcoresL xs := ⟨_, rfl⟩
      obtain ⟨D, hD⟩ : ∃ D, D = decide (J = xs) := ⟨_, rfl⟩
      rw [← hJ] at HHI
      have HDV := hid hD
      clear hz hf
      go_wp2_with fail
      refine (zeroModulo_any u xs p k _ HXo.out.rd).mono ?_
      rw [HZ.out]
      rintro e d2 ⟨rfl, hb2⟩
      have HB2 := hid (HB1.out.trans (hb2.mono HB1.out.size))
      have X_2 := hid (HXo.out.keep HXo.out.lt hb2)
      clear hb2
      go_wp2_with fail
      refine (zeroModuloS_any u xs p k _ X_2.out.rd).mono ?_
      rw [HZ.out]
      rintro e d3 ⟨rfl, hb3⟩
      have HB3 := hid (HB2.out.trans (hb3.mono HB2.out.size))
      have X_3 := hid (X_2.out.keep X_2.out.lt hb3)
      clear hb3
      go_wp2_with fail
      refine (formCores_any u xs _ X_3.out.rd (by omega)).mono ?_
      rw [HF.out, ← hJ]
      rintro e d4 ⟨Q_o, rfl, hO4, hb4⟩
      have HB4 := hid (HB3.out.trans (hb4.mono HB3.out.size))
      have X_4 := hid (X_3.out.keep X_3.out.lt hb4)
      have Q_4 := hid hO4
      clear hO4
      clear hb4
      clear hJ hD
      by_cases hP3 : p = 3
      · skip
        have P3 : (p == 3) = true := by rw [beq_iff_eq]; exact hP3
        have P2 : (p == 2) = false := by rw [beq_eq_false_iff_ne]; omega
        by_cases hK3 : k = 3
        · skip
          have K3 : (k == 3) = true := by rw [beq_iff_eq]; exact hK3
          have K1 : (k == 1) = false := by rw [beq_eq_false_iff_ne]; omega
          have HL1 := hid (HLS.out (by omega))
          have HVN : Hid (J = xs → fvanV xs p = true) := hid (fun h => HHI.out h (.inl ⟨hP3, hK3⟩))
          clear hP3 hK3
          go_wp2_with fail
          refine (zeroModulo_any u xs p (k - 1) _ X_4.out.rd).mono ?_
          rw [HL1.out]
          rintro e d5 ⟨rfl, hb5⟩
          have HB5 := hid (HB4.out.trans (hb5.mono HB4.out.size))
          have X_5 := hid (X_4.out.keep X_4.out.lt hb5)
          have Q_5 := hid (Q_4.out.keep Q_4.out.lt hb5)
          clear hb5
          go_wp2_with fail
          refine (sameInts_any _ _ J xs _ Q_5.out.rd X_5.out.rd).mono ?_
          rw [← HDV.out]
          rintro e d6 ⟨rfl, k6, hw6⟩
          have hb6 : Below d5.heap.size d5 d6 := by rw [hw6]; exact below_dn (Below.refl _ _)
          have HB6 := hid (HB5.out.trans (hb6.mono HB5.out.size))
          have X_6 := hid (X_5.out.keep X_5.out.lt hb6)
          have Q_6 := hid (Q_5.out.keep Q_5.out.lt hb6)
          clear hw6 hb6
          cases D with
          | false =>
            go_wp2
            go_ret
            exact ⟨rfl, HB6.out⟩
          | true =>
            have HV : Hid (fvanV xs p = true) := hid (HVN.out (of_decide_eq_true HDV.out.symm))
            go_wp2_with fail
            refine (formVanishes_any u xs p _ X_6.out.rd (by omega)).mono ?_
            rw [HV.out]
            rintro e d7 ⟨rfl, hb7⟩
            have HB7 := hid (HB6.out.trans (hb7.mono HB6.out.size))
            have X_7 := hid (X_6.out.keep X_6.out.lt hb7)
            have Q_7 := hid (Q_6.out.keep Q_6.out.lt hb7)
            clear hb7
            go_wp2
            go_ret
            exact ⟨rfl, HB7.out⟩
        · skip
          have K3 : (k == 3) = false := by rw [beq_eq_false_iff_ne]; exact hK3
          clear hP3 hK3
          by_cases hK1 : k = 1
          · skip
            have K1 : (k == 1) = true := by rw [beq_iff_eq]; exact hK1
            clear hK1
            go_wp2
            go_ret
            exact ⟨rfl, HB4.out⟩
          · skip
            have K1 : (k == 1) = false := by rw [beq_eq_false_iff_ne]; exact hK1
            have HL1 := hid (HLS.out hK1)
            clear hK1
            go_wp2_with fail
            refine (zeroModulo_any u xs p (k - 1) _ X_4.out.rd).mono ?_
            rw [HL1.out]
            rintro e d5 ⟨rfl, hb5⟩
            have HB5 := hid (HB4.out.trans (hb5.mono HB4.out.size))
            have X_5 := hid (X_4.out.keep X_4.out.lt hb5)
            have Q_5 := hid (Q_4.out.keep Q_4.out.lt hb5)
            clear hb5
            go_wp2
            go_ret
            exact ⟨rfl, HB5.out⟩
      · skip
        have P3 : (p == 3) = false := by rw [beq_eq_false_iff_ne]; exact hP3
        by_cases hP2 : p = 2
        · skip
          have P2 : (p == 2) = true := by rw [beq_iff_eq]; exact hP2
          by_cases hK5 : k = 5
          · skip
            have K5 : (k == 5) = true := by rw [beq_iff_eq]; exact hK5
            have K1 : (k == 1) = false := by rw [beq_eq_false_iff_ne]; omega
            have HL1 := hid (HLS.out (by omega))
            have HVN : Hid (J = xs → fvanV xs p = true) := hid (fun h => HHI.out h (.inr ⟨hP2, hK5⟩))
            clear hP2 hP3 hK5
            go_wp2_with fail
            refine (zeroModulo_any u xs p (k - 1) _ X_4.out.rd).mono ?_
            rw [HL1.out]
            rintro e d5 ⟨rfl, hb5⟩
            have HB5 := hid (HB4.out.trans (hb5.mono HB4.out.size))
            have X_5 := hid (X_4.out.keep X_4.out.lt hb5)
            have Q_5 := hid (Q_4.out.keep Q_4.out.lt hb5)
            clear hb5
            go_wp2_with fail
            refine (sameInts_any _ _ J xs _ Q_5.out.rd X_5.out.rd).mono ?_
            rw [← HDV.out]
            rintro e d6 ⟨rfl, k6, hw6⟩
            have hb6 : Below d5.heap.size d5 d6 := by rw [hw6]; exact below_dn (Below.refl _ _)
            have HB6 := hid (HB5.out.trans (hb6.mono HB5.out.size))
            have X_6 := hid (X_5.out.keep X_5.out.lt hb6)
            have Q_6 := hid (Q_5.out.keep Q_5.out.lt hb6)
            clear hw6 hb6
            cases D with
            | false =>
              go_wp2
              go_ret
              exact ⟨rfl, HB6.out⟩
            | true =>
              have HV : Hid (fvanV xs p = true) := hid (HVN.out (of_decide_eq_true HDV.out.symm))
              go_wp2_with fail
              refine (formVanishes_any u xs p _ X_6.out.rd (by omega)).mono ?_
              rw [HV.out]
              rintro e d7 ⟨rfl, hb7⟩
              have HB7 := hid (HB6.out.trans (hb7.mono HB6.out.size))
              have X_7 := hid (X_6.out.keep X_6.out.lt hb7)
              have Q_7 := hid (Q_6.out.keep Q_6.out.lt hb7)
              clear hb7
              go_wp2
              go_ret
              exact ⟨rfl, HB7.out⟩
          · skip
            have K5 : (k == 5) = false := by rw [beq_eq_false_iff_ne]; exact hK5
            clear hP3 hP2 hK5
            by_cases hK1 : k = 1
            · skip
              have K1 : (k == 1) = true := by rw [beq_iff_eq]; exact hK1
              clear hK1
              go_wp2
              go_ret
              exact ⟨rfl, HB4.out⟩
            · skip
              have K1 : (k == 1) = false := by rw [beq_eq_false_iff_ne]; exact hK1
              have HL1 := hid (HLS.out hK1)
              clear hK1
              go_wp2_with fail
              refine (zeroModulo_any u xs p (k - 1) _ X_4.out.rd).mono ?_
              rw [HL1.out]
              rintro e d5 ⟨rfl, hb5⟩
              have HB5 := hid (HB4.out.trans (hb5.mono HB4.out.size))
              have X_5 := hid (X_4.out.keep X_4.out.lt hb5)
              have Q_5 := hid (Q_4.out.keep Q_4.out.lt hb5)
              clear hb5
              go_wp2
              go_ret
              exact ⟨rfl, HB5.out⟩
        · skip
          have P2 : (p == 2) = false := by rw [beq_eq_false_iff_ne]; exact hP2
          clear hP3 hP2
          by_cases hK1 : k = 1
          · skip
            have K1 : (k == 1) = true := by rw [beq_iff_eq]; exact hK1
            clear hK1
            go_wp2
            go_ret
            exact ⟨rfl, HB4.out⟩
          · skip
            have K1 : (k == 1) = false := by rw [beq_eq_false_iff_ne]; exact hK1
            have HL1 := hid (HLS.out hK1)
            clear hK1
            go_wp2_with fail
            refine (zeroModulo_any u xs p (k - 1) _ X_4.out.rd).mono ?_
            rw [HL1.out]
            rintro e d5 ⟨rfl, hb5⟩
            have HB5 := hid (HB4.out.trans (hb5.mono HB4.out.size))
            have X_5 := hid (X_4.out.keep X_4.out.lt hb5)
            have Q_5 := hid (Q_4.out.keep Q_4.out.lt hb5)
            clear hb5
            go_wp2
            go_ret
            exact ⟨rfl, HB5.out⟩
theorem own : ownKnob Try.prog.godebug = none := by kernel_rfl
theorem laidOut : laidOutB Try.prog = true := by kernel_rfl
set_option maxRecDepth 100000 in
theorem lifted (os : Os) (started : os.Started) (H : Type) (enc : TypeId × Value → H) :
    ReturnsInHanded {} Try.checked os 9 .any (Rows.fnModulo2Spec.pre6 enc Try.prog Try.f9 Rows.fnModulo2Row.domain false) (Rows.fnModulo2Spec.post enc Try.prog Try.f9 false true false false) := by
  refine returnsInHanded_of_change (C := Try.checked) own started (by kernel_rfl) Try.func9
    (ChangeSpec.witness6 (enc := enc) (C := Try.checked) false ⟨#[], #[.slice none 0 0], []⟩ 8 (by kernel_rfl) (by kernel_rfl) (by kernel_rfl) (by kernel_rfl)) ?_
  intro W base args ds gs before hval0 hW hcnd _
  have hval : ∀ (j : Nat) t v, Try.f9.params[j]? = some t → args[j]? = some v → Value.okWide Try.prog W .any base t v := hval0
  have hW' := hW
  obtain ⟨p, q, hA0, hV, rfl, hfz, hnd⟩ := hW
  have hA : DataW.TrodAll enc Try.prog W 0 (fun _ => true) true Try.f9.params.toList args.toList ds p := hA0
  rw [Try.params9] at hA hval
  obtain ⟨v0, vs0, d0, ds0, p0, q0, hargs, rfl, rfl, h0, r0⟩ := trodAll_cons hA
  obtain ⟨rfl, rfl, rfl⟩ := trodAll_nil r0
  obtain rfl : args = #[v0] := by cases args; simp_all
  obtain ⟨rfl, rfl⟩ := trodVars_none hV
  obtain ⟨a0, len0, cap0, rfl⟩ := okWide_slice Try.underlying22 (hval 0 22 v0 rfl rfl)
  have k0 := h0
  have lt0 : ∀ x ∈ p0, x.block < W.heap.size := by obtain ⟨m, hm⟩ := k0; exact DataW.trod_lt m _ _ _ hm
  obtain ⟨z0, w0⟩ : ∃ zs, IsRow .u8 W a0 len0 cap0 zs := by
    obtain ⟨fuel, hf⟩ := h0
    rcases open_ints Try.underlying22 Try.underlying5 (by kernel_rfl) hf with ⟨hcs, _⟩ | ⟨x, l, c, zs, hcs, _, hl, hm, hz, _, hcell, hwz⟩
    · simp [Value.cells] at hcs
      obtain ⟨rfl, rfl, rfl⟩ := hcs
      exact ⟨[], .inl ⟨rfl, rfl, rfl, rfl⟩⟩
    · simp [Value.cells] at hcs
      obtain ⟨rfl, rfl, rfl⟩ := hcs
      exact ⟨zs, .inr ⟨_, rfl, hl, hm, by simpa using hz, hcell, hwz⟩⟩
  clear hA0 hval0
  refine (walk a0 len0 cap0 z0 W w0).mono fun e W' ⟨he, bel⟩ => ?_
  subst he
  exact ⟨_, rfl, _, _, _, [], _, [], hW', trodAll_mk1 (shut_bool Try.underlying4 _), (trodAll_cons_mk (Below.trod laidOut (by kernel_rfl) (of_decide_eq_true (by kernel_rfl)) k0 bel lt0) trodAll_mk0), rfl, bel.frame _, fun h => by cases h⟩
theorem over : Rows.fnModulo2Row.holds Try.pinned (OpenSpec.ofChange Rows.fnModulo2Spec) :=
  OpenClaim.holds_of_wide 9 Try.f9 rfl rfl rfl rfl rfl rfl rfl ⟨rfl, rfl, rfl, rfl, rfl⟩ rfl rfl rfl rfl rfl (by kernel_rfl) Try.func9 (by kernel_rfl)
    (of_decide_eq_true (by kernel_rfl)) (by unfold Func.isWrapper; first | (rw [if_pos (by decide +kernel)]; kernel_rfl) | (rw [if_neg (by decide +kernel)]; exact ⟨rfl, rfl⟩))
    (fun os started H enc _ => lifted os started H enc)
theorem proved : Rows.FnModulo2Said := over
end Go.Proofs.Ytbhlgdleklfonaa.fnModulo2
