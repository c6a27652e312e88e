/-
  Some texts in one file: Marks Same LawKit LawFm LawFm2.
-/
import Derived.Test.YtbhlgdleklfonaaBun5
import Derived.BigQuiet
import Derived.Maps.AppendAt
import Derived.Test.YtbhlgdleklfonaaDraws13
import Derived.Test.YtbhlgdleklfonaaBun32
/-! Marks -/
set_option linter.unusedVariables false
namespace Go.Proofs.Ytbhlgdleklfonaa
open Go.RowKit

theorem all_eq_of {xs ys : List Int} (hl : xs.length = ys.length) (h : ∀ j, j < xs.length → xs.getD j 0 = ys.getD j 0) : xs = ys := by
  refine List.ext_getElem hl fun j h1 h2 => ?_
  have := h j h1
  simpa [List.getD, List.getElem?_eq_getElem h1, List.getElem?_eq_getElem h2] using this

theorem eqs_len {a b : Int} (h : a ≠ b) : (a != b) = true := by rw [bne_iff_ne]; exact h
theorem eqs_same {a b : Int} (h : a = b) : (a != b) = false := by rw [h]; simp

/-- k, k + 1, .. -/
def marksL (k : Int) (n : Nat) : List Int := (List.range n).map (fun (i : Nat) => k + (i : Int))
theorem marksL_len (k : Int) (n : Nat) : (marksL k n).length = n := by simp [marksL]
theorem marksL_get (k : Int) (n i : Nat) (h : i < n) : (marksL k n).getD i 0 = k + i := by simp [marksL, List.getD, h]

/-- the first i numbers are marked -/
def halfL (k : Int) (i : Nat) (xs : List Int) : List Int := marksL k i ++ xs.drop i
theorem halfL_len (k : Int) (i : Nat) (xs : List Int) (h : i ≤ xs.length) : (halfL k i xs).length = xs.length := by simp [halfL, marksL_len]; omega
theorem halfL_step (k : Int) (i : Nat) (xs : List Int) (h : i < xs.length) : (halfL k i xs).set i (k + i) = halfL k (i + 1) xs := by
  unfold halfL
  rw [List.set_append_right _ _ (by simp [marksL_len]), marksL_len, Nat.sub_self, List.drop_eq_getElem_cons h, List.set_cons_zero]
  simp [marksL, List.range_succ]
theorem halfL_end (k : Int) (xs : List Int) : halfL k xs.length xs = marksL k xs.length := by simp [halfL]

end Go.Proofs.Ytbhlgdleklfonaa

/-! Same -/
set_option linter.unusedVariables false
namespace Go.Proofs.Ytbhlgdleklfonaa
open Go.RowKit

set_option maxHeartbeats 1000000 in
theorem sameInts_any (v u : Value) (xs ys : List Int) (w : World) (hx : Rd w v xs) (hy : Rd w u ys) :
    Calls Try.prog 21 #[v, u] w fun e w' => e = .returned (.bool (decide (xs = ys))) ∧ ∃ k, w' = w.drewN k := by
  have form : ∀ {z : Value} {zs : List Int}, Rd w z zs → ∃ a cap, z = .slice a zs.length cap ∧ zs.length ≤ maxLen := by
    rintro z zs (⟨a, cap, rfl, rfl⟩ | ⟨b, o, cap, rfl, _, hm, _⟩)
    · exact ⟨a, cap, rfl, by simp⟩
    · exact ⟨_, _, rfl, hm⟩
  by_cases hl : xs.length = ys.length
  · rcases hx with ⟨a, cap, rfl, rfl⟩ | ⟨b, o, cap, rfl, hp, hm, hcx⟩
    · obtain ⟨a', cap', rfl, _⟩ := form hy
      have e : ys = [] := List.length_eq_zero_iff.1 hl.symm
      have HD : Hid (decide (([] : List Int) = ys) = true) := by show _ = _; rw [e]; rfl
      have HL : ys.length = 0 := hl.symm
      rw [HL]
      clear e hl HL hy
      go_enter Try.func21, Try.ntmps21
      go_wp2
      go_loop [5] (fun i => i = .int .i64 0) (fun _ => 0)
      case atStart => rfl
      case round =>
        obtain rfl := hrel
        go_wp2
        go_ret
        exact ⟨retB (by first | exact HD.out.symm | (rw [eq_comm]; exact HD.out.symm) | (have h := HD.out; simp at h; simp [← h])), 0, rfl⟩
    · rcases hy with ⟨a', cap', rfl, rfl⟩ | ⟨b', o', cap', rfl, _, _, hcy⟩
      · exact absurd hl (by simp; intro e; rw [e] at hp; simp at hp)
      · have T : ((xs.length : Int) != ys.length) = false := eqs_same (by omega)
        unfold maxLen at hm
        have HX := hid hcx
        have HY := hid hcy
        have HL := hid hl
        clear hcx hcy
        go_enter Try.func21, Try.ntmps21
        rw [← hl] at T ⊢
        clear hl
        go_wp2
        go_loopw [5] (fun i wr => ∃ K k : Nat, i = .int .i64 K ∧ K ≤ xs.length ∧ Hid (∀ j, j < K → xs.getD j 0 = ys.getD j 0) ∧ wr = w.drewN k) (fun i _ => xs.length - (intOf i).toNat)
        case atStart => exact ⟨0, 0, rfl, by omega, hid (by omega), rfl⟩
        case round =>
          obtain ⟨K, k, rfl, hK, HE, rfl⟩ := hrel
          by_cases hlt : K < xs.length
          · obtain ⟨x, hx⟩ : ∃ x, x = xs.getD K 0 := ⟨_, rfl⟩
            obtain ⟨y, hy⟩ : ∃ y, y = ys.getD K 0 := ⟨_, rfl⟩
            have c1 := HX.out K hlt
            have c2 := HY.out K (by have := HL.out; omega)
            rw [← hx] at c1
            rw [← hy] at c2
            have Hx := hid hx
            have Hy := hid hy
            clear hx hy
            have hi : (K : Int) < (xs.length : Int) := by omega
            by_cases hxy : x = y
            · have T2 : (x != y) = false := eqs_same hxy
              have HXY := hid hxy
              clear hxy
              go_wp2
              go_quiet (fail)
              go_wp2
              go_roundw
              case rel =>
                exact ⟨K + 1, _, by go_num, by omega, hid (by intro j hj; by_cases e : j = K; (· rw [e, ← Hx.out, ← Hy.out, HXY.out]); (· exact HE.out j (by omega))), by first | rfl | exact World.drewN_drewN ..⟩
              case measure => simp only [intOf]; omega
            · have T2 : (x != y) = true := eqs_len hxy
              have HXY := hid hxy
              clear hxy
              go_wp2
              go_quiet (fail)
              go_wp2
              go_ret
              refine ⟨retB (decide_eq_false fun e => HXY.out ?_).symm, _, by first | rfl | exact World.drewN_drewN ..⟩
              rw [Hx.out, Hy.out, e]
          · go_wp2
            go_ret
            refine ⟨retB (decide_eq_true (all_eq_of HL.out fun j hj => HE.out j (by omega))).symm, _, rfl⟩
  · obtain ⟨a, cap, rfl, m1⟩ := form hx
    obtain ⟨a', cap', rfl, m2⟩ := form hy
    have T : ((xs.length : Int) != ys.length) = true := eqs_len (by omega)
    have HD : Hid (decide (xs = ys) = false) := hid (decide_eq_false fun e => hl (by rw [e]))
    clear hl hx hy
    go_enter Try.func21, Try.ntmps21
    go_wp2
    go_ret
    exact ⟨retB HD.out.symm, 0, rfl⟩

theorem rd_one {w : World} {k : Nat} (x : Int) (h : w.cell? ⟨k, 0, none⟩ = some (.int .i64 x)) : Rd w (.slice (some ⟨k, 0, none⟩) 1 1) [x] := by
  right
  refine ⟨k, 0, 1, rfl, by simp, by unfold maxLen; simp, fun i hi => ?_⟩
  obtain rfl : i = 0 := by simp at hi; exact hi
  simpa using h

end Go.Proofs.Ytbhlgdleklfonaa

/-! LawKit -/
set_option linter.unusedVariables false
namespace Go.Proofs.Ytbhlgdleklfonaa
open Go.RowKit

theorem sizeOf_any (n : Int) (h1 : -1000000000000000 ≤ n) (h2 : n ≤ 1000000000000000) (w : World) : Calls Try.prog 26 #[.int .i64 n] w fun e w' => e = .returned (.int .i64 (n.natAbs : Nat)) ∧ w = w' := by
  by_cases h : n < 0
  · have hm : max n (-n) = ((n.natAbs : Nat) : Int) := by omega
    have hm2 : max n (0 - n) = ((n.natAbs : Nat) : Int) := by omega
    go_enter Try.func26, Try.ntmps26
    go_wp2
    go_ret
    exact ⟨retI (by omega), rfl⟩
  · go_enter Try.func26, Try.ntmps26
    go_wp2
    go_ret
    exact ⟨retI (by omega), rfl⟩

end Go.Proofs.Ytbhlgdleklfonaa

/-! LawFm -/
set_option linter.unusedVariables false
namespace Go.Proofs.Ytbhlgdleklfonaa
open Go.RowKit

def MildT (xs : List Int) : Prop := xs.length ≤ 1000 ∧ ∀ x ∈ xs, -1000000 ≤ x ∧ x ≤ 1000000
theorem TermsOk.mild {xs : List Int} (h : TermsOk xs) : MildT xs := ⟨by have := h.1; omega, fun x hx => by have := h.2 x hx; omega⟩
theorem VecGood.mild {m : Nat} {xs : List Int} (h : VecGood m xs) (hm : m ≤ 10) : MildT xs := ⟨by have := h.1; omega, fun x hx => by have := h.2 x hx; omega⟩
theorem MildT.at {xs : List Int} (h : MildT xs) {i : Nat} (hi : i < xs.length) : -1000000 ≤ xs.getD i 0 ∧ xs.getD i 0 ≤ 1000000 := by
  rw [getD_at _ _ hi]; exact h.2 _ (List.getElem_mem _)

set_option maxRecDepth 100000 in
set_option maxHeartbeats 2000000 in
theorem minusOf_any (v : Value) (xs : List Int) (w : World) (h : Rd w v xs) (hf : MildT xs) :
    Calls Try.prog 16 #[v] w fun e w' => ∃ u, e = .returned u ∧ Owns w' w.heap.size u (xs.map (fun x => -x)) ∧ Below w.heap.size w w' := by
  obtain ⟨i0, hi, hz0, hz1, hz2⟩ := info_parts infoInt
  have HB0 := hid ((Below.refl w.heap.size w).alloc (Nat.le_refl _) (.cells #[] 3))
  have HO0 : Hid (Owns (w.alloc (.cells #[] 3)) w.heap.size (.slice (some ⟨w.heap.size, 0, none⟩) 0 0) []) := hid (World.ownsRow_made (size := 1) w #[] 0 (Nat.le_refl _) (by unfold maxLen; omega) rfl)
  have HH := hid h
  obtain ⟨ad, cap, rfl, _⟩ := h.form
  have HF := hid hf
  have hl4 := hf.1
  clear h hf
  go_enter Try.func16, Try.ntmps16
  go_wp2_with fail
  go_loopw [3, 4] (fun so si wr => ∃ K : Nat, si = .int .i64 K ∧ K ≤ xs.length ∧ Hid (Owns wr w.heap.size so ((xs.take K).map (fun x => -x))) ∧ Hid (Below w.heap.size w wr)) (fun _ si _ => xs.length - (intOf si).toNat)
  case atStart => exact ⟨0, rfl, by omega, hid (by simpa using HO0.out), HB0⟩
  case round =>
    obtain ⟨K, rfl, hK, HO, HB⟩ := hrel
    rename World => wr
    by_cases hlt : K < xs.length
    · obtain ⟨a2, cap2, e2, hform⟩ := (HH.out.keep HB.out).form
      cases e2
      obtain ⟨bb, o, rfl, hml, hc⟩ := hform (by omega)
      have hcell := hc K hlt
      have ht := HF.out.at hlt
      obtain ⟨x, hx⟩ : ∃ x, x = xs.getD K 0 := ⟨_, rfl⟩
      rw [← hx] at hcell ht
      have HS : Hid ((xs.take (K + 1)).map (fun x => -x) = (xs.take K).map (fun x => -x) ++ [-x]) := hid (by rw [map_take hlt, hx])
      have hi0 : (K : Int) < (xs.length : Int) := by omega
      have HLT := hid hlt
      obtain ⟨pre, hpre⟩ : ∃ pre, pre = (xs.take K).map (fun x => -x) := ⟨_, rfl⟩
      have hprel : pre.length ≤ 1000 := by rw [hpre, List.length_map, List.length_take]; omega
      rw [← hpre] at HO HS
      have hbs : w.heap.size ≤ wr.heap.size := HB.out.size
      unfold maxLen at hml
      clear hform hc hx hlt hpre
      go_wp2_with (at_builtin; refine wpList_append_own_at _ rfl _ _ 23 rfl w.heap.size 3 i0 (.int .i64 0) 1 8 Try.underlying23 hi hz0 hz1 hz2 rfl (by decide) _ _ _ rfl ((show World.ownsRow _ _ _ _ _ _ _ from HO.out).alloc _) ⟨wr.heap.size, 0, none⟩ 1 1 [.int .i64 (-x)] rfl rfl (cell_one_new _ _ _) (by simp [Value.oneCell']) (by unfold maxLen; omega) (by omega) (by simp; omega) ?_; intro v' w3 hown' hgrow _ hat)
      have hsg := hgrow.size
      simp only [World.size_alloc] at hsg
      go_roundw
      case measure => simp only [intOf]; have := HLT.out; omega
      case rel =>
        refine ⟨K + 1, by go_num, by have := HLT.out; omega, hid ?_, hid (HB.out.alloc hbs _ |>.grown hgrow (by simp; omega) (fun k e => (HO.out.ge k e)))⟩
        rw [HS.out]
        unfold Owns
        simpa using hown'
    · obtain rfl : K = xs.length := by omega
      have HE : Hid (xs.map (fun x => -x) = (xs.take xs.length).map (fun x => -x)) := hid (by rw [List.take_length])
      clear hlt
      go_wp2_with fail
      go_ret
      exact ⟨_, rfl, by rw [HE.out]; exact HO.out, HB.out⟩


end Go.Proofs.Ytbhlgdleklfonaa

/-! LawFm2 -/
set_option linter.unusedVariables false
namespace Go.Proofs.Ytbhlgdleklfonaa
open Go.RowKit

def sg (xs : List Int) : Int := (xs.length : Int) - 2 * (lessN xs : Int)
theorem signs_yes {xs : List Int} (h : fvB xs = true) : signsV xs = .tuple #[.int .i64 (sg xs), .bool true] := by unfold signsV; rw [h]; rfl
theorem signs_no {xs : List Int} (h : fvB xs = false) : signsV xs = .tuple #[.int .i64 0, .bool false] := by unfold signsV; rw [h]; rfl
theorem fv_neg {xs : List Int} (h : fvB xs = true) : fvB (xs.map (fun x => -x)) = true := by
  obtain ⟨h1, h2, h3⟩ := fvB_iff.1 h
  refine fvB_iff.2 ⟨fun y hy => ?_, by rw [List.length_map]; exact h2, by rw [List.length_map]; exact h3⟩
  obtain ⟨x, hx, rfl⟩ := List.mem_map.1 hy
  have := h1 x hx
  omega
theorem less_neg : ∀ {xs : List Int}, NZ xs → lessN (xs.map (fun x => -x)) + lessN xs = xs.length
  | [], _ => rfl
  | x :: xs, h => by
    have ih := less_neg h.tail
    have hx := h.head
    unfold lessN at ih ⊢
    rw [List.map_cons, List.filter_cons, List.filter_cons, List.length_cons]
    by_cases e : x < 0
    · rw [decide_eq_true e, decide_eq_false (show ¬ -x < 0 by omega), if_neg (by decide), if_pos rfl, List.length_cons]; omega
    · rw [decide_eq_false e, decide_eq_true (show -x < 0 by omega), if_pos rfl, if_neg (by decide), List.length_cons]; omega
theorem fv_take {xs : List Int} (h : fvB xs = true) {k : Nat} (h1 : 1 ≤ k) (h2 : k ≤ xs.length) : fvB (xs.take k) = true := by
  obtain ⟨a1, a2, a3⟩ := fvB_iff.1 h
  exact fvB_iff.2 ⟨fun x hx => a1 x (List.mem_of_mem_take hx), by rw [List.length_take]; omega, by rw [List.length_take]; omega⟩
theorem fv_drop {xs : List Int} (h : fvB xs = true) {k : Nat} (h2 : k < xs.length) : fvB (xs.drop k) = true := by
  obtain ⟨a1, a2, a3⟩ := fvB_iff.1 h
  exact fvB_iff.2 ⟨fun x hx => a1 x (List.mem_of_mem_drop hx), by rw [List.length_drop]; omega, by rw [List.length_drop]; omega⟩
theorem less_split (xs : List Int) (k : Nat) : lessN (xs.take k) + lessN (xs.drop k) = lessN xs := by
  rw [← less_app, List.take_append_drop]

theorem sg_neg {xs : List Int} (h : fvB xs = true) : sg (xs.map (fun x => -x)) = -(sg xs) := by
  have := less_neg (fv_nz h)
  unfold sg
  rw [List.length_map]
  omega
theorem sg_split (xs : List Int) (k : Nat) : sg (xs.take k) + sg (xs.drop k) = sg xs := by
  have h1 := less_split xs k
  have h2 : (xs.take k).length + (xs.drop k).length = xs.length := by rw [← List.length_append, List.take_append_drop]
  unfold sg
  omega
theorem sg_bd (xs : List Int) : -(xs.length : Int) ≤ sg xs ∧ sg xs ≤ xs.length ∧ ((xs.length : Int) - sg xs) % 2 = 0 := by
  have := less_le xs
  unfold sg
  omega
theorem sg_one {x : Int} : sg [x] = if x < 0 then -1 else 1 := by
  unfold sg lessN
  by_cases h : x < 0
  · rw [if_pos h, List.filter_cons, decide_eq_true h, if_pos rfl]; rfl
  · rw [if_neg h, List.filter_cons, decide_eq_false h, if_neg (by decide)]; rfl

theorem sg_app (xs ys : List Int) : sg (xs ++ ys) = sg xs + sg ys := by
  unfold sg
  rw [less_app, List.length_append]
  omega
theorem join_yes {a b : List Int} (h : joinOk a b = true) : fvB a = true ∧ fvB b = true ∧ fvB (a ++ b) = true ∧ joinL a b = a ++ b := by
  have h2 := h
  unfold joinOk at h
  rw [Bool.and_eq_true, Bool.and_eq_true] at h
  exact ⟨h.1, h.2.1, h.2.2, by unfold joinL; rw [h2]; rfl⟩
theorem join_no {a b : List Int} (h : joinOk a b = false) : joinL a b = [] := by unfold joinL; rw [h]; rfl
theorem fv_perm {a b : List Int} (hp : a.Perm b) (h : fvB a = true) : fvB b = true := by
  obtain ⟨h1, h2, h3⟩ := fvB_iff.1 h
  exact fvB_iff.2 ⟨fun x hx => h1 x (hp.mem_iff.2 hx), by rw [← hp.length_eq]; exact h2, by rw [← hp.length_eq]; exact h3⟩
theorem join_comm {a b : List Int} (h : joinOk a b = true) : joinOk b a = true := by
  obtain ⟨h1, h2, h3, _⟩ := join_yes h
  unfold joinOk
  rw [h1, h2, fv_perm List.perm_append_comm h3]
  rfl
theorem disc_yes {a : List Int} (h : fvB a = true) : discV a = coreG (prodI a) := by unfold discV; rw [h]; rfl
theorem disc_perm {a b : List Int} (hp : a.Perm b) (h : fvB a = true) : discV a = discV b := by
  rw [disc_yes h, disc_yes (fv_perm hp h), prodI_perm hp]
theorem below_dn {w w' : World} {B k : Nat} (h : Below B w w') : Below B w (w'.drewN k) := below_drewN h k

end Go.Proofs.Ytbhlgdleklfonaa
