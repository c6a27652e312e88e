/-
  Contracts of the program's chapter 7: images and axes, does a table keep the form, is it a move.
-/
import Derived.Test.YtacjejnbomdhbabMpM
import Derived.Test.YtacjejnbomdhbabQBun25
set_option linter.unusedVariables false
namespace Go.Proofs.Ytacjejnbomdhbab
open Go.RowKit

set_option maxRecDepth 100000 in
set_option maxHeartbeats 2000000 in
theorem image_any (bm n i : Nat) (va : Value) (R : List (List Int)) (d : Int) (w : World) (hm : MvAt w bm va d) (hR : RdM w va R) (hs : Sq n R) (hi : i < n) (hn3 : n ≤ 3) :
    Calls Try.prog 79 #[.pointer (some ⟨bm, 0, none⟩), .int .i64 (i : Int)] w fun e w' => ∃ u, e = .returned u ∧ Owns w' w.heap.size u (rowL n (fun r => at2 R r i)) ∧ Below w.heap.size w w' := by
  obtain ⟨i0, hi0, hz0, hz1, hz2⟩ := info_parts infoInt
  have HM := hid hR
  have HS := hid hs
  obtain ⟨a, cap, rfl⟩ := hR.form
  rw [hs.1] at hm HM
  have hbl : Below w.heap.size w (w.alloc (.cells #[] 3)) := (Below.refl _ _).alloc (Nat.le_refl _) _
  have hm2 := heap_below hbl hm
  have c0 := cellB (i := 0) hm2
  have HB0 := hid hbl
  have HO0 : Hid (Owns (w.alloc (.cells #[] 3)) w.heap.size (.slice (some ⟨w.heap.size, 0, none⟩) 0 0) []) := hid (World.ownsRow_made (size := 1) w #[] 0 (Nat.le_refl _) (by unfold maxLen; omega) rfl)
  have hi2 : (i : Int) < (n : Int) := by omega
  have HI := hid hi
  clear hm hR hs hbl hm2 hi
  go_enter Try.func79, Try.ntmps79
  go_wp2_with fail
  go_loopw [5, 14] (fun so si wr => ∃ K : Nat, si = .int .i64 K ∧ K ≤ n ∧ Hid (Owns wr w.heap.size so ((rowL n (fun r => at2 R r i)).take K)) ∧ Hid (Below w.heap.size w wr)) (fun _ si _ => n - (intOf si).toNat)
  case atStart => exact ⟨0, rfl, by omega, hid (by simpa using HO0.out), HB0⟩
  case round =>
    obtain ⟨K, rfl, hK, HO, HB⟩ := hrel
    rename World => wr
    by_cases hlt : K < n
    · have hRK := HM.out.keep HB.out
      obtain ⟨b, o, u9, e, hc9, hr9⟩ := RdM.row (R := R) (a := a) (n := n) (cap := cap) hRK (i := K) (by rw [HS.out.1]; exact hlt)
      subst e
      clear hc9 hr9
      obtain ⟨b2, o2, c2, e1, e2⟩ := row_cells (m := n) (n := n) (cap := cap) hRK (t := K) (by rw [HS.out.1]; exact hlt) (by omega) (HS.out.2 _ (by rw [List.getD_eq_getElem?_getD, List.getElem?_eq_getElem (by rw [HS.out.1]; exact hlt)]; exact List.getElem_mem _))
      have e3 := e2 i HI.out
      have HTK := hid (rowL_take n (fun r => at2 R r i) hlt)
      obtain ⟨x, hx⟩ : ∃ x, x = at2 R K i := ⟨_, rfl⟩
      rw [← hx] at e3 HTK
      obtain ⟨pre, hpre⟩ : ∃ pre, pre = (rowL n (fun r => at2 R r i)).take K := ⟨_, rfl⟩
      have hprel : pre.length ≤ 4 := by rw [hpre, List.length_take, row_len]; omega
      rw [← hpre] at HO HTK
      have hKi : (K : Int) < (n : Int) := by omega
      have HLT := hid hlt
      have hbs : w.heap.size ≤ wr.heap.size := HB.out.size
      have hi := hi0
      clear e2 hx hpre hRK hlt
      go_wp2_with (at_builtin; refine wpList_append_own_at _ rfl _ _ 22 rfl w.heap.size 3 i0 (.int .i64 0) 1 8 Try.underlying22 hi hz0 hz1 hz2 rfl (by decide) _ _ _ rfl ((show World.ownsRow _ _ _ _ _ _ _ from HO.out).alloc _) ⟨wr.heap.size, 0, none⟩ 1 1 [.int .i64 x] rfl rfl (cell_one_new _ _ _) (by simp [Value.oneCell']) (by unfold maxLen; omega) (by omega) (by simp; omega) ?_; intro v' w3 hown' hgrow _ hat)
      have hsg := hgrow.size
      simp only [World.size_alloc] at hsg
      go_roundw
      case measure => simp only [intOf]; have := HLT.out; omega
      case rel =>
        refine ⟨K + 1, by go_num, HLT.out, hid ?_, hid (HB.out.alloc hbs _ |>.grown hgrow (by simp; omega) (fun k e => (HO.out.ge k e)))⟩
        rw [HTK.out]
        unfold Owns
        simpa using hown'
    · obtain rfl : K = n := by omega
      have HE : Hid ((rowL K (fun r => at2 R r i)).take K = rowL K (fun r => at2 R r i)) := hid (List.take_of_length_le (by rw [row_len]; exact Nat.le_refl _))
      clear hlt
      go_wp2_with fail
      go_ret
      exact ⟨_, rfl, by rw [← HE.out]; exact HO.out, HB.out⟩

set_option maxRecDepth 100000 in
set_option maxHeartbeats 2000000 in
theorem axis_any (bm n i : Nat) (va : Value) (R : List (List Int)) (d : Int) (w : World) (hm : MvAt w bm va d) (hR : RdM w va R) (hs : Sq n R) (hi : i < n) (hn3 : n ≤ 3) :
    Calls Try.prog 80 #[.pointer (some ⟨bm, 0, none⟩), .int .i64 (i : Int)] w fun e w' => ∃ u, e = .returned u ∧ Owns w' w.heap.size u (rowL n (fun r => if r = i then d else 0)) ∧ Below w.heap.size w w' := by
  obtain ⟨i0, hi0, hz0, hz1, hz2⟩ := info_parts infoInt
  obtain ⟨a, cap, rfl⟩ := hR.form
  rw [hs.1] at hm
  have hz := zero_row n (by omega) w
  have hbl : Below w.heap.size w (w.alloc (.cells (madeCells #[.int .i64 0] n) 3)) := (Below.refl _ _).alloc (Nat.le_refl _) _
  have hm2 := heap_below hbl hm
  have c0 := cellB (i := 0) hm
  have c1 := cellB (i := 1) hm2
  have hc : (w.alloc (.cells (madeCells #[.int .i64 0] n) 3)).cell? ⟨w.heap.size, i, none⟩ = some (.int .i64 ((List.replicate n (0 : Int)).getD i 0)) := hz.elem (by rw [List.length_replicate]; exact hi)
  have hf := hz.thaw i
  obtain ⟨hst, hgr⟩ := hz.storeAt i d
  rw [unit_row hi] at hst
  rw [World.setCell_alloc_new] at hst
  have HST := hid hst
  have HBE : Hid (Below w.heap.size w (w.alloc (.cells ((madeCells #[.int .i64 0] n).setIfInBounds i (.int .i64 d)) 3))) := hid ((Below.refl _ _).alloc (Nat.le_refl _) _)
  have hi2 : (i : Int) < (n : Int) := by omega
  clear hm hR hs hbl hm2 hst hgr hz hi
  go_enter Try.func80, Try.ntmps80
  go_wp2_with (at_make; refine wpList_make_row _ rfl _ _ 22 rfl 3 i0 (.int .i64 0) Try.underlying22 hi0 hz0 hz1 rfl .i64 .i64 n rfl rfl (by rw [hz2]; omega) (by omega) ?_)
  go_ret
  exact ⟨_, rfl, HST.out, HBE.out⟩

end Go.Proofs.Ytacjejnbomdhbab
