/-
  Some texts in one file: ToInt ToRow.
-/
import Derived.Test.YtfjbdbfeolfcfaaQBun4
import Derived.Test.YtfjbdbfeolfcfaaQBun6
import Derived.Deep.OwnRows
import Derived.Test.YtfjbdbfeolfcfaaQBun30
import Derived.Test.YtfjbdbfeolfcfaaQBun7
/-! ToInt -/
set_option linter.unusedVariables false
namespace Go.Proofs.Ytfjbdbfeolfcfaa
open Go.RowKit

theorem Rd.keep2 {w w' : World} {v : Value} {xs : List Int} (h : Rd w v xs) (hb : Below w.heap.size w w') : Rd w' v xs := by
  rcases h with h | ⟨b, o, cap, hv, h0, hm, hc⟩
  · exact .inl h
  · refine .inr ⟨b, o, cap, hv, h0, hm, fun i hi => ?_⟩
    have hci := hc i hi
    obtain ⟨ob, ho, _⟩ := cells_of_cell hci
    have hlt : b < w.heap.size := (Array.getElem?_eq_some_iff.1 ho).1
    rw [hb.cell (p := ⟨b, o + i, none⟩) hlt]
    exact hci
theorem rowIs_owns {w : World} {b n B : Nat} {f : Nat → Value} {xs : List Int} (h : w.rowIs b 3 n f) (hn : n = xs.length) (hf : ∀ i, i < n → f i = .int .i64 (xs.getD i 0)) (hB : B ≤ b) (hm : n ≤ maxLen) : Owns w B (.slice (some ⟨b, 0, none⟩) n n) xs := by
  subst hn
  obtain ⟨c, hb, hs, hc⟩ := h
  refine ⟨by simp, .inr ⟨b, xs.length, c, rfl, hB, hb, Nat.le_refl _, hm, by rw [hs, Nat.mul_one], ?_⟩⟩
  rw [Nat.mul_one, List.take_of_length_le (by rw [Array.length_toList, hs]; exact Nat.le_refl _)]
  refine List.ext_getElem? fun i => ?_
  rw [Array.getElem?_toList]
  by_cases hi : i < xs.length
  · rw [hc i hi, hf i hi, List.getElem?_map, List.getElem?_eq_getElem hi, getD_at _ _ hi]; rfl
  · rw [List.getElem?_eq_none (by rw [List.length_map]; omega), Array.getElem?_eq_none (by omega)]

set_option maxRecDepth 100000 in
set_option maxHeartbeats 1000000 in
theorem toIntS_any (v : Value) (xs : List Int) (w : World) (h : Rd w v xs) (hl : xs.length ≤ 1048576) :
    Calls Try.prog 29 #[v] w fun e w' => ∃ u, e = .returned u ∧ Owns w' w.heap.size u xs ∧ Below w.heap.size w w' ∧ (∃ ad n c, u = .slice (some ad) n c) := by
  obtain ⟨i0, hi, hz0, hz1, hz2⟩ := info_parts infoInt
  have HH := hid h
  obtain ⟨a, cap, rfl, _⟩ := h.form
  obtain ⟨m, hm⟩ : ∃ m, m = xs.length := ⟨_, rfl⟩
  have HM := hid hm
  rw [← hm] at hl HH ⊢
  have HB0 := hid ((Below.refl w.heap.size w).alloc (Nat.le_refl _) (.cells (madeCells #[.int .i64 0] m) 3))
  have HR0 := hid (World.rowIs_made w (.int .i64 0) m 3)
  clear h hm
  go_enter Try.func29, Try.ntmps29
  go_wp2_with (at_make; refine wpList_make_row _ rfl _ _ 23 rfl 3 i0 (.int .i64 0) Try.underlying23 hi hz0 hz1 rfl .i64 .i64 m rfl rfl (by rw [hz2]; omega) (by omega) ?_)
  go_loopw [4] (fun si wr => ∃ K : Nat, si = .int .i64 K ∧ K ≤ m ∧ Hid (wr.rowIs w.heap.size 3 m (fun j => if j < K then .int .i64 (xs.getD j 0) else .int .i64 0)) ∧ Hid (Below w.heap.size w wr)) (fun si _ => m - (intOf si).toNat)
  case atStart => exact ⟨0, rfl, by omega, hid (HR0.out.congr (fun i hi => by simp)), HB0⟩
  case round =>
    obtain ⟨K, rfl, hK, HR, HB⟩ := hrel
    rename World => wr
    by_cases hlt : K < m
    · obtain ⟨a2, cap2, e2, hform⟩ := (HH.out.keep2 HB.out).form
      rw [← HM.out] at e2 hform
      cases e2
      obtain ⟨bb, o, rfl, hml, hc⟩ := hform (by omega)
      have c1 := hc K hlt
      have c2 := HR.out.cell hlt
      have f2 := HR.out.frozen K
      have hi0 : (K : Int) < (m : Int) := by omega
      obtain ⟨x, hx⟩ : ∃ x, x = xs.getD K 0 := ⟨_, rfl⟩
      rw [← hx] at c1
      have HS := hid ((HR.out.set K (.int .i64 x)).congr (g := fun j => if j < K + 1 then .int .i64 (xs.getD j 0) else .int .i64 0) (fun i hi => by
        by_cases e : i = K
        · rw [if_pos e, if_pos (by omega), e, hx]
        · rw [if_neg e]
          by_cases h : i < K
          · rw [if_pos h, if_pos (by omega)]
          · rw [if_neg h, if_neg (by omega)]))
      have HBs := hid (HB.out.setCell (p := ⟨w.heap.size, K, none⟩) (Nat.le_refl _) (.int .i64 x))
      have HLT := hid hlt
      rw [if_neg (by omega)] at c2
      unfold maxLen at hml
      clear hform hc hx hlt
      go_wp2_with fail
      go_roundw
      case measure => simp only [intOf]; have := HLT.out; omega
      case rel => exact ⟨K + 1, by go_num, by have := HLT.out; omega, HS, HBs⟩
    · obtain rfl : K = m := by omega
      have HO := hid (rowIs_owns (B := w.heap.size) HR.out HM.out (fun i hi => by rw [if_pos hi]) (Nat.le_refl _) (by unfold maxLen; omega))
      clear hlt
      go_wp2_with fail
      go_ret
      exact ⟨_, rfl, HO.out, HB.out, _, _, _, rfl⟩

end Go.Proofs.Ytfjbdbfeolfcfaa

/-! ToRow -/
set_option linter.unusedVariables false
namespace Go.Proofs.Ytfjbdbfeolfcfaa
open Go.RowKit

theorem rd_row {w : World} {a : Option Addr} {len cap : Nat} {zs : List Int} (h : IsRow .i64 w a len cap zs) : ∃ xs : List Int, xs.length = len ∧ Rd w (.slice a len cap) xs := by
  rcases h with ⟨rfl, rfl, rfl, rfl⟩ | ⟨x, rfl, hl, hm, hz, hcell, hwz⟩
  · exact ⟨[], rfl, .inl ⟨_, _, rfl, rfl⟩⟩
  · refine ⟨zs.take len, by rw [List.length_take]; omega, ?_⟩
    by_cases h0 : len = 0
    · subst h0
      exact .inl ⟨_, _, rfl, by simp⟩
    · obtain ⟨b, off, spot⟩ := x
      have hspot : spot = none := by simpa [Addr.add] using World.cell?_spot (hcell 0 (by omega))
      subst hspot
      have hlen : (zs.take len).length = len := by rw [List.length_take]; omega
      refine .inr ⟨b, off, cap, by rw [hlen], by omega, by rw [hlen]; omega, fun i hi => ?_⟩
      rw [hlen] at hi
      have hc := hcell i (by omega)
      have hg : (zs.take len).getD i 0 = zs.getD i 0 := by
        rw [getD_at _ _ (by rw [hlen]; exact hi), getD_at _ _ (by omega), List.getElem_take]
      rw [hg]
      by_cases hi0 : i = 0
      · subst hi0; simpa [Addr.add] using hc
      · simpa [Addr.add, hi0] using hc
theorem fvalF (xs vs : List Int) : ∃ (x : Int) (c : Bool), fvalV xs vs = .tuple #[.int .i64 x, .bool c] := by
  unfold fvalV
  split
  · exact ⟨_, _, rfl⟩
  · exact ⟨_, _, rfl⟩
theorem signsF (xs : List Int) : ∃ (x : Int) (c : Bool), signsV xs = .tuple #[.int .i64 x, .bool c] := by
  unfold signsV
  split
  · exact ⟨_, _, rfl⟩
  · exact ⟨_, _, rfl⟩

end Go.Proofs.Ytfjbdbfeolfcfaa
