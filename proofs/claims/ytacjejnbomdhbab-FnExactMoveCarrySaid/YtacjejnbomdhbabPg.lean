/-
  slices.Grow of nil, slices.Concat of two lists.
-/
import Derived.Test.YtacjejnbomdhbabQBun20
import Derived.Lib.AppendZerosOnto
import Derived.Lib.Walk
import Derived.Lib.SliceRun
set_option linter.unusedVariables false
namespace Go.Proofs.Ytacjejnbomdhbab
open Go.RowKit

set_option maxRecDepth 100000 in
set_option maxHeartbeats 2000000 in
/-- slices.Grow of nil by n elements -/
theorem growNil_any (n : Int) (h1 : 1 ≤ n) (h2 : n ≤ 10000000) (w : World) :
    Calls Try.prog 101 #[.slice none 0 0, .int .i64 n] w fun e w' => ∃ v, e = .returned v ∧ Owns w' w.heap.size v [] ∧ Below w.heap.size w w' := by
  obtain ⟨i0, hi, hz0, hz1, hz2⟩ := info_parts infoInt
  obtain ⟨k, rfl⟩ := Int.eq_ofNat_of_zero_le (show 0 ≤ n by omega)
  have hrz : ∀ ty, (Builtin.append_ #[22, 3] ty #[.slice none 0 0, .int .i64 (k : Int)]).run Try.prog w =
      .ok (.slice (some ⟨w.heap.size, 0, none⟩) k (grownCap w k 0 3)) (w.drew.alloc (.cells (([] : List Value).toArray ++ Builtin.zeroCells (Value.int .i64 0).cells k ++ Builtin.zeroCells (Value.int .i64 0).cells (grownCap w k 0 3 - k)) 3)) := fun ty => by
    have h := Lib.run_append_grow_zeros (P := Try.prog) w 22 3 ty 3 i0 (.int .i64 0) .i64 .i64 Try.underlying22 Try.underlying3 hi hz0 none 0 0 [] (run_firstCells_none w.drew i0.size 0 0 0) k (by omega) (by omega) (by omega) (by omega) (by rw [hz2]; omega)
      (by rw [Nat.zero_add]; exact growslice_fits (by omega) (by rw [hz2]; omega))
    rw [Nat.zero_add] at h
    exact h
  have hG1 := grownCap_ge w k 0 3
  have hG2 := grownCap_le_maxLen w k 0 3 (by unfold maxLen; omega)
  obtain ⟨G, hG⟩ : ∃ G, G = grownCap w k 0 3 := ⟨_, rfl⟩
  rw [← hG] at hrz hG1 hG2
  obtain ⟨cur, hcur⟩ : ∃ cur, cur = ([] : List Value).toArray ++ Builtin.zeroCells (Value.int .i64 0).cells k ++ Builtin.zeroCells (Value.int .i64 0).cells (G - k) := ⟨_, rfl⟩
  have hsz : cur.size = G := by
    rw [hcur]
    unfold Builtin.zeroCells
    simp [Value.cells]
    omega
  rw [← hcur] at hrz
  have HRZ := hid hrz
  have HO : Hid (Owns (w.drew.alloc (.cells cur 3)) w.heap.size (.slice (some ⟨w.heap.size, 0, none⟩) 0 G) []) := hid
    ⟨by simp, .inr ⟨w.heap.size, G, cur, rfl, Nat.le_refl _, heap_alloc_new w.drew _, by simp, hG2, by rw [hsz, Nat.mul_one], by simp⟩⟩
  have HB : Hid (Below w.heap.size w (w.drew.alloc (.cells cur 3))) := hid ((Below.refl w.heap.size w).drew.alloc (Nat.le_refl _) _)
  have hG63 : G ≤ 9223372036854775807 := by unfold maxLen at hG2; omega
  clear hrz hG hcur hsz hG2 hi hz0 hz1 hz2
  go_enter Try.func101, Try.ntmps101
  go_wp2_with (at_builtin; refine Lib.wpList_append_run _ rfl _ _ _ _ rfl _ _ rfl rfl _ _ (HRZ.out _) ?_)
  all_goals (go_ret; exact ⟨_, rfl, HO.out, HB.out⟩)

set_option maxRecDepth 100000 in
set_option maxHeartbeats 4000000 in
/-- slices.Concat of two lists that are not both empty -/
theorem concat_any (b : Nat) (va vb : Value) (xs ys : List Int) (w : World) (h0 : w.cell? ⟨b, 0, none⟩ = some va) (h1 : w.cell? ⟨b, 1, none⟩ = some vb) (hx : Rd w va xs) (hy : Rd w vb ys) (fx : Firm va) (fy : Firm vb)
    (hl1 : 1 ≤ xs.length + ys.length) (hl2 : xs.length + ys.length ≤ 10000000) :
    Calls Try.prog 96 #[.slice (some ⟨b, 0, none⟩) 2 2] w fun e w' => ∃ v, e = .returned v ∧ Owns w' w.heap.size v (xs ++ ys) ∧ Below w.heap.size w w' := by
  have HX := hid hx
  have HY := hid hy
  obtain ⟨ob, hob, _⟩ := cells_of_cell h0
  have hbl : b < w.heap.size := (Array.getElem?_eq_some_iff.1 hob).1
  obtain ⟨a, cap, rfl, _⟩ := hx.form
  obtain ⟨a', cap', rfl, _⟩ := hy.form
  have FX := hid fx
  have FY := hid fy
  have H0 := hid h0
  have H1 := hid h1
  clear hx hy fx fy hob
  go_enter Try.func96, Try.ntmps96
  go_wp2_with fail
  go_loop [3, 11] (fun so si => ∃ (K : Nat) (s : Int), si = .int .i64 K ∧ so = .int .i64 s ∧ ((K = 0 ∧ s = 0) ∨ (K = 1 ∧ s = (xs.length : Int)) ∨ (K = 2 ∧ s = (xs.length : Int) + (ys.length : Int)))) (fun _ si => 2 - (intOf si).toNat)
  case atStart => exact ⟨0, 0, rfl, rfl, .inl ⟨rfl, rfl⟩⟩
  case round =>
    obtain ⟨K, s, rfl, rfl, hc⟩ := hrel
    rcases hc with ⟨rfl, rfl⟩ | ⟨rfl, rfl⟩ | ⟨rfl, rfl⟩
    · go_wp2_with fail
      go_round
      case measure => simp [intOf]
      case rel => exact ⟨1, (xs.length : Int), by go_num, by go_num, .inr (.inl ⟨rfl, rfl⟩)⟩
    · go_wp2_with fail
      go_round
      case measure => simp [intOf]
      case rel => exact ⟨2, (xs.length : Int) + (ys.length : Int), by go_num, by go_num, .inr (.inr ⟨rfl, rfl⟩)⟩
    · go_wp2_with fail
      refine (growNil_any _ (by omega) (by omega) _).mono ?_
      rintro e w2 ⟨v, rfl, ho, hb⟩
      have HO := hid ho
      have HB := hid hb
      clear ho hb
      go_wp2_with fail
      go_loopw [6, 27] (fun so si wr => ∃ K : Nat, si = .int .i64 K ∧ Hid (Below w.heap.size w wr) ∧ ((K = 0 ∧ Hid (Owns wr w.heap.size so [])) ∨ (K = 1 ∧ Hid (Owns wr w.heap.size so xs)) ∨ (K = 2 ∧ Hid (Owns wr w.heap.size so (xs ++ ys))))) (fun _ si _ => 2 - (intOf si).toNat)
      case atStart => exact ⟨0, rfl, HB, .inl ⟨rfl, HO⟩⟩
      case round =>
        obtain ⟨K, rfl, HBr, hc⟩ := hrel
        rename World => wr
        have c0 := (HBr.out.cell (p := ⟨b, 0, none⟩) hbl).trans H0.out
        have c1 := (HBr.out.cell (p := ⟨b, 1, none⟩) hbl).trans H1.out
        have HXr := hid (HX.out.keep HBr.out)
        have HYr := hid (HY.out.keep HBr.out)
        have hsz := HBr.out.size
        rcases hc with ⟨rfl, HOr⟩ | ⟨rfl, HOr⟩ | ⟨rfl, HOr⟩
        · go_wp2_with (at_builtin; refine append_rd rfl _ _ rfl w.heap.size _ [] rfl HOr.out _ xs rfl HXr.out FX.out (by simp; omega) hsz ?_; intro v3 w3 o3 g3)
          have hO3 : Hid (Owns w3 w.heap.size v3 xs) := hid (by simpa using o3)
          have HB3 := hid (HBr.out.grown g3 hsz (fun k e => HOr.out.ge k e))
          clear o3 g3
          go_round
          case measure => simp [intOf]
          case rel => exact ⟨1, by go_num, HB3, .inr (.inl ⟨rfl, hO3⟩)⟩
        · go_wp2_with (at_builtin; refine append_rd rfl _ _ rfl w.heap.size _ xs rfl HOr.out _ ys rfl HYr.out FY.out (by omega) hsz ?_; intro v3 w3 o3 g3)
          have hO3 := hid o3
          have HB3 := hid (HBr.out.grown g3 hsz (fun k e => HOr.out.ge k e))
          clear o3 g3
          go_round
          case measure => simp [intOf]
          case rel => exact ⟨2, by go_num, HB3, .inr (.inr ⟨rfl, hO3⟩)⟩
        · go_wp2_with fail
          go_ret
          exact ⟨_, rfl, HOr.out, HBr.out⟩

end Go.Proofs.Ytacjejnbomdhbab
