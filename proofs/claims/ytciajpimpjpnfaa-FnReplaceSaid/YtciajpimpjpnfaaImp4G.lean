/-
  Contracts of the program's chapter 4: two lists joined (slices.Grow, slices.Concat), joined forms.
-/
import Derived.Test.YtciajpimpjpnfaaBun38
import Derived.Lib.AppendZerosOnto
import Derived.Lib.Walk
import Derived.Lib.SliceRun
set_option linter.unusedVariables false
namespace Go.Proofs.Ytciajpimpjpnfaa
open Go.RowKit

set_option maxRecDepth 100000 in
set_option maxHeartbeats 2000000 in
/-- slices.Grow of nil by n elements -/
theorem growNil_any (n : Int) (h1 : 1 ≤ n) (h2 : n ≤ 10000000) (w : World) :
    Calls Try.prog 113 #[.slice none 0 0, .int .i64 n] w fun e w' => ∃ v, e = .returned v ∧ Owns w' w.heap.size v [] ∧ Below w.heap.size w w' := by
  obtain ⟨i0, hi, hz0, hz1, hz2⟩ := info_parts infoInt
  obtain ⟨k, rfl⟩ := Int.eq_ofNat_of_zero_le (show 0 ≤ n by omega)
  have hrz : ∀ ty, (Builtin.append_ #[25, 3] ty #[.slice none 0 0, .int .i64 (k : Int)]).run Try.prog w =
      .ok (.slice (some ⟨w.heap.size, 0, none⟩) k (grownCap w k 0 3)) (w.drew.alloc (.cells (([] : List Value).toArray ++ Builtin.zeroCells (Value.int .i64 0).cells k ++ Builtin.zeroCells (Value.int .i64 0).cells (grownCap w k 0 3 - k)) 3)) := fun ty => by
    have h := Lib.run_append_grow_zeros (P := Try.prog) w 25 3 ty 3 i0 (.int .i64 0) .i64 .i64 Try.underlying25 Try.underlying3 hi hz0 none 0 0 [] (run_firstCells_none w.drew i0.size 0 0 0) k (by omega) (by omega) (by omega) (by omega) (by rw [hz2]; omega)
      (by rw [Nat.zero_add]; exact growslice_fits (by omega) (by rw [hz2]; omega))
    rw [Nat.zero_add] at h
    exact h
  have hG1 := grownCap_ge w k 0 3
  have hG2 := grownCap_le_maxLen w k 0 3 (by unfold maxLen; omega)
  obtain ⟨G, hG⟩ : ∃ G, G = grownCap w k 0 3 := ⟨_, rfl⟩
  rw [← hG] at hrz hG1 hG2
  obtain ⟨cur, hcur⟩ : ∃ cur, cur = ([] : List Value).toArray ++ Builtin.zeroCells (Value.int .i64 0).cells k ++ Builtin.zeroCells (Value.int .i64 0).cells (G - k) := ⟨_, rfl⟩
  have hsz : cur.size = G := by
    rw [hcur]
    unfold Builtin.zeroCells
    simp [Value.cells]
    omega
  rw [← hcur] at hrz
  have HRZ := hid hrz
  have HO : Hid (Owns (w.drew.alloc (.cells cur 3)) w.heap.size (.slice (some ⟨w.heap.size, 0, none⟩) 0 G) []) := hid
    ⟨by simp, .inr ⟨w.heap.size, G, cur, rfl, Nat.le_refl _, heap_alloc_new w.drew _, by simp, hG2, by rw [hsz, Nat.mul_one], by simp⟩⟩
  have HB : Hid (Below w.heap.size w (w.drew.alloc (.cells cur 3))) := hid ((Below.refl w.heap.size w).drew.alloc (Nat.le_refl _) _)
  have hG63 : G ≤ 9223372036854775807 := by unfold maxLen at hG2; omega
  clear hrz hG hcur hsz hG2 hi hz0 hz1 hz2
  go_enter Try.func113, Try.ntmps113
  go_wp2_with (at_builtin; refine Lib.wpList_append_run _ rfl _ _ _ _ rfl _ _ rfl rfl _ _ (HRZ.out _) ?_)
  all_goals (go_ret; exact ⟨_, rfl, HO.out, HB.out⟩)

set_option maxRecDepth 100000 in
set_option maxHeartbeats 4000000 in
/-- slices.Concat of two lists that are not both empty -/
theorem concat_any (b : Nat) (va vb : Value) (xs ys : List Int) (w : World) (h0 : w.cell? ⟨b, 0, none⟩ = some va) (h1 : w.cell? ⟨b, 1, none⟩ = some vb) (hx : Rd w va xs) (hy : Rd w vb ys) (fx : Firm va) (fy : Firm vb)
    (hl1 : 1 ≤ xs.length + ys.length) (hl2 : xs.length + ys.length ≤ 10000000) :
    Calls Try.prog 88 #[.slice (some ⟨b, 0, none⟩) 2 2] w fun e w' => ∃ v, e = .returned v ∧ Owns w' w.heap.size v (xs ++ ys) ∧ Below w.heap.size w w' := by
  have HX := hid hx
  have HY := hid hy
  obtain ⟨ob, hob, _⟩ := cells_of_cell h0
  have hbl : b < w.heap.size := (Array.getElem?_eq_some_iff.1 hob).1
  obtain ⟨a, cap, rfl, _⟩ := hx.form
  obtain ⟨a', cap', rfl, _⟩ := hy.form
  have FX := hid fx
  have FY := hid fy
  have H0 := hid h0
  have H1 := hid h1
  clear hx hy fx fy hob
  go_enter Try.func88, Try.ntmps88
  go_wp2_with fail
  go_loop [3, 11] (fun so si => ∃ (K : Nat) (s : Int), si = .int .i64 K ∧ so = .int .i64 s ∧ ((K = 0 ∧ s = 0) ∨ (K = 1 ∧ s = (xs.length : Int)) ∨ (K = 2 ∧ s = (xs.length : Int) + (ys.length : Int)))) (fun _ si => 2 - (intOf si).toNat)
  case atStart => exact ⟨0, 0, rfl, rfl, .inl ⟨rfl, rfl⟩⟩
  case round =>
    obtain ⟨K, s, rfl, rfl, hc⟩ := hrel
    rcases hc with ⟨rfl, rfl⟩ | ⟨rfl, rfl⟩ | ⟨rfl, rfl⟩
    · go_wp2_with fail
      go_round
      case measure => simp [intOf]
      case rel => exact ⟨1, (xs.length : Int), by go_num, by go_num, .inr (.inl ⟨rfl, rfl⟩)⟩
    · go_wp2_with fail
      go_round
      case measure => simp [intOf]
      case rel => exact ⟨2, (xs.length : Int) + (ys.length : Int), by go_num, by go_num, .inr (.inr ⟨rfl, rfl⟩)⟩
    · go_wp2_with fail
      refine (growNil_any _ (by omega) (by omega) _).mono ?_
      rintro e w2 ⟨v, rfl, ho, hb⟩
      have HO := hid ho
      have HB := hid hb
      clear ho hb
      go_wp2_with fail
      go_loopw [6, 27] (fun so si wr => ∃ K : Nat, si = .int .i64 K ∧ Hid (Below w.heap.size w wr) ∧ ((K = 0 ∧ Hid (Owns wr w.heap.size so [])) ∨ (K = 1 ∧ Hid (Owns wr w.heap.size so xs)) ∨ (K = 2 ∧ Hid (Owns wr w.heap.size so (xs ++ ys))))) (fun _ si _ => 2 - (intOf si).toNat)
      case atStart => exact ⟨0, rfl, HB, .inl ⟨rfl, HO⟩⟩
      case round =>
        obtain ⟨K, rfl, HBr, hc⟩ := hrel
        rename World => wr
        have c0 := (HBr.out.cell (p := ⟨b, 0, none⟩) hbl).trans H0.out
        have c1 := (HBr.out.cell (p := ⟨b, 1, none⟩) hbl).trans H1.out
        have HXr := hid (HX.out.keep HBr.out)
        have HYr := hid (HY.out.keep HBr.out)
        have hsz := HBr.out.size
        rcases hc with ⟨rfl, HOr⟩ | ⟨rfl, HOr⟩ | ⟨rfl, HOr⟩
        · go_wp2_with (at_builtin; refine append_rd rfl _ _ rfl w.heap.size _ [] rfl HOr.out _ xs rfl HXr.out FX.out (by simp; omega) hsz ?_; intro v3 w3 o3 g3)
          have hO3 : Hid (Owns w3 w.heap.size v3 xs) := hid (by simpa using o3)
          have HB3 := hid (HBr.out.grown g3 hsz (fun k e => HOr.out.ge k e))
          clear o3 g3
          go_round
          case measure => simp [intOf]
          case rel => exact ⟨1, by go_num, HB3, .inr (.inl ⟨rfl, hO3⟩)⟩
        · go_wp2_with (at_builtin; refine append_rd rfl _ _ rfl w.heap.size _ xs rfl HOr.out _ ys rfl HYr.out FY.out (by omega) hsz ?_; intro v3 w3 o3 g3)
          have hO3 := hid o3
          have HB3 := hid (HBr.out.grown g3 hsz (fun k e => HOr.out.ge k e))
          clear o3 g3
          go_round
          case measure => simp [intOf]
          case rel => exact ⟨2, by go_num, HB3, .inr (.inr ⟨rfl, hO3⟩)⟩
        · go_wp2_with fail
          go_ret
          exact ⟨_, rfl, HOr.out, HBr.out⟩

set_option maxRecDepth 100000 in
set_option maxHeartbeats 2000000 in
theorem formJoin_any (va vb : Value) (xs ys : List Int) (w : World) (fx : Firm va) (fy : Firm vb) (hx : Rd w va xs) (hy : Rd w vb ys) (l1 : xs.length ≤ 1048576) (l2 : ys.length ≤ 1048576) :
    Calls Try.prog 48 #[va, vb] w fun e w' => ∃ u, e = .returned (.tuple #[u, .bool (joinOk xs ys)]) ∧ Owns w' w.heap.size u (joinL xs ys) ∧ Below w.heap.size w w' := by
  obtain ⟨a, cap, rfl, _⟩ := hx.form
  obtain ⟨a', cap', rfl, _⟩ := hy.form
  have HX := hid hx
  have HY := hid hy
  have FX := hid fx
  have FY := hid fy
  have HNO : Hid (joinOk xs ys = false → joinL xs ys = []) := hid (fun e => by unfold joinL; rw [e]; rfl)
  have HB0 := hid ((Below.refl w.heap.size w).alloc (Nat.le_refl _) (.cells #[.slice a xs.length cap, .slice a' ys.length cap'] 25))
  have HX0 := hid (hx.keep HB0.out)
  have HY0 := hid (hy.keep HB0.out)
  have hnew := heap_alloc_new w (.cells #[.slice a xs.length cap, .slice a' ys.length cap'] 25)
  have C0 := hid (cell_of_row hnew 0 _ rfl)
  have C1 := hid (cell_of_row hnew 1 _ rfl)
  clear hx hy hnew fx fy
  cases hf : fvB xs with
  | false =>
    have HR : Hid (joinOk xs ys = false) := hid (by unfold joinOk; rw [hf]; rfl)
    have HF := hid hf
    clear hf
    go_enter Try.func48, Try.ntmps48
    go_wp2_with fail
    refine (formValidP_any _ xs _ HX.out).mono ?_
    rw [HF.out]
    rintro e w' ⟨rfl, rfl⟩
    go_wp2_with fail
    go_ret2
    rw [HR.out]
    exact ⟨_, rfl, by rw [HNO.out HR.out]; exact World.ownsRow_made (size := 1) w #[] 0 (Nat.le_refl _) (by unfold maxLen; omega) rfl, (Below.refl _ _).alloc (Nat.le_refl _) _⟩
  | true =>
    have HF := hid hf
    have hlx := (fvB_iff.1 hf).2
    cases hg : fvB ys with
    | false =>
      have HR : Hid (joinOk xs ys = false) := hid (by unfold joinOk; rw [hg, Bool.false_and, Bool.and_false])
      have HG := hid hg
      clear hf hg
      go_enter Try.func48, Try.ntmps48
      go_wp2_with fail
      refine (formValidP_any _ xs _ HX.out).mono ?_
      rw [HF.out]
      rintro e w' ⟨rfl, rfl⟩
      go_wp2_with fail
      refine (formValidP_any _ ys _ HY.out).mono ?_
      rw [HG.out]
      rintro e w' ⟨rfl, rfl⟩
      go_wp2_with fail
      go_ret2
      rw [HR.out]
      exact ⟨_, rfl, by rw [HNO.out HR.out]; exact World.ownsRow_made (size := 1) w #[] 0 (Nat.le_refl _) (by unfold maxLen; omega) rfl, (Below.refl _ _).alloc (Nat.le_refl _) _⟩
    | true =>
      have HG := hid hg
      have hly := (fvB_iff.1 hg).2
      cases hj : fvB (xs ++ ys) with
      | false =>
        have HR : Hid (joinOk xs ys = false) := hid (by unfold joinOk; rw [hj, Bool.and_false, Bool.and_false])
        have HJ := hid hj
        clear hf hg hj
        go_enter Try.func48, Try.ntmps48
        go_wp2_with fail
        refine (formValidP_any _ xs _ HX.out).mono ?_
        rw [HF.out]
        rintro e w' ⟨rfl, rfl⟩
        go_wp2_with fail
        refine (formValidP_any _ ys _ HY.out).mono ?_
        rw [HG.out]
        rintro e w' ⟨rfl, rfl⟩
        go_wp2_with fail
        refine (concat_any w.heap.size _ _ xs ys _ C0.out C1.out HX0.out HY0.out FX.out FY.out (by omega) (by omega)).mono ?_
        rintro e w' ⟨v, rfl, ho, hb⟩
        rename World => w3
        have HO := hid (ho.low HB0.out.size)
        have HB := hid (HB0.out.trans (hb.mono HB0.out.size))
        clear ho hb
        go_wp2_with fail
        refine (formValidP_any _ (xs ++ ys) _ HO.out.rd).mono ?_
        rw [HJ.out]
        rintro e w' ⟨rfl, rfl⟩
        go_wp2_with fail
        go_ret2
        rw [HR.out]
        exact ⟨_, rfl, by rw [HNO.out HR.out]; exact World.ownsRow_made (size := 1) w3 #[] 0 HB.out.size (by unfold maxLen; omega) rfl, HB.out.alloc HB.out.size _⟩
      | true =>
        have HR : Hid (joinOk xs ys = true) := hid (by unfold joinOk; rw [hf, hg, hj]; rfl)
        have HL : Hid (joinL xs ys = xs ++ ys) := hid (by unfold joinL; rw [HR.out]; rfl)
        have HJ := hid hj
        clear hf hg hj
        go_enter Try.func48, Try.ntmps48
        go_wp2_with fail
        refine (formValidP_any _ xs _ HX.out).mono ?_
        rw [HF.out]
        rintro e w' ⟨rfl, rfl⟩
        go_wp2_with fail
        refine (formValidP_any _ ys _ HY.out).mono ?_
        rw [HG.out]
        rintro e w' ⟨rfl, rfl⟩
        go_wp2_with fail
        refine (concat_any w.heap.size _ _ xs ys _ C0.out C1.out HX0.out HY0.out FX.out FY.out (by omega) (by omega)).mono ?_
        rintro e w' ⟨v, rfl, ho, hb⟩
        have HO := hid (ho.low HB0.out.size)
        have HB := hid (HB0.out.trans (hb.mono HB0.out.size))
        clear ho hb
        go_wp2_with fail
        refine (formValidP_any _ (xs ++ ys) _ HO.out.rd).mono ?_
        rw [HJ.out]
        rintro e w' ⟨rfl, rfl⟩
        go_wp2_with fail
        go_ret2
        rw [HR.out]
        exact ⟨_, rfl, by rw [HL.out]; exact HO.out, HB.out⟩

end Go.Proofs.Ytciajpimpjpnfaa
