/-
  Some texts in one file: Pg MpL MpM MpN MpO.
-/
import Derived.Test.YtjabklpnohfjpabQBun20
import Derived.Lib.AppendZerosOnto
import Derived.Lib.Walk
import Derived.Lib.SliceRun
import Derived.Test.YtjabklpnohfjpabQBun34
import Derived.Test.YtjabklpnohfjpabQBun25
/-! Pg -/
set_option linter.unusedVariables false
namespace Go.Proofs.Ytjabklpnohfjpab
open Go.RowKit

set_option maxRecDepth 100000 in
set_option maxHeartbeats 2000000 in
/-- slices.Grow of nil by n elements -/
theorem growNil_any (n : Int) (h1 : 1 ≤ n) (h2 : n ≤ 10000000) (w : World) :
    Calls Try.prog 101 #[.slice none 0 0, .int .i64 n] w fun e w' => ∃ v, e = .returned v ∧ Owns w' w.heap.size v [] ∧ Below w.heap.size w w' := by
  obtain ⟨i0, hi, hz0, hz1, hz2⟩ := info_parts infoInt
  obtain ⟨k, rfl⟩ := Int.eq_ofNat_of_zero_le (show 0 ≤ n by omega)
  have hrz : ∀ ty, (Builtin.append_ #[22, 3] ty #[.slice none 0 0, .int .i64 (k : Int)]).run Try.prog w =
      .ok (.slice (some ⟨w.heap.size, 0, none⟩) k (grownCap w k 0 3)) (w.drew.alloc (.cells (([] : List Value).toArray ++ Builtin.zeroCells (Value.int .i64 0).cells k ++ Builtin.zeroCells (Value.int .i64 0).cells (grownCap w k 0 3 - k)) 3)) := fun ty => by
    have h := Lib.run_append_grow_zeros (P := Try.prog) w 22 3 ty 3 i0 (.int .i64 0) .i64 .i64 Try.underlying22 Try.underlying3 hi hz0 none 0 0 [] (run_firstCells_none w.drew i0.size 0 0 0) k (by omega) (by omega) (by omega) (by omega) (by rw [hz2]; omega)
      (by rw [Nat.zero_add]; exact growslice_fits (by omega) (by rw [hz2]; omega))
    rw [Nat.zero_add] at h
    exact h
  have hG1 := grownCap_ge w k 0 3
  have hG2 := grownCap_le_maxLen w k 0 3 (by unfold maxLen; omega)
  obtain ⟨G, hG⟩ : ∃ G, G = grownCap w k 0 3 := ⟨_, rfl⟩
  rw [← hG] at hrz hG1 hG2
  obtain ⟨cur, hcur⟩ : ∃ cur, cur = ([] : List Value).toArray ++ Builtin.zeroCells (Value.int .i64 0).cells k ++ Builtin.zeroCells (Value.int .i64 0).cells (G - k) := ⟨_, rfl⟩
  have hsz : cur.size = G := by
    rw [hcur]
    unfold Builtin.zeroCells
    simp [Value.cells]
    omega
  rw [← hcur] at hrz
  have HRZ := hid hrz
  have HO : Hid (Owns (w.drew.alloc (.cells cur 3)) w.heap.size (.slice (some ⟨w.heap.size, 0, none⟩) 0 G) []) := hid
    ⟨by simp, .inr ⟨w.heap.size, G, cur, rfl, Nat.le_refl _, heap_alloc_new w.drew _, by simp, hG2, by rw [hsz, Nat.mul_one], by simp⟩⟩
  have HB : Hid (Below w.heap.size w (w.drew.alloc (.cells cur 3))) := hid ((Below.refl w.heap.size w).drew.alloc (Nat.le_refl _) _)
  have hG63 : G ≤ 9223372036854775807 := by unfold maxLen at hG2; omega
  clear hrz hG hcur hsz hG2 hi hz0 hz1 hz2
  go_enter Try.func101, Try.ntmps101
  go_wp2_with (at_builtin; refine Lib.wpList_append_run _ rfl _ _ _ _ rfl _ _ rfl rfl _ _ (HRZ.out _) ?_)
  all_goals (go_ret; exact ⟨_, rfl, HO.out, HB.out⟩)

set_option maxRecDepth 100000 in
set_option maxHeartbeats 4000000 in
/-- slices.Concat of two lists that are not both empty -/
theorem concat_any (b : Nat) (va vb : Value) (xs ys : List Int) (w : World) (h0 : w.cell? ⟨b, 0, none⟩ = some va) (h1 : w.cell? ⟨b, 1, none⟩ = some vb) (hx : Rd w va xs) (hy : Rd w vb ys) (fx : Firm va) (fy : Firm vb)
    (hl1 : 1 ≤ xs.length + ys.length) (hl2 : xs.length + ys.length ≤ 10000000) :
    Calls Try.prog 96 #[.slice (some ⟨b, 0, none⟩) 2 2] w fun e w' => ∃ v, e = .returned v ∧ Owns w' w.heap.size v (xs ++ ys) ∧ Below w.heap.size w w' := by
  have HX := hid hx
  have HY := hid hy
  obtain ⟨ob, hob, _⟩ := cells_of_cell h0
  have hbl : b < w.heap.size := (Array.getElem?_eq_some_iff.1 hob).1
  obtain ⟨a, cap, rfl, _⟩ := hx.form
  obtain ⟨a', cap', rfl, _⟩ := hy.form
  have FX := hid fx
  have FY := hid fy
  have H0 := hid h0
  have H1 := hid h1
  clear hx hy fx fy hob
  go_enter Try.func96, Try.ntmps96
  go_wp2_with fail
  go_loop [3, 11] (fun so si => ∃ (K : Nat) (s : Int), si = .int .i64 K ∧ so = .int .i64 s ∧ ((K = 0 ∧ s = 0) ∨ (K = 1 ∧ s = (xs.length : Int)) ∨ (K = 2 ∧ s = (xs.length : Int) + (ys.length : Int)))) (fun _ si => 2 - (intOf si).toNat)
  case atStart => exact ⟨0, 0, rfl, rfl, .inl ⟨rfl, rfl⟩⟩
  case round =>
    obtain ⟨K, s, rfl, rfl, hc⟩ := hrel
    rcases hc with ⟨rfl, rfl⟩ | ⟨rfl, rfl⟩ | ⟨rfl, rfl⟩
    · go_wp2_with fail
      go_round
      case measure => simp [intOf]
      case rel => exact ⟨1, (xs.length : Int), by go_num, by go_num, .inr (.inl ⟨rfl, rfl⟩)⟩
    · go_wp2_with fail
      go_round
      case measure => simp [intOf]
      case rel => exact ⟨2, (xs.length : Int) + (ys.length : Int), by go_num, by go_num, .inr (.inr ⟨rfl, rfl⟩)⟩
    · go_wp2_with fail
      refine (growNil_any _ (by omega) (by omega) _).mono ?_
      rintro e w2 ⟨v, rfl, ho, hb⟩
      have HO := hid ho
      have HB := hid hb
      clear ho hb
      go_wp2_with fail
      go_loopw [6, 27] (fun so si wr => ∃ K : Nat, si = .int .i64 K ∧ Hid (Below w.heap.size w wr) ∧ ((K = 0 ∧ Hid (Owns wr w.heap.size so [])) ∨ (K = 1 ∧ Hid (Owns wr w.heap.size so xs)) ∨ (K = 2 ∧ Hid (Owns wr w.heap.size so (xs ++ ys))))) (fun _ si _ => 2 - (intOf si).toNat)
      case atStart => exact ⟨0, rfl, HB, .inl ⟨rfl, HO⟩⟩
      case round =>
        obtain ⟨K, rfl, HBr, hc⟩ := hrel
        rename World => wr
        have c0 := (HBr.out.cell (p := ⟨b, 0, none⟩) hbl).trans H0.out
        have c1 := (HBr.out.cell (p := ⟨b, 1, none⟩) hbl).trans H1.out
        have HXr := hid (HX.out.keep HBr.out)
        have HYr := hid (HY.out.keep HBr.out)
        have hsz := HBr.out.size
        rcases hc with ⟨rfl, HOr⟩ | ⟨rfl, HOr⟩ | ⟨rfl, HOr⟩
        · go_wp2_with (at_builtin; refine append_rd rfl _ _ rfl w.heap.size _ [] rfl HOr.out _ xs rfl HXr.out FX.out (by simp; omega) hsz ?_; intro v3 w3 o3 g3)
          have hO3 : Hid (Owns w3 w.heap.size v3 xs) := hid (by simpa using o3)
          have HB3 := hid (HBr.out.grown g3 hsz (fun k e => HOr.out.ge k e))
          clear o3 g3
          go_round
          case measure => simp [intOf]
          case rel => exact ⟨1, by go_num, HB3, .inr (.inl ⟨rfl, hO3⟩)⟩
        · go_wp2_with (at_builtin; refine append_rd rfl _ _ rfl w.heap.size _ xs rfl HOr.out _ ys rfl HYr.out FY.out (by omega) hsz ?_; intro v3 w3 o3 g3)
          have hO3 := hid o3
          have HB3 := hid (HBr.out.grown g3 hsz (fun k e => HOr.out.ge k e))
          clear o3 g3
          go_round
          case measure => simp [intOf]
          case rel => exact ⟨2, by go_num, HB3, .inr (.inr ⟨rfl, hO3⟩)⟩
        · go_wp2_with fail
          go_ret
          exact ⟨_, rfl, HOr.out, HBr.out⟩

end Go.Proofs.Ytjabklpnohfjpab

/-! MpL -/
set_option linter.unusedVariables false
namespace Go.Proofs.Ytjabklpnohfjpab
open Go.RowKit

theorem rd_firm {W : World} {v : Value} {xs : List Int} (h : Rd W v xs) (h0 : 0 < xs.length) : Firm v := by
  obtain ⟨b, o, c, rfl, _⟩ := rd_cells h h0
  exact .inr ⟨_, _, _, rfl⟩
set_option maxRecDepth 100000 in
set_option maxHeartbeats 4000000 in
theorem concatM_any (v : Value) (R : List (List Int)) (n : Nat) (w : World) (h : RdM w v R) (hs : Sq n R) (hn1 : 1 ≤ n) (hn3 : n ≤ 3) :
    Calls Try.prog 96 #[v] w fun e w' => ∃ u, e = .returned u ∧ Owns w' w.heap.size u R.flatten ∧ Below w.heap.size w w' := by
  have HM := hid h
  obtain ⟨a, cap, rfl⟩ := h.form
  have HS := hid hs
  have hRl := hs.1
  have HRL := hid hRl
  have hfl := flat_len (n := n) R hs.2
  have hfl1 : 1 ≤ R.flatten.length := by rw [hfl, hRl]; exact Nat.mul_pos hn1 hn1
  have hfl9 : R.flatten.length ≤ 9 := by rw [hfl, hRl]; exact Nat.mul_le_mul hn3 hn3
  have HTL : Hid (∀ K, K ≤ R.length → (R.take K).flatten.length ≤ 9) := hid (fun K hK => by
    rw [flat_len (n := n) _ (fun r hr => hs.2 r (List.mem_of_mem_take hr)), List.length_take]
    have : min K R.length ≤ 3 := by omega
    exact Nat.mul_le_mul this hn3)
  have HFN : Hid (∀ K, K < R.length → (R.getD K []).length = n) := hid (fun K hK => hs.2 _ (by rw [List.getD_eq_getElem?_getD, List.getElem?_eq_getElem hK]; exact List.getElem_mem _))
  have hR3 : R.length ≤ 3 := by omega
  clear h hs hRl hfl
  go_enter Try.func96, Try.ntmps96
  go_wp2_with fail
  go_loop [3, 11] (fun so si => ∃ (K L : Nat), si = .int .i64 K ∧ K ≤ R.length ∧ so = .int .i64 (L : Int) ∧ L ≤ 9 ∧ Hid (L = (R.take K).flatten.length)) (fun _ si => R.length - (intOf si).toNat)
  case atStart => exact ⟨0, 0, rfl, by omega, rfl, by omega, hid rfl⟩
  case round =>
    obtain ⟨K, L, rfl, hK, rfl, hL9, HLE⟩ := hrel
    by_cases hlt : K < R.length
    · obtain ⟨b, o, u, rfl, hc, hr⟩ := HM.out.row hlt
      have hlen := HFN.out K hlt
      have HFT : Hid (((R.take (K + 1)).flatten.length : Nat) = (R.take K).flatten.length + n) := hid (by rw [flat_take hlt, List.length_append, hlen])
      obtain ⟨ar, cr, rfl, _⟩ := hr.form
      rw [hlen] at hc
      have h9 : L + n ≤ 9 := by
        have := HTL.out (K + 1) hlt
        rw [HFT.out, ← HLE.out] at this
        exact this
      have hKi : (K : Int) < (R.length : Int) := by omega
      have HLT := hid hlt
      clear hr hlen hlt
      go_wp2_with fail
      go_round
      case measure => simp only [intOf]; have := HLT.out; omega
      case rel => exact ⟨K + 1, L + n, by go_num, HLT.out, by go_num, h9, hid (by rw [HFT.out, ← HLE.out])⟩
    · obtain rfl : K = R.length := by omega
      have hL1 : 1 ≤ L := by have h := HLE.out; rw [List.take_length] at h; omega
      clear hlt hfl1 hfl9
      go_wp2_with fail
      refine (growNil_any _ (by omega) (by omega) _).mono ?_
      rintro e w2 ⟨v, rfl, ho, hb⟩
      have HO := hid ho
      have HB := hid hb
      clear ho hb
      go_wp2_with fail
      go_loopw [6, 27] (fun so si wr => ∃ K : Nat, si = .int .i64 K ∧ K ≤ R.length ∧ Hid (Below w.heap.size w wr) ∧ Hid (Owns wr w.heap.size so (R.take K).flatten)) (fun _ si _ => R.length - (intOf si).toNat)
      case atStart => exact ⟨0, rfl, by omega, HB, HO⟩
      case round =>
        obtain ⟨K, rfl, hK, HBr, HOr⟩ := hrel
        rename World => wr
        by_cases hlt : K < R.length
        · have hsz := HBr.out.size
          have h9 := HTL.out K hK
          obtain ⟨b, o, u, rfl, hc, hr⟩ := (HM.out.keep HBr.out).row hlt
          have hlen := HFN.out K hlt
          have HFT := hid (flat_take hlt)
          obtain ⟨xs, hxs⟩ : ∃ xs, xs = R.getD K [] := ⟨_, rfl⟩
          rw [← hxs] at hr hlen HFT
          have HXr := hid hr
          have FX := hid (rd_firm hr (by omega))
          obtain ⟨ar, cr, rfl, _⟩ := hr.form
          obtain ⟨pre, hpre⟩ : ∃ pre, pre = (R.take K).flatten := ⟨_, rfl⟩
          rw [← hpre] at HOr HFT h9
          have hx3 : xs.length ≤ 3 := by omega
          have hKi : (K : Int) < (R.length : Int) := by omega
          have HLT := hid hlt
          clear hr hlen hxs hpre hlt
          go_wp2_with (at_builtin; refine append_rd rfl _ _ rfl w.heap.size _ pre rfl HOr.out _ xs rfl HXr.out FX.out (by omega) hsz ?_; intro v3 w3 o3 g3)
          have hO3 := hid o3
          have HB3 := hid (HBr.out.grown g3 hsz (fun k e => HOr.out.ge k e))
          clear o3 g3
          go_roundw
          case measure => simp only [intOf]; have := HLT.out; omega
          case rel => exact ⟨K + 1, by go_num, HLT.out, HB3, hid (by rw [HFT.out]; exact hO3.out)⟩
        · obtain rfl : K = R.length := by omega
          have HE : Hid ((R.take R.length).flatten = R.flatten) := hid (by rw [List.take_length])
          clear hlt
          go_wp2_with fail
          go_ret
          exact ⟨_, rfl, by rw [← HE.out]; exact HOr.out, HBr.out⟩

end Go.Proofs.Ytjabklpnohfjpab

/-! MpM -/
set_option linter.unusedVariables false
namespace Go.Proofs.Ytjabklpnohfjpab
open Go.RowKit

def rowB9 (n : Nat) (r : List Int) : Bool := inAll r 1000000 && decide ((r.length : Int) = (n : Int))
def squareB (n : Nat) (R : List (List Int)) (d : Int) : Bool := R.all (rowB9 n) && (decide ((R.length : Int) = (n : Int)) && (decide (1 ≤ d) && decide (d ≤ 10000)))

set_option maxRecDepth 100000 in
set_option maxHeartbeats 2000000 in
theorem square_any (bm n : Nat) (va : Value) (R : List (List Int)) (d : Int) (w : World) (hm : MvAt w bm va d) (hR : RdM w va R) : Calls Try.prog 84 #[.pointer (some ⟨bm, 0, none⟩), .int .i64 (n : Int)] w fun e w' => e = .returned (.bool (squareB n R d)) ∧ w = w' := by
  have HM := hid hR
  obtain ⟨a, cap, rfl⟩ := hR.form
  have c0 := cellB (i := 0) hm
  have c1 := cellB (i := 1) hm
  have hlen : R.length ≤ maxLen := by
    rcases Nat.eq_zero_or_pos R.length with e | e
    · rw [e]; exact Nat.zero_le _
    · obtain ⟨_, _, _, _, _, h, _⟩ := hR
      obtain ⟨_, _, _, h, _⟩ := h e
      exact h
  unfold maxLen at hlen
  clear hm hR
  go_enter Try.func84, Try.ntmps84
  go_wp2_with fail
  go_loop [12] (fun si => ∃ K : Nat, si = .int .i64 K ∧ K ≤ R.length ∧ Hid (∀ k, k < K → rowB9 n (R.getD k []) = true)) (fun si => R.length - (intOf si).toNat)
  case atStart => exact ⟨0, rfl, by omega, hid (fun k hk => by omega)⟩
  case round =>
    obtain ⟨K, rfl, hK, HE⟩ := hrel
    by_cases hlt : K < R.length
    · obtain ⟨b, o, u, rfl, hc, hr⟩ := HM.out.row hlt
      have HNO : Hid (rowB9 n (R.getD K []) = false → squareB n R d = false) := hid (fun e => by
        unfold squareB
        rw [show R.all (rowB9 n) = false from by
          rw [List.all_eq_false]
          exact ⟨R.getD K [], by rw [List.getD_eq_getElem?_getD, List.getElem?_eq_getElem hlt]; exact List.getElem_mem _, by rw [e]; decide⟩]
        rfl)
      obtain ⟨xs, hxs⟩ : ∃ xs, xs = R.getD K [] := ⟨_, rfl⟩
      have HXS := hid hxs
      rw [← hxs] at hr HNO
      have HRX := hid hr
      obtain ⟨ar, cr, rfl, _⟩ := hr.form
      have hKi : (K : Int) < (R.length : Int) := by omega
      have HLT := hid hlt
      clear hr hxs hlt
      cases hb : rowB9 n xs with
      | false =>
        have HR := hid (HNO.out hb)
        have HB : Hid ((inAll xs 1000000 && decide ((xs.length : Int) = (n : Int))) = false) := hid hb
        clear hb
        go_wp2_with (go_at_call 57; refine (vectorWithin_any _ xs _ _ (by omega) (by omega) _ HRX.out).mono ?_; rw [HB.out]; rintro e w' ⟨rfl, rfl⟩)
        go_ret
        exact ⟨retB HR.out.symm, rfl⟩
      | true =>
        have HB : Hid ((inAll xs 1000000 && decide ((xs.length : Int) = (n : Int))) = true) := hid hb
        have HB2 := hid hb
        clear hb
        go_wp2_with (go_at_call 57; refine (vectorWithin_any _ xs _ _ (by omega) (by omega) _ HRX.out).mono ?_; rw [HB.out]; rintro e w' ⟨rfl, rfl⟩)
        go_round
        case measure => simp only [intOf]; have := HLT.out; omega
        case rel => exact ⟨K + 1, by go_num, HLT.out, hid (fun k hk => by
          by_cases e : k = K
          · rw [e, ← HXS.out]; exact HB2.out
          · exact HE.out k (by omega))⟩
    · obtain rfl : K = R.length := by omega
      have HA : Hid (squareB n R d = (decide ((R.length : Int) = (n : Int)) && (decide (1 ≤ d) && decide (d ≤ 10000)))) := hid (by
        unfold squareB
        rw [show R.all (rowB9 n) = true from List.all_eq_true.2 fun r hr => by
          obtain ⟨i, hi, rfl⟩ := List.getElem_of_mem hr
          have := HE.out i hi
          rwa [List.getD_eq_getElem?_getD, List.getElem?_eq_getElem hi] at this, Bool.true_and])
      clear hlt
      by_cases h1 : (R.length : Int) = (n : Int)
      · have T : ((R.length : Int) == (n : Int)) = true := by rw [beq_iff_eq]; exact h1
        have D1 := hid (decide_eq_true h1)
        clear h1
        by_cases h2 : 1 ≤ d
        · by_cases h3 : d ≤ 10000
          · have HF : Hid (squareB n R d = true) := hid (by rw [HA.out, D1.out, decide_eq_true h2, decide_eq_true h3]; rfl)
            go_wp2_with fail
            go_ret
            exact ⟨retB HF.out.symm, rfl⟩
          · have HF : Hid (squareB n R d = false) := hid (by rw [HA.out, D1.out, decide_eq_true h2, decide_eq_false h3]; rfl)
            go_wp2_with fail
            go_ret
            exact ⟨retB (by rw [HF.out]), rfl⟩
        · have HF : Hid (squareB n R d = false) := hid (by rw [HA.out, D1.out, decide_eq_false h2]; rfl)
          go_wp2_with fail
          go_ret
          exact ⟨retB (by rw [HF.out]), rfl⟩
      · have T : ((R.length : Int) == (n : Int)) = false := beq_eq_false_iff_ne.2 h1
        have HF : Hid (squareB n R d = false) := hid (by rw [HA.out, decide_eq_false h1]; rfl)
        clear h1
        go_wp2_with fail
        go_ret
        exact ⟨retB HF.out.symm, rfl⟩

set_option maxRecDepth 100000 in
set_option maxHeartbeats 2000000 in
theorem lowest_any (bm n : Nat) (va : Value) (R : List (List Int)) (d : Int) (w : World) (hm : MvAt w bm va d) (hR : RdM w va R) (hs : Sq n R) (hn1 : 1 ≤ n) (hn3 : n ≤ 3) (hb : ∀ r ∈ R, ∀ x ∈ r, -1000000 ≤ x ∧ x ≤ 1000000) (d1 : 1 ≤ d) (d2 : d ≤ 10000) :
    Calls Try.prog 85 #[.pointer (some ⟨bm, 0, none⟩)] w fun e w' => e = .returned (.bool (decide (gcdL (d :: R.flatten) = 1))) ∧ Below w.heap.size w w' := by
  have HC := hid (fun w h => concatM_any va R n w h hs hn1 hn3)
  have HM := hid hR
  obtain ⟨a, cap, rfl⟩ := hR.form
  have c0 := cellB (i := 0) hm
  have c1 := cellB (i := 1) hm
  have hfl := flat_len (n := n) R hs.2
  have hfl9 : R.flatten.length ≤ 9 := by rw [hfl, hs.1]; exact Nat.mul_le_mul hn3 hn3
  obtain ⟨F, hF⟩ : ∃ F, F = R.flatten := ⟨_, rfl⟩
  have HBD : Hid (∀ x ∈ F, -1000000 ≤ x ∧ x ≤ 1000000) := hid (fun x hx => by
    rw [hF] at hx
    obtain ⟨r, hr, hx⟩ := List.mem_flatten.1 hx
    exact hb r hr x hx)
  rw [← hF] at HC hfl9 ⊢
  clear hm hR hs hb hfl hF
  go_enter Try.func85, Try.ntmps85
  go_wp2_with fail
  refine (HC.out _ HM.out).mono ?_
  rintro e w2 ⟨u, rfl, ho, hb2⟩
  have HRF := hid ho.rd
  have HB2 := hid hb2
  obtain ⟨au, cu, rfl⟩ := ho.reads
  clear ho hb2
  go_wp2_with fail
  go_loopw [3, 16] (fun so si wr => ∃ (K g k : Nat), si = .int .i64 K ∧ K ≤ F.length ∧ so = .int .i64 (g : Int) ∧ g ≤ 10000 ∧ Hid (g = gcdL (d :: F.take K)) ∧ wr = w2.drewN k) (fun _ si _ => F.length - (intOf si).toNat)
  case atStart => exact ⟨0, d.natAbs, 0, rfl, by omega, vI (by omega), by omega, hid (gcd_single d).symm, rfl⟩
  case round =>
    obtain ⟨K, g, k, rfl, hK, rfl, hg, HG, rfl⟩ := hrel
    by_cases hlt : K < F.length
    · obtain ⟨b, o, c, e, hc⟩ := rd_cells (HRF.out.keep (below_drewN (Below.refl _ w2) k)) (by omega)
      cases e
      have c2 := hc K hlt
      have hx := HBD.out (F.getD K 0) (by rw [getD_at _ _ hlt]; exact List.getElem_mem _)
      have HGN : Hid (gcdL (d :: F.take (K + 1)) = Nat.gcd g (F.getD K 0).natAbs) := hid (by rw [takeD_snoc hlt, gcd_snoc2, ← HG.out])
      obtain ⟨x, hxe⟩ : ∃ x, x = F.getD K 0 := ⟨_, rfl⟩
      rw [← hxe] at c2 hx HGN
      have hgl : Nat.gcd g x.natAbs ≤ 10000 := by
        rcases Nat.eq_zero_or_pos g with e | e
        · have : gcdL (d :: F.take K) ≠ 0 := by
            have := gcdL_pos (vs := d :: F.take K) ⟨d, List.mem_cons_self .., by omega⟩
            omega
          exact absurd (HG.out.symm.trans e) this
        · exact Nat.le_trans (Nat.gcd_le_left _ e) hg
      have x1 := hx.1
      have x2 := hx.2
      have hKi : (K : Int) < (F.length : Int) := by omega
      have HLT := hid hlt
      have eg : ((g : Int).natAbs) = g := Int.natAbs_natCast g
      clear hc hxe hx hlt
      go_wp2_with (go_at_call 94; refine (commonG_any _ _ (by omega) (by omega) (by omega) (by omega) _).mono ?_; rw [eg]; rintro e w' ⟨rfl, k2, rfl⟩)
      go_roundw
      case measure => simp only [intOf]; have := HLT.out; omega
      case rel => exact ⟨K + 1, _, _, by go_num, HLT.out, rfl, hgl, hid HGN.out.symm, by first | rfl | exact World.drewN_drewN ..⟩
    · obtain rfl : K = F.length := by omega
      have HE : Hid (g = gcdL (d :: F)) := hid (by rw [HG.out, List.take_length])
      clear hlt
      by_cases h1 : g = 1
      · have T : ((g : Int) == 1) = true := by rw [beq_iff_eq]; omega
        have HD : Hid (decide (gcdL (d :: F) = 1) = true) := hid (decide_eq_true (by rw [← HE.out]; exact h1))
        clear h1
        go_wp2_with fail
        go_ret
        exact ⟨retB HD.out.symm, below_drewN HB2.out _⟩
      · have T : ((g : Int) == 1) = false := beq_eq_false_iff_ne.2 (by omega)
        have HD : Hid (decide (gcdL (d :: F) = 1) = false) := hid (decide_eq_false (by rw [← HE.out]; exact h1))
        clear h1
        go_wp2_with fail
        go_ret
        exact ⟨retB HD.out.symm, below_drewN HB2.out _⟩

end Go.Proofs.Ytjabklpnohfjpab

/-! MpN -/
set_option linter.unusedVariables false
namespace Go.Proofs.Ytjabklpnohfjpab
open Go.RowKit

set_option maxRecDepth 100000 in
set_option maxHeartbeats 2000000 in
theorem image_any (bm n i : Nat) (va : Value) (R : List (List Int)) (d : Int) (w : World) (hm : MvAt w bm va d) (hR : RdM w va R) (hs : Sq n R) (hi : i < n) (hn3 : n ≤ 3) :
    Calls Try.prog 79 #[.pointer (some ⟨bm, 0, none⟩), .int .i64 (i : Int)] w fun e w' => ∃ u, e = .returned u ∧ Owns w' w.heap.size u (rowL n (fun r => at2 R r i)) ∧ Below w.heap.size w w' := by
  obtain ⟨i0, hi0, hz0, hz1, hz2⟩ := info_parts infoInt
  have HM := hid hR
  have HS := hid hs
  obtain ⟨a, cap, rfl⟩ := hR.form
  rw [hs.1] at hm HM
  have hbl : Below w.heap.size w (w.alloc (.cells #[] 3)) := (Below.refl _ _).alloc (Nat.le_refl _) _
  have hm2 := heap_below hbl hm
  have c0 := cellB (i := 0) hm2
  have HB0 := hid hbl
  have HO0 : Hid (Owns (w.alloc (.cells #[] 3)) w.heap.size (.slice (some ⟨w.heap.size, 0, none⟩) 0 0) []) := hid (World.ownsRow_made (size := 1) w #[] 0 (Nat.le_refl _) (by unfold maxLen; omega) rfl)
  have hi2 : (i : Int) < (n : Int) := by omega
  have HI := hid hi
  clear hm hR hs hbl hm2 hi
  go_enter Try.func79, Try.ntmps79
  go_wp2_with fail
  go_loopw [5, 14] (fun so si wr => ∃ K : Nat, si = .int .i64 K ∧ K ≤ n ∧ Hid (Owns wr w.heap.size so ((rowL n (fun r => at2 R r i)).take K)) ∧ Hid (Below w.heap.size w wr)) (fun _ si _ => n - (intOf si).toNat)
  case atStart => exact ⟨0, rfl, by omega, hid (by simpa using HO0.out), HB0⟩
  case round =>
    obtain ⟨K, rfl, hK, HO, HB⟩ := hrel
    rename World => wr
    by_cases hlt : K < n
    · have hRK := HM.out.keep HB.out
      obtain ⟨b, o, u9, e, hc9, hr9⟩ := RdM.row (R := R) (a := a) (n := n) (cap := cap) hRK (i := K) (by rw [HS.out.1]; exact hlt)
      subst e
      clear hc9 hr9
      obtain ⟨b2, o2, c2, e1, e2⟩ := row_cells (m := n) (n := n) (cap := cap) hRK (t := K) (by rw [HS.out.1]; exact hlt) (by omega) (HS.out.2 _ (by rw [List.getD_eq_getElem?_getD, List.getElem?_eq_getElem (by rw [HS.out.1]; exact hlt)]; exact List.getElem_mem _))
      have e3 := e2 i HI.out
      have HTK := hid (rowL_take n (fun r => at2 R r i) hlt)
      obtain ⟨x, hx⟩ : ∃ x, x = at2 R K i := ⟨_, rfl⟩
      rw [← hx] at e3 HTK
      obtain ⟨pre, hpre⟩ : ∃ pre, pre = (rowL n (fun r => at2 R r i)).take K := ⟨_, rfl⟩
      have hprel : pre.length ≤ 4 := by rw [hpre, List.length_take, row_len]; omega
      rw [← hpre] at HO HTK
      have hKi : (K : Int) < (n : Int) := by omega
      have HLT := hid hlt
      have hbs : w.heap.size ≤ wr.heap.size := HB.out.size
      have hi := hi0
      clear e2 hx hpre hRK hlt
      go_wp2_with (at_builtin; refine wpList_append_own_at _ rfl _ _ 22 rfl w.heap.size 3 i0 (.int .i64 0) 1 8 Try.underlying22 hi hz0 hz1 hz2 rfl (by decide) _ _ _ rfl ((show World.ownsRow _ _ _ _ _ _ _ from HO.out).alloc _) ⟨wr.heap.size, 0, none⟩ 1 1 [.int .i64 x] rfl rfl (cell_one_new _ _ _) (by simp [Value.oneCell']) (by unfold maxLen; omega) (by omega) (by simp; omega) ?_; intro v' w3 hown' hgrow _ hat)
      have hsg := hgrow.size
      simp only [World.size_alloc] at hsg
      go_roundw
      case measure => simp only [intOf]; have := HLT.out; omega
      case rel =>
        refine ⟨K + 1, by go_num, HLT.out, hid ?_, hid (HB.out.alloc hbs _ |>.grown hgrow (by simp; omega) (fun k e => (HO.out.ge k e)))⟩
        rw [HTK.out]
        unfold Owns
        simpa using hown'
    · obtain rfl : K = n := by omega
      have HE : Hid ((rowL K (fun r => at2 R r i)).take K = rowL K (fun r => at2 R r i)) := hid (List.take_of_length_le (by rw [row_len]; exact Nat.le_refl _))
      clear hlt
      go_wp2_with fail
      go_ret
      exact ⟨_, rfl, by rw [← HE.out]; exact HO.out, HB.out⟩

set_option maxRecDepth 100000 in
set_option maxHeartbeats 2000000 in
theorem axis_any (bm n i : Nat) (va : Value) (R : List (List Int)) (d : Int) (w : World) (hm : MvAt w bm va d) (hR : RdM w va R) (hs : Sq n R) (hi : i < n) (hn3 : n ≤ 3) :
    Calls Try.prog 80 #[.pointer (some ⟨bm, 0, none⟩), .int .i64 (i : Int)] w fun e w' => ∃ u, e = .returned u ∧ Owns w' w.heap.size u (rowL n (fun r => if r = i then d else 0)) ∧ Below w.heap.size w w' := by
  obtain ⟨i0, hi0, hz0, hz1, hz2⟩ := info_parts infoInt
  obtain ⟨a, cap, rfl⟩ := hR.form
  rw [hs.1] at hm
  have hz := zero_row n (by omega) w
  have hbl : Below w.heap.size w (w.alloc (.cells (madeCells #[.int .i64 0] n) 3)) := (Below.refl _ _).alloc (Nat.le_refl _) _
  have hm2 := heap_below hbl hm
  have c0 := cellB (i := 0) hm
  have c1 := cellB (i := 1) hm2
  have hc : (w.alloc (.cells (madeCells #[.int .i64 0] n) 3)).cell? ⟨w.heap.size, i, none⟩ = some (.int .i64 ((List.replicate n (0 : Int)).getD i 0)) := hz.elem (by rw [List.length_replicate]; exact hi)
  have hf := hz.thaw i
  obtain ⟨hst, hgr⟩ := hz.storeAt i d
  rw [unit_row hi] at hst
  rw [World.setCell_alloc_new] at hst
  have HST := hid hst
  have HBE : Hid (Below w.heap.size w (w.alloc (.cells ((madeCells #[.int .i64 0] n).setIfInBounds i (.int .i64 d)) 3))) := hid ((Below.refl _ _).alloc (Nat.le_refl _) _)
  have hi2 : (i : Int) < (n : Int) := by omega
  clear hm hR hs hbl hm2 hst hgr hz hi
  go_enter Try.func80, Try.ntmps80
  go_wp2_with (at_make; refine wpList_make_row _ rfl _ _ 22 rfl 3 i0 (.int .i64 0) Try.underlying22 hi0 hz0 hz1 rfl .i64 .i64 n rfl rfl (by rw [hz2]; omega) (by omega) ?_)
  go_ret
  exact ⟨_, rfl, HST.out, HBE.out⟩

end Go.Proofs.Ytjabklpnohfjpab

/-! MpO -/
set_option linter.unusedVariables false
namespace Go.Proofs.Ytjabklpnohfjpab
open Go.RowKit

theorem pair_image {xs : List Int} {R : List (List Int)} {n i k : Nat} (hn : n = xs.length) : pairI xs (rowL n (fun r => at2 R r i)) (rowL n (fun r => at2 R r k)) xs.length = sumF (fun r => fF xs r * at2 R r i * at2 R r k) xs.length := by
  rw [pair_pr]
  exact sumF_congr fun r hr => by rw [row_at (by omega), row_at (by omega)]
theorem pair_axis {xs : List Int} {d : Int} {n i k : Nat} (hn : n = xs.length) (hi : i < n) : pairI xs (rowL n (fun r => if r = i then d else 0)) (rowL n (fun r => if r = k then d else 0)) xs.length = if i = k then fF xs i * d * d else 0 := by
  rw [pair_pr]
  have e : prF (fF xs) xs.length (fF (rowL n (fun r => if r = i then d else 0))) (fF (rowL n (fun r => if r = k then d else 0))) = sumF (fun r => if r = i then (if i = k then fF xs i * d * d else 0) else 0) xs.length := by
    refine sumF_congr fun r hr => ?_
    rw [row_at (by omega), row_at (by omega)]
    by_cases h : r = i
    · subst h
      rw [if_pos rfl, if_pos rfl]
      split
      · rfl
      · exact Int.mul_zero _
    · rw [if_neg h, if_neg h, Int.mul_zero, Int.zero_mul]
  rw [e, sumF_one (by omega)]
theorem vec6_image {R : List (List Int)} {n i : Nat} (hb : ∀ i k, -1000000 ≤ at2 R i k ∧ at2 R i k ≤ 1000000) : Vec6 (rowL n (fun r => at2 R r i)) := fun v hv => by
  obtain ⟨r, _, rfl⟩ := List.mem_map.1 hv
  exact hb r i
theorem vec6_axis {n i : Nat} {d : Int} (d1 : 1 ≤ d) (d2 : d ≤ 10000) : Vec6 (rowL n (fun r => if r = i then d else 0)) := fun v hv => by
  obtain ⟨r, _, rfl⟩ := List.mem_map.1 hv
  split <;> omega

set_option maxRecDepth 100000 in
set_option maxHeartbeats 4000000 in
theorem keeps_any (bm : Nat) (va vf : Value) (xs : List Int) (R : List (List Int)) (d : Int) (w : World) (hm : MvAt w bm va d) (hR : RdM w va R) (hx : Rd w vf xs) (hs : Sq xs.length R) (hf : fvB xs = true) (h3 : xs.length ≤ 3) (hb : ∀ i k, -1000000 ≤ at2 R i k ∧ at2 R i k ≤ 1000000) (d1 : 1 ≤ d) (d2 : d ≤ 10000) :
    Calls Try.prog 86 #[.pointer (some ⟨bm, 0, none⟩), vf] w fun e w' => e = .returned (.bool (orthB xs R d)) ∧ Below w.heap.size w w' := by
  have HIM := hid (fun (i : Nat) (hi : i < xs.length) (w' : World) (h : Below w.heap.size w w') => image_any bm xs.length i va R d w' (hm.keep h) (hR.keep h) hs hi h3)
  have HAX := hid (fun (i : Nat) (hi : i < xs.length) (w' : World) (h : Below w.heap.size w w') => axis_any bm xs.length i va R d w' (hm.keep h) (hR.keep h) hs hi h3)
  have HPI := hid (fun (va vb : Value) (i k : Nat) (w' : World) (h : Below w.heap.size w w') (ha : Rd w' va (rowL xs.length (fun r => at2 R r i))) (hb' : Rd w' vb (rowL xs.length (fun r => at2 R r k))) => pairAt_any vf va vb xs _ _ w' (hx.keep h) ha hb' hf (vec6_image hb) (vec6_image hb) (row_len _ _) (row_len _ _))
  have HPA := hid (fun (va vb : Value) (i k : Nat) (w' : World) (h : Below w.heap.size w w') (ha : Rd w' va (rowL xs.length (fun r => if r = i then d else 0))) (hb' : Rd w' vb (rowL xs.length (fun r => if r = k then d else 0))) => pairAt_any vf va vb xs _ _ w' (hx.keep h) ha hb' hf (vec6_axis d1 d2) (vec6_axis d1 d2) (row_len _ _) (row_len _ _))
  obtain ⟨ax, cx, rfl, _⟩ := hx.form
  clear hm hR hx hs hf hb
  go_enter Try.func86, Try.ntmps86
  go_wp2_with fail
  go_loopw [9] (fun si wr => ∃ i : Nat, si = .int .i64 (i : Int) ∧ i ≤ xs.length ∧ Hid (∀ a, a < i → ∀ b, b < xs.length → prP xs R d a b) ∧ Hid (Below w.heap.size w wr)) (fun si _ => xs.length - (intOf si).toNat)
  case atStart => exact ⟨0, rfl, by omega, hid (fun a ha => by omega), hid (Below.refl _ _)⟩
  case round =>
    obtain ⟨i, rfl, hi, HE, HB⟩ := hrel
    rename World => wr
    by_cases hlt : i < xs.length
    · have hii : (i : Int) < (xs.length : Int) := by omega
      have HLT := hid hlt
      clear hlt
      go_wp2_with fail
      go_loopw [14] (fun si wr => ∃ j : Nat, si = .int .i64 (j : Int) ∧ j ≤ xs.length ∧ Hid (∀ b, b < j → prP xs R d i b) ∧ Hid (Below w.heap.size w wr)) (fun si _ => xs.length - (intOf si).toNat)
      case atStart => exact ⟨0, rfl, by omega, hid (fun a ha => by omega), HB⟩
      case round =>
        obtain ⟨j, rfl, hj, HE2, HB⟩ := hrel
        rename World => wr
        by_cases hlj : j < xs.length
        · have hjj : (j : Int) < (xs.length : Int) := by omega
          have HLJ := hid hlj
          have e1 := pair_image (xs := xs) (R := R) (i := i) (k := j) rfl
          have e2 := pair_axis (xs := xs) (d := d) (i := i) (k := j) rfl HLT.out
          obtain ⟨P, hP⟩ : ∃ P, P = pairI xs (rowL xs.length (fun r => at2 R r i)) (rowL xs.length (fun r => at2 R r j)) xs.length := ⟨_, rfl⟩
          obtain ⟨Q, hQ⟩ : ∃ Q, Q = pairI xs (rowL xs.length (fun r => if r = i then d else 0)) (rowL xs.length (fun r => if r = j then d else 0)) xs.length := ⟨_, rfl⟩
          have HPe := hid hP.symm
          have HQe := hid hQ.symm
          have HPR : Hid (prP xs R d i j ↔ P = Q) := hid (by
            rw [hP, hQ, e1, e2]
            exact Iff.rfl)
          clear e1 e2 hP hQ hlj
          go_wp2_with fail
          refine (HIM.out i HLT.out _ HB.out).mono ?_
          rintro e w1 ⟨u1, rfl, o1, b1⟩
          have HB1 := hid (HB.out.trans (b1.mono HB.out.size))
          have O1 := hid o1.rd
          obtain ⟨a1, c1, rfl⟩ := o1.reads
          clear o1 b1
          go_wp2_with fail
          refine (HIM.out j HLJ.out _ HB1.out).mono ?_
          rintro e w2 ⟨u2, rfl, o2, b2⟩
          have HB2 := hid (HB1.out.trans (b2.mono HB1.out.size))
          have O12 := hid (O1.out.keep b2)
          have O2 := hid o2.rd
          obtain ⟨a2, c2, rfl⟩ := o2.reads
          clear o2 b2
          go_wp2_with fail
          refine (HPI.out _ _ i j _ HB2.out O12.out O2.out).mono ?_
          rw [HPe.out]
          rintro e w3 ⟨rfl, k3, rfl⟩
          have HB3 := hid (below_drewN HB2.out k3)
          go_wp2_with fail
          refine (HAX.out i HLT.out _ HB3.out).mono ?_
          rintro e w4 ⟨u4, rfl, o4, b4⟩
          have HB4 := hid (HB3.out.trans (b4.mono HB3.out.size))
          have O4 := hid o4.rd
          obtain ⟨a4, c4, rfl⟩ := o4.reads
          clear o4 b4
          go_wp2_with fail
          refine (HAX.out j HLJ.out _ HB4.out).mono ?_
          rintro e w5 ⟨u5, rfl, o5, b5⟩
          have HB5 := hid (HB4.out.trans (b5.mono HB4.out.size))
          have O45 := hid (O4.out.keep b5)
          have O5 := hid o5.rd
          obtain ⟨a5, c5, rfl⟩ := o5.reads
          clear o5 b5
          go_wp2_with fail
          refine (HPA.out _ _ i j _ HB5.out O45.out O5.out).mono ?_
          rw [HQe.out]
          rintro e w6 ⟨rfl, k6, rfl⟩
          have HB6 := hid (below_drewN HB5.out k6)
          by_cases hpq : P = Q
          · have T : (P != Q) = false := by rw [bne_eq_false_iff_eq]; exact hpq
            have HY := hid (HPR.out.2 hpq)
            clear hpq
            go_wp2_with fail
            go_roundw
            case measure => simp only [intOf]; have := HLJ.out; omega
            case rel => exact ⟨j + 1, by go_num, HLJ.out, hid (fun b hb => by
              by_cases e : b = j
              · rw [e]; exact HY.out
              · exact HE2.out b (by omega)), HB6⟩
          · have T : (P != Q) = true := by rw [bne_iff_ne]; exact hpq
            have HN : Hid (orthB xs R d = false) := hid (by
              cases ho : orthB xs R d with
              | false => rfl
              | true =>
                refine absurd (HPR.out.1 ?_) hpq
                have := List.all_eq_true.1 (List.all_eq_true.1 ho i (List.mem_range.2 HLT.out)) j (List.mem_range.2 HLJ.out)
                exact (of_decide_eq_true this : sumF (fun r => fF xs r * at2 R r i * at2 R r j) xs.length = if i = j then fF xs i * d * d else 0))
            clear hpq
            go_wp2_with fail
            go_ret
            exact ⟨retB HN.out.symm, HB6.out⟩
        · obtain rfl : j = xs.length := by omega
          clear hlj
          go_wp2_with fail
          go_roundw
          case measure => simp only [intOf]; have := HLT.out; omega
          case rel => exact ⟨i + 1, by go_num, HLT.out, hid (fun a ha b hb => by
            by_cases e : a = i
            · rw [e]; exact HE2.out b hb
            · exact HE.out a (by omega) b hb), HB⟩
    · obtain rfl : i = xs.length := by omega
      have HY : Hid (orthB xs R d = true) := hid (List.all_eq_true.2 fun a ha => List.all_eq_true.2 fun b hb => decide_eq_true (HE.out a (List.mem_range.1 ha) b (List.mem_range.1 hb)))
      clear hlt
      go_wp2_with fail
      go_ret
      exact ⟨retB HY.out.symm, HB.out⟩

theorem move_parts (xs : List Int) (R : List (List Int)) (d : Int) : moveB xs R d = (frm3B xs && (squareB xs.length R d && (decide (gcdL (d :: R.flatten) = 1) && orthB xs R d))) := by
  rw [Bool.eq_iff_iff]
  unfold moveB shapeB squareB rowB9 inAll
  simp only [Bool.and_eq_true, List.all_eq_true, decide_eq_true_eq, inR_iff9]
  constructor
  · rintro ⟨⟨h1, h2, h3, h4, h5⟩, h6⟩
    exact ⟨h1, ⟨fun r hr => ⟨(h4 r hr).2, by have := (h4 r hr).1; omega⟩, by omega, h3.1, h3.2⟩, h5, h6⟩
  · rintro ⟨h1, ⟨h2, h3, h4, h5⟩, h6, h7⟩
    exact ⟨⟨h1, by omega, ⟨h4, h5⟩, fun r hr => ⟨by have := (h2 r hr).2; omega, (h2 r hr).1⟩, h6⟩, h7⟩
theorem square_ok {n : Nat} {R : List (List Int)} {d : Int} (h : squareB n R d = true) : Sq n R ∧ (∀ r ∈ R, ∀ x ∈ r, -1000000 ≤ x ∧ x ≤ 1000000) ∧ 1 ≤ d ∧ d ≤ 10000 := by
  unfold squareB rowB9 inAll at h
  simp only [Bool.and_eq_true, List.all_eq_true, decide_eq_true_eq, inR_iff9] at h
  exact ⟨⟨by have := h.2.1; omega, fun r hr => by have := (h.1 r hr).2; omega⟩, fun r hr x hx => (h.1 r hr).1 x hx, h.2.2.1, h.2.2.2⟩
theorem at2_bd {R : List (List Int)} (h : ∀ r ∈ R, ∀ x ∈ r, -1000000 ≤ x ∧ x ≤ 1000000) (i k : Nat) : -1000000 ≤ at2 R i k ∧ at2 R i k ≤ 1000000 := by
  unfold at2
  rcases Nat.lt_or_ge i R.length with hi | hi
  · rw [List.getD_eq_getElem?_getD (l := R), List.getElem?_eq_getElem hi]
    simp only [Option.getD_some]
    rcases Nat.lt_or_ge k R[i].length with hk | hk
    · rw [getD_at _ _ hk]
      exact h _ (List.getElem_mem hi) _ (List.getElem_mem hk)
    · rw [List.getD_eq_getElem?_getD, List.getElem?_eq_none hk]; simp
  · rw [List.getD_eq_getElem?_getD (l := R), List.getElem?_eq_none hi]; simp
set_option maxRecDepth 100000 in
set_option maxHeartbeats 4000000 in
theorem valid9_any (bm : Nat) (va vf : Value) (xs : List Int) (R : List (List Int)) (d : Int) (w : World) (hm : MvAt w bm va d) (hR : RdM w va R) (hx : Rd w vf xs) :
    Calls Try.prog 48 #[.pointer (some ⟨bm, 0, none⟩), vf] w fun e w' => e = .returned (.bool (moveB xs R d)) ∧ Below w.heap.size w w' := by
  have HMP := hid (move_parts xs R d)
  have HX := hid hx
  have HSQ := hid (square_any bm xs.length va R d w hm hR)
  have HLO := hid (fun n h => lowest_any bm n va R d w hm hR h)
  have HKE := hid (fun w' h => keeps_any bm va vf xs R d w' (hm.keep h) (hR.keep h) (hx.keep h))
  obtain ⟨ax, cx, rfl, _⟩ := hx.form
  clear hm hR hx
  cases h1 : frm3B xs with
  | false =>
    have H1 := hid h1
    have HE : Hid (moveB xs R d = false) := hid (by rw [HMP.out, h1]; rfl)
    clear h1
    go_enter Try.func48, Try.ntmps48
    go_wp2_with (go_at_call 51; refine (movable_any _ xs _ HX.out).mono ?_; rw [H1.out]; rintro e w' ⟨rfl, rfl⟩)
    go_ret
    exact ⟨retB HE.out.symm, Below.refl _ _⟩
  | true =>
    have H1 := hid h1
    have hf2 : fvB xs = true ∧ xs.length ≤ 3 := by unfold frm3B at h1; rwa [Bool.and_eq_true, decide_eq_true_eq] at h1
    have hn1 := (fvB_iff.1 hf2.1).2.1
    cases h2 : squareB xs.length R d with
    | false =>
      have H2 := hid h2
      have HE : Hid (moveB xs R d = false) := hid (by rw [HMP.out, h1, h2]; rfl)
      clear h1 h2 hf2
      go_enter Try.func48, Try.ntmps48
      go_wp2_with (first | (go_at_call 51; refine (movable_any _ xs _ HX.out).mono ?_; rw [H1.out]; rintro e w' ⟨rfl, rfl⟩) | (go_at_call 84; refine HSQ.out.mono ?_; rw [H2.out]; rintro e w' ⟨rfl, rfl⟩))
      go_ret
      exact ⟨retB HE.out.symm, Below.refl _ _⟩
    | true =>
      have H2 := hid h2
      obtain ⟨q1, q2, q3, q4⟩ := square_ok h2
      have HL := hid (HLO.out _ q1 hn1 hf2.2 q2 q3 q4)
      have HK := hid (fun w' h => HKE.out w' h q1 hf2.1 hf2.2 (at2_bd q2) q3 q4)
      cases h4 : decide (gcdL (d :: R.flatten) = 1) with
      | false =>
        have HE : Hid (moveB xs R d = false) := hid (by rw [HMP.out, h1, h2, h4]; rfl)
        rw [h4] at HL
        clear h1 h2 hf2 h4 q1 q2 q3 q4
        go_enter Try.func48, Try.ntmps48
        go_wp2_with (first | (go_at_call 51; refine (movable_any _ xs _ HX.out).mono ?_; rw [H1.out]; rintro e w' ⟨rfl, rfl⟩) | (go_at_call 84; refine HSQ.out.mono ?_; rw [H2.out]; rintro e w' ⟨rfl, rfl⟩) | (go_at_call 85; refine HL.out.mono ?_; rintro e w2 ⟨rfl, hb2⟩; have HB2 := hid hb2; clear hb2))
        go_ret
        exact ⟨retB HE.out.symm, HB2.out⟩
      | true =>
        have HE : Hid (moveB xs R d = orthB xs R d) := hid (by rw [HMP.out, h1, h2, h4]; rfl)
        rw [h4] at HL
        obtain ⟨B, hB⟩ : ∃ B, B = orthB xs R d := ⟨_, rfl⟩
        rw [← hB] at HE HK
        clear h1 h2 hf2 h4 q1 q2 q3 q4 hB
        go_enter Try.func48, Try.ntmps48
        go_wp2_with (first | (go_at_call 51; refine (movable_any _ xs _ HX.out).mono ?_; rw [H1.out]; rintro e w' ⟨rfl, rfl⟩) | (go_at_call 84; refine HSQ.out.mono ?_; rw [H2.out]; rintro e w' ⟨rfl, rfl⟩) | (go_at_call 85; refine HL.out.mono ?_; rintro e w2 ⟨rfl, hb2⟩; have HB2 := hid hb2; clear hb2) | (go_at_call 86; refine (HK.out _ HB2.out).mono ?_; rintro e w3 ⟨rfl, hb3⟩; have HB3 := hid (HB2.out.trans (hb3.mono HB2.out.size)); clear hb3))
        go_ret
        exact ⟨retB HE.out.symm, HB3.out⟩

end Go.Proofs.Ytjabklpnohfjpab
