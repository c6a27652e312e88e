/-
  Contracts of the program's chapter 7: does a table keep the form, is it a move.
-/
import Derived.Test.YtacjejnbomdhbabMpN
set_option linter.unusedVariables false
namespace Go.Proofs.Ytacjejnbomdhbab
open Go.RowKit

theorem pair_image {xs : List Int} {R : List (List Int)} {n i k : Nat} (hn : n = xs.length) : pairI xs (rowL n (fun r => at2 R r i)) (rowL n (fun r => at2 R r k)) xs.length = sumF (fun r => fF xs r * at2 R r i * at2 R r k) xs.length := by
  rw [pair_pr]
  exact sumF_congr fun r hr => by rw [row_at (by omega), row_at (by omega)]
theorem pair_axis {xs : List Int} {d : Int} {n i k : Nat} (hn : n = xs.length) (hi : i < n) : pairI xs (rowL n (fun r => if r = i then d else 0)) (rowL n (fun r => if r = k then d else 0)) xs.length = if i = k then fF xs i * d * d else 0 := by
  rw [pair_pr]
  have e : prF (fF xs) xs.length (fF (rowL n (fun r => if r = i then d else 0))) (fF (rowL n (fun r => if r = k then d else 0))) = sumF (fun r => if r = i then (if i = k then fF xs i * d * d else 0) else 0) xs.length := by
    refine sumF_congr fun r hr => ?_
    rw [row_at (by omega), row_at (by omega)]
    by_cases h : r = i
    · subst h
      rw [if_pos rfl, if_pos rfl]
      split
      · rfl
      · exact Int.mul_zero _
    · rw [if_neg h, if_neg h, Int.mul_zero, Int.zero_mul]
  rw [e, sumF_one (by omega)]
theorem vec6_image {R : List (List Int)} {n i : Nat} (hb : ∀ i k, -1000000 ≤ at2 R i k ∧ at2 R i k ≤ 1000000) : Vec6 (rowL n (fun r => at2 R r i)) := fun v hv => by
  obtain ⟨r, _, rfl⟩ := List.mem_map.1 hv
  exact hb r i
theorem vec6_axis {n i : Nat} {d : Int} (d1 : 1 ≤ d) (d2 : d ≤ 10000) : Vec6 (rowL n (fun r => if r = i then d else 0)) := fun v hv => by
  obtain ⟨r, _, rfl⟩ := List.mem_map.1 hv
  split <;> omega

set_option maxRecDepth 100000 in
set_option maxHeartbeats 4000000 in
theorem keeps_any (bm : Nat) (va vf : Value) (xs : List Int) (R : List (List Int)) (d : Int) (w : World) (hm : MvAt w bm va d) (hR : RdM w va R) (hx : Rd w vf xs) (hs : Sq xs.length R) (hf : fvB xs = true) (h3 : xs.length ≤ 3) (hb : ∀ i k, -1000000 ≤ at2 R i k ∧ at2 R i k ≤ 1000000) (d1 : 1 ≤ d) (d2 : d ≤ 10000) :
    Calls Try.prog 86 #[.pointer (some ⟨bm, 0, none⟩), vf] w fun e w' => e = .returned (.bool (orthB xs R d)) ∧ Below w.heap.size w w' := by
  have HIM := hid (fun (i : Nat) (hi : i < xs.length) (w' : World) (h : Below w.heap.size w w') => image_any bm xs.length i va R d w' (hm.keep h) (hR.keep h) hs hi h3)
  have HAX := hid (fun (i : Nat) (hi : i < xs.length) (w' : World) (h : Below w.heap.size w w') => axis_any bm xs.length i va R d w' (hm.keep h) (hR.keep h) hs hi h3)
  have HPI := hid (fun (va vb : Value) (i k : Nat) (w' : World) (h : Below w.heap.size w w') (ha : Rd w' va (rowL xs.length (fun r => at2 R r i))) (hb' : Rd w' vb (rowL xs.length (fun r => at2 R r k))) => pairAt_any vf va vb xs _ _ w' (hx.keep h) ha hb' hf (vec6_image hb) (vec6_image hb) (row_len _ _) (row_len _ _))
  have HPA := hid (fun (va vb : Value) (i k : Nat) (w' : World) (h : Below w.heap.size w w') (ha : Rd w' va (rowL xs.length (fun r => if r = i then d else 0))) (hb' : Rd w' vb (rowL xs.length (fun r => if r = k then d else 0))) => pairAt_any vf va vb xs _ _ w' (hx.keep h) ha hb' hf (vec6_axis d1 d2) (vec6_axis d1 d2) (row_len _ _) (row_len _ _))
  obtain ⟨ax, cx, rfl, _⟩ := hx.form
  clear hm hR hx hs hf hb
  go_enter Try.func86, Try.ntmps86
  go_wp2_with fail
  go_loopw [9] (fun si wr => ∃ i : Nat, si = .int .i64 (i : Int) ∧ i ≤ xs.length ∧ Hid (∀ a, a < i → ∀ b, b < xs.length → prP xs R d a b) ∧ Hid (Below w.heap.size w wr)) (fun si _ => xs.length - (intOf si).toNat)
  case atStart => exact ⟨0, rfl, by omega, hid (fun a ha => by omega), hid (Below.refl _ _)⟩
  case round =>
    obtain ⟨i, rfl, hi, HE, HB⟩ := hrel
    rename World => wr
    by_cases hlt : i < xs.length
    · have hii : (i : Int) < (xs.length : Int) := by omega
      have HLT := hid hlt
      clear hlt
      go_wp2_with fail
      go_loopw [14] (fun si wr => ∃ j : Nat, si = .int .i64 (j : Int) ∧ j ≤ xs.length ∧ Hid (∀ b, b < j → prP xs R d i b) ∧ Hid (Below w.heap.size w wr)) (fun si _ => xs.length - (intOf si).toNat)
      case atStart => exact ⟨0, rfl, by omega, hid (fun a ha => by omega), HB⟩
      case round =>
        obtain ⟨j, rfl, hj, HE2, HB⟩ := hrel
        rename World => wr
        by_cases hlj : j < xs.length
        · have hjj : (j : Int) < (xs.length : Int) := by omega
          have HLJ := hid hlj
          have e1 := pair_image (xs := xs) (R := R) (i := i) (k := j) rfl
          have e2 := pair_axis (xs := xs) (d := d) (i := i) (k := j) rfl HLT.out
          obtain ⟨P, hP⟩ : ∃ P, P = pairI xs (rowL xs.length (fun r => at2 R r i)) (rowL xs.length (fun r => at2 R r j)) xs.length := ⟨_, rfl⟩
          obtain ⟨Q, hQ⟩ : ∃ Q, Q = pairI xs (rowL xs.length (fun r => if r = i then d else 0)) (rowL xs.length (fun r => if r = j then d else 0)) xs.length := ⟨_, rfl⟩
          have HPe := hid hP.symm
          have HQe := hid hQ.symm
          have HPR : Hid (prP xs R d i j ↔ P = Q) := hid (by
            rw [hP, hQ, e1, e2]
            exact Iff.rfl)
          clear e1 e2 hP hQ hlj
          go_wp2_with fail
          refine (HIM.out i HLT.out _ HB.out).mono ?_
          rintro e w1 ⟨u1, rfl, o1, b1⟩
          have HB1 := hid (HB.out.trans (b1.mono HB.out.size))
          have O1 := hid o1.rd
          obtain ⟨a1, c1, rfl⟩ := o1.reads
          clear o1 b1
          go_wp2_with fail
          refine (HIM.out j HLJ.out _ HB1.out).mono ?_
          rintro e w2 ⟨u2, rfl, o2, b2⟩
          have HB2 := hid (HB1.out.trans (b2.mono HB1.out.size))
          have O12 := hid (O1.out.keep b2)
          have O2 := hid o2.rd
          obtain ⟨a2, c2, rfl⟩ := o2.reads
          clear o2 b2
          go_wp2_with fail
          refine (HPI.out _ _ i j _ HB2.out O12.out O2.out).mono ?_
          rw [HPe.out]
          rintro e w3 ⟨rfl, k3, rfl⟩
          have HB3 := hid (below_drewN HB2.out k3)
          go_wp2_with fail
          refine (HAX.out i HLT.out _ HB3.out).mono ?_
          rintro e w4 ⟨u4, rfl, o4, b4⟩
          have HB4 := hid (HB3.out.trans (b4.mono HB3.out.size))
          have O4 := hid o4.rd
          obtain ⟨a4, c4, rfl⟩ := o4.reads
          clear o4 b4
          go_wp2_with fail
          refine (HAX.out j HLJ.out _ HB4.out).mono ?_
          rintro e w5 ⟨u5, rfl, o5, b5⟩
          have HB5 := hid (HB4.out.trans (b5.mono HB4.out.size))
          have O45 := hid (O4.out.keep b5)
          have O5 := hid o5.rd
          obtain ⟨a5, c5, rfl⟩ := o5.reads
          clear o5 b5
          go_wp2_with fail
          refine (HPA.out _ _ i j _ HB5.out O45.out O5.out).mono ?_
          rw [HQe.out]
          rintro e w6 ⟨rfl, k6, rfl⟩
          have HB6 := hid (below_drewN HB5.out k6)
          by_cases hpq : P = Q
          · have T : (P != Q) = false := by rw [bne_eq_false_iff_eq]; exact hpq
            have HY := hid (HPR.out.2 hpq)
            clear hpq
            go_wp2_with fail
            go_roundw
            case measure => simp only [intOf]; have := HLJ.out; omega
            case rel => exact ⟨j + 1, by go_num, HLJ.out, hid (fun b hb => by
              by_cases e : b = j
              · rw [e]; exact HY.out
              · exact HE2.out b (by omega)), HB6⟩
          · have T : (P != Q) = true := by rw [bne_iff_ne]; exact hpq
            have HN : Hid (orthB xs R d = false) := hid (by
              cases ho : orthB xs R d with
              | false => rfl
              | true =>
                refine absurd (HPR.out.1 ?_) hpq
                have := List.all_eq_true.1 (List.all_eq_true.1 ho i (List.mem_range.2 HLT.out)) j (List.mem_range.2 HLJ.out)
                exact (of_decide_eq_true this : sumF (fun r => fF xs r * at2 R r i * at2 R r j) xs.length = if i = j then fF xs i * d * d else 0))
            clear hpq
            go_wp2_with fail
            go_ret
            exact ⟨retB HN.out.symm, HB6.out⟩
        · obtain rfl : j = xs.length := by omega
          clear hlj
          go_wp2_with fail
          go_roundw
          case measure => simp only [intOf]; have := HLT.out; omega
          case rel => exact ⟨i + 1, by go_num, HLT.out, hid (fun a ha b hb => by
            by_cases e : a = i
            · rw [e]; exact HE2.out b hb
            · exact HE.out a (by omega) b hb), HB⟩
    · obtain rfl : i = xs.length := by omega
      have HY : Hid (orthB xs R d = true) := hid (List.all_eq_true.2 fun a ha => List.all_eq_true.2 fun b hb => decide_eq_true (HE.out a (List.mem_range.1 ha) b (List.mem_range.1 hb)))
      clear hlt
      go_wp2_with fail
      go_ret
      exact ⟨retB HY.out.symm, HB.out⟩

theorem move_parts (xs : List Int) (R : List (List Int)) (d : Int) : moveB xs R d = (frm3B xs && (squareB xs.length R d && (decide (gcdL (d :: R.flatten) = 1) && orthB xs R d))) := by
  rw [Bool.eq_iff_iff]
  unfold moveB shapeB squareB rowB9 inAll
  simp only [Bool.and_eq_true, List.all_eq_true, decide_eq_true_eq, inR_iff9]
  constructor
  · rintro ⟨⟨h1, h2, h3, h4, h5⟩, h6⟩
    exact ⟨h1, ⟨fun r hr => ⟨(h4 r hr).2, by have := (h4 r hr).1; omega⟩, by omega, h3.1, h3.2⟩, h5, h6⟩
  · rintro ⟨h1, ⟨h2, h3, h4, h5⟩, h6, h7⟩
    exact ⟨⟨h1, by omega, ⟨h4, h5⟩, fun r hr => ⟨by have := (h2 r hr).2; omega, (h2 r hr).1⟩, h6⟩, h7⟩
theorem square_ok {n : Nat} {R : List (List Int)} {d : Int} (h : squareB n R d = true) : Sq n R ∧ (∀ r ∈ R, ∀ x ∈ r, -1000000 ≤ x ∧ x ≤ 1000000) ∧ 1 ≤ d ∧ d ≤ 10000 := by
  unfold squareB rowB9 inAll at h
  simp only [Bool.and_eq_true, List.all_eq_true, decide_eq_true_eq, inR_iff9] at h
  exact ⟨⟨by have := h.2.1; omega, fun r hr => by have := (h.1 r hr).2; omega⟩, fun r hr x hx => (h.1 r hr).1 x hx, h.2.2.1, h.2.2.2⟩
theorem at2_bd {R : List (List Int)} (h : ∀ r ∈ R, ∀ x ∈ r, -1000000 ≤ x ∧ x ≤ 1000000) (i k : Nat) : -1000000 ≤ at2 R i k ∧ at2 R i k ≤ 1000000 := by
  unfold at2
  rcases Nat.lt_or_ge i R.length with hi | hi
  · rw [List.getD_eq_getElem?_getD (l := R), List.getElem?_eq_getElem hi]
    simp only [Option.getD_some]
    rcases Nat.lt_or_ge k R[i].length with hk | hk
    · rw [getD_at _ _ hk]
      exact h _ (List.getElem_mem hi) _ (List.getElem_mem hk)
    · rw [List.getD_eq_getElem?_getD, List.getElem?_eq_none hk]; simp
  · rw [List.getD_eq_getElem?_getD (l := R), List.getElem?_eq_none hi]; simp
set_option maxRecDepth 100000 in
set_option maxHeartbeats 4000000 in
theorem valid9_any (bm : Nat) (va vf : Value) (xs : List Int) (R : List (List Int)) (d : Int) (w : World) (hm : MvAt w bm va d) (hR : RdM w va R) (hx : Rd w vf xs) :
    Calls Try.prog 48 #[.pointer (some ⟨bm, 0, none⟩), vf] w fun e w' => e = .returned (.bool (moveB xs R d)) ∧ Below w.heap.size w w' := by
  have HMP := hid (move_parts xs R d)
  have HX := hid hx
  have HSQ := hid (square_any bm xs.length va R d w hm hR)
  have HLO := hid (fun n h => lowest_any bm n va R d w hm hR h)
  have HKE := hid (fun w' h => keeps_any bm va vf xs R d w' (hm.keep h) (hR.keep h) (hx.keep h))
  obtain ⟨ax, cx, rfl, _⟩ := hx.form
  clear hm hR hx
  cases h1 : frm3B xs with
  | false =>
    have H1 := hid h1
    have HE : Hid (moveB xs R d = false) := hid (by rw [HMP.out, h1]; rfl)
    clear h1
    go_enter Try.func48, Try.ntmps48
    go_wp2_with (go_at_call 51; refine (movable_any _ xs _ HX.out).mono ?_; rw [H1.out]; rintro e w' ⟨rfl, rfl⟩)
    go_ret
    exact ⟨retB HE.out.symm, Below.refl _ _⟩
  | true =>
    have H1 := hid h1
    have hf2 : fvB xs = true ∧ xs.length ≤ 3 := by unfold frm3B at h1; rwa [Bool.and_eq_true, decide_eq_true_eq] at h1
    have hn1 := (fvB_iff.1 hf2.1).2.1
    cases h2 : squareB xs.length R d with
    | false =>
      have H2 := hid h2
      have HE : Hid (moveB xs R d = false) := hid (by rw [HMP.out, h1, h2]; rfl)
      clear h1 h2 hf2
      go_enter Try.func48, Try.ntmps48
      go_wp2_with (first | (go_at_call 51; refine (movable_any _ xs _ HX.out).mono ?_; rw [H1.out]; rintro e w' ⟨rfl, rfl⟩) | (go_at_call 84; refine HSQ.out.mono ?_; rw [H2.out]; rintro e w' ⟨rfl, rfl⟩))
      go_ret
      exact ⟨retB HE.out.symm, Below.refl _ _⟩
    | true =>
      have H2 := hid h2
      obtain ⟨q1, q2, q3, q4⟩ := square_ok h2
      have HL := hid (HLO.out _ q1 hn1 hf2.2 q2 q3 q4)
      have HK := hid (fun w' h => HKE.out w' h q1 hf2.1 hf2.2 (at2_bd q2) q3 q4)
      cases h4 : decide (gcdL (d :: R.flatten) = 1) with
      | false =>
        have HE : Hid (moveB xs R d = false) := hid (by rw [HMP.out, h1, h2, h4]; rfl)
        rw [h4] at HL
        clear h1 h2 hf2 h4 q1 q2 q3 q4
        go_enter Try.func48, Try.ntmps48
        go_wp2_with (first | (go_at_call 51; refine (movable_any _ xs _ HX.out).mono ?_; rw [H1.out]; rintro e w' ⟨rfl, rfl⟩) | (go_at_call 84; refine HSQ.out.mono ?_; rw [H2.out]; rintro e w' ⟨rfl, rfl⟩) | (go_at_call 85; refine HL.out.mono ?_; rintro e w2 ⟨rfl, hb2⟩; have HB2 := hid hb2; clear hb2))
        go_ret
        exact ⟨retB HE.out.symm, HB2.out⟩
      | true =>
        have HE : Hid (moveB xs R d = orthB xs R d) := hid (by rw [HMP.out, h1, h2, h4]; rfl)
        rw [h4] at HL
        obtain ⟨B, hB⟩ : ∃ B, B = orthB xs R d := ⟨_, rfl⟩
        rw [← hB] at HE HK
        clear h1 h2 hf2 h4 q1 q2 q3 q4 hB
        go_enter Try.func48, Try.ntmps48
        go_wp2_with (first | (go_at_call 51; refine (movable_any _ xs _ HX.out).mono ?_; rw [H1.out]; rintro e w' ⟨rfl, rfl⟩) | (go_at_call 84; refine HSQ.out.mono ?_; rw [H2.out]; rintro e w' ⟨rfl, rfl⟩) | (go_at_call 85; refine HL.out.mono ?_; rintro e w2 ⟨rfl, hb2⟩; have HB2 := hid hb2; clear hb2) | (go_at_call 86; refine (HK.out _ HB2.out).mono ?_; rintro e w3 ⟨rfl, hb3⟩; have HB3 := hid (HB2.out.trans (hb3.mono HB2.out.size)); clear hb3))
        go_ret
        exact ⟨retB HE.out.symm, HB3.out⟩

end Go.Proofs.Ytacjejnbomdhbab
