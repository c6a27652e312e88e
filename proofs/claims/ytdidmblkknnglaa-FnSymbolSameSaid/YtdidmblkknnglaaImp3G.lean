/-
  Contracts of the program's chapter 3: the same symbols, split symbols.
-/
import Derived.Test.YtdidmblkknnglaaImp3C
import Derived.BigQuiet
set_option linter.unusedVariables false
namespace Go.Proofs.Ytdidmblkknnglaa
open Go.RowKit Go.Shelf
attribute [local go_sem] Oper.semAt_some

set_option maxRecDepth 100000 in
set_option maxHeartbeats 1000000 in
theorem slicesEq_any (va vb : Value) (X Y : List Int) (w3 : World) (hx : Rd w3 va X) (hy : Rd w3 vb Y) (hl1 : X.length ≤ 1000000000002) (hl2 : Y.length ≤ 1000000000002) :
    Calls Try.prog 79 #[va, vb] w3 fun e w' => e = .returned (.bool (decide (X = Y))) ∧ ∃ k, w' = w3.drewN k := by
  obtain ⟨ax, cx, rfl, hfx⟩ := hx.form
  obtain ⟨ay, cy, rfl, hfy⟩ := hy.form
  have HFX := hid hfx
  have HFY := hid hfy
  clear hfx hfy hx hy
  by_cases hl : X.length = Y.length
  · have T : ((X.length : Int) != (Y.length : Int)) = false := by rw [bne_eq_false_iff_eq]; omega
    have HL := hid hl
    clear hl
    go_enter Try.func79, Try.ntmps79
    go_wp2
    go_loopw [13] (fun si wr => ∃ K k : Nat, si = .int .i64 K ∧ K ≤ X.length ∧ Hid (∀ j, j < K → X.getD j 0 = Y.getD j 0) ∧ wr = w3.drewN k) (fun si _ => X.length - (intOf si).toNat)
    case atStart => exact ⟨0, 0, rfl, by omega, hid (fun j hj => absurd hj (by omega)), rfl⟩
    case round =>
      obtain ⟨K, k, rfl, hK, HE, rfl⟩ := hrel
      by_cases hlt : K < X.length
      · obtain ⟨b1, o1, rfl, m1, hc1⟩ := HFX.out (by omega)
        obtain ⟨b2, o2, rfl, m2, hc2⟩ := HFY.out (by have := HL.out; omega)
        obtain ⟨x, hx⟩ : ∃ x, x = X.getD K 0 := ⟨_, rfl⟩
        obtain ⟨y, hy⟩ : ∃ y, y = Y.getD K 0 := ⟨_, rfl⟩
        have c1 := hc1 K hlt
        have c2 := hc2 K (by have := HL.out; omega)
        rw [← hx] at c1
        rw [← hy] at c2
        have Hx := hid hx
        have Hy := hid hy
        have hi : (K : Int) < (X.length : Int) := by omega
        have hi2 : (K : Int) < (Y.length : Int) := by have := HL.out; omega
        unfold maxLen at m1 m2
        clear hc1 hc2 hx hy
        by_cases hxy : x = y
        · have T2 : (x != y) = false := by rw [bne_eq_false_iff_eq]; exact hxy
          have HXY := hid hxy
          clear hxy
          go_wp2
          go_quiet (fail)
          go_wp2
          go_roundw
          case rel => exact ⟨K + 1, _, by go_num, by omega, hid (by intro j hj; by_cases e : j = K; (· rw [e, ← Hx.out, ← Hy.out, HXY.out]); (· exact HE.out j (by omega))), by first | rfl | exact World.drewN_drewN ..⟩
          case measure => simp only [intOf]; omega
        · have T2 : (x != y) = true := by rw [bne_iff_ne]; exact hxy
          have HXY := hid hxy
          have HF : Hid (decide (X = Y) = false) := hid (decide_eq_false (fun e => HXY.out (by rw [Hx.out, Hy.out, e])))
          clear hxy
          go_wp2
          go_quiet (fail)
          go_wp2
          go_ret
          exact ⟨retB HF.out.symm, by first | exact ⟨_, rfl⟩ | (rw [World.drewN_drewN]; exact ⟨_, rfl⟩)⟩
      · obtain rfl : K = X.length := by omega
        have HT : Hid (decide (X = Y) = true) := hid (by
          refine decide_eq_true (List.ext_getElem HL.out fun j h1 h2 => ?_)
          have := HE.out j h1
          rw [getD_at _ _ h1, getD_at _ _ h2] at this
          exact this)
        clear hlt
        go_wp2
        go_ret
        exact ⟨retB HT.out.symm, ⟨k, rfl⟩⟩
  · have T : ((X.length : Int) != (Y.length : Int)) = true := by rw [bne_iff_ne]; omega
    have HF : Hid (decide (X = Y) = false) := hid (decide_eq_false (fun e => hl (by rw [e])))
    clear hl
    go_enter Try.func79, Try.ntmps79
    go_wp2
    go_ret
    exact ⟨retB HF.out.symm, ⟨0, rfl⟩⟩

theorem sym4_no {a b c d x : Int} (hx : x ∈ [a, b, c, d]) (h : factB x = false) : sym4 a b c d = false := by
  unfold sym4 okAB
  simp only [List.mem_cons, List.not_mem_nil, or_false] at hx
  rcases hx with rfl | rfl | rfl | rfl <;> rw [h] <;> simp
theorem sym4_yes {a b c d : Int} (h : ∀ j, j < 4 → factB ([a, b, c, d].getD j 0) = true) : sym4 a b c d = decide (splL a b = splL c d) := by
  have h0 : factB a = true := h 0 (by decide)
  have h1 : factB b = true := h 1 (by decide)
  have h2 : factB c = true := h 2 (by decide)
  have h3 : factB d = true := h 3 (by decide)
  unfold sym4 okAB
  rw [h0, h1, h2, h3]
  rfl

set_option maxRecDepth 100000 in
set_option maxHeartbeats 1000000 in
theorem symbolSame_any (a b c d : Int) (w : World) : Calls Try.prog 44 #[.int .i64 a, .int .i64 b, .int .i64 c, .int .i64 d] w fun e w' => e = .returned (.bool (sym4 a b c d)) ∧ Below w.heap.size w w' := by
  have HB0 := hid ((Below.refl w.heap.size w).alloc (Nat.le_refl _) (.cells #[.int .i64 a, .int .i64 b, .int .i64 c, .int .i64 d] 3))
  have HC : Hid (∀ j, j < 4 → (w.alloc (.cells #[.int .i64 a, .int .i64 b, .int .i64 c, .int .i64 d] 3)).cell? ⟨w.heap.size, j, none⟩ = some (.int .i64 ([a, b, c, d].getD j 0))) := hid (by
    intro j hj
    have hjc : j = 0 ∨ j = 1 ∨ j = 2 ∨ j = 3 := by omega
    have e0 := heap_alloc_new w (.cells #[.int .i64 a, .int .i64 b, .int .i64 c, .int .i64 d] 3)
    rcases hjc with rfl | rfl | rfl | rfl <;> (unfold World.cell?; rw [e0]; rfl))
  obtain ⟨L, hL⟩ : ∃ L, L = [a, b, c, d] := ⟨_, rfl⟩
  rw [← hL] at HC
  have HL := hid hL
  clear hL
  go_enter Try.func44, Try.ntmps44
  go_wp2
  go_loopw [17] (fun si wr => ∃ K : Nat, si = .int .i64 K ∧ K ≤ 4 ∧ Hid (∀ j, j < K → factB (L.getD j 0) = true) ∧ wr = w.alloc (.cells #[.int .i64 a, .int .i64 b, .int .i64 c, .int .i64 d] 3)) (fun si _ => 4 - (intOf si).toNat)
  case atStart => exact ⟨0, rfl, by omega, hid (fun j hj => absurd hj (by omega)), rfl⟩
  case round =>
    obtain ⟨K, rfl, hK, HA, rfl⟩ := hrel
    by_cases hlt : K < 4
    · have hcell := HC.out K hlt
      obtain ⟨x, hx⟩ : ∃ x, x = L.getD K 0 := ⟨_, rfl⟩
      rw [← hx] at hcell
      have hi : (K : Int) < 4 := by omega
      have HX := hid hx
      have HM : Hid (x ∈ [a, b, c, d]) := hid (by rw [hx, HL.out, getD_at _ _ (show K < [a, b, c, d].length from hlt)]; exact List.getElem_mem _)
      clear hx
      cases hF : factB x with
      | false =>
        have HF := hid hF
        have HR : Hid (sym4 a b c d = false) := hid (sym4_no HM.out hF)
        clear hF
        go_wp2_with (go_at_call 55; refine (factored_any _ _).mono ?_; rw [HF.out]; rintro e w' ⟨rfl, rfl⟩)
        go_ret
        exact ⟨retB HR.out.symm, HB0.out⟩
      | true =>
        have HF := hid hF
        clear hF
        go_wp2_with (go_at_call 55; refine (factored_any _ _).mono ?_; rw [HF.out]; rintro e w' ⟨rfl, rfl⟩)
        go_round
        case measure => simp only [intOf]; omega
        case rel => exact ⟨K + 1, by go_num, by omega, hid (by intro j hj; by_cases e : j = K; (· rw [e, ← HX.out]; exact HF.out); (· exact HA.out j (by omega))), by first | rfl | trivial⟩
    · obtain rfl : K = 4 := by omega
      have HR : Hid (sym4 a b c d = decide (splL a b = splL c d)) := hid (sym4_yes (by have := HA.out; rw [HL.out] at this; exact this))
      have hxl := @splL_len a b
      have hyl := @splL_len c d
      have HP : Hid (∀ w : World, Calls Try.prog 23 #[.int .i64 a, .int .i64 b] w fun e w' => ∃ v, e = .returned v ∧ Owns w' w.heap.size v (splL a b) ∧ Below w.heap.size w w') := hid (fun w => symbolPlaces_any a b w)
      have HQ : Hid (∀ w : World, Calls Try.prog 23 #[.int .i64 c, .int .i64 d] w fun e w' => ∃ v, e = .returned v ∧ Owns w' w.heap.size v (splL c d) ∧ Below w.heap.size w w') := hid (fun w => symbolPlaces_any c d w)
      obtain ⟨X, hX⟩ : ∃ X, X = splL a b := ⟨_, rfl⟩
      obtain ⟨Y, hY⟩ : ∃ Y, Y = splL c d := ⟨_, rfl⟩
      rw [← hX] at HP HR hxl
      rw [← hY] at HQ HR hyl
      clear hX hY hlt
      go_wp2_with fail
      refine (HP.out _).mono ?_
      rintro e w2 ⟨v, rfl, ho, hb⟩
      have HO := hid ho
      have HB := hid (HB0.out.trans (hb.mono HB0.out.size))
      clear ho hb
      go_wp2_with fail
      refine (HQ.out _).mono ?_
      rintro e w3 ⟨v2, rfl, ho2, hb2⟩
      have HB3 := hid (HB.out.trans (hb2.mono HB.out.size))
      have HO1 := hid (HO.out.keep HO.out.lt hb2)
      have HO2 := hid ho2
      clear ho2 hb2
      go_wp2_with fail
      refine (slicesEq_any v v2 X Y _ HO1.out.rd HO2.out.rd hxl hyl).mono ?_
      rw [← HR.out]
      rintro e w4 ⟨rfl, k, hw4⟩
      have HW := hid hw4
      clear hw4
      go_wp2
      go_ret
      exact ⟨rfl, by rw [HW.out]; exact below_drewN HB3.out k⟩

set_option maxHeartbeats 1000000 in
theorem symbolSplit_any (a b : Int) (w : World) : Calls Try.prog 33 #[.int .i64 a, .int .i64 b] w fun e w' => e = .returned (.bool (spltV a b)) ∧ Below w.heap.size w w' := by
  cases hA : factB a with
  | false =>
    have HP : Hid (spltV a b = false) := hid (by unfold spltV okAB; rw [hA]; rfl)
    have HA := hid hA
    clear hA
    go_enter Try.func33, Try.ntmps33
    go_wp2_with (go_at_call 55; refine (factored_any _ _).mono ?_; rw [HA.out]; rintro e w' ⟨rfl, rfl⟩)
    go_ret
    exact ⟨retB HP.out.symm, Below.refl _ _⟩
  | true =>
    cases hBB : factB b with
    | false =>
      have HP : Hid (spltV a b = false) := hid (by unfold spltV okAB; rw [hA, hBB]; rfl)
      have HA := hid hA
      have HBB := hid hBB
      clear hA hBB
      go_enter Try.func33, Try.ntmps33
      go_wp2_with (go_at_call 55; refine (factored_any _ _).mono ?_; (first | rw [HA.out] | rw [HBB.out]); rintro e w' ⟨rfl, rfl⟩)
      go_ret
      exact ⟨retB HP.out.symm, Below.refl _ _⟩
    | true =>
      have HP : Hid (spltV a b = ((splL a b).length == 0)) := hid (by unfold spltV okAB; rw [hA, hBB]; rfl)
      have HA := hid hA
      have HBB := hid hBB
      have HC : Hid (∀ w : World, Calls Try.prog 23 #[.int .i64 a, .int .i64 b] w fun e w' => ∃ v, e = .returned v ∧ Owns w' w.heap.size v (splL a b) ∧ Below w.heap.size w w') := hid (fun w => symbolPlaces_any a b w)
      obtain ⟨X, hX⟩ : ∃ X, X = splL a b := ⟨_, rfl⟩
      rw [← hX] at HP HC
      have HE : Hid (spltV a b = ((X.length : Int) == 0)) := hid (by
        rw [HP.out, Bool.eq_iff_iff, beq_iff_eq, beq_iff_eq]
        omega)
      clear hA hBB hX
      go_enter Try.func33, Try.ntmps33
      go_wp2_with (first | (go_at_call 55; refine (factored_any _ _).mono ?_; (first | rw [HA.out] | rw [HBB.out]); rintro e w' ⟨rfl, rfl⟩) | (go_at_call 23; refine (HC.out _).mono ?_; rintro e w2 ⟨v, rfl, ho, hb⟩; obtain ⟨ad, cap, rfl, hform⟩ := ho.rd.form; clear ho hform))
      go_ret
      exact ⟨retB HE.out.symm, hb⟩

end Go.Proofs.Ytdidmblkknnglaa
