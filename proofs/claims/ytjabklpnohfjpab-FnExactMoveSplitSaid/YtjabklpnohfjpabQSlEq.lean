/-
  slices.Equal at two lists of numbers.
-/
import Derived.Test.YtjabklpnohfjpabQBun20
import Derived.BigQuiet
set_option linter.unusedVariables false
namespace Go.Proofs.Ytjabklpnohfjpab
open Go.RowKit Go.Shelf

set_option maxRecDepth 100000 in
set_option maxHeartbeats 1000000 in
theorem slEq_any (va vb : Value) (X Y : List Int) (w3 : World) (hx : Rd w3 va X) (hy : Rd w3 vb Y) (hl1 : X.length ≤ 1000000000002) (hl2 : Y.length ≤ 1000000000002) :
    Calls Try.prog 97 #[va, vb] w3 fun e w' => e = .returned (.bool (decide (X = Y))) ∧ ∃ k, w' = w3.drewN k := by
  obtain ⟨ax, cx, rfl, hfx⟩ := hx.form
  obtain ⟨ay, cy, rfl, hfy⟩ := hy.form
  have HFX := hid hfx
  have HFY := hid hfy
  clear hfx hfy hx hy
  by_cases hl : X.length = Y.length
  · have T : ((X.length : Int) != (Y.length : Int)) = false := by rw [bne_eq_false_iff_eq]; omega
    have HL := hid hl
    clear hl
    go_enter Try.func97, Try.ntmps97
    go_wp2
    go_loopw [13] (fun si wr => ∃ K k : Nat, si = .int .i64 K ∧ K ≤ X.length ∧ Hid (∀ j, j < K → X.getD j 0 = Y.getD j 0) ∧ wr = w3.drewN k) (fun si _ => X.length - (intOf si).toNat)
    case atStart => exact ⟨0, 0, rfl, by omega, hid (fun j hj => absurd hj (by omega)), rfl⟩
    case round =>
      obtain ⟨K, k, rfl, hK, HE, rfl⟩ := hrel
      by_cases hlt : K < X.length
      · obtain ⟨b1, o1, rfl, m1, hc1⟩ := HFX.out (by omega)
        obtain ⟨b2, o2, rfl, m2, hc2⟩ := HFY.out (by have := HL.out; omega)
        obtain ⟨x, hx⟩ : ∃ x, x = X.getD K 0 := ⟨_, rfl⟩
        obtain ⟨y, hy⟩ : ∃ y, y = Y.getD K 0 := ⟨_, rfl⟩
        have c1 := hc1 K hlt
        have c2 := hc2 K (by have := HL.out; omega)
        rw [← hx] at c1
        rw [← hy] at c2
        have Hx := hid hx
        have Hy := hid hy
        have hi : (K : Int) < (X.length : Int) := by omega
        have hi2 : (K : Int) < (Y.length : Int) := by have := HL.out; omega
        unfold maxLen at m1 m2
        clear hc1 hc2 hx hy
        by_cases hxy : x = y
        · have T2 : (x != y) = false := by rw [bne_eq_false_iff_eq]; exact hxy
          have HXY := hid hxy
          clear hxy
          go_wp2
          go_quiet (fail)
          go_wp2
          go_roundw
          case rel => exact ⟨K + 1, _, by go_num, by omega, hid (by intro j hj; by_cases e : j = K; (· rw [e, ← Hx.out, ← Hy.out, HXY.out]); (· exact HE.out j (by omega))), by first | rfl | exact World.drewN_drewN ..⟩
          case measure => simp only [intOf]; omega
        · have T2 : (x != y) = true := by rw [bne_iff_ne]; exact hxy
          have HXY := hid hxy
          have HF : Hid (decide (X = Y) = false) := hid (decide_eq_false (fun e => HXY.out (by rw [Hx.out, Hy.out, e])))
          clear hxy
          go_wp2
          go_quiet (fail)
          go_wp2
          go_ret
          exact ⟨retB HF.out.symm, by first | exact ⟨_, rfl⟩ | (rw [World.drewN_drewN]; exact ⟨_, rfl⟩)⟩
      · obtain rfl : K = X.length := by omega
        have HT : Hid (decide (X = Y) = true) := hid (by
          refine decide_eq_true (List.ext_getElem HL.out fun j h1 h2 => ?_)
          have := HE.out j h1
          rw [getD_at _ _ h1, getD_at _ _ h2] at this
          exact this)
        clear hlt
        go_wp2
        go_ret
        exact ⟨retB HT.out.symm, ⟨k, rfl⟩⟩
  · have T : ((X.length : Int) != (Y.length : Int)) = true := by rw [bne_iff_ne]; omega
    have HF : Hid (decide (X = Y) = false) := hid (decide_eq_false (fun e => hl (by rw [e])))
    clear hl
    go_enter Try.func97, Try.ntmps97
    go_wp2
    go_ret
    exact ⟨retB HF.out.symm, ⟨0, rfl⟩⟩

end Go.Proofs.Ytjabklpnohfjpab
