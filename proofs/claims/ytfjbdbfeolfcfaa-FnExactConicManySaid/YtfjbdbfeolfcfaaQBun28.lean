/-
  Some texts in one file: SlEq Zp1b.
-/
import Derived.Test.YtfjbdbfeolfcfaaQBun14
import Derived.BigQuiet
import Derived.Test.YtfjbdbfeolfcfaaQBun27
/-! SlEq -/
set_option linter.unusedVariables false
namespace Go.Proofs.Ytfjbdbfeolfcfaa
open Go.RowKit Go.Shelf

set_option maxRecDepth 100000 in
set_option maxHeartbeats 1000000 in
theorem slEq_any (va vb : Value) (X Y : List Int) (w3 : World) (hx : Rd w3 va X) (hy : Rd w3 vb Y) (hl1 : X.length ≤ 1000000000002) (hl2 : Y.length ≤ 1000000000002) :
    Calls Try.prog 79 #[va, vb] w3 fun e w' => e = .returned (.bool (decide (X = Y))) ∧ ∃ k, w' = w3.drewN k := by
  obtain ⟨ax, cx, rfl, hfx⟩ := hx.form
  obtain ⟨ay, cy, rfl, hfy⟩ := hy.form
  have HFX := hid hfx
  have HFY := hid hfy
  clear hfx hfy hx hy
  by_cases hl : X.length = Y.length
  · have T : ((X.length : Int) != (Y.length : Int)) = false := by rw [bne_eq_false_iff_eq]; omega
    have HL := hid hl
    clear hl
    go_enter Try.func79, Try.ntmps79
    go_wp2
    go_loopw [13] (fun si wr => ∃ K k : Nat, si = .int .i64 K ∧ K ≤ X.length ∧ Hid (∀ j, j < K → X.getD j 0 = Y.getD j 0) ∧ wr = w3.drewN k) (fun si _ => X.length - (intOf si).toNat)
    case atStart => exact ⟨0, 0, rfl, by omega, hid (fun j hj => absurd hj (by omega)), rfl⟩
    case round =>
      obtain ⟨K, k, rfl, hK, HE, rfl⟩ := hrel
      by_cases hlt : K < X.length
      · obtain ⟨b1, o1, rfl, m1, hc1⟩ := HFX.out (by omega)
        obtain ⟨b2, o2, rfl, m2, hc2⟩ := HFY.out (by have := HL.out; omega)
        obtain ⟨x, hx⟩ : ∃ x, x = X.getD K 0 := ⟨_, rfl⟩
        obtain ⟨y, hy⟩ : ∃ y, y = Y.getD K 0 := ⟨_, rfl⟩
        have c1 := hc1 K hlt
        have c2 := hc2 K (by have := HL.out; omega)
        rw [← hx] at c1
        rw [← hy] at c2
        have Hx := hid hx
        have Hy := hid hy
        have hi : (K : Int) < (X.length : Int) := by omega
        have hi2 : (K : Int) < (Y.length : Int) := by have := HL.out; omega
        unfold maxLen at m1 m2
        clear hc1 hc2 hx hy
        by_cases hxy : x = y
        · have T2 : (x != y) = false := by rw [bne_eq_false_iff_eq]; exact hxy
          have HXY := hid hxy
          clear hxy
          go_wp2
          go_quiet (fail)
          go_wp2
          go_roundw
          case rel => exact ⟨K + 1, _, by go_num, by omega, hid (by intro j hj; by_cases e : j = K; (· rw [e, ← Hx.out, ← Hy.out, HXY.out]); (· exact HE.out j (by omega))), by first | rfl | exact World.drewN_drewN ..⟩
          case measure => simp only [intOf]; omega
        · have T2 : (x != y) = true := by rw [bne_iff_ne]; exact hxy
          have HXY := hid hxy
          have HF : Hid (decide (X = Y) = false) := hid (decide_eq_false (fun e => HXY.out (by rw [Hx.out, Hy.out, e])))
          clear hxy
          go_wp2
          go_quiet (fail)
          go_wp2
          go_ret
          exact ⟨retB HF.out.symm, by first | exact ⟨_, rfl⟩ | (rw [World.drewN_drewN]; exact ⟨_, rfl⟩)⟩
      · obtain rfl : K = X.length := by omega
        have HT : Hid (decide (X = Y) = true) := hid (by
          refine decide_eq_true (List.ext_getElem HL.out fun j h1 h2 => ?_)
          have := HE.out j h1
          rw [getD_at _ _ h1, getD_at _ _ h2] at this
          exact this)
        clear hlt
        go_wp2
        go_ret
        exact ⟨retB HT.out.symm, ⟨k, rfl⟩⟩
  · have T : ((X.length : Int) != (Y.length : Int)) = true := by rw [bne_iff_ne]; omega
    have HF : Hid (decide (X = Y) = false) := hid (decide_eq_false (fun e => hl (by rw [e])))
    clear hl
    go_enter Try.func79, Try.ntmps79
    go_wp2
    go_ret
    exact ⟨retB HF.out.symm, ⟨0, rfl⟩⟩

end Go.Proofs.Ytfjbdbfeolfcfaa

/-! Zp1b -/
set_option linter.unusedVariables false
namespace Go.Proofs.Ytfjbdbfeolfcfaa
open Go.RowKit

set_option maxRecDepth 100000 in
set_option maxHeartbeats 1000000 in
theorem plainIs_any (v : Value) (vs : List Int) (w : World) (hv : Rd w v vs) (hl : vs.length ≤ 4) (h6 : Vec11 vs) : Calls Try.prog 61 #[v] w fun e w' => e = .returned (.bool (someB vs && plainB vs)) ∧ Below w.heap.size w w' := by
  have HV := hid hv
  obtain ⟨a', cap', rfl, _⟩ := hv.form
  have H6 := hid h6
  have hgb : hgtL vs ≤ 100000000000 := hgt_le fun x hx => by have := h6 x hx; omega
  clear hv h6
  cases hs : someB vs with
  | false =>
    have hg0 : ¬ (0 < hgtL vs) := fun h => by rw [hgt_some, hs] at h; cases h
    have hg : hgtL vs = 0 := by omega
    have HG := hid hg
    clear hg hg0 hs hgb
    go_enter Try.func61, Try.ntmps61
    go_wp2_with (go_at_call 65; refine (heightOfW_any _ vs _ HV.out hl H6.out).mono ?_; rw [HG.out]; rintro e w' ⟨rfl, rfl⟩)
    go_ret
    exact ⟨rfl, Below.refl _ _⟩
  | true =>
    have HS := hid (someB_iff.1 hs)
    have hg0 : 0 < hgtL vs := hgt_some.2 hs
    obtain ⟨g, hg⟩ : ∃ g, g = hgtL vs := ⟨_, rfl⟩
    rw [← hg] at hg0 hgb
    have HG := hid hg.symm
    have hg1 : (0 : Int) < (g : Int) := by omega
    have hpl := plainL_len vs
    obtain ⟨J, hJ⟩ : ∃ J, J = plainL vs := ⟨_, rfl⟩
    obtain ⟨D, hD⟩ : ∃ D, D = decide (J = vs) := ⟨_, rfl⟩
    have HD : Hid ((true && plainB vs) = D) := hid (by rw [hD, hJ]; rfl)
    have HPL : Hid (∀ (vv : Value) (wx : World), Rd wx vv vs → Calls Try.prog 41 #[vv] wx fun e w' => ∃ u, e = .returned u ∧ Owns w' wx.heap.size u J ∧ Below wx.heap.size wx w') := hid (fun vv wx hr => by rw [hJ]; exact plainOfW_any vv vs wx hr hl H6.out HS.out)
    have HEQ : Hid (∀ (va vb : Value) (wx : World), Rd wx va J → Rd wx vb vs → Calls Try.prog 79 #[va, vb] wx fun e w' => e = .returned (.bool D) ∧ ∃ n, w' = wx.drewN n) := hid (fun va vb wx h1 h2 => by rw [hD]; exact slEq_any va vb J vs wx h1 h2 (by rw [hJ, hpl]; omega) (by omega))
    clear hg hg0 hs hgb hpl hJ hD
    go_enter Try.func61, Try.ntmps61
    go_wp2_with (go_at_call 65; refine (heightOfW_any _ vs _ HV.out hl H6.out).mono ?_; rw [HG.out]; rintro e w' ⟨rfl, rfl⟩)
    refine (HPL.out _ _ HV.out).mono ?_
    rintro e w3 ⟨u, rfl, ho3, hb3⟩
    have HV3 := hid (HV.out.keep hb3)
    go_wp2_with fail
    refine (HEQ.out _ _ _ ho3.rd HV3.out).mono ?_
    rintro e w4 ⟨rfl, n4, rfl⟩
    go_wp2_with fail
    go_ret
    exact ⟨retB HD.out.symm, below_drewN hb3 n4⟩

end Go.Proofs.Ytfjbdbfeolfcfaa
